import PyProof.Rows.All
import Wide.All
import OpenK.AllK
import Wide.FinOn
import Lean
import PyProof.EqAt
import PyProof.EqKinds
import PyProof.TupleCall
import KE.KIntText
import KE.KDictList
import KE.KDictSum
import PyProof.Rows.Range3
import PySem.Challenge.RW_slitview_k17_whole_same_view
noncomputable section
local macro_rules | `(tactic| ac_rfl) => `(tactic| first | lia | omega)
set_option Elab.async false
set_option bootstrap.genMatcherCode false
set_option genSizeOf false
set_option linter.all false
set_option maxRecDepth 100000
namespace L2
open PySem PySem.Spec PyProof.Rows
noncomputable abbrev Key:=Sum Int Str
def keyIs:Key→Value→Bool
 | .inl k,v=>Value.isInt k v
 | .inr x,v=>Value.isStrOf x v
def keyH(w:World):Key→Int
 | .inl k=>hashInt k
 | .inr x=>hashStr w x
theorem keyIs_shape:∀ {k:Key} {v:Value},keyIs k v=true→(∃ i t,k=Sum.inl i∧v=Value.int i t)∨(∃ x t,k=Sum.inr x∧v=Value.str x t)
 | .inl i,v,h=>by
  obtain⟨t,e⟩:=Value.isInt_shape (k:=i) (v:=v) h
  exact .inl ⟨i,t,rfl,e⟩
 | .inr x,v,h=>by
  obtain⟨t,e⟩:=Value.isStrOf_shape (x:=x) (v:=v) h
  exact .inr ⟨x,t,rfl,e⟩
theorem key_ll(a b:Int):decide ((Sum.inl a:Key)=Sum.inl b)=(a == b):=by
 by_cases e:a=b
 ·subst e; simp
 ·have h:¬ (Sum.inl a:Key)=Sum.inl b:=fun q=>e (Sum.inl.inj q)
  rw[decide_eq_false h]
  exact(beq_eq_false_iff_ne.mpr e).symm
theorem key_rr(a b:Str):decide ((Sum.inr a:Key)=Sum.inr b)=decide (a=b):=by
 by_cases e:a=b
 ·subst e; simp
 ·have h:¬ (Sum.inr a:Key)=Sum.inr b:=fun q=>e (Sum.inr.inj q)
  rw[decide_eq_false h,decide_eq_false e]
theorem key_lr(a:Int)(b:Str):decide ((Sum.inl a:Key)=Sum.inr b)=false:=decide_eq_false (fun q=>nomatch q)
theorem key_rl(a:Str)(b:Int):decide ((Sum.inr a:Key)=Sum.inl b)=false:=decide_eq_false (fun q=>nomatch q)
def mixKind(prog:Program)(w:World):PySem.KeyKind prog w Key where
 is:=keyIs
 hash:=keyH w
 inj:=fun v a b ha hb=>by
  rcases keyIs_shape ha with⟨i,t,rfl,rfl⟩ | ⟨x,t,rfl,rfl⟩
  ·rcases keyIs_shape hb with⟨j,u,rfl,e⟩ | ⟨y,u,rfl,e⟩
   ·injection e with e1 _; rw[e1]
   ·exact nomatch e
  ·rcases keyIs_shape hb with⟨j,u,rfl,e⟩ | ⟨y,u,rfl,e⟩
   ·exact nomatch e
   ·injection e with e1 _; rw[e1]
 byValue:=fun k v h=>by
  rcases keyIs_shape h with⟨i,t,rfl,rfl⟩ | ⟨x,t,rfl,rfl⟩ <;> rfl
 pyHash:=fun hv h=>by
  rcases keyIs_shape hv with⟨i,t,rfl,rfl⟩ | ⟨x,t,rfl,rfl⟩
  ·exact wpAny_pyHash_int h
  ·exact wpAny_pyHash_str h
 eqBool:=fun hu hv h=>by
  rcases keyIs_shape hu with⟨i,t,rfl,rfl⟩ | ⟨x,t,rfl,rfl⟩
  ·rcases keyIs_shape hv with⟨j,u,rfl,rfl⟩ | ⟨y,u,rfl,rfl⟩
   ·rw[key_ll]at h; exact wpAny_eqBool_int h
   ·rw[key_lr]at h; exact SeqAt.EqAt.int_str i t y u _ _ _ _ h
  ·rcases keyIs_shape hv with⟨j,u,rfl,rfl⟩ | ⟨y,u,rfl,rfl⟩
   ·rw[key_rl]at h; exact SeqAt.EqAt.str_int x t j u _ _ _ _ h
   ·rw[key_rr]at h; exact wpAny_eqBool_str h
 «strs»:=fun k x t v h=>by
  rcases keyIs_shape h with⟨i,u,rfl,e⟩ | ⟨y,u,rfl,e⟩
  ·exact nomatch e
  ·injection e with e1 _
   subst e1
   cases v <;> rfl
end L2
namespace L2
open PySem PySem.Spec PyProof.Rows
inductive V where
 | non | bl (b:Bool) | int (i:Int) | str (x:Str) | byt (b:Array UInt8) | flt (b:UInt64) | ref (a:Addr) | ty (n:String)
 deriving DecidableEq
def RelV:V→Value→Prop
 | .non,u=>u=Value.none
 | .bl b,u=>u=Value.bool b
 | .int i,u=>∃ t,u=Value.int i t
 | .str x,u=>∃ t,u=Value.str x t
 | .byt b,u=>∃ t,u=Value.bytes b t
 | .flt b,u=>∃ t,u=Value.float b t
 | .ref a,u=>u=Value.ref a
 | .ty n,u=>u=Value.type n
noncomputable abbrev Vals:List V→List Value→Prop:=Paired RelV
theorem Vals.length{xs:List V}{us:List Value}(r:Vals xs us):xs.length=us.length:=Paired.length r
theorem Vals.get:∀ {xs:List V} {us:List Value} {i:Nat} {x:V},Vals xs us→xs[i]?=some x→∃ u,us[i]?=some u∧RelV x u
 | _,_,_,_,.nil,e=>by simp at e
 | _,_,0,_,.cons r _,e=>by simp at e; subst e; exact⟨_,rfl,r⟩
 | _,_,i+1,x,.cons _ t,e=>by
  obtain⟨u,h1,h2⟩:=Vals.get (i:=i) (x:=x) t (by simpa using e)
  exact⟨u,by simpa using h1,h2⟩
theorem Vals.set{x:V}{u:Value}(r:RelV x u):∀ {xs:List V} {us:List Value} (i:Nat),Vals xs us→Vals (xs.set i x) (us.set i u)
 | _,_,_,.nil=>.nil
 | _,_,0,.cons _ t=>.cons r t
 | _,_,i+1,.cons q t=>.cons q (Vals.set r i t)
theorem Vals.append:∀ {xs ys:List V} {us ws:List Value},Vals xs us→Vals ys ws→Vals (xs++ys) (us++ws)
 | _,_,_,_,.nil,s=>s
 | _,_,_,_,.cons r t,s=>.cons r (Vals.append t s)
theorem Vals.take:∀ {xs:List V} {us:List Value} (n:Nat),Vals xs us→Vals (xs.take n) (us.take n)
 | _,_,0,_=>.nil
 | _,_,_+1,.nil=>.nil
 | _,_,n+1,.cons r t=>.cons r (Vals.take n t)
theorem Vals.drop:∀ {xs:List V} {us:List Value} (n:Nat),Vals xs us→Vals (xs.drop n) (us.drop n)
 | _,_,0,r=>r
 | _,_,_+1,.nil=>.nil
 | _,_,n+1,.cons _ t=>Vals.drop n t
def RelO:Option V→Option Value→Prop
 | some v,some u=>RelV v u
 | none,none=>True
 | _,_=>False
def KV{κ:Type}:List (κ×V)→List (κ×Value)→Prop:=Paired fun(p:κ×V) (q:κ×Value)=>p.1=q.1∧RelV p.2 q.2
def kV:Key→V
 | .inl i=>.int i
 | .inr x=>.str x
inductive HO where
 /-- a list -/
 | lst (xs:List V)
 /-- a tuple (never changes) -/
 | tup (xs:List V)
 /-- a dict whose keys are ints and texts; one whose keys are tuples of ints and texts (the empty one is both) -/
 | dK (kvs:List (Key×V)) | dT (kvs:List (List Key×V))
 /-- a set of ints: its members,its size -/
 | set (S:Int→Bool) (n:Nat)
 /-- an instance of the class at C,its dict at dx,its attributes -/
 | ins (C dx:Addr) (fs:List (Str×V))
 /-- the dict of the instance at x -/
 | own (x:Addr)
 /-- the dict of an exception -/
 | xd (fs:List (Str×V))
 /-- a bound method,f of x -/
 | met (f x:Addr)
 /-- a range object lo,lo+1,.. below hi -/
 | rng (lo hi:Int)
 /-- a thing that is known to the object (the script; a dict while a loop walks it): read,never written while it is so -/
 | frz (o:Obj) (u:HO)
 /-- a code object's table -/
 | tbl (ps:Array Value)
 /-- any other thing,by what is true of its one object (a def of one's own: SetO a S n:=HO.ext fun h=>..) -/
 | ext (φ:Heap→Prop)
noncomputable abbrev Hp:=Addr→Option HO
def upd(H:Hp)(a:Addr)(o:HO):Hp:=fun b=>if b=a then some o else H b
theorem upd_same{H:Hp}{a:Addr}{o:HO}:upd H a o a=some o:=by unfold upd; rw[if_pos rfl]
theorem upd_ne{H:Hp}{a b:Addr}{o:HO}(h:b≠a):upd H a o b=H b:=by unfold upd; rw[if_neg h]
theorem ne_of_none{H:Hp}{a b:Addr}{o:HO}(h:H a=some o)(h':H b=none):a≠b:=by
 intro e; subst e; rw[h]at h'; cases h'
def IsTupD(h:Heap)(a:Addr)(items:Array Value):Prop:=IsTup h a items∧∃ o,h.get? a=some o∧o.dict=none
theorem IsTupD.new(h:Heap)(its:Array Value):IsTupD (h.push { cls:=.type "tuple",data:=.seq its }) h.objs.size its:=⟨IsTup.new _ _,_,Heap.get?_push_size _ rfl,rfl⟩
section
variable(P:Program)(w:World)
def ObjOk(H:Hp)(h:Heap)(a:Addr):HO→Prop
 | .lst xs=>xs.length≤sizeLine∧∃ (its:List Value) (n:Nat),Vals xs its∧h.get? a=some { cls:=.type "list",data:=.seq its.toArray n }
 | .tup xs=>xs.length≤sizeLine∧∃ its:List Value,Vals xs its∧IsTupD h a its.toArray
 | .dK kvs=>kvs.length≤sizeLine∧(a == sysModules)=false∧∃ vs,KV kvs vs∧h.DictOf (mixKind P w) a vs
 | .dT kvs=>kvs.length≤sizeLine∧(a == sysModules)=false∧∃ xs:List (List Key×Addr×Value),
   Paired (fun(p:List Key×V) (q:List Key×Addr×Value)=>p.1=q.1∧H q.2.1=some (.tup (p.1.map kV))∧RelV p.2 q.2.2) kvs xs ∧
   ∃ o es ep,h.get? a=some o∧o.ExactDict∧o.data = .dict es ep∧es.toList=xs.map (entryOfKey (tupleKind (mixKind P w)))∧(xs.map (·.1)).Nodup
 | .set S n=>h.SetOf (intKind P w) a S n
 | .ins C dx fs=>H dx=some (.own a)∧fs.length≤1000∧dx≠a∧h.get? a=some (PySem.W.instObj C dx) ∧
   ∃ mA,h.Ns1 dx mA∧(∀ f,RelO (fs.lookup f) (mA f))∧PySem.Within mA (fs.map (·.1))
 | .own _=>∃ o,h.get? a=some o
 | .xd fs=>∃ mA,h.Ns1 a mA∧∀ f,RelO (fs.lookup f) (mA f)
 | .rng lo hi=>∃ t u v,h.get? a=some { cls:=.type "range",data:=.fields #[.int lo t,.int hi u,.int 1 v] }
 | .frz o u=>h.get? a=some o∧ObjOk H h a u
 | .tbl ps=>h.get? a=some { cls:=.none,data:=.fields ps }
 | .met f x=>h.get? a=some (PySem.W.methodObj (.ref f) (.ref x))
 | .ext φ=>φ h∧(∃ o,h.get? a=some o)∧∀ h1 h2:Heap,φ h1→(∀ o,h1.get? a=some o→h2.get? a=some o)→φ h2
def HOk(H:Hp)(h:Heap):Prop:=∀ a o,H a=some o→ObjOk P w H h a o
end
section
variable{P:Program}{w:World}{H H':Hp}{h h':Heap}{a:Addr}{o:HO}
theorem ObjOk.lt(x:ObjOk P w H h a o):a<h.objs.size:=by
 cases o with
 | lst xs=>obtain⟨_,_,_,_,e⟩:=x; exact Heap.lt_size e
 | tup xs=>obtain⟨_,_,_,p,_⟩:=x; exact p.lt
 | dK kvs=>obtain⟨_,_,_,_,o,_,_,e,_⟩:=x; exact Heap.lt_size e
 | dT kvs=>obtain⟨_,_,_,_,o,_,_,e,_⟩:=x; exact Heap.lt_size e
 | set S n=>obtain⟨o,_,_,_,e,_⟩:=x; exact Heap.lt_size e
 | ins C dx fs=>obtain⟨_,_,_,e,_⟩:=x; exact Heap.lt_size e
 | own y=>obtain⟨_,e⟩:=x; exact Heap.lt_size e
 | xd fs=>obtain⟨_,⟨_,_,_,e,_⟩,_⟩:=x; exact Heap.lt_size e
 | rng lo hi=>obtain⟨_,_,_,e⟩:=x; exact Heap.lt_size e
 | frz ob u=>obtain⟨e,_⟩:=x; exact Heap.lt_size e
 | tbl ps=>exact Heap.lt_size (show h.get? a=some _ from x)
 | met f y=>exact Heap.lt_size (show h.get? a=some _ from x)
 | ext φ=>obtain⟨_,⟨_,e⟩,_⟩:=x; exact Heap.lt_size e
theorem Paired.mapP{α β:Type}{F G:α→β→Prop}:∀ {l₁:List α} {l₂:List β},Paired F l₁ l₂→(∀ a b,F a b→G a b)→Paired G l₁ l₂
 | _,_,.nil,_=>.nil
 | _,_,.cons r t,f=>.cons (f _ _ r) (Paired.mapP t f)
theorem ObjOk.stay(x:ObjOk P w H h a o)(k:∀ b u,(b=a∨H b=some (.own a))→h.get? b=some u→h'.get? b=some u)
  (ho:∀ b,H b=some (.own a)→H' b=some (.own a)) (ht:∀ b xs,H b=some (.tup xs)→H' b=some (.tup xs)):ObjOk P w H' h' a o:=by
 induction o with
 | lst xs=>obtain⟨z,its,n,r,e⟩:=x; exact⟨z,its,n,r,k _ _ (.inl rfl) e⟩
 | tup xs=>obtain⟨z,its,r,⟨ob,e,c⟩,o2,e2,c2⟩:=x; exact⟨z,its,r,⟨ob,k _ _ (.inl rfl) e,c⟩,o2,k _ _ (.inl rfl) e2,c2⟩
 | dK kvs=>obtain⟨z,y,vs,r,ob,es,ep,e,c⟩:=x; exact⟨z,y,vs,r,ob,es,ep,k _ _ (.inl rfl) e,c⟩
 | dT kvs =>
  obtain⟨z,y,xs,r,ob,es,ep,e,c⟩:=x
  exact⟨z,y,xs,Paired.mapP r fun p q z=>⟨z.1,ht _ _ z.2.1,z.2.2⟩,ob,es,ep,k _ _ (.inl rfl) e,c⟩
 | set S n=>obtain⟨ob,es,ep,t,e,c⟩:=x; exact⟨ob,es,ep,t,k _ _ (.inl rfl) e,c⟩
 | ins C dx fs =>
  obtain⟨d,z,ne,e,mA,⟨od,es,ep,e2,c⟩,r⟩:=x
  exact⟨ho _ d,z,ne,k _ _ (.inl rfl) e,mA,⟨od,es,ep,k _ _ (.inr d) e2,c⟩,r⟩
 | own y=>obtain⟨ob,e⟩:=x; exact⟨ob,k _ _ (.inl rfl) e⟩
 | xd fs=>obtain⟨mA,⟨od,es,ep,e,c⟩,r⟩:=x; exact⟨mA,⟨od,es,ep,k _ _ (.inl rfl) e,c⟩,r⟩
 | rng lo hi=>obtain⟨t,u,v,e⟩:=x; exact⟨t,u,v,k _ _ (.inl rfl) e⟩
 | frz ob u ih=>obtain⟨e,q⟩:=x; exact⟨k _ _ (.inl rfl) e,ih q⟩
 | tbl ps =>
  have e:h.get? a=some { cls:=.none,data:=.fields ps }:=x
  show h'.get? a=some { cls:=.none,data:=.fields ps }
  exact k a _ (.inl rfl) e
 | met f y =>
  have e:h.get? a=some (PySem.W.methodObj (.ref f) (.ref y)):=x
  show h'.get? a=some (PySem.W.methodObj (.ref f) (.ref y))
  exact k a _ (.inl rfl) e
 | ext φ=>obtain⟨p,⟨o,e⟩,st⟩:=x; exact⟨st _ _ p fun o q=>k _ _ (.inl rfl) q,⟨o,k _ _ (.inl rfl) e⟩,st⟩
theorem HOk.lt(x:HOk P w H h)(e:H a=some o):a<h.objs.size:=(x a o e).lt
theorem HOk.fresh(x:HOk P w H h)(e:h.objs.size≤a):H a=none:=by
 cases q:H a with
 | none=>rfl
 | some u=>exact absurd (Nat.lt_of_lt_of_le (x.lt q) e) (Nat.lt_irrefl _)
theorem HOk.kept(x:HOk P w H h)(k:∀ b u,h.get? b=some u→h'.get? b=some u):HOk P w H h':=fun a o e =>
 (x a o e).stay (fun b u _ q=>k b u q) (fun _ q=>q) fun _ _ q=>q
theorem HOk.laid(x:HOk P w H h)(k:∀ b u,h.get? b=some u→h'.get? b=some u)(hp:h.objs.size≤a)(new:ObjOk P w (upd H a o) h' a o):HOk P w (upd H a o) h':=fun b u e=>by
 have hn:=x.fresh hp
 by_cases hb:b=a
 ·subst hb; rw[upd_same]at e; cases e; exact new
 ·rw[upd_ne hb]at e
  exact(x b u e).stay (fun c v _ q=>k c v q) (fun c q=>by rw[upd_ne (ne_of_none q hn)]; exact q) fun c xs q=>by rw[upd_ne (ne_of_none q hn)]; exact q
end
def Rd(H:Hp)(a:Addr)(u:HO):Prop:=H a=some u∨∃ o,H a=some (.frz o u)
theorem Rd.ok{P:Program}{w:World}{H:Hp}{h:Heap}{a:Addr}{u:HO}(r:Rd H a u)(x:HOk P w H h):ObjOk P w H h a u:=by
 rcases r with r | ⟨o,r⟩
 ·exact x a u r
 ·obtain⟨_,q⟩:=x a _ r
  exact q
def Mut:Option HO→Prop
 | some (.lst _)=>True
 | some (.dK _)=>True
 | some (.dT _)=>True
 | some (.set _ _)=>True
 | some (.ins _ _ _)=>True
 | some (.ext _)=>True
 | _=>False
section
variable{P:Program}{w:World}{H:Hp}{h h':Heap}{x e:Addr}{o':HO}
theorem HOk.write(ok:HOk P w H h)(mu:Mut (H x))(he:e=x∨H e=some (.own x))(k:∀ b u,b≠e→h.get? b=some u→h'.get? b=some u)(heo:∃ u,h'.get? e=some u)
  (new:ObjOk P w (upd H x o') h' x o'):HOk P w (upd H x o') h':=fun b u q=>by
 have nown:∀ c y,H c=some (.own y)→c≠x:=fun c y r z=>by subst z; rw[r]at mu; exact mu
 have ntup:∀ c xs,H c=some (.tup xs)→c≠x:=fun c xs r z=>by subst z; rw[r]at mu; exact mu
 by_cases hb:b=x
 ·subst hb; rw[upd_same]at q; cases q; exact new
 ·rw[upd_ne hb]at q
  by_cases hbe:b=e
  ·have q':H b=some (.own x):=by
    rcases he with z | z
    ·exact absurd (hbe.trans z) hb
    ·rw[hbe]; exact z
   rw[q]at q'; cases q'
   obtain⟨v,hv⟩:=heo
   exact⟨v,by rw[hbe]; exact hv⟩
  ·refine(ok b u q).stay (fun c v hc r=>k c v ?_ r) (fun c r=>by rw[upd_ne (nown c b r)]; exact r) fun c xs r=>by rw[upd_ne (ntup c xs r)]; exact r
   rcases hc with rfl | hc
   ·exact hbe
   ·rintro rfl
    rcases he with z | z
    ·exact nown c b hc z
    ·rw[hc]at z; cases z; exact hb rfl
end
structure Un(fs ex:List Addr)(H H':Hp)(h h':Heap):Prop where
 keep:∀ b o,h.get? b=some o→H b=none→b∉fs→b∉ex→h'.get? b=some o
 slot:∀ b o,h.get? b=some o→H b=none→b∈fs→b∉ex→∃ sl,h'.get? b=some { o with slots:=sl }
 free:∀ b o,h.get? b=some o→H b=none→b∉ex→H' b=none
 there:∀ b o,h.get? b=some o→b∉ex→∃ o',h'.get? b=some o'
 tups:∀ b xs,H b=some (.tup xs)→H' b=some (.tup xs)
 frzs:∀ b o u,H b=some (.frz o u)→H' b=some (.frz o u)
 tbls:∀ b ps,H b=some (.tbl ps)→∃ more,H' b=some (.tbl (ps++more))
section
variable{fs fs' ex ex':List Addr}{H H1 H2:Hp}{h h1 h2 h':Heap}{a x e:Addr}{o:HO}
theorem Un.any(u:Un fs ex H H1 h h1){b:Addr}{ob:Obj}(q:h.get? b=some ob)(n:H b=none)(hx:b∉ex):∃ sl,h1.get? b=some { ob with slots:=sl }:=by
 by_cases hb:b∈fs
 ·exact u.slot b ob q n hb hx
 ·exact⟨ob.slots,u.keep b ob q n hb hx⟩
theorem Un.trans(a:Un fs ex H H1 h h1)(b:Un fs ex H1 H2 h1 h2):Un fs ex H H2 h h2 where
 keep:=fun c ob q n hc hx=>b.keep c ob (a.keep c ob q n hc hx) (a.free c ob q n hx) hc hx
 slot:=fun c ob q n hc hx=>by
  obtain⟨sl,e1⟩:=a.slot c ob q n hc hx
  obtain⟨sl',e2⟩:=b.slot c _ e1 (a.free c ob q n hx) hc hx
  exact⟨sl',e2⟩
 free:=fun c ob q n hx=>by
  obtain⟨o',e1⟩:=a.there c ob q hx
  exact b.free c o' e1 (a.free c ob q n hx) hx
 there:=fun c ob q hx=>by
  obtain⟨o',e1⟩:=a.there c ob q hx
  exact b.there c o' e1 hx
 tups:=fun c xs q=>b.tups c xs (a.tups c xs q)
 frzs:=fun c ob xs q=>b.frzs c ob xs (a.frzs c ob xs q)
 tbls:=fun c ps q=>by
  obtain⟨m1,e1⟩:=a.tbls c ps q
  obtain⟨m2,e2⟩:=b.tbls c _ e1
  exact⟨m1++m2,by rw[e2,Array.append_assoc]⟩
theorem Un.kept(k:∀ b u,h.get? b=some u→h'.get? b=some u):Un fs ex H H h h' :=
 ⟨fun b ob q _ _ _=>k b ob q,fun b ob q _ _ _=>⟨ob.slots,k b ob q⟩,fun _ _ _ n _=>n,fun b ob q _=>⟨ob,k b ob q⟩,fun _ _ q=>q,fun _ _ _ q=>q,fun _ ps q=>⟨#[],by rw[q]; simp⟩⟩
theorem Un.refl:Un fs ex H H h h:=Un.kept fun _ _ q=>q
theorem Un.laid(k:∀ b u,h.get? b=some u→h'.get? b=some u)(hp:h.objs.size≤a)(hn:H a=none):Un fs ex H (upd H a o) h h' where
 keep:=fun b u q _ _ _=>k b u q
 slot:=fun b u q _ _ _=>⟨u.slots,k b u q⟩
 free:=fun b u q n _=>by rw[upd_ne (Nat.ne_of_lt (Nat.lt_of_lt_of_le (Heap.lt_size q) hp))]; exact n
 there:=fun b u q _=>⟨u,k b u q⟩
 tups:=fun b xs q=>by rw[upd_ne (ne_of_none q hn)]; exact q
 frzs:=fun b u xs q=>by rw[upd_ne (ne_of_none q hn)]; exact q
 tbls:=fun b ps q=>⟨#[],by rw[upd_ne (ne_of_none q hn),q]; simp⟩
theorem Un.write(mu:Mut (H x))(he:e=x∨H e=some (.own x))(k:∀ b u,b≠e→h.get? b=some u→h'.get? b=some u)(heo:∃ u,h'.get? e=some u):Un fs ex H (upd H x o) h h':=by
 have hx:∀ b,H b=none→b≠x:=fun b n z=>by subst z; rw[n]at mu; exact mu
 have hb:∀ b,H b=none→b≠e:=fun b n z=>by
  subst z
  rcases he with r | r
  ·exact hx b n r
  ·rw[n]at r; cases r
 have hm:∀ b u,H b=some u→¬ Mut (some u)→b≠x:=fun b u q nm z=>by subst z; rw[q]at mu; exact nm mu
 refine⟨fun b u q n _ _=>k b u (hb b n) q,fun b u q n _ _=>⟨u.slots,k b u (hb b n) q⟩,fun b u q n _=>by rw[upd_ne (hx b n)]; exact n,fun b u q _=>?_,
  fun b xs q=>by rw[upd_ne (hm b _ q fun z=>z)]; exact q,fun b u xs q=>by rw[upd_ne (hm b _ q fun z=>z)]; exact q,fun b ps q=>⟨#[],by rw[upd_ne (hm b _ q fun z=>z),q]; simp⟩⟩
 by_cases hbe:b=e
 ·subst hbe; exact heo
 ·exact⟨u,k b u hbe q⟩
theorem Un.mono(u:Un fs ex H H1 h h1)(hs:∀ b∈fs,b∈fs')(hx:∀ b∈ex,b∈ex'):Un fs' ex' H H1 h h1 :=
 ⟨fun b ob q n hb he=>u.keep b ob q n (fun z=>hb (hs b z)) fun z=>he (hx b z),fun _ _ q n _ he=>u.any q n fun z=>he (hx _ z),fun b ob q n he=>u.free b ob q n fun z=>he (hx b z),fun b ob q he=>u.there b ob q fun z=>he (hx b z),u.tups,u.frzs,u.tbls⟩
end
def trk(h:Heap)(H:Hp):List Addr:=(List.range h.objs.size).filter fun a=>(H a).isSome
def hidT(h:Heap)(H:Hp):Heap:=PySem.W.hideAll h (trk h H)
theorem hidT_size(h:Heap)(H:Hp):(hidT h H).objs.size=h.objs.size:=PySem.W.hideAll_size _ _
theorem hidT_get{h:Heap}{H:Hp}{b:Addr}{o:Obj}(e:h.get? b=some o)(n:H b=none):(hidT h H).get? b=some o :=
 PySem.W.hideAll_get _ e fun hm=>by
  have q:(H b).isSome=true:=(List.mem_filter.mp hm).2
  rw[n]at q; simp at q
theorem of_hidT{h:Heap}{H:Hp}{b:Addr}{o:Obj}(e:(hidT h H).get? b=some o):h.get? b=some o∧H b=none:=by
 have e':h.get? b=some o:=PySem.W.of_hideAll (trk h H) e
 refine⟨e',?_⟩
 cases q:H b with
 | none=>rfl
 | some x =>
  have hm:b∈trk h H:=List.mem_filter.mpr ⟨List.mem_range.mpr (Heap.lt_size e'),by simp[q]⟩
  have z:(hidT h H).get? b=none:=PySem.W.hideAll_none (trk h H) hm
  rw[z]at e; cases e
def allNews(g h:Heap)(L:Addr):List (Addr×Obj):=(List.range h.objs.size).filterMap fun a=>if a=L∨(g.get? a).isSome=true then none else(h.get? a).map fun o=>(a,o)
def rest(g h:Heap)(L d:Addr):List (Addr×Obj):=(allNews g h L).filter fun p=>decide (p.1≠d)
end L2
namespace L2
open PySem PySem.Spec PyProof.Rows
structure Mod(K:PySem.W.Frag)(mg:Str→Option Value)(base:Heap):Prop where
 kin:K.In base
 glob:base.Ns mainGlobals mg
 blt:∃ mb,base.Ns builtinsNs mb∧∀ x:Str,x≠"__name__"→mb x=bootBuiltins x
 nolimit:base.NoLimit
set_option genInjectivity false in
structure Cx where
 prog:Program
 w:World
 K:PySem.W.Frag
 mg:Str→Option Value
 base:Heap
 A:Around
 N:List Str
 s₀:Shared
 H₀:Hp
 env:Env
 outer:List Env
 stack:List Env
 ex:List Addr
 fn:Str→Bool
 calm:Bool
 pn:List (Addr×Obj)
 xe:Value→Shared→Prop
def frs(l:List Env):List Addr:=l.filterMap (·.frame)
noncomputable abbrev Cx.fs(X:Cx):List Addr:=frs X.outer
def Vis(sc:Scope)(x:Str):Prop:=sc.names.lookup x=some .local∨sc.names.lookup x=some .cell∨sc.names.lookup x=some .free
def Loc(sc:Scope)(x:Str):Prop:=sc.names.lookup x=some .local∨sc.names.lookup x=some .cell
def Look(env:Env)(h:Heap)(m:Str→Option Value)(x:Str)(u:Value):Prop :=
 (env.kindOf x=some .local∧m x=some u)∨((env.kindOf x=some .cell∨env.kindOf x=some .free)∧∃ c,env.cells.lookup x=some c∧h.IsCell c (some u))
set_option genInjectivity false in
structure Cx.Ok(X:Cx):Prop where
 mod:Mod X.K X.mg X.base
 kind:X.env.scope.kind = .function
 glob:X.env.globals=mainGlobals
 blt:X.env.builtins=builtinsNs
 above:X.s₀.heap.objs.size≤X.env.locals
 inj:∀ x y c,X.env.cells.lookup x=some c→X.env.cells.lookup y=some c→x=y
 has:∀ x,(X.env.kindOf x=some .cell∨X.env.kindOf x=some .free)→∃ c,X.env.cells.lookup x=some c
 cab:∀ x c,X.fn x=true→X.env.cells.lookup x=some c→X.s₀.heap.objs.size≤c
 hd:X.calm=true→X.A.handled=none
 frames:X.A.frames=some X.stack
 stk:X.stack=X.outer∨(X.stack=X.env::X.outer∧X.env.frame=some X.env.locals)
 exf:∀ b∈X.ex,b≠X.env.locals∧∀ x c,X.env.cells.lookup x=some c→c≠b
 bs:∀ b o,X.base.get? b=some o→X.s₀.heap.get? b=some o∧X.H₀ b=none
 bsz:X.base.objs.size≤X.s₀.heap.objs.size
 noex:∀ b o,X.base.get? b=some o→b∉X.ex
 exfs:∀ b∈X.ex,b∉X.fs
 funs:X.s₀.heap.FunFrames X.base X.outer
 frf:∀ b∈X.fs,X.H₀ b=none
structure Inv(X:Cx)(pins:List (Addr×Obj))(σ:List (Option V))(H:Hp)(s:Shared):Prop where
 ok:X.Ok
 os:s.os=X.s₀.os
 bare:AllBare s.gens
 base:Un X.fs X.ex X.H₀ H X.s₀.heap s.heap
 loc:∃ m,s.heap.Ns X.env.locals m∧∀ (i:Nat) (x:Str) (v:V),X.N[i]?=some x→σ[i]?=some (some v)→Vis X.env.scope x→∃ u,RelV v u∧Look X.env s.heap m x u
 cell:∀ x c,X.env.cells.lookup x=some c→∃ v,s.heap.IsCell c v
 free:H X.env.locals=none
 freeC:∀ x c,X.env.cells.lookup x=some c→H c=none
 pin:∀ p∈X.pn++pins,s.heap.get? p.1=some p.2∧H p.1=none∧p.1≠X.env.locals∧p.1∉X.fs∧∀ v,p.2.data≠.cell v
 hok:HOk X.prog X.w H s.heap
 len:σ.length=X.N.length
section
variable{X:Cx}{pins:List (Addr×Obj)}{σ:List (Option V)}{H H':Hp}{s:Shared}{h':Heap}
theorem Cx.Ok.nofr(ok:X.Ok){b:Addr}{o:Obj}(e:X.base.get? b=some o):b∉X.fs:=fun hb=>by
 have:=(ok.funs.mem hb).1
 rw[e]at this; cases this
theorem Inv.bs(I:Inv X pins σ H s):∀ b o,X.base.get? b=some o→s.heap.get? b=some o∧H b=none:=fun b o e =>
 ⟨I.base.keep b o (I.ok.bs b o e).1 (I.ok.bs b o e).2 (I.ok.nofr e) (I.ok.noex b o e),I.base.free b o (I.ok.bs b o e).1 (I.ok.bs b o e).2 (I.ok.noex b o e)⟩
theorem Inv.bk(I:Inv X pins σ H s):∀ b o,X.base.get? b=some o→s.heap.get? b=some o:=fun b o e=>(I.bs b o e).1
theorem Inv.mod(I:Inv X pins σ H s):Mod X.K X.mg X.base:=I.ok.mod
theorem Inv.kIn(I:Inv X pins σ H s):X.K.In s.heap:=I.ok.mod.kin.keeps I.bk
theorem Inv.nolimit(I:Inv X pins σ H s):s.heap.NoLimit:=I.ok.mod.nolimit.keeps I.bk
theorem Inv.fr(I:Inv X pins σ H s):∃ m,Fr X.base X.env.locals s.heap m :=
 let ⟨m,hn,_⟩:=I.loc
 ⟨m,hn,I.bk,Nat.le_trans I.ok.bsz I.ok.above⟩
theorem Inv.lt(I:Inv X pins σ H s):X.env.locals<s.heap.objs.size:=let ⟨_,hn,_⟩:=I.loc; hn.lt
theorem Inv.sz(I:Inv X pins σ H s):X.s₀.heap.objs.size≤s.heap.objs.size:=Nat.le_trans I.ok.above (Nat.le_of_lt I.lt)
theorem Inv.nofs(I:Inv X pins σ H s){a:Addr}(h:s.heap.objs.size≤a):a∉X.fs:=fun hb=>by
 obtain⟨_,o,ho,_⟩:=I.ok.funs.mem hb
 exact absurd (Nat.lt_of_lt_of_le (Heap.lt_size ho) (Nat.le_trans I.sz h)) (Nat.lt_irrefl _)
theorem Inv.cne(I:Inv X pins σ H s):∀ x c,X.env.cells.lookup x=some c→c≠X.env.locals:=fun x c e z=>by
 obtain⟨v,o,ho,hd⟩:=I.cell x c e
 obtain⟨m,⟨o',es,ep,ho',hd',_⟩,_⟩:=I.loc
 rw[z,ho']at ho; cases ho; rw[hd']at hd; cases hd
theorem Inv.funs(I:Inv X pins σ H s):s.heap.FunFrames X.base X.outer:=by
 have all:∀ (l:List Env),(∀ b∈frs l,b∈X.fs)→X.s₀.heap.FunFrames X.base l→s.heap.FunFrames X.base l:=by
  intro l
  induction l with
  | nil=>intro _ _; trivial
  | cons env r ih =>
   intro hs hl
   obtain⟨hk,⟨L,o,hf,hn,ho,hd⟩,hr⟩:=hl
   have hL:L∈X.fs:=hs L (by unfold frs; rw[List.filterMap_cons,hf]; exact List.mem_cons_self)
   obtain⟨sl,e⟩:=I.base.slot L o ho (I.ok.frf L hL) hL fun z=>I.ok.exfs L z hL
   exact⟨hk,⟨L,_,hf,hn,e,hd⟩,ih (fun b hb=>hs b (by unfold frs; rw[List.filterMap_cons,hf]; exact List.mem_cons_of_mem _ hb)) hr⟩
 exact all X.outer (fun _ hb=>hb) I.ok.funs
theorem Inv.stack(I:Inv X pins σ H s):s.heap.FunFrames X.base X.stack:=by
 rcases I.ok.stk with e | ⟨e,hf⟩
 ·rw[e]; exact I.funs
 ·rw[e]
  obtain⟨m,hn,_⟩:=I.loc
  refine .cons (by rw[I.ok.kind]; decide) hf hn ?_ I.funs
  exact Heap.get?_none_of_le (Nat.le_trans I.ok.bsz I.ok.above)
theorem Inv.stkSub(I:Inv X pins σ H s):∀ b∈frs X.stack,b∈X.env.locals::X.fs:=fun b hb=>by
 rcases I.ok.stk with e | ⟨e,hf⟩
 ·rw[e]at hb; exact List.mem_cons_of_mem _ hb
 ·rw[e]at hb
  unfold frs at hb
  rw[List.filterMap_cons,hf]at hb
  exact hb
theorem Inv.stkFree(I:Inv X pins σ H s):∀ b∈frs X.stack,H b=none:=fun b hb=>by
 rcases List.mem_cons.mp (I.stkSub b hb)with e | hb
 ·rw[e]; exact I.free
 ·obtain⟨_,o,ho,_⟩:=I.ok.funs.mem hb
  exact I.base.free b o ho (I.ok.frf b hb) fun z=>I.ok.exfs b z hb
theorem Inv.step{g':Array GenState}{t':Nat}{d':Drawn}{ch:List Addr}(I:Inv X pins σ H s)
  (hch:∀ b∈ch,(b∈X.ex∨X.s₀.heap.objs.size≤b)∧b≠X.env.locals∧(∀ x c,X.env.cells.lookup x=some c→c≠b)∧∀ p∈X.pn++pins,p.1≠b)
  (keep:∀ b o,b≠X.env.locals→b∉X.fs→b∉ch→s.heap.get? b=some o→H b=none→h'.get? b=some o)
  (slot:∀ b o,b≠X.env.locals→b∈X.fs→b∉ch→s.heap.get? b=some o→H b=none→∃ sl,h'.get? b=some { o with slots:=sl }) (free:∀ b o,b∉ch→s.heap.get? b=some o→H b=none→H' b=none)
  (there:∀ b o,b∉ch→s.heap.get? b=some o→∃ o',h'.get? b=some o')
  (tups:∀ b xs,H b=some (.tup xs)→H' b=some (.tup xs)) (frzs:∀ b o u,H b=some (.frz o u)→H' b=some (.frz o u)) (tbls:∀ b ps,H b=some (.tbl ps)→∃ more,H' b=some (.tbl (ps++more)))
  (ns:∀ m,s.heap.Ns X.env.locals m→h'.Ns X.env.locals m) (hok:HOk X.prog X.w H' h') (hg:AllBare g') :
  Inv X pins σ H' { s with heap:=h',gens:=g',drawn:=d',toks:=t' }:=by
 have neL:∀ b o,X.s₀.heap.get? b=some o→b≠X.env.locals:=fun b o e=>Nat.ne_of_lt (Nat.lt_of_lt_of_le (Heap.lt_size e) I.ok.above)
 have neC:∀ b o,X.s₀.heap.get? b=some o→b∉X.ex→b∉ch:=fun b o e hx hb=>by
  rcases(hch b hb).1 with z | z
  ·exact hx z
  ·exact absurd (Nat.lt_of_lt_of_le (Heap.lt_size e) z) (Nat.lt_irrefl _)
 have cellK:∀ x c,X.env.cells.lookup x=some c→∀ v,s.heap.IsCell c v→h'.IsCell c v:=fun x c e v ⟨o,ho,hd⟩=>by
  have nch:c∉ch:=fun z=>(hch c z).2.2.1 x c e rfl
  by_cases hc:c∈X.fs
  ·obtain⟨sl,q⟩:=slot c o (I.cne x c e) hc nch ho (I.freeC x c e)
   exact⟨_,q,hd⟩
  ·exact⟨o,keep c o (I.cne x c e) hc nch ho (I.freeC x c e),hd⟩
 refine⟨I.ok,I.os,hg,⟨fun b o e n hb hx=>?_,fun b o e n hb hx=>?_,fun b o e n hx=>?_,fun b o e hx=>?_,fun b xs e=>tups b xs (I.base.tups b xs e),fun b o xs e=>frzs b o xs (I.base.frzs b o xs e),fun b ps e=>?_⟩,?_,fun x c e=>?_,?_,fun x c e=>?_,fun p hp=>?_,hok,I.len⟩
 ·exact keep b o (neL b o e) hb (neC b o e hx) (I.base.keep b o e n hb hx) (I.base.free b o e n hx)
 ·obtain⟨sl,e1⟩:=I.base.slot b o e n hb hx
  obtain⟨sl',e2⟩:=slot b _ (neL b o e) hb (neC b o e hx) e1 (I.base.free b o e n hx)
  exact⟨sl',e2⟩
 ·obtain⟨o',e1⟩:=I.base.there b o e hx
  exact free b o' (neC b o e hx) e1 (I.base.free b o e n hx)
 ·obtain⟨o',e1⟩:=I.base.there b o e hx
  exact there b o' (neC b o e hx) e1
 ·obtain⟨m1,e1⟩:=I.base.tbls b ps e
  obtain⟨m2,e2⟩:=tbls b _ e1
  exact⟨m1++m2,by rw[e2,Array.append_assoc]⟩
 ·obtain⟨m,hn,hl⟩:=I.loc
  refine⟨m,ns m hn,fun i x v e1 e2 e3=>?_⟩
  obtain⟨u,r,l⟩:=hl i x v e1 e2 e3
  refine⟨u,r,?_⟩
  rcases l with l | ⟨k,c,e,z⟩
  ·exact .inl l
  ·exact .inr ⟨k,c,e,cellK x c e _ z⟩
 ·obtain⟨v,z⟩:=I.cell x c e
  exact⟨v,cellK x c e v z⟩
 ·obtain⟨m,⟨o,_,_,ho,_⟩,_⟩:=I.loc
  exact free _ o (fun z=>(hch _ z).2.1 rfl) ho I.free
 ·obtain⟨v,o,ho,hd⟩:=I.cell x c e
  exact free c o (fun z=>(hch c z).2.2.1 x c e rfl) ho (I.freeC x c e)
 ·obtain⟨e,n,ne,nf,d⟩:=I.pin p hp
  have nch:p.1∉ch:=fun z=>(hch p.1 z).2.2.2 p hp rfl
  exact⟨keep p.1 p.2 ne nf nch e n,free p.1 p.2 nch e n,ne,nf,d⟩
theorem Inv.un{t':Nat}(I:Inv X pins σ H s)(u:Un X.fs [] H H' s.heap h')(hok:HOk X.prog X.w H' h'):Inv X pins σ H' { s with heap:=h',toks:=t' }:=by
 obtain⟨m,⟨o,es,ep,ho,r⟩,_⟩:=id I.loc
 obtain⟨sl,hL⟩:=u.any ho I.free (by simp)
 exact I.step (g':=s.gens) (d':=s.drawn) (ch:=[]) (fun _ z=>nomatch z) (fun b o _ hb _ e n=>u.keep b o e n hb (by simp)) (fun b o _ hb _ e n=>u.slot b o e n hb (by simp)) (fun b o _ e n=>u.free b o e n (by simp)) (fun b o _ e=>u.there b o e (by simp)) u.tups u.frzs u.tbls (fun m' hm=>by
  obtain⟨o',es',ep',ho',r'⟩:=hm
  rw[ho]at ho'; cases ho'
  exact⟨_,es',ep',hL,r'⟩) hok I.bare
theorem Inv.call{g':Array GenState}{t':Nat}{d':Drawn}{ch:List Addr}(I:Inv X pins σ H s)(u:Un (frs X.stack) ch H H' s.heap h')(hok:HOk X.prog X.w H' h')(hg:AllBare g')
  (hch:∀ b∈ch,(b∈X.ex∨X.s₀.heap.objs.size≤b)∧b≠X.env.locals∧(∀ x c,X.env.cells.lookup x=some c→c≠b)∧∀ p∈X.pn++pins,p.1≠b) :
  Inv X pins σ H' { s with heap:=h',gens:=g',drawn:=d',toks:=t' }:=by
 obtain⟨m,⟨o,es,ep,ho,r⟩,_⟩:=id I.loc
 obtain⟨sl,hL⟩:=u.any ho I.free fun z=>(hch _ z).2.1 rfl
 exact I.step (ch:=ch) hch (fun b o hL hb hc e n=>u.keep b o e n (fun z=>(List.mem_cons.mp (I.stkSub b z)).elim hL hb) hc) (fun b o _ _ hc e n=>u.any e n hc) (fun b o hc e n=>u.free b o e n hc) (fun b o hc e=>u.there b o e hc) u.tups u.frzs u.tbls (fun m' hm=>by
  obtain⟨o',es',ep',ho',r'⟩:=hm
  rw[ho]at ho'; cases ho'
  exact⟨_,es',ep',hL,r'⟩) hok hg
theorem Inv.turned{t':Nat}{it:Addr}(I:Inv X pins σ H s)(k:∀ b o,b≠it→s.heap.get? b=some o→h'.get? b=some o)(hn:H it=none)(hL:it≠X.env.locals)
  (h1:it∈X.ex∨X.s₀.heap.objs.size≤it) (h2:∀ x c,X.env.cells.lookup x=some c→c≠it) (h3:∀ p∈X.pn++pins,p.1≠it):Inv X pins σ H { s with heap:=h',toks:=t' }:=by
 have nit:∀ b u,H b=some u→b≠it:=fun b u e z=>by rw[z,hn]at e; cases e
 refine I.step (g':=s.gens) (d':=s.drawn) (ch:=[it]) (fun b hb=>?_) (fun b o _ _ hc e _=>k b o (fun z=>hc (by simp[z])) e) (fun b o _ _ hc e _=>⟨o.slots,k b o (fun z=>hc (by simp[z])) e⟩) (fun _ _ _ _ n=>n)
  (fun b o hc e=>⟨o,k b o (fun z=>hc (by simp[z])) e⟩) (fun _ _ e=>e) (fun _ _ _ e=>e) (fun b ps e=>⟨#[],by rw[e]; simp⟩) (fun m hm=>?_) (fun b u e=>?_) I.bare
 ·have e:b=it:=by simpa using hb
  subst e
  exact⟨h1,hL,h2,h3⟩
 ·obtain⟨o,es,ep,ho,r⟩:=hm
  exact⟨o,es,ep,k _ o (Ne.symm hL) ho,r⟩
 ·refine(I.hok b u e).stay (fun c v hc q=>k c v ?_ q) (fun _ q=>q) fun _ _ q=>q
  rcases hc with z | z
  ·rw[z]; exact nit b u e
  ·exact nit c _ z
theorem Inv.tok(I:Inv X pins σ H s)(t:Nat):Inv X pins σ H { s with toks:=t }:=I.un (h':=s.heap) (t':=t) Un.refl I.hok
theorem Inv.kept{t':Nat}(I:Inv X pins σ H s)(k:∀ b u,s.heap.get? b=some u→h'.get? b=some u):Inv X pins σ H { s with heap:=h',toks:=t' }:=I.un (Un.kept k) (I.hok.kept k)
theorem Inv.laid{a:Addr}{o:HO}{t':Nat}(I:Inv X pins σ H s)(k:∀ b u,s.heap.get? b=some u→h'.get? b=some u)(hp:s.heap.objs.size≤a)(new:ObjOk X.prog X.w (upd H a o) h' a o) :
  Inv X pins σ (upd H a o) { s with heap:=h',toks:=t' }:=I.un (Un.laid k hp (I.hok.fresh hp)) (I.hok.laid k hp new)
theorem Inv.write{x e:Addr}{o:HO}{t':Nat}(I:Inv X pins σ H s)(mu:Mut (H x))(he:e=x∨H e=some (.own x))(k:∀ b u,b≠e→s.heap.get? b=some u→h'.get? b=some u)(heo:∃ u,h'.get? e=some u)
  (new:ObjOk X.prog X.w (upd H x o) h' x o):Inv X pins σ (upd H x o) { s with heap:=h',toks:=t' }:=I.un (Un.write mu he k heo) (I.hok.write mu he k heo new)
theorem Inv.pins_of{pins':List (Addr×Obj)}(I:Inv X pins σ H s)(h:∀ p∈pins',s.heap.get? p.1=some p.2∧H p.1=none∧p.1≠X.env.locals∧p.1∉X.fs∧∀ v,p.2.data≠.cell v):Inv X pins' σ H s :=
 ⟨I.ok,I.os,I.bare,I.base,I.loc,I.cell,I.free,I.freeC,fun p hp=>(List.mem_append.mp hp).elim (fun z=>I.pin p (List.mem_append_left _ z)) (h p),I.hok,I.len⟩
theorem nodup_ix{N:List Str}(hN:N.Nodup){i j:Nat}{x:Str}(a:N[i]?=some x)(b:N[j]?=some x):i=j:=by
 obtain⟨h1,e1⟩:=List.getElem?_eq_some_iff.mp a
 obtain⟨h2,e2⟩:=List.getElem?_eq_some_iff.mp b
 exact(List.getElem_inj hN).mp (e1.trans e2.symm)
theorem store_ok2{M:Model}{A:Around}{E:Value→Shared→Prop}{i:Nat}{x:Str}{v:V}{u:Value}{Q:Unit→Shared→Prop}(I:Inv X pins σ H s)(hN:X.N.Nodup)(hi:X.N[i]?=some x)(hx:Loc X.env.scope x)(r:RelV v u)
  (h:∀ s',Inv X pins (σ.set i (some v)) H s'→(∃ a,Heap.SameBut a s.heap s'.heap∧(a=X.env.locals∨X.env.cells.lookup x=some a))→Q () s') (hf:X.fn x=true∨X.env.scope.names.lookup x=some .local:=by first | exact .inl rfl | exact .inr rfl | assumption):wpAny M A (storeName X.env x u) Q E s:=by
 obtain⟨m,hn,hl⟩:=id I.loc
 have hcls:(X.env.scope.kind == .class || (X.env.scope.kind == .module && X.env.locals != X.env.globals))=false:=by rw[I.ok.kind]; rfl
 have hiσ:i<σ.length:=by rw[I.len]; exact(List.getElem?_eq_some_iff.mp hi).1
 have cne:=I.cne
 have tracked:∀ {a:Addr} {h':Heap},(∃ o,s.heap.get? a=some o∧H a=none)→Heap.SameBut a s.heap h'→HOk X.prog X.w H h':=fun {a h'} ha hs b ob e=>by
  obtain⟨_,_,hfree⟩:=ha
  refine(I.hok b ob e).stay (fun c w' hc q=>(hs.2 c ?_).trans q) (fun _ q=>q) fun _ _ q=>q
  rintro rfl
  rcases hc with rfl | hc
  ·rw[hfree]at e; cases e
  ·rw[hfree]at hc; cases hc
 rcases hx with hk | hk
 ·refine wpAny_storeName_local hk hn (fun h' hn' hs=>?_) hcls
  obtain⟨oL,_,_,hoL,_⟩:=id hn
  refine h _ ⟨I.ok,I.os,I.bare,⟨fun b o e n hb hx=>?_,fun b o e n hb hx=>?_,I.base.free,fun b o e hx=>?_,I.base.tups,I.base.frzs,I.base.tbls⟩,⟨_,hn',fun j y v' e1 e2 e3=>?_⟩,fun y c e=>?_,I.free,I.freeC,fun p hp=>?_,tracked ⟨oL,hoL,I.free⟩ hs,by simpa using I.len⟩ ⟨_,hs,.inl rfl⟩
  ·exact(hs.2 b (Nat.ne_of_lt (Nat.lt_of_lt_of_le (Heap.lt_size e) I.ok.above))).trans (I.base.keep b o e n hb hx)
  ·obtain⟨sl,e1⟩:=I.base.slot b o e n hb hx
   exact⟨sl,(hs.2 b (Nat.ne_of_lt (Nat.lt_of_lt_of_le (Heap.lt_size e) I.ok.above))).trans e1⟩
  ·obtain⟨o',e1⟩:=I.base.there b o e hx
   exact⟨o',(hs.2 b (Nat.ne_of_lt (Nat.lt_of_lt_of_le (Heap.lt_size e) I.ok.above))).trans e1⟩
  ·by_cases hj:j=i
   ·subst hj
    rw[hi]at e1; cases e1
    rw[List.getElem?_set_self hiσ]at e2
    cases e2
    exact⟨u,r,.inl ⟨hk,by simp⟩⟩
   ·rw[List.getElem?_set_ne (Ne.symm hj)]at e2
    obtain⟨u',r',q⟩:=hl j y v' e1 e2 e3
    refine⟨u',r',?_⟩
    rcases q with⟨k,e⟩ | ⟨k,c,e,z⟩
    ·refine .inl ⟨k,?_⟩
     have:y≠x:=fun e=>hj (nodup_ix hN e1 (e ▸ hi))
     simp[this,e]
    ·exact .inr ⟨k,c,e,z.sameBut hs (cne y c e)⟩
  ·obtain⟨w',z⟩:=I.cell y c e
   exact⟨w',z.sameBut hs (cne y c e)⟩
  ·obtain⟨e,n,ne,nf,d⟩:=I.pin p hp
   exact⟨(hs.2 p.1 ne).trans e,n,ne,nf,d⟩
 ·have hfn:X.fn x=true:=by
   rcases hf with z | z
   ·exact z
   ·rw[z]at hk; cases hk
  obtain⟨c,hc⟩:=I.ok.has x (.inl hk)
  obtain⟨w',z⟩:=I.cell x c hc
  refine wpAny_storeName_cell I.ok.kind hk hc z (fun h' hc' hs=>?_)
  obtain⟨oc,hoc,hocd⟩:=id z
  refine h { s with heap:=h' } ⟨I.ok,I.os,I.bare,⟨fun b o e n hb hx=>?_,fun b o e n hb hx=>?_,I.base.free,fun b o e hx=>?_,I.base.tups,I.base.frzs,I.base.tbls⟩,⟨m,hn.sameBut hs (Ne.symm (cne x c hc)),fun j y v' e1 e2 e3=>?_⟩,fun y c' e=>?_,I.free,I.freeC,fun p hp=>?_,tracked ⟨oc,hoc,I.freeC x c hc⟩ hs,by simpa using I.len⟩ ⟨c,hs,.inr hc⟩
  ·exact(hs.2 b (Nat.ne_of_lt (Nat.lt_of_lt_of_le (Heap.lt_size e) (I.ok.cab x c hfn hc)))).trans (I.base.keep b o e n hb hx)
  ·obtain⟨sl,e1⟩:=I.base.slot b o e n hb hx
   exact⟨sl,(hs.2 b (Nat.ne_of_lt (Nat.lt_of_lt_of_le (Heap.lt_size e) (I.ok.cab x c hfn hc)))).trans e1⟩
  ·obtain⟨o',e1⟩:=I.base.there b o e hx
   exact⟨o',(hs.2 b (Nat.ne_of_lt (Nat.lt_of_lt_of_le (Heap.lt_size e) (I.ok.cab x c hfn hc)))).trans e1⟩
  ·by_cases hj:j=i
   ·subst hj
    rw[hi]at e1; cases e1
    rw[List.getElem?_set_self hiσ]at e2
    cases e2
    exact⟨u,r,.inr ⟨.inl hk,c,hc,hc'⟩⟩
   ·rw[List.getElem?_set_ne (Ne.symm hj)]at e2
    obtain⟨u',r',q⟩:=hl j y v' e1 e2 e3
    refine⟨u',r',?_⟩
    rcases q with q | ⟨k,c',e,z'⟩
    ·exact .inl q
    ·refine .inr ⟨k,c',e,z'.sameBut hs ?_⟩
     rintro rfl
     exact hj (nodup_ix hN e1 (I.ok.inj _ _ _ e hc ▸ hi))
  ·by_cases hcc:c'=c
   ·subst hcc; exact⟨_,hc'⟩
   ·obtain⟨w2,z2⟩:=I.cell y c' e
    exact⟨w2,z2.sameBut hs hcc⟩
  ·obtain⟨e,n,ne,nf,d⟩:=I.pin p hp
   refine⟨(hs.2 p.1 ?_).trans e,n,ne,nf,d⟩
   intro q
   rw[q,hoc]at e
   have q':oc=p.2:=Option.some.inj e
   exact d w' (by rw[← q']; exact hocd)
theorem store_ok{M:Model}{A:Around}{E:Value→Shared→Prop}{i:Nat}{x:Str}{v:V}{u:Value}{Q:Unit→Shared→Prop}(I:Inv X pins σ H s)(hN:X.N.Nodup)(hi:X.N[i]?=some x)(hx:Loc X.env.scope x)(r:RelV v u)
  (h:∀ s',Inv X pins (σ.set i (some v)) H s'→Q () s') (hf:X.fn x=true∨X.env.scope.names.lookup x=some .local:=by first | exact .inl rfl | exact .inr rfl | assumption):wpAny M A (storeName X.env x u) Q E s :=
 store_ok2 I hN hi hx r (fun s' I' _=>h s' I') hf
theorem Inv.call'{s':Shared}{ch:List Addr}(I:Inv X pins σ H s)(ho:s'.os=s.os)(u:Un (frs X.stack) ch H H' s.heap s'.heap)(hok:HOk X.prog X.w H' s'.heap)(hg:AllBare s'.gens)
  (hch:∀ b∈ch,(b∈X.ex∨X.s₀.heap.objs.size≤b)∧b≠X.env.locals∧(∀ x c,X.env.cells.lookup x=some c→c≠b)∧∀ p∈X.pn++pins,p.1≠b):Inv X pins σ H' s':=by
 obtain⟨h',g',d',t',o'⟩:=s'
 have e:o'=s.os:=ho
 subst e
 exact I.call (g':=g') (t':=t') (d':=d') u hok hg hch
end
noncomputable abbrev XK:=Value→Option Addr→Hp→Prop
noncomputable abbrev St:=List (Option V)
noncomputable abbrev VK:=V→Hp→Prop
noncomputable abbrev TE:=St→Hp→VK→Prop
noncomputable abbrev TT:=St→Hp→(Bool→Hp→Prop)→Prop
noncomputable abbrev TA:=St→Hp→(List V→Hp→Prop)→Prop
structure Ends where
 nx:St→Hp→Prop
 rt:VK
 bk:St→Hp→Prop:=fun _ _=>False
 ct:St→Hp→Prop:=fun _ _=>False
noncomputable abbrev TS:=Ends→St→Hp→Prop
def EP(X:Cx)(pins:List (Addr×Obj))(σ:St)(Q:VK)(u:Value)(s':Shared):Prop:=∃ v H',Inv X pins σ H' s'∧RelV v u∧Q v H'
def TP(X:Cx)(pins:List (Addr×Obj))(σ:St)(Q:Bool→Hp→Prop)(b:Bool)(s':Shared):Prop:=∃ H',Inv X pins σ H' s'∧Q b H'
def AP(X:Cx)(pins:List (Addr×Obj))(σ:St)(Q:List V→Hp→Prop)(us:List Value)(s':Shared):Prop:=∃ vs H',Inv X pins σ H' s'∧Vals vs us∧Q vs H'
def SP(X:Cx)(pins:List (Addr×Obj))(D:Ends)(f:Flow)(s':Shared):Prop :=
 match f with
 | .next=>∃ σ' H',Inv X pins σ' H' s'∧D.nx σ' H'
 | .brk=>∃ σ' H',Inv X pins σ' H' s'∧D.bk σ' H'
 | .cont=>∃ σ' H',Inv X pins σ' H' s'∧D.ct σ' H'
 | .ret u=>∃ v σ' H',Inv X pins σ' H' s'∧RelV v u∧D.rt v H'
def PE(X:Cx)(e:Expr)(t:TE):Prop :=
 ∀ (pins:List (Addr×Obj)) (s:Shared) (σ:St) (H:Hp) (Q:VK),Inv X pins σ H s→t σ H Q→wpAny (model X.prog X.w) X.A (eval e X.env) (EP X pins σ Q) X.xe s
def PT(X:Cx)(e:Expr)(t:TT):Prop :=
 ∀ (pins:List (Addr×Obj)) (s:Shared) (σ:St) (H:Hp) (Q:Bool→Hp→Prop),Inv X pins σ H s→t σ H Q→wpAny (model X.prog X.w) X.A (isTrue e X.env (eval e X.env)) (TP X pins σ Q) X.xe s
def PW(X:Cx)(e:Expr)(t:TT):Prop :=
 ∀ (whole:Sem Value) (pins:List (Addr×Obj)) (s:Shared) (σ:St) (H:Hp) (Q:Bool→Hp→Prop),Inv X pins σ H s→t σ H Q→wpAny (model X.prog X.w) X.A (isTrue e X.env whole) (TP X pins σ Q) X.xe s
def PA(X:Cx)(es:List Expr)(t:TA):Prop :=
 ∀ (pos:Pos) (pins:List (Addr×Obj)) (s:Shared) (σ:St) (H:Hp) (Q:List V→Hp→Prop),Inv X pins σ H s→t σ H Q→wpAny (model X.prog X.w) X.A (spliced (backTo pos (starEach es X.env))) (AP X pins σ Q) X.xe s
def PS(X:Cx)(st:Stmt)(t:TS):Prop :=
 ∀ (pins:List (Addr×Obj)) (s:Shared) (σ:St) (H:Hp) (D:Ends),Inv X pins σ H s→t D σ H→wpAny (model X.prog X.w) X.A (exec st X.env) (SP X pins D) X.xe s
def PSs(X:Cx)(st:List Stmt)(t:TS):Prop :=
 ∀ (pins:List (Addr×Obj)) (s:Shared) (σ:St) (H:Hp) (D:Ends),Inv X pins σ H s→t D σ H→wpAny (model X.prog X.w) X.A (execs st X.env) (SP X pins D) X.xe s
theorem thn{α:Type}{t:Sem α}{Q Q':α→Shared→Prop}{M:Model}{A:Around}{E:Value→Shared→Prop}{s:Shared}(h:wpAny M A t Q E s)(hQ:∀ a s,Q a s→Q' a s):wpAny M A t Q' E s:=wpAny_mono h hQ fun _ _ x=>x
end L2
namespace L2
open PySem PySem.Spec PyProof.Rows
section
variable{X:Cx}
def tVar(i:Nat):TE:=fun σ H Q=>∃ v,σ[i]?=some (some v)∧Q v H
def tC(v:V):TE:=fun _ H Q=>Q v H
theorem pe_var{i:Nat}{x:Str}{pos:Pos}(hN:X.N[i]?=some x)(hv:Vis X.env.scope x)(hd:(x == ("__debug__" : Str))=false:=by decide)(hcd:(x == ("__classdict__" : Str))=false:=by decide):PE X (.Name x pos) (tVar i):=by
 intro pins s σ H Q I h
 obtain⟨v,e,h⟩:=h
 obtain⟨m,hn,hl⟩:=I.loc
 obtain⟨u,r,l⟩:=hl i x v hN e hv
 have fin:EP X pins σ Q u s:=⟨v,H,I,r,h⟩
 rcases l with⟨hk,hm⟩ | ⟨hk,c,hc,hcell⟩
 ·exact wpAny_Name (wpAny_loadName_local I.ok.kind hk hn hm fin) hd
 ·rcases hk with hk | hk
  ·exact wpAny_Name (wpAny_loadName_cell I.ok.kind hk hc hcell fin) hd
  ·exact wpAny_Name (wpAny_loadName_free I.ok.kind hk hc hcell fin hcd) hd
theorem pe_int{i j pos}:PE X (.Constant (.int i) j pos) (tC (.int i)):=fun _ _ _ H _ I h=>wpAny_Constant_int ⟨.int i,H,I.tok _,⟨_,rfl⟩,h⟩
theorem pe_bl{b j pos}:PE X (.Constant (.bool b) j pos) (tC (.bl b)):=fun _ _ _ H _ I h=>Constant_bool ⟨.bl b,H,I,rfl,h⟩
theorem pe_str{x j pos}:PE X (.Constant (.str x) j pos) (tC (.str x)):=fun _ _ _ H _ I h=>Calls.Constant_str ⟨.str x,H,I.tok _,⟨_,rfl⟩,h⟩
def Gl(X:Cx)(x:Str):Prop:=X.env.kindOf x=some .globalImplicit
theorem ld_glob{E:Value→Shared→Prop}{pins:List (Addr×Obj)}{s:Shared}{σ:St}{H:Hp}{x:Str}{u:Value}{pos:Pos}{Q:Value→Shared→Prop}(I:Inv X pins σ H s)(hg:Gl X x)(hm:X.mg x=some u)(h:Q u s)
  (hd:(x == ("__debug__" : Str))=false:=by decide):wpAny (model X.prog X.w) X.A (eval (.Name x pos) X.env) Q E s :=
 Calls.Name_function_global I.ok.kind hg (Calls.loadGlobal_global (by rw[I.ok.glob]; exact I.mod.glob.keeps I.bk) hm h) hd
theorem ld_blt{E:Value→Shared→Prop}{pins:List (Addr×Obj)}{s:Shared}{σ:St}{H:Hp}{x:Str}{u:Value}{pos:Pos}{Q:Value→Shared→Prop}(I:Inv X pins σ H s)(hg:Gl X x)(hm:X.mg x=none)(hv:bootBuiltins x=some u)(h:Q u s)
  (hn:x≠"__name__":=by decide) (hd:(x == ("__debug__" : Str))=false:=by decide):wpAny (model X.prog X.w) X.A (eval (.Name x pos) X.env) Q E s:=by
 obtain⟨mb,h1,h2⟩:=I.mod.blt
 exact Calls.Name_function_global I.ok.kind hg (Calls.loadGlobal_builtin (by rw[I.ok.glob]; exact I.mod.glob.keeps I.bk) hm (by rw[I.ok.blt]; exact h1.keeps I.bk) ((h2 x hn).trans hv) h) hd
theorem pe_glob{x:Str}{v:V}{u:Value}{pos:Pos}(hg:Gl X x)(hm:X.mg x=some u)(r:RelV v u)(hd:(x == ("__debug__" : Str))=false:=by decide):PE X (.Name x pos) (tC v) :=
 fun _ _ _ H _ I h=>ld_glob I hg hm ⟨v,H,I,r,h⟩ hd
theorem pe_bltn{x:Str}{v:V}{u:Value}{pos:Pos}(hg:Gl X x)(hm:X.mg x=none)(hv:bootBuiltins x=some u)(r:RelV v u)(hn:x≠"__name__":=by decide)(hd:(x == ("__debug__" : Str))=false:=by decide):PE X (.Name x pos) (tC v) :=
 fun _ _ _ H _ I h=>ld_blt I hg hm hv ⟨v,H,I,r,h⟩ hn hd
variable{a b:Expr}{ta tb:TE}{pos:Pos}
def tB(t:TE):TT:=fun σ H Q=>t σ H fun x H1=>∃ c,x = .bl c∧Q c H1
theorem pt_val{e:Expr}{t:TE}(h:PE X e t)(he:∀ whole,isTrue e X.env whole=(do let v ← whole; standAt e.pos; holding [v] (truthy v)):=by intro _; rfl):PT X e (tB t):=by
 intro pins s σ H Q I hw
 refine isTrue_plain (thn (h pins s σ H _ I hw) fun v s1 ⟨x,H1,I1,r1,q1⟩=>?_) (he _)
 obtain⟨d,rfl,q⟩:=q1
 cases r1
 exact wpAny_truthy_bool ⟨H1,I1,q⟩
variable{tA tB':TT}{rest:List Expr}
def tOr(t u:TT):TT:=fun σ H Q=>t σ H fun c H1=>if c=true then Q true H1 else u σ H1 Q
def tNot(t:TT):TT:=fun σ H Q=>t σ H fun c H1=>Q (!c) H1
theorem pw_or1(ha:PT X a tA):PW X (.BoolOp .Or [a] pos) tA:=by
 intro wh pins s σ H Q I h
 refine isTrue_or (thn (ha pins s σ H Q I h) fun c s1 e=>?_)
 cases c with
 | false=>exact isTrue_or_nil e
 | true=>exact e
theorem pw_or(ha:PT X a tA)(hb:PW X (.BoolOp .Or (b::rest) pos) tB'):PW X (.BoolOp .Or (a::b::rest) pos) (tOr tA tB'):=by
 intro wh pins s σ H Q I h
 refine isTrue_or (thn (ha pins s σ H _ I h) fun c s1 ⟨H1,I1,q1⟩=>?_)
 cases c with
 | true=>exact⟨H1,I1,q1⟩
 | false=>exact hb wh pins s1 σ H1 Q I1 q1
theorem pt_not(ha:PT X a tA):PT X (.UnaryOp .Not a pos) (tNot tA):=by
 intro pins s σ H Q I h
 exact isTrue_not (ha pins s σ H (fun c H1=>Q (!c) H1) I h)
def tAndV(ta tb:TE):TE:=fun σ H Q=>ta σ H fun x H1=>∃ c,x = .bl c∧if c=true then tb σ H1 Q else Q (.bl false) H1
def tNotV(ta:TE):TE:=fun σ H Q=>ta σ H fun x H1=>∃ c,x = .bl c∧Q (.bl (!c)) H1
theorem pe_one{op}{t:TE}(h:PE X a t):PE X (.BoolOp op [a] pos) t:=fun pins s σ H Q I hw=>BoolOp_one (h pins s σ H Q I hw)
theorem pe_and(ha:PE X a ta)(hb:PE X (.BoolOp .And (b::rest) pos) tb):PE X (.BoolOp .And (a::b::rest) pos) (tAndV ta tb):=by
 intro pins s σ H Q I h
 refine BoolOp_and (thn (ha pins s σ H _ I h) fun v s1 ⟨x,H1,I1,r1,q1⟩=>?_)
 obtain⟨c,rfl,q1⟩:=q1
 cases r1
 refine wpAny_truthy_bool ?_
 cases c with
 | true=>exact hb pins s1 σ H1 Q I1 q1
 | false=>exact⟨.bl false,H1,I1,rfl,q1⟩
theorem pe_not(ha:PE X a ta):PE X (.UnaryOp .Not a pos) (tNotV ta):=by
 intro pins s σ H Q I h
 refine UnaryOp_ (thn (ha pins s σ H _ I h) fun v s1 ⟨x,H1,I1,r1,q1⟩=>?_)
 obtain⟨c,rfl,q1⟩:=q1
 cases r1
 exact not_of (wpAny_truthy_bool ⟨.bl (!c),H1,I1,rfl,q1⟩)
end
end L2
namespace L2
open PySem PySem.Spec PyProof.Rows
def SqL(K:PySem.W.Frag)(H:Hp)(a:Addr)(xs:List V):Prop :=
 Rd H a (.lst xs) ∨
  ∃ (o:Obj) (its:Array Value) (n:Nat),K.lookup a=some o∧o.cls = .type "list"∧o.dict=none∧o.data = .seq its n∧its.size≤sizeLine∧Vals xs its.toList
def SqT(K:PySem.W.Frag)(H:Hp)(a:Addr)(xs:List V):Prop :=
 Rd H a (.tup xs) ∨
  ∃ (o:Obj) (its:Array Value) (n:Nat),K.lookup a=some o∧o.cls = .type "tuple"∧o.data = .seq its n∧its.size≤sizeLine∧Vals xs its.toList
def absV:Value→Option V
 | .none=>some .non
 | .bool b=>some (.bl b)
 | .int i _=>some (.int i)
 | .str x _=>some (.str x)
 | .bytes b _=>some (.byt b)
 | .float b _=>some (.flt b)
 | .ref a=>some (.ref a)
 | .type n=>some (.ty n)
 | _=>none
theorem RelV.abs{x:V}{u:Value}(r:RelV x u):absV u=some x:=by
 cases x with
 | non=>cases r; rfl
 | bl _=>cases r; rfl
 | int _=>obtain⟨t,rfl⟩:=r; rfl
 | str _=>obtain⟨t,rfl⟩:=r; rfl
 | byt _=>obtain⟨t,rfl⟩:=r; rfl
 | flt _=>obtain⟨t,rfl⟩:=r; rfl
 | ref _=>cases r; rfl
 | ty _=>cases r; rfl
theorem RelV.inj{x y:V}{u:Value}(r:RelV x u)(q:RelV y u):x=y:=Option.some.inj (r.abs.symm.trans q.abs)
theorem Vals.inj:∀ {xs ys:List V} {us:List Value},Vals xs us→Vals ys us→xs=ys
 | _,_,_,.nil,.nil=>rfl
 | _,_,_,.cons r t,.cons r' t'=>by rw[r.inj r',Vals.inj t t']
section
variable{X:Cx}{pins:List (Addr×Obj)}{σ:St}{H:Hp}{s:Shared}{a:Addr}{xs ys:List V}
theorem SqL.of{K:PySem.W.Frag}(h:H a=some (.lst xs)):SqL K H a xs:=.inl (.inl h)
theorem SqT.of{K:PySem.W.Frag}(h:H a=some (.tup xs)):SqT K H a xs:=.inl (.inl h)
theorem Inv.list(I:Inv X pins σ H s)(h:SqL X.K H a xs):∃ its:List Value,Vals xs its∧PlainL s.heap a its.toArray∧xs.length≤sizeLine:=by
 rcases h with h | ⟨o,its,n,hk,hc,hd,hs,hz,r⟩
 ·obtain⟨z,its,n,r,e⟩:=h.ok I.hok
  exact⟨its,r,⟨_,n,e,rfl,rfl,rfl⟩,z⟩
 ·refine⟨its.toList,r,⟨o,n,I.kIn a o hk,hc,hd,by simpa using hs⟩,?_⟩
  have e:=r.length
  simp only[Array.length_toList]at e
  ac_rfl
theorem Inv.tuple(I:Inv X pins σ H s)(h:SqT X.K H a xs):∃ its:List Value,Vals xs its∧IsTup s.heap a its.toArray∧xs.length≤sizeLine:=by
 rcases h with h | ⟨o,its,n,hk,hc,hs,hz,r⟩
 ·obtain⟨z,its,r,p,_⟩:=h.ok I.hok
  exact⟨its,r,p,z⟩
 ·refine⟨its.toList,r,⟨o,I.kIn a o hk,hc,n,by simpa using hs⟩,?_⟩
  have e:=r.length
  simp only[Array.length_toList]at e
  ac_rfl
theorem Inv.list_inj(I:Inv X pins σ H s)(h:SqL X.K H a xs)(h':SqL X.K H a ys):xs=ys:=by
 obtain⟨its,r,⟨o,n,e,_,_,d⟩,_⟩:=I.list h
 obtain⟨its',r',⟨o',n',e',_,_,d'⟩,_⟩:=I.list h'
 rw[e]at e'; cases e'
 rw[d]at d'
 injection d' with d1 _
 have:its=its':=by simpa using congrArg Array.toList d1
 subst this
 exact r.inj r'
theorem Inv.tuple_inj(I:Inv X pins σ H s)(h:SqT X.K H a xs)(h':SqT X.K H a ys):xs=ys:=by
 obtain⟨its,r,⟨o,e,_,n,d⟩,_⟩:=I.tuple h
 obtain⟨its',r',⟨o',e',_,n',d'⟩,_⟩:=I.tuple h'
 rw[e]at e'; cases e'
 rw[d]at d'
 injection d' with d1 _
 have:its=its':=by simpa using congrArg Array.toList d1
 subst this
 exact r.inj r'
end
noncomputable abbrev Cx.wish(X:Cx)(E:Value→Shared→Prop):Cx:={ X with xe:=E }
noncomputable abbrev Cx.nox(X:Cx):Cx:=X.wish fun _ _=>False
theorem Cx.Ok.wish{X:Cx}(ok:X.Ok)(E:Value→Shared→Prop):(X.wish E).Ok :=
 ⟨ok.mod,ok.kind,ok.glob,ok.blt,ok.above,ok.inj,ok.has,ok.cab,ok.hd,ok.frames,ok.stk,ok.exf,ok.bs,ok.bsz,ok.noex,ok.exfs,ok.funs,ok.frf⟩
theorem Cx.Ok.unwish{X:Cx}{E:Value→Shared→Prop}(ok:(X.wish E).Ok):X.Ok :=
 ⟨ok.mod,ok.kind,ok.glob,ok.blt,ok.above,ok.inj,ok.has,ok.cab,ok.hd,ok.frames,ok.stk,ok.exf,ok.bs,ok.bsz,ok.noex,ok.exfs,ok.funs,ok.frf⟩
section
variable{X:Cx}{pins:List (Addr×Obj)}{σ:St}{H:Hp}{s:Shared}{E:Value→Shared→Prop}
theorem Inv.wish(I:Inv X pins σ H s)(E:Value→Shared→Prop):Inv (X.wish E) pins σ H s:=⟨I.ok.wish E,I.os,I.bare,I.base,I.loc,I.cell,I.free,I.freeC,I.pin,I.hok,I.len⟩
theorem Inv.unwish(I:Inv (X.wish E) pins σ H s):Inv X pins σ H s:=⟨I.ok.unwish,I.os,I.bare,I.base,I.loc,I.cell,I.free,I.freeC,I.pin,I.hok,I.len⟩
theorem SP.unwish{D:Ends}{f:Flow}{s':Shared}(h:SP (X.wish E) pins D f s'):SP X pins D f s':=by
 cases f with
 | next=>obtain⟨σ',H',I,q⟩:=h; exact⟨σ',H',I.unwish,q⟩
 | brk=>obtain⟨σ',H',I,q⟩:=h; exact⟨σ',H',I.unwish,q⟩
 | cont=>obtain⟨σ',H',I,q⟩:=h; exact⟨σ',H',I.unwish,q⟩
 | ret u=>obtain⟨v,σ',H',I,r,q⟩:=h; exact⟨v,σ',H',I.unwish,r,q⟩
theorem PE.nox{e:Expr}{t:TE}(h:PE X.nox e t):PE X e t:=fun pins s σ H Q I hw =>
 wpAny_mono (h pins s σ H Q (I.wish _) hw) (fun _ _ ⟨v,H',I',r,q⟩=>⟨v,H',I'.unwish,r,q⟩) fun _ _ z=>False.elim z
theorem PT.nox{e:Expr}{t:TT}(h:PT X.nox e t):PT X e t:=fun pins s σ H Q I hw =>
 wpAny_mono (h pins s σ H Q (I.wish _) hw) (fun _ _ ⟨H',I',q⟩=>⟨H',I'.unwish,q⟩) fun _ _ z=>False.elim z
theorem PSs.nox{st:List Stmt}{t:TS}(h:PSs X.nox st t):PSs X st t:=fun pins s σ H D I hw =>
 wpAny_mono (h pins s σ H D (I.wish _) hw) (fun _ _ q=>q.unwish) fun _ _ z=>False.elim z
end
section
variable{X:Cx}{st:Stmt}{rest:List Stmt}{t u:TS}{e:Expr}{te:TE}{pos:Pos}
def tNext:TS:=fun D σ H=>D.nx σ H
def tSeq(t u:TS):TS:=fun D σ H=>t { D with nx:=u D } σ H
theorem pss_nil:PSs X [] tNext:=fun _ _ σ H _ I h=>wpAny_execs_nil ⟨σ,H,I,h⟩
theorem pss_cons(h1:PS X st t)(h2:PSs X rest u):PSs X (st::rest) (tSeq t u):=by
 intro pins s σ H D I h
 refine wpAny_execs_cons (thn (h1 pins s σ H { D with nx:=u D } I h) fun f s1 q=>?_)
 cases f with
 | next =>
  obtain⟨σ',H',I',q⟩:=q
  exact h2 pins s1 σ' H' D I' q
 | ret v=>exact q
 | brk=>exact q
 | cont=>exact q
theorem pss_one(h1:PS X st t):PSs X [st] t:=by
 intro pins s σ H D I h
 refine wpAny_execs_cons (thn (h1 pins s σ H D I h) fun f s1 q=>?_)
 cases f with
 | next=>exact wpAny_execs_nil q
 | ret v=>exact q
 | brk=>exact q
 | cont=>exact q
theorem Inv.quiet{pins:List (Addr×Obj)}{σ:St}{H:Hp}{s:Shared}(I:Inv X pins σ H s):interactive X.env=false:=by simp[interactive,I.ok.kind]
def tDrop(te:TE):TS:=fun D σ H=>te σ H fun _ H1=>D.nx σ H1
theorem ps_expr(he:PE X e te)(hs:swapsWith e none pos.line X.env=pure false:=by rfl):PS X (.Expr e pos) (tDrop te):=by
 intro pins s σ H D I h
 exact wpAny_Expr_any (thn (he pins s σ H _ I h) fun v s1 ⟨x,H1,I1,r1,q1⟩=>⟨σ,H1,I1,q1⟩) I.quiet hs
def tRet(te:TE):TS:=fun D σ H=>te σ H D.rt
theorem ps_ret(he:PE X e te):PS X (.Return (some e) pos) (tRet te):=by
 intro pins s σ H D I h
 exact wpAny_Return_some (thn (he pins s σ H _ I h) fun v s1 ⟨x,H1,I1,r1,q1⟩=>⟨x,σ,H1,I1,r1,q1⟩)
def tIfS(c:TT)(t u:TS):TS:=fun D σ H=>c σ H fun b H1=>if b=true then t D σ H1 else u D σ H1
theorem ps_if{c:Expr}{a b:List Stmt}{tc:TT}(hc:PT X c tc)(ha:PSs X a t)(hb:PSs X b u):PS X (.If c a b pos) (tIfS tc t u):=by
 intro pins s σ H D I h
 refine wpAny_If (thn (hc pins s σ H _ I h) fun d s1 ⟨H1,I1,q1⟩=>?_)
 cases d with
 | true=>exact ha pins s1 σ H1 D I1 q1
 | false=>exact hb pins s1 σ H1 D I1 q1
end
noncomputable abbrev TG:=V→St→Hp→(St→Hp→Prop)→Prop
noncomputable abbrev TGs:=List V→St→Hp→(St→Hp→Prop)→Prop
def PG(X:Cx)(target:Expr)(t:TG):Prop :=
 ∀ (pins:List (Addr×Obj)) (s:Shared) (σ:St) (H:Hp) (v:V) (u:Value) (Q:St→Hp→Prop),Inv X pins σ H s→RelV v u→t v σ H Q →
  wpAny (model X.prog X.w) X.A (assign target X.env u) (fun _ s'=>∃ σ' H',Inv X pins σ' H' s'∧Q σ' H') X.xe s
def PGs(X:Cx)(ts:List Expr)(t:TGs):Prop :=
 ∀ (pins:List (Addr×Obj)) (s:Shared) (σ:St) (H:Hp) (vs:List V) (us:List Value) (Q:St→Hp→Prop),Inv X pins σ H s→Vals vs us→t vs σ H Q →
  wpAny (model X.prog X.w) X.A (assignInOrder ((assignEach ts X.env).map (·.2)) us) (fun _ s'=>∃ σ' H',Inv X pins σ' H' s'∧Q σ' H') X.xe s
section
variable{X:Cx}{pos:Pos}
def gName(i:Nat):TG:=fun v σ H Q=>Q (σ.set i (some v)) H
theorem pg_name{i:Nat}{x:Str}(hN:X.N.Nodup)(hi:X.N[i]?=some x)(hx:Loc X.env.scope x)(hf:X.fn x=true∨X.env.scope.names.lookup x=some .local:=by first | exact .inl rfl | exact .inr rfl | assumption):PG X (.Name x pos) (gName i):=by
 intro pins s σ H v u Q I r h
 exact wpAny_assign_Name (store_ok I hN hi hx r (fun s' I'=>⟨_,H,I',h⟩) hf)
def gNil:TGs:=fun vs σ H Q=>vs=[]∧Q σ H
def gCons(t:TG)(u:TGs):TGs:=fun vs σ H Q=>∃ v r,vs=v::r∧t v σ H fun σ' H'=>u r σ' H' Q
theorem pgs_nil:PGs X [] gNil:=by
 intro pins s σ H vs us Q I r h
 obtain⟨e,h⟩:=h
 subst e
 cases r
 exact assignInOrder_nil ⟨σ,H,I,h⟩
theorem pgs_cons{e:Expr}{es:List Expr}{t:TG}{u:TGs}(h1:PG X e t)(h2:PGs X es u)
  (hs:(assignEach (e::es) X.env).map (·.2)=assign e X.env::(assignEach es X.env).map (·.2):=by rfl):PGs X (e::es) (gCons t u):=by
 intro pins s σ H vs us Q I r h
 obtain⟨v,vr,e1,h⟩:=h
 subst e1
 cases r with
 | cons r rr =>
  rw[hs]
  refine assignInOrder_cons (thn (h1 pins s σ H _ _ _ I r h) fun _ s1 ⟨σ1,H1,I1,q1⟩=>?_)
  exact h2 pins s1 σ1 H1 _ _ Q I1 rr q1
def gTup(K:PySem.W.Frag)(n:Nat)(t:TGs):TG:=fun v σ H Q=>∃ a xs,v = .ref a∧SqT K H a xs∧xs.length=n∧t xs σ H Q
theorem pg_tup{es:List Expr}{k:Nat}{t:TGs}{n:Nat}(hc:X.calm=true)(h:PGs X es t)
  (hn:(assignEach es X.env).length=n:=by rfl) (hst:(assignEach es X.env).findIdx? (·.1)=none:=by rfl):PG X (.Tuple es k pos) (gTup X.K n t):=by
 intro pins s σ H v u Q I r hw
 obtain⟨a,xs,e1,hq,hl,hw⟩:=hw
 subst e1
 cases r
 obtain⟨its,rv,ht,hz⟩:=I.tuple hq
 refine assign_Tuple_tuple (I.ok.hd hc) ht (by simp[hn,← hl,rv.length]) hst fun h' hx=>?_
 have I1:Inv X pins σ H { s with heap:=h' }:=I.kept (t':=s.toks) fun b o e=>hx b o (Nat.ne_of_lt (Heap.lt_size e)) e
 exact h pins _ σ H xs _ Q I1 (by simpa using rv) hw
def tAsg(te:TE)(g:TG):TS:=fun D σ H=>te σ H fun x H1=>g x σ H1 D.nx
theorem ps_asg{tg e:Expr}{te:TE}{g:TG}(he:PE X e te)(hg:PG X tg g)(hs:swapsWithSole [tg] e pos.line X.env=pure false:=by rfl)(hw:swappedStores [tg] e X.env=pure none:=by rfl)
  (h1:(assignEach [tg] X.env).map (·.2)=[assign tg X.env]:=by rfl):PS X (.Assign [tg] e pos) (tAsg te g):=by
 intro pins s σ H D I h
 refine wpAny_Assign_stores (thn (he pins s σ H _ I h) fun v s1 ⟨x,H1,I1,r1,q1⟩=>?_) hs hw
 rw[h1]
 exact thn (hg pins s1 σ H1 x v _ I1 r1 q1) fun _ s2 q=>q
theorem ps_set{i:Nat}{x:Str}{e:Expr}{te:TE}{pos':Pos}(hN:X.N.Nodup)(hi:X.N[i]?=some x)(hx:Loc X.env.scope x)(he:PE X e te)(hs:swapsWith e (some (.Name x pos')) pos.line X.env=pure false:=by rfl)(hf:X.fn x=true∨X.env.scope.names.lookup x=some .local:=by first | exact .inl rfl | exact .inr rfl | assumption) :
  PS X (.Assign [.Name x pos'] e pos) (tAsg te (gName i)):=by
 intro pins s σ H D I h
 refine wpAny_Assign_Name (thn (he pins s σ H _ I h) fun v s1 ⟨y,H1,I1,r1,q1⟩=>?_) hs
 exact store_ok I1 hN hi hx r1 (fun s2 I2=>⟨_,H1,I2,q1⟩) hf
end
section
variable{X:Cx}{pos:Pos}
def tWhile(c:TT)(tb:TS):TS:=fun D σ H=>∃ W:Nat→St→Hp→Prop,(∃ m,W m σ H)∧∀ m σ H,W m σ H →
 c σ H fun b H1=>if b=true then ∃ N:St→Hp→Prop,(∀ σ' H',N σ' H'→∃ m',m'<m∧W m' σ' H')∧tb { D with nx:=N,ct:=N,bk:=D.nx } σ H1 else D.nx σ H1
theorem ps_while{c:Expr}{body:List Stmt}{tc:TT}{tb:TS}(hp:PassesOwn (model X.prog X.w) X.A X.env X.xe)(hc:PT X c tc)(hb:PSs X body tb):PS X (.While c body [] pos) (tWhile tc tb):=by
 intro pins s σ H D I h
 obtain⟨W,⟨m0,w0⟩,turn⟩:=h
 refine wpAny_While (codeAny_whileLoop (fun n s'=>∃ σ' H',Inv X pins σ' H' s'∧W n σ' H') ?_ m0 ⟨σ,H,I,w0⟩)
 rintro n s1 ⟨σ1,H1,I1,w1⟩
 refine wpAny_passesOwn hp (thn (hc pins s1 σ1 H1 _ I1 (turn n σ1 H1 w1)) fun b s2 ⟨H2,I2,q2⟩=>?_)
 cases b with
 | true =>
  obtain⟨N,hN,q2⟩:=q2
  rw[if_pos rfl]
  refine wpAny_passesOwn hp (thn (hb pins s2 σ1 H2 _ I2 q2) fun f s3 q3=>?_)
  cases f with
  | next =>
   obtain⟨σ3,H3,I3,n3⟩:=q3
   obtain⟨m',hm,w3⟩:=hN σ3 H3 n3
   exact⟨m',hm,σ3,H3,I3,w3⟩
  | cont =>
   obtain⟨σ3,H3,I3,n3⟩:=q3
   obtain⟨m',hm,w3⟩:=hN σ3 H3 n3
   exact⟨m',hm,σ3,H3,I3,w3⟩
  | brk=>exact q3
  | ret v=>exact q3
 | false =>
  rw[if_neg Bool.false_ne_true]
  exact wpAny_execs_nil ⟨σ1,H2,I2,q2⟩
end
structure It where
 go:Nat→Hp→Prop
 yld:Nat→Hp→V→Hp→Prop
 stop:Nat→Hp→Prop
def FpOk(X:Cx)(pins:List (Addr×Obj))(H:Hp)(b:Addr):Prop :=
 H b=none∧b≠X.env.locals∧b∉X.fs∧(b∈X.ex∨X.s₀.heap.objs.size≤b)∧(∀ x c,X.env.cells.lookup x=some c→c≠b)∧∀ p∈X.pn++pins,p.1≠b
theorem Inv.fpOk{X:Cx}{pins:List (Addr×Obj)}{σ:St}{H H':Hp}{s:Shared}{b:Addr}(I:Inv X pins σ H s)(hb:s.heap.objs.size≤b)(hn:H' b=none):FpOk X pins H' b:=by
 refine⟨hn,Nat.ne_of_gt (Nat.lt_of_lt_of_le I.lt hb),I.nofs hb,.inr (Nat.le_trans I.sz hb),fun x c e z=>?_,fun p hp z=>?_⟩
 ·obtain⟨v,q⟩:=I.cell x c e
  exact absurd (Nat.lt_of_lt_of_le q.lt (by rw[z]; exact hb)) (Nat.lt_irrefl _)
 ·exact absurd (Nat.lt_of_lt_of_le (Heap.lt_size (I.pin p hp).1) (by rw[z]; exact hb)) (Nat.lt_irrefl _)
structure Turn(P:Program)(w:World)(K:PySem.W.Frag)(tg:Expr)(J:It)(fp:List Addr)(it:Addr)(tn:Nat→Heap→Prop):Prop where
 mem:it∈fp
 obj:∀ i h,tn i h→∀ b∈fp,∃ o,h.get? b=some o∧∀ v,o.data≠.cell v
 keep:∀ i h h',tn i h→(∀ b∈fp,∀ o,h.get? b=some o→h'.get? b=some o)→tn i h'
 item:∀ (X:Cx),X.prog=P→X.w=w→X.K=K→X.calm=true→∀ (i:Nat) (pins:List (Addr×Obj)) (s:Shared) (σ:St) (H:Hp) (E:Value→Shared→Prop),Inv X pins σ H s→(∀ b∈fp,FpOk X pins H b)→tn i s.heap→J.go i H →
  wpAny (model P w) X.A (pyNext (.ref it)) (fun r s1=>∃ u,r=some u ∧
   wpAny (model P w) X.A (letOwnedTupleGo tg (.ref it) u) (fun _ s2=>∃ x H',Inv X pins σ H' s2∧RelV x u∧J.yld i H x H'∧tn (i+1) s2.heap∧∀ b∈fp,H' b=none) E s1) E s
 done:∀ (X:Cx),X.prog=P→X.w=w→X.K=K→X.calm=true→∀ (i:Nat) (pins:List (Addr×Obj)) (s:Shared) (σ:St) (H:Hp) (E:Value→Shared→Prop),Inv X pins σ H s→(∀ b∈fp,FpOk X pins H b)→tn i s.heap→J.stop i H →
  wpAny (model P w) X.A (pyNext (.ref it)) (fun r s1=>r=none∧Inv X pins σ H s1) E s
 self:∀ (A:Around) (i:Nat) (s:Shared) (Q:Value→Shared→Prop) (E:Value→Shared→Prop),tn i s.heap→Q (.ref it) s→wpAny (model P w) A (pyIter (.ref it)) Q E s
noncomputable abbrev TI:=St→Hp→(It→Hp→Prop)→Prop
def PIE(X:Cx)(pins:List (Addr×Obj))(σ:St)(tg:Expr)(R:It→Hp→Prop)(itv:Value)(s2:Shared):Prop :=
 ∃ (it:Addr) (fp:List Addr) (tn:Nat→Heap→Prop) (J:It) (H':Hp),itv = .ref it∧Inv X pins σ H' s2∧Turn X.prog X.w X.K tg J fp it tn∧tn 0 s2.heap∧(∀ b∈fp,FpOk X pins H' b)∧R J H'
def PI(X:Cx)(tg iter:Expr)(wi:TI):Prop :=
 ∀ (pins:List (Addr×Obj)) (s:Shared) (σ:St) (H:Hp) (R:It→Hp→Prop),Inv X pins σ H s→wi σ H R →
  wpAny (model X.prog X.w) X.A (eval iter X.env) (fun v s1=>wpAny (model X.prog X.w) X.A (pyIter v) (PIE X pins σ tg R) X.xe s1) X.xe s
theorem go_of{M:Model}{A:Around}{E:Value→Shared→Prop}{s:Shared}{tg:Expr}{it:Addr}{u:Value}{o:Obj}{n:String}{vs:Array Value}{Q:Unit→Shared→Prop}(ho:s.heap.get? it=some o)(hc:o.cls = .type n)(hd:o.data = .fields vs)
  (hn:["enumerate","zip","dict_itemiterator","dict_reverseitemiterator","odict_iterator","itertools.zip_longest","itertools.pairwise"].contains n=false) (hQ:Q () s):wpAny M A (letOwnedTupleGo tg (.ref it) u) Q E s:=by
 unfold letOwnedTupleGo
 cases tg <;> first
  | exact wpAny_pure hQ
  | (cases u <;> first
    | exact wpAny_pure hQ
    | (refine wpAny_bind (wpAny_load ho ?_)
       rw[hc,hd]
       show wpAny M A (if(["enumerate","zip","dict_itemiterator","dict_reverseitemiterator","odict_iterator","itertools.zip_longest","itertools.pairwise"].contains n && vs[0]? == some (rawInt _))=true then _ else _) Q E s
       rw[if_neg (by intro h; rw[hn,Bool.false_and]at h; cases h)]
       exact wpAny_pure hQ))
def Itl(K:PySem.W.Frag)(a:Addr):It :=
 ⟨fun i H=>∃ xs x,SqL K H a xs∧xs[i]?=some x,fun i H x H'=>H'=H∧∀ xs,SqL K H a xs→xs[i]?=some x,fun i H=>∃ xs,SqL K H a xs∧xs.length≤i⟩
def Itt(K:PySem.W.Frag)(a:Addr):It :=
 ⟨fun i H=>∃ xs x,SqT K H a xs∧xs[i]?=some x,fun i H x H'=>H'=H∧∀ xs,SqT K H a xs→xs[i]?=some x,fun i H=>∃ xs,SqT K H a xs∧xs.length≤i⟩
def Itr(lo:Int)(n:Nat):It:=⟨fun i _=>i<n,fun i H x H'=>H'=H∧x = .int (lo+i),fun i _=>n≤i⟩
theorem turn_list{P:Program}{w:World}{K:PySem.W.Frag}{tg:Expr}(a it:Addr):Turn P w K tg (Itl K a) [it] it (fun i h=>h.IsListIter it a i) where
 mem:=by simp
 obj:=fun i h st b hb=>by
  have e:b=it:=by simpa using hb
  subst e
  obtain⟨o,e,c,d⟩:=st
  exact⟨o,e,fun v z=>by rw[d]at z; cases z⟩
 keep:=fun i h h' st k=>st.at fun o e=>k it (by simp) o e
 item:=by
  intro X hP hw hK hc i pins s σ H E I hf st hg
  subst hP hw hK
  obtain⟨xs,x,hq,hx⟩:=hg
  obtain⟨its,rv,p,hz⟩:=I.list hq
  obtain⟨u,hu,ru⟩:=rv.get hx
  obtain⟨f0,f1,f2,f3,f4,f5⟩:=hf it (by simp)
  refine wpAny_pyNext_list_item st p.isList (x:=u) (by simpa using hu) fun h' st' sb=>?_
  have I1:Inv X pins σ H { s with heap:=h' }:=I.turned (t':=s.toks) (fun b o hb e=>(sb.2 b hb).trans e) f0 f1 f3 f4 f5
  obtain⟨o,e,c,d⟩:=id st'
  exact⟨u,rfl,go_of (s:={ s with heap:=h' }) e c d (by decide) ⟨x,H,I1,ru,⟨rfl,fun ys hy=>by rw[I.list_inj hy hq]; exact hx⟩,st',fun b hb=>(hf b hb).1⟩⟩
 done:=by
  intro X hP hw hK hc i pins s σ H E I hf st hg
  subst hP hw hK
  obtain⟨xs,hq,hx⟩:=hg
  obtain⟨its,rv,p,hz⟩:=I.list hq
  obtain⟨f0,f1,f2,f3,f4,f5⟩:=hf it (by simp)
  have hl:=rv.length
  exact wpAny_pyNext_list_end (I.ok.hd hc) st p.isList (by simp; ac_rfl) fun h' eb=>⟨rfl,I.turned (t':=s.toks) (fun b o hb e=>eb b o hb e) f0 f1 f3 f4 f5⟩
 self:=fun _ _ _ _ _ st h=>wpAny_pyIter_listiter st h
theorem turn_tuple{P:Program}{w:World}{K:PySem.W.Frag}{tg:Expr}(a it:Addr):Turn P w K tg (Itt K a) [it] it (fun i h=>h.IsTupleIter it a i) where
 mem:=by simp
 obj:=fun i h st b hb=>by
  have e:b=it:=by simpa using hb
  subst e
  obtain⟨o,e,c,d⟩:=st
  exact⟨o,e,fun v z=>by rw[d]at z; cases z⟩
 keep:=fun i h h' st k=>st.at fun o e=>k it (by simp) o e
 item:=by
  intro X hP hw hK hc i pins s σ H E I hf st hg
  subst hP hw hK
  obtain⟨xs,x,hq,hx⟩:=hg
  obtain⟨its,rv,p,hz⟩:=I.tuple hq
  obtain⟨u,hu,ru⟩:=rv.get hx
  obtain⟨f0,f1,f2,f3,f4,f5⟩:=hf it (by simp)
  refine wpAny_pyNext_tuple_item st (show s.heap.IsTuple a its.toArray from p) (x:=u) (by simpa using hu) fun h' st' sb=>?_
  have I1:Inv X pins σ H { s with heap:=h' }:=I.turned (t':=s.toks) (fun b o hb e=>(sb.2 b hb).trans e) f0 f1 f3 f4 f5
  obtain⟨o,e,c,d⟩:=id st'
  exact⟨u,rfl,go_of (s:={ s with heap:=h' }) e c d (by decide) ⟨x,H,I1,ru,⟨rfl,fun ys hy=>by rw[I.tuple_inj hy hq]; exact hx⟩,st',fun b hb=>(hf b hb).1⟩⟩
 done:=by
  intro X hP hw hK hc i pins s σ H E I hf st hg
  subst hP hw hK
  obtain⟨xs,hq,hx⟩:=hg
  obtain⟨its,rv,p,hz⟩:=I.tuple hq
  obtain⟨f0,f1,f2,f3,f4,f5⟩:=hf it (by simp)
  have hl:=rv.length
  exact wpAny_pyNext_tuple_end (I.ok.hd hc) st (show s.heap.IsTuple a its.toArray from p) (by simp; ac_rfl) fun h' eb=>⟨rfl,I.turned (t':=s.toks) (fun b o hb e=>eb b o hb e) f0 f1 f3 f4 f5⟩
 self:=fun _ _ _ _ _ st h=>wpAny_pyIter_tupleiter st h
theorem turn_range{P:Program}{w:World}{K:PySem.W.Frag}{tg:Expr}(it:Addr)(lo:Int)(n:Nat):Turn P w K tg (Itr lo n) [it] it (fun i h=>IsRangeIter h it (lo+(i:Nat) * 1) ((n:Int)-(i:Nat)) 1) where
 mem:=by simp
 obj:=fun i h st b hb=>by
  have e:b=it:=by simpa using hb
  subst e
  exact⟨_,st,fun v z=>by
   have z':Data.fields _=Data.cell v:=z
   cases z'⟩
 keep:=fun i h h' st k=>k it (by simp) _ st
 item:=by
  intro X hP hw hK hc i pins s σ H E I hf st hg
  subst hP hw hK
  obtain⟨f0,f1,f2,f3,f4,f5⟩:=hf it (by simp)
  have W:=Walks.range (prog:=X.prog) (w:=X.w) (I.ok.hd hc) it lo 1 n
  refine W.item i s _ _ hg st fun v h' tk hv st' kk=>?_
  obtain⟨t,rfl⟩:=hv
  have I1:Inv X pins σ H { s with heap:=h',toks:=tk }:=I.turned (fun b o hb e=>kk b o (by simpa using hb) e) f0 f1 f3 f4 f5
  refine⟨_,rfl,go_of (s:={ s with heap:=h',toks:=tk }) (n:="range_iterator") st' rfl rfl (by decide) ⟨.int (lo+i),H,I1,⟨t,?_⟩,⟨rfl,rfl⟩,st',fun b hb=>(hf b hb).1⟩⟩
  rw[Int.mul_one]
 done:=by
  intro X hP hw hK hc i pins s σ H E I hf st hg
  subst hP hw hK
  obtain⟨f0,f1,f2,f3,f4,f5⟩:=hf it (by simp)
  exact wpAny_pyNext_range_end (I.ok.hd hc) st (by have:n≤i:=hg; ac_rfl) fun h' eb=>⟨rfl,I.turned (t':=s.toks) (fun b o hb e=>eb b o hb e) f0 f1 f3 f4 f5⟩
 self:=fun _ _ _ _ _ st h=>wpAny_pyIter_rangeiter st h
end L2
namespace L2
open PySem PySem.Spec PyProof.Rows
section
variable{X:Cx}{tg:Expr}
theorem range_it{pins:List (Addr×Obj)}{σ:St}{H:Hp}{s:Shared}{R:It→Hp→Prop}{E:Value→Shared→Prop}{lo hi:Int}{t u v:Tok}{tk:Nat}(I:Inv X pins σ H s)(h1 : -(2 ^ 62)≤lo)(h2:lo<2 ^ 62)(h3 : -(2 ^ 62)≤hi)(h4:hi<2 ^ 62)
  (q:R (Itr lo (hi-lo).toNat) H):wpAny (model X.prog X.w) X.A (pyIter (.ref s.heap.objs.size)) (PIE X pins σ tg R) E { s with heap:=s.heap.push { cls:=.type "range",data:=.fields #[.int lo t,.int hi u,.int 1 v] },toks:=tk }:=by
 refine wpAny_pyIter_range (IsRange.new ..) (small_one h1 h2 h3 h4) ?_
 have I1:Inv X pins σ H { s with heap:=s.heap.push { cls:=.type "range",data:=.fields #[.int lo t,.int hi u,.int 1 v] },toks:=tk }:=I.kept fun b o e=>Heap.get?_push_of_some _ e
 refine⟨(s.heap.push { cls:=.type "range",data:=.fields #[.int lo t,.int hi u,.int 1 v] }).objs.size,[(s.heap.push { cls:=.type "range",data:=.fields #[.int lo t,.int hi u,.int 1 v] }).objs.size],_,_,H,rfl,
  I1.kept (t':=tk) fun b o e=>Heap.get?_push_of_some _ e,turn_range _ lo (hi-lo).toNat,?_,fun b hb=>?_,q⟩
 ·have e1:lo+((0:Nat):Int) * 1=lo:=by simp
  have e2:(((hi-lo).toNat:Nat):Int)-((0:Nat):Int)=Builtin.Range.rangeSize lo hi 1:=by rw[rangeSize_one]; split <;> ac_rfl
  show IsRangeIter _ _ (lo+((0:Nat):Int) * 1) ((((hi-lo).toNat:Nat):Int)-((0:Nat):Int)) 1
  rw[e1,e2]
  exact Heap.get?_push_size _ rfl
 ·have e:b=(s.heap.push { cls:=.type "range",data:=.fields #[.int lo t,.int hi u,.int 1 v] }).objs.size:=by simpa using hb
  subst e
  exact I1.fpOk (Nat.le_refl _) (I1.hok.fresh (Nat.le_refl _))
def iRng1(ta:TA):TI:=fun σ H R=>ta σ H fun vs H1=>∃ j:Int,vs=[.int j]∧-(2 ^ 62)≤j∧j<2 ^ 62∧R (Itr 0 j.toNat) H1
def iRng2(ta:TA):TI:=fun σ H R=>ta σ H fun vs H1=>∃ i j:Int,vs=[.int i,.int j]∧(-(2 ^ 62)≤i∧i<2 ^ 62∧-(2 ^ 62)≤j∧j<2 ^ 62)∧R (Itr i (j-i).toNat) H1
theorem pi_range1{a:Expr}{ta:TA}{p pos:Pos}(hg:Gl X "range")(hm:X.mg "range" = none)(ha:PA X [a] ta)(hs:starEach [a] X.env=[(false,eval a X.env)]:=by rfl):PI X tg (.Call (.Name "range" p) [a] [] pos) (iRng1 ta):=by
 intro pins s σ H R I h
 refine Call_ (ld_blt I hg hm boot_range (PyProof.Rows.callWith_type1 (thn (ha pos pins s σ H _ I h) fun us s1 ⟨vs,H1,I1,r1,q1⟩=>?_) hs rfl))
 obtain⟨j,e,q1,q2,q⟩:=q1
 subst e
 cases r1 with
 | cons r rr =>
  cases rr
  obtain⟨t,rfl⟩:=r
  exact call_range_1 (range_it I1 (by ac_rfl) (by ac_rfl) q1 q2 (by simpa using q))
theorem pi_range2{a b:Expr}{ta:TA}{p pos:Pos}(hg:Gl X "range")(hm:X.mg "range" = none)(ha:PA X [a,b] ta)(hs:starEach [a,b] X.env=[(false,eval a X.env),(false,eval b X.env)]:=by rfl)(hs2:starEach [b] X.env=[(false,eval b X.env)]:=by rfl) :
  PI X tg (.Call (.Name "range" p) [a,b] [] pos) (iRng2 ta):=by
 intro pins s σ H R I h
 refine Call_ (ld_blt I hg hm boot_range (PyProof.Rows.callWith_type1 (thn (ha pos pins s σ H _ I h) fun us s1 ⟨vs,H1,I1,r1,q1⟩=>?_) (by rw[hs,hs2]) (by rw[hs2]; rfl)))
 obtain⟨i,j,e,⟨q1,q2,q3,q4⟩,q⟩:=q1
 subst e
 cases r1 with
 | cons r rr =>
  cases rr with
  | cons r' rr =>
   cases rr
   obtain⟨t,rfl⟩:=r
   obtain⟨t',rfl⟩:=r'
   exact call_range_2 (range_it I1 q1 q2 q3 q4 q)
def tFor(wi:TI)(g:TG)(tb:TS):TS:=fun D σ H=>wi σ H fun J H1=>∃ W:Nat→Nat→St→Hp→Prop,(∃ m,W 0 m σ H1)∧∀ i m σ H,W i m σ H →
 (J.stop i H∧D.nx σ H)∨(J.go i H∧∃ N:St→Hp→Prop,(∀ σ' H',N σ' H'→∃ m',m'<m∧W (i+1) m' σ' H')∧∀ x H',J.yld i H x H'→g x σ H' fun σ2 H2=>tb { D with nx:=N,ct:=N,bk:=D.nx } σ2 H2)
def pinsAt(fp:List Addr)(h:Heap):List (Addr×Obj):=fp.filterMap fun b=>(h.get? b).map fun o=>(b,o)
theorem mem_pinsAt{fp:List Addr}{h:Heap}{b:Addr}{o:Obj}(hb:b∈fp)(e:h.get? b=some o):(b,o)∈pinsAt fp h:=List.mem_filterMap.mpr ⟨b,hb,by rw[e]; rfl⟩
theorem of_pinsAt{fp:List Addr}{h:Heap}{p:Addr×Obj}(hp:p∈pinsAt fp h):p.1∈fp∧h.get? p.1=some p.2:=by
 obtain⟨b,hb,e⟩:=List.mem_filterMap.mp hp
 cases q:h.get? b with
 | none=>rw[q]at e; cases e
 | some o =>
  rw[q]at e
  have e':(b,o)=p:=Option.some.inj e
  subst e'
  exact⟨hb,q⟩
theorem Inv.pinned{pins:List (Addr×Obj)}{σ:St}{H:Hp}{s:Shared}{fp:List Addr}(I:Inv X pins σ H s)(hf:∀ b∈fp,FpOk X pins H b)(ho:∀ b∈fp,∃ o,s.heap.get? b=some o∧∀ v,o.data≠.cell v):Inv X (pins++pinsAt fp s.heap) σ H s :=
 I.pins_of fun p hp=>(List.mem_append.mp hp).elim (fun z=>I.pin p (List.mem_append_right _ z)) fun z=>by
  obtain⟨hb,e⟩:=of_pinsAt z
  obtain⟨f0,f1,f2,_⟩:=hf p.1 hb
  obtain⟨o,e',d⟩:=ho p.1 hb
  rw[e]at e'; cases e'
  exact⟨e,f0,f1,f2,d⟩
theorem Inv.unpinned{pins pl:List (Addr×Obj)}{σ:St}{H:Hp}{s:Shared}(I:Inv X (pins++pl) σ H s):Inv X pins σ H s:=I.pins_of fun p hp=>I.pin p (List.mem_append_right _ (List.mem_append_left _ hp))
theorem ps_for{iter:Expr}{body:List Stmt}{wi:TI}{g:TG}{tb:TS}{pos:Pos}(hp:PassesOwn (model X.prog X.w) X.A X.env X.xe)(hc:X.calm=true)(hi:PI X tg iter wi)(hg:PG X tg g)(hb:PSs X body tb)
  (hs:∀ x,foldedSetIterable iter X.env x=pure x:=by intro _; rfl):PS X (.For tg iter body [] pos) (tFor wi g tb):=by
 intro pins s σ H D I h
 refine wpAny_For (thn (hi pins s σ H _ I h) fun v s1 h1=>thn h1 fun itv s2 h2=>?_) hs
 obtain⟨it,fp,tn,J,H2,e,I2,T,st2,f2,W,⟨m0,w0⟩,turn⟩:=h2
 subst e
 -- what stays true of the iterator's objects through the loop
 have stat:∀ {H':Hp},(∀ b∈fp,H' b=none)→∀ b∈fp,FpOk X pins H' b:=fun hn b hb=>⟨hn b hb,(f2 b hb).2⟩
 refine codeAny_forLoop_any (fun n s'=>∃ i σ' H',Inv X pins σ' H' s'∧tn i s'.heap∧(∀ b∈fp,H' b=none)∧W i n σ' H') ?_ m0 ⟨0,σ,H2,I2,st2,fun b hb=>(f2 b hb).1,w0⟩
 rintro n s3 ⟨i,σ3,H3,I3,st3,fr3,w3⟩
 rcases turn i n σ3 H3 w3 with⟨stop,qn⟩ | ⟨go,N,hN,step⟩
 ·refine wpAny_passesOwn hp (thn (T.done X rfl rfl rfl hc i pins s3 σ3 H3 X.xe I3 (stat fr3) st3 stop) fun r s4 ⟨hr,I4⟩=>?_)
  subst hr
  exact wpAny_execs_nil ⟨σ3,H3,I4,qn⟩
 ·refine wpAny_passesOwn hp (thn (T.item X rfl rfl rfl hc i pins s3 σ3 H3 X.xe I3 (stat fr3) st3 go) fun r s4 ⟨u,hr,h4⟩=>?_)
  subst hr
  refine wpAny_passesOwn hp (thn h4 fun _ s5 ⟨x,H5,I5,r5,y5,st5,fr5⟩=>?_)
  have I5':=I5.pinned (stat fr5) (T.obj _ _ st5)
  refine wpAny_passesOwn hp (thn (hg _ s5 σ3 H5 x u _ I5' r5 (step x H5 y5)) fun _ s6 ⟨σ6,H6,I6,q6⟩=>?_)
  refine wpAny_passesOwn hp (thn (hb _ s6 σ6 H6 _ I6 q6) fun f s7 q7=>?_)
  have again:∀ {σ7:St} {H7:Hp},Inv X (pins++pinsAt fp s5.heap) σ7 H7 s7→N σ7 H7→∃ m,m<n∧∃ i σ' H',Inv X pins σ' H' s7∧tn i s7.heap∧(∀ b∈fp,H' b=none)∧W i m σ' H':=fun {σ7 H7} I7 n7=>by
   obtain⟨m',hm,w7⟩:=hN σ7 H7 n7
   refine⟨m',hm,i+1,σ7,H7,I7.unpinned,T.keep _ _ _ st5 fun b hb o e=>(I7.pin (b,o) (List.mem_append_right _ (List.mem_append_right _ (mem_pinsAt hb e)))).1,fun b hb=>?_,w7⟩
   obtain⟨o,e,d⟩:=T.obj _ _ st5 b hb
   exact(I7.pin (b,o) (List.mem_append_right _ (List.mem_append_right _ (mem_pinsAt hb e)))).2.1
  cases f with
  | next=>obtain⟨σ7,H7,I7,n7⟩:=q7; exact again I7 n7
  | cont=>obtain⟨σ7,H7,I7,n7⟩:=q7; exact again I7 n7
  | brk=>obtain⟨σ7,H7,I7,q7⟩:=q7; exact⟨σ7,H7,I7.unpinned,q7⟩
  | ret v=>obtain⟨x7,σ7,H7,I7,r7,q7⟩:=q7; exact⟨x7,σ7,H7,I7.unpinned,r7,q7⟩
end
end L2
namespace L2
open PySem PySem.Spec PyProof.Rows
noncomputable abbrev R2:=V→V→Hp→VK→Prop
def OpR(X:Cx)(f:Value→Value→Sem Value)(r:R2):Prop :=
 ∀ (pins:List (Addr×Obj)) (s:Shared) (σ:St) (H:Hp) (x y:V) (v u:Value) (Q:VK),Inv X pins σ H s→RelV x v→RelV y u→r x y H Q →
  wpAny (model X.prog X.w) X.A (f v u) (EP X pins σ Q) X.xe s
def UnR(X:Cx)(f:Value→Sem Value)(r:V→Hp→VK→Prop):Prop :=
 ∀ (pins:List (Addr×Obj)) (s:Shared) (σ:St) (H:Hp) (x:V) (v:Value) (Q:VK),Inv X pins σ H s→RelV x v→r x H Q →
  wpAny (model X.prog X.w) X.A (f v) (EP X pins σ Q) X.xe s
def CallR(X:Cx)(f:Value)(r:List V→Hp→VK→Prop):Prop :=
 ∀ (pins:List (Addr×Obj)) (s:Shared) (σ:St) (H:Hp) (xs:List V) (us:List Value) (Q:VK),Inv X pins σ H s→Vals xs us→r xs H Q →
  wpAny (model X.prog X.w) X.A (call f us) (EP X pins σ Q) X.xe s
def tOp(r:R2)(ta tb:TE):TE:=fun σ H Q=>ta σ H fun x H1=>tb σ H1 fun y H2=>r x y H2 Q
def tUn(r:V→Hp→VK→Prop)(ta:TE):TE:=fun σ H Q=>ta σ H fun x H1=>r x H1 Q
def rI(C:Int→Int→Prop)(g:Int→Int→V):R2:=fun x y H Q=>∃ i j,x = .int i∧y = .int j∧C i j∧Q (g i j) H
def rI0(g:Int→Int→V):R2:=fun x y H Q=>∃ i j,x = .int i∧y = .int j∧Q (g i j) H
def rU(g:Int→V):V→Hp→VK→Prop:=fun x H Q=>∃ i,x = .int i∧Q (g i) H
section
variable{X:Cx}{a b c:Expr}{ta tb tc:TE}{pos:Pos}
theorem binT(ha:PE X a ta)(hb:PE X b tb){pins:List (Addr×Obj)}{s:Shared}{σ:St}{H:Hp}{R:V→V→Hp→Prop}(I:Inv X pins σ H s)
  (h:ta σ H fun x H1=>tb σ H1 fun y H2=>R x y H2) {Q:Value→Shared→Prop} {f:Value→Value→Sem Value}
  (hf:∀ v u s2 x y H2,Inv X pins σ H2 s2→RelV x v→RelV y u→R x y H2→wpAny (model X.prog X.w) X.A (f v u) Q X.xe s2) :
  wpAny (model X.prog X.w) X.A (eval a X.env) (fun v s₁=>wpAny (model X.prog X.w) X.A (eval b X.env) (fun u s₂=>wpAny (model X.prog X.w) X.A (f v u) Q X.xe s₂) X.xe s₁) X.xe s:=by
 refine thn (ha pins s σ H _ I h) fun v s1 ⟨x,H1,I1,r1,q1⟩=>?_
 refine thn (hb pins s1 σ H1 _ I1 q1) fun u s2 ⟨y,H2,I2,r2,q2⟩=>?_
 exact hf v u s2 x y H2 I2 r1 r2 q2
theorem pe_op{op:Operator}{r:R2}(ho:OpR X (binaryOp op) r)(ha:PE X a ta)(hb:PE X b tb):PE X (.BinOp a op b pos) (tOp r ta tb):=by
 intro pins s σ H Q I h
 exact wpAny_BinOp (binT ha hb I h fun v u s2 x y H2 I2 rx ry q=>ho pins s2 σ H2 x y v u Q I2 rx ry q)
theorem pe_un{op:UnaryOp}{r:V→Hp→VK→Prop}(ho:UnR X (unaryOp op) r)(ha:PE X a ta):PE X (.UnaryOp op a pos) (tUn r ta):=by
 intro pins s σ H Q I h
 exact UnaryOp_ (thn (ha pins s σ H _ I h) fun v s1 ⟨x,H1,I1,r1,q1⟩=>ho pins s1 σ H1 x v Q I1 r1 q1)
theorem opI{f:Value→Value→Sem Value}{C:Int→Int→Prop}{g:Int→Int→Int}
  (rule:∀ (i j:Int) (t u:Tok) (s:Shared) (Q:Value→Shared→Prop) (E:Value→Shared→Prop),C i j→Q (.int (g i j) s.toks) { s with toks:=s.toks+1 }→wpAny (model X.prog X.w) X.A (f (.int i t) (.int j u)) Q E s) :
  OpR X f (rI C fun i j=>.int (g i j)):=by
 intro pins s σ H x y v u Q I rx ry h
 obtain⟨i,j,rfl,rfl,hc,q⟩:=h
 obtain⟨t,rfl⟩:=rx
 obtain⟨t',rfl⟩:=ry
 exact rule i j t t' s _ _ hc ⟨.int (g i j),H,I.tok _,⟨_,rfl⟩,q⟩
theorem opI0{f:Value→Value→Sem Value}{g:Int→Int→Int}
  (rule:∀ (i j:Int) (t u:Tok) (s:Shared) (Q:Value→Shared→Prop) (E:Value→Shared→Prop),Q (.int (g i j) s.toks) { s with toks:=s.toks+1 }→wpAny (model X.prog X.w) X.A (f (.int i t) (.int j u)) Q E s) :
  OpR X f (rI0 fun i j=>.int (g i j)):=by
 intro pins s σ H x y v u Q I rx ry h
 obtain⟨i,j,rfl,rfl,q⟩:=h
 obtain⟨t,rfl⟩:=rx
 obtain⟨t',rfl⟩:=ry
 exact rule i j t t' s _ _ ⟨.int (g i j),H,I.tok _,⟨_,rfl⟩,q⟩
theorem opB0{f:Value→Value→Sem Value}{g:Int→Int→Bool}
  (rule:∀ (i j:Int) (t u:Tok) (s:Shared) (Q:Value→Shared→Prop) (E:Value→Shared→Prop),Q (.bool (g i j)) s→wpAny (model X.prog X.w) X.A (f (.int i t) (.int j u)) Q E s) :
  OpR X f (rI0 fun i j=>.bl (g i j)):=by
 intro pins s σ H x y v u Q I rx ry h
 obtain⟨i,j,rfl,rfl,q⟩:=h
 obtain⟨t,rfl⟩:=rx
 obtain⟨t',rfl⟩:=ry
 exact rule i j t t' s _ _ ⟨.bl (g i j),H,I,rfl,q⟩
def CPow(i j:Int):Prop:=0≤j∧j≤1000000∧i.natAbs<2 ^ 64
def CMul(i j:Int):Prop:=(-(2 ^ 64)<i∧i<2 ^ 64)∨(-(2 ^ 64)<j∧j<2 ^ 64)
theorem CMul.ok{i j:Int}(h:CMul i j):IntMulOk i j:=by
 rcases h with⟨h1,h2⟩ | ⟨h1,h2⟩
 ·exact .of_left (intBits_le_64 h1 h2)
 ·exact .of_right (intBits_le_64 h1 h2)
theorem op_add:OpR X (binaryOp .Add) (rI0 fun i j=>.int (i+j)):=opI0 fun _ _ _ _ _ _ _ q=>add_int q
theorem op_sub:OpR X (binaryOp .Sub) (rI0 fun i j=>.int (i-j)):=opI0 fun _ _ _ _ _ _ _ q=>sub_int q
theorem op_mul:OpR X (binaryOp .Mult) (rI CMul fun i j=>.int (i * j)):=opI fun _ _ _ _ _ _ _ hc q=>mul_int q hc.ok
theorem op_mod:OpR X (binaryOp .Mod) (rI (fun _ j=>0<j) fun i j=>.int (i % j)):=opI fun i j _ _ _ _ _ hc q=>by
 have h1:(0:Int)<j:=hc
 exact mod_int' (by ac_rfl) (by rw[Int.fmod_eq_emod_of_nonneg i (by ac_rfl)]; exact q)
theorem op_pow:OpR X (binaryOp .Pow) (rI CPow fun i j=>.int (i ^ j.toNat)):=opI fun _ _ _ _ _ _ _ hc q=>pow_int_small hc.1 hc.2.1 hc.2.2 q
theorem unI{f:Value→Sem Value}{g:Int→Int}
  (rule:∀ (i:Int) (t:Tok) (s:Shared) (Q:Value→Shared→Prop) (E:Value→Shared→Prop),Q (.int (g i) s.toks) { s with toks:=s.toks+1 }→wpAny (model X.prog X.w) X.A (f (.int i t)) Q E s) :
  UnR X f (rU fun i=>.int (g i)):=by
 intro pins s σ H x v Q I rx h
 obtain⟨i,rfl,q⟩:=h
 obtain⟨t,rfl⟩:=rx
 exact rule i t s _ _ ⟨.int (g i),H,I.tok _,⟨_,rfl⟩,q⟩
theorem un_neg:UnR X (unaryOp .USub) (rU fun i=>.int (-i)):=unI fun _ _ _ _ _ q=>neg_int q
end
def scal:V→V→Bool
 | .non,.non=>true | .non,.int _=>true | .int _,.non=>true | .non,.bl _=>true | .bl _,.non=>true | .non,.str _=>true | .str _,.non=>true
 | .int _,.int _=>true | .bl _,.bl _=>true | .str _,.str _=>true | .byt _,.byt _=>true
 | .int _,.str _=>true | .str _,.int _=>true | .bl _,.str _=>true | .str _,.bl _=>true
 | _,_=>false
def rEq:R2:=fun x y H Q=>scal x y=true∧Q (.bl (decide (x=y))) H
def rNe:R2:=fun x y H Q=>scal x y=true∧Q (.bl (!decide (x=y))) H
theorem dec_int{i j:Int}:decide (V.int i=V.int j)=(i == j):=by
 rw[Bool.eq_iff_iff]
 simp
theorem dec_bl{i j:Bool}:decide (V.bl i=V.bl j)=(i == j):=by
 rw[Bool.eq_iff_iff]
 simp
theorem dec_str{i j:Str}:decide (V.str i=V.str j)=(i == j):=by
 rw[Bool.eq_iff_iff]
 simp
theorem dec_byt{i j:Array UInt8}:decide (V.byt i=V.byt j)=(i.toList == j.toList):=by
 rw[Bool.eq_iff_iff]
 cases i
 cases j
 simp
section
variable{X:Cx}{a b c:Expr}{ta tb tc:TE}{pos:Pos}
theorem fin_bl{pins:List (Addr×Obj)}{σ:St}{H:Hp}{s:Shared}{Q:VK}{k k':Bool}(I:Inv X pins σ H s)(q:Q (.bl k) H)(e:k=k'):EP X pins σ Q (.bool k') s:=by
 subst e
 exact⟨.bl k,H,I,rfl,q⟩
theorem op_eq:OpR X (compareOp .Eq) rEq:=by
 intro pins s σ H x y v u Q I rx ry h
 obtain⟨hs,q⟩:=h
 cases x with
 | non =>
  cases rx
  cases y with
  | non=>cases ry; exact PySem.EqNone.eq_none_none (fin_bl I q (by simp))
  | bl j=>cases ry; exact PySem.EqNone.eq_none_bool (fin_bl I q (by simp))
  | int j=>obtain⟨t',rfl⟩:=ry; exact PySem.EqNone.eq_none_int (fin_bl I q (by simp))
  | str j=>obtain⟨t',rfl⟩:=ry; exact PySem.EqNone.eq_none_str (fin_bl I q (by simp))
  | _=>exact absurd (show false=true from hs) Bool.false_ne_true
 | bl i =>
  cases rx
  cases y with
  | non=>cases ry; exact PySem.EqNone.eq_bool_none (fin_bl I q (by simp))
  | bl j=>cases ry; exact eq_bool (fin_bl I q dec_bl)
  | str j=>obtain⟨t',rfl⟩:=ry; exact PySem.EqMixed.eq_bool_str (fin_bl I q (by simp))
  | _=>exact absurd (show false=true from hs) Bool.false_ne_true
 | int i =>
  obtain⟨t,rfl⟩:=rx
  cases y with
  | non=>cases ry; exact PySem.EqNone.eq_int_none (fin_bl I q (by simp))
  | int j=>obtain⟨t',rfl⟩:=ry; exact eq_int (fin_bl I q dec_int)
  | str j=>obtain⟨t',rfl⟩:=ry; exact PySem.EqMixed.eq_int_str (fin_bl I q (by simp))
  | _=>exact absurd (show false=true from hs) Bool.false_ne_true
 | str i =>
  obtain⟨t,rfl⟩:=rx
  cases y with
  | non=>cases ry; exact PySem.EqNone.eq_str_none (fin_bl I q (by simp))
  | bl j=>cases ry; exact PySem.EqMixed.eq_str_bool (fin_bl I q (by simp))
  | int j=>obtain⟨t',rfl⟩:=ry; exact PySem.EqMixed.eq_str_int (fin_bl I q (by simp))
  | str j=>obtain⟨t',rfl⟩:=ry; exact eq_str (fin_bl I q dec_str)
  | _=>exact absurd (show false=true from hs) Bool.false_ne_true
 | byt i =>
  obtain⟨t,rfl⟩:=rx
  cases y with
  | byt j=>obtain⟨t',rfl⟩:=ry; exact PySem.W.eq_bytes (fin_bl I q dec_byt)
  | _=>exact absurd (show false=true from hs) Bool.false_ne_true
 | _=>cases y <;> exact absurd (show false=true from hs) Bool.false_ne_true
theorem op_ne:OpR X (compareOp .NotEq) rNe:=by
 intro pins s σ H x y v u Q I rx ry h
 obtain⟨hs,q⟩:=h
 cases x with
 | non =>
  cases rx
  cases y with
  | non=>cases ry; exact PySem.EqNone.ne_none_none (fin_bl I q (by simp))
  | bl j=>cases ry; exact PySem.EqNone.ne_none_bool (fin_bl I q (by simp))
  | int j=>obtain⟨t',rfl⟩:=ry; exact PySem.EqNone.ne_none_int (fin_bl I q (by simp))
  | str j=>obtain⟨t',rfl⟩:=ry; exact PySem.EqNone.ne_none_str (fin_bl I q (by simp))
  | _=>exact absurd (show false=true from hs) Bool.false_ne_true
 | bl i =>
  cases rx
  cases y with
  | non=>cases ry; exact PySem.EqNone.ne_bool_none (fin_bl I q (by simp))
  | bl j=>cases ry; exact ne_bool (fin_bl I q (congrArg not dec_bl))
  | str j=>obtain⟨t',rfl⟩:=ry; exact PySem.EqMixed.ne_bool_str (fin_bl I q (by simp))
  | _=>exact absurd (show false=true from hs) Bool.false_ne_true
 | int i =>
  obtain⟨t,rfl⟩:=rx
  cases y with
  | non=>cases ry; exact PySem.EqNone.ne_int_none (fin_bl I q (by simp))
  | int j=>obtain⟨t',rfl⟩:=ry; exact ne_int (fin_bl I q (congrArg not dec_int))
  | str j=>obtain⟨t',rfl⟩:=ry; exact PySem.EqMixed.ne_int_str (fin_bl I q (by simp))
  | _=>exact absurd (show false=true from hs) Bool.false_ne_true
 | str i =>
  obtain⟨t,rfl⟩:=rx
  cases y with
  | non=>cases ry; exact PySem.EqNone.ne_str_none (fin_bl I q (by simp))
  | bl j=>cases ry; exact PySem.EqMixed.ne_str_bool (fin_bl I q (by simp))
  | int j=>obtain⟨t',rfl⟩:=ry; exact PySem.EqMixed.ne_str_int (fin_bl I q (by simp))
  | str j=>obtain⟨t',rfl⟩:=ry; exact ne_str (fin_bl I q (congrArg not dec_str))
  | _=>exact absurd (show false=true from hs) Bool.false_ne_true
 | byt i =>
  obtain⟨t,rfl⟩:=rx
  cases y with
  | byt j=>obtain⟨t',rfl⟩:=ry; exact PySem.W.ne_bytes (fin_bl I q (congrArg not dec_byt))
  | _=>exact absurd (show false=true from hs) Bool.false_ne_true
 | _=>cases y <;> exact absurd (show false=true from hs) Bool.false_ne_true
theorem op_lt:OpR X (compareOp .Lt) (rI0 fun i j=>.bl (decide (i<j))):=opB0 fun _ _ _ _ _ _ _ q=>lt_int q
theorem op_le:OpR X (compareOp .LtE) (rI0 fun i j=>.bl (decide (i≤j))):=opB0 fun _ _ _ _ _ _ _ q=>le_int q
theorem op_in_str:OpR X (compareOp .In) (fun x y H Q=>∃ i j,x = .str i∧y = .str j∧Q (.bl (!(Builtin.Str.occurrences j i 0 j.length 1).isEmpty)) H):=by
 intro pins s σ H x y v u Q I rx ry h
 obtain⟨i,j,rfl,rfl,q⟩:=h
 obtain⟨t,rfl⟩:=rx
 obtain⟨t',rfl⟩:=ry
 exact in_str (fin_bl I q rfl)
theorem OpR.or{f:Value→Value→Sem Value}{r r':R2}(h:OpR X f r)(h':OpR X f r'):OpR X f (fun x y H Q=>r x y H Q∨r' x y H Q):=by
 intro pins s σ H x y v u Q I rx ry q
 rcases q with q | q
 ·exact h pins s σ H x y v u Q I rx ry q
 ·exact h' pins s σ H x y v u Q I rx ry q
theorem pe_cmpR{op:CmpOp}{r:R2}(ho:OpR X (compareOp op) r)(ha:PE X a ta)(hb:PE X b tb)(hm:behindInMarks op b=false):PE X (.Compare a [op] [b] pos) (tOp r ta tb):=by
 intro pins s σ H Q I h
 exact wpAny_Compare1 (binT ha hb I h fun v u s2 x y H2 I2 rx ry q=>ho pins s2 σ H2 x y v u Q I2 rx ry q) hm
def tTest(t:TE):TT:=fun σ H Q=>t σ H fun x H'=>∃ k,x = .bl k∧Q k H'
theorem pt_cmpR{op:CmpOp}{r:R2}(ho:OpR X (compareOp op) r)(ha:PE X a ta)(hb:PE X b tb)(hm:behindInMarks op b=false):PT X (.Compare a [op] [b] pos) (tTest (tOp r ta tb)):=by
 intro pins s σ H Q I h
 refine wpAny_isTrue_Compare1 (thn (ha pins s σ H _ I h) fun v s1 ⟨x,H1,I1,r1,q1⟩=>thn (hb pins s1 σ H1 _ I1 q1) fun u s2 ⟨y,H2,I2,r2,q2⟩ =>
  thn (ho pins s2 σ H2 x y v u _ I2 r1 r2 q2) fun c s3 ⟨z,H3,I3,r3,k,e,q3⟩=>?_) hm
 subst e
 cases r3
 exact wpAny_truthy_bool ⟨H3,I3,q3⟩
def tChain(r r':R2)(ta tb tc:TE):TE:=fun σ H Q=>ta σ H fun x H1=>tb σ H1 fun y H2=>r x y H2 fun z H3=>∃ k,z = .bl k ∧
 (if k=true then tc σ H3 fun w' H4=>r' y w' H4 Q else Q (.bl false) H3)
theorem pe_chain{op op':CmpOp}{r r':R2}(ho:OpR X (compareOp op) r)(ho':OpR X (compareOp op') r')(ha:PE X a ta)(hb:PE X b tb)(hc:PE X c tc)
  (hm:lastMarks [op,op'] [b,c]=false:=by with_unfolding_all rfl):PE X (.Compare a [op,op'] [b,c] pos) (tChain r r' ta tb tc):=by
 intro pins s σ H Q I h
 refine Compare_chain (thn (ha pins s σ H _ I h) fun v s1 ⟨x,H1,I1,r1,q1⟩=>chain_link (thn (hb pins s1 σ H1 _ I1 q1) fun u s2 ⟨y,H2,I2,r2,q2⟩ =>
  thn (ho pins s2 σ H2 x y v u _ I2 r1 r2 q2) fun d s3 ⟨z,H3,I3,r3,k,e,q3⟩=>?_)) hm
 subst e
 cases r3
 refine wpAny_truthy_bool ?_
 cases k with
 | false=>exact ite_ff ⟨.bl false,H3,I3,rfl,q3⟩
 | true=>exact ite_tt (chain_last (thn (hc pins s3 σ H3 _ I3 q3) fun w' s4 ⟨z',H4,I4,r4,q4⟩=>ho' pins s4 σ H4 y z' u w' Q I4 r2 r4 q4))
theorem pt_chain{op op':CmpOp}{r r':R2}(ho:OpR X (compareOp op) r)(ho':OpR X (compareOp op') r')(ha:PE X a ta)(hb:PE X b tb)(hc:PE X c tc)
  (hm:lastMarks [op,op'] [b,c]=false:=by with_unfolding_all rfl):PT X (.Compare a [op,op'] [b,c] pos) (tTest (tChain r r' ta tb tc)):=by
 intro pins s σ H Q I h
 refine isTrue_chain (thn (ha pins s σ H _ I h) fun v s1 ⟨x,H1,I1,r1,q1⟩=>test_link (thn (hb pins s1 σ H1 _ I1 q1) fun u s2 ⟨y,H2,I2,r2,q2⟩ =>
  thn (ho pins s2 σ H2 x y v u _ I2 r1 r2 q2) fun d s3 ⟨z,H3,I3,r3,k,e,q3⟩=>?_)) hm
 subst e
 cases r3
 refine wpAny_truthy_bool ?_
 cases k with
 | false =>
  obtain⟨k',e',q'⟩:=q3
  cases e'
  exact ite_ff ⟨H3,I3,q'⟩
 | true =>
  refine ite_tt (test_last (thn (hc pins s3 σ H3 _ I3 q3) fun w' s4 ⟨z',H4,I4,r4,q4⟩=>thn (ho' pins s4 σ H4 y z' u w' _ I4 r2 r4 q4) fun d' s5 ⟨z2,H5,I5,r5,k2,e2,q5⟩=>?_))
  subst e2
  cases r5
  exact wpAny_truthy_bool ⟨H5,I5,q5⟩
theorem line63:(sizeLine:Nat)<2 ^ 63:=by rw[sizeLine_eq]; decide
theorem op_add_str:OpR X (binaryOp .Add) (fun x y H Q=>∃ i j,x = .str i∧y = .str j∧i.length+j.length≤sizeLine∧Q (.str (i++j)) H):=by
 intro pins s σ H x y v u Q I rx ry h
 obtain⟨i,j,rfl,rfl,hz,q⟩:=h
 obtain⟨t,rfl⟩:=rx
 obtain⟨t',rfl⟩:=ry
 exact add_str (fun t' tk=>⟨.str (i++j),H,I.tok _,⟨_,rfl⟩,q⟩) hz
theorem vals1{x:V}{us:List Value}(r:Vals [x] us):∃ u,us=[u]∧RelV x u:=by
 cases r with
 | cons r1 r2=>cases r2; exact⟨_,rfl,r1⟩
theorem vals2{x y:V}{us:List Value}(r:Vals [x,y] us):∃ u w',us=[u,w']∧RelV x u∧RelV y w':=by
 cases r with
 | cons r1 r2 =>
  cases r2 with
  | cons r3 r4=>cases r4; exact⟨_,_,rfl,r1,r3⟩
theorem call_max2(hc:X.calm=true):CallR X (.builtin "max") (fun xs H Q=>∃ i j,xs=[.int i,.int j]∧Q (.int (if j > i then j else i)) H):=by
 intro pins s σ H xs us Q I r h
 obtain⟨i,j,rfl,q⟩:=h
 obtain⟨u,w',rfl,⟨t,rfl⟩,⟨t',rfl⟩⟩:=vals2 r
 refine max_two_ints (I.ok.hd hc) fun h' tk k=>⟨_,H,I.kept k,?_,q⟩
 by_cases hj:j > i
 ·rw[if_pos hj,if_pos hj]; exact⟨_,rfl⟩
 ·rw[if_neg hj,if_neg hj]; exact⟨_,rfl⟩
def LenV(K:PySem.W.Frag)(x:V)(H:Hp)(n:Nat):Prop :=
 match x with
 | .str y=>y.length≤sizeLine∧n=y.length
 | .byt y=>y.size≤sizeLine∧n=y.size
 | .ref p=>(∃ xs,SqL K H p xs∧n=xs.length)∨∃ xs,SqT K H p xs∧n=xs.length
 | _=>False
theorem call_len:CallR X (.builtin "len") (fun xs H Q=>∃ x n,xs=[x]∧LenV X.K x H n∧Q (.int n) H):=by
 intro pins s σ H xs us Q I r h
 obtain⟨x,n,rfl,e,q⟩:=h
 obtain⟨u,rfl,rx⟩:=vals1 r
 have hl:=line63
 have hs:sizeLine=16777216:=sizeLine_eq
 cases x with
 | str y =>
  obtain⟨t,rfl⟩:=rx
  obtain⟨hy,e'⟩:y.length≤sizeLine∧n=y.length:=e
  subst e'
  exact len_str (by ac_rfl) ⟨.int _,H,I.tok _,⟨_,rfl⟩,q⟩
 | byt y =>
  obtain⟨t,rfl⟩:=rx
  obtain⟨hy,e'⟩:y.size≤sizeLine∧n=y.size:=e
  subst e'
  exact PySem.W.len_bytes (by ac_rfl) ⟨.int _,H,I.tok _,⟨_,rfl⟩,q⟩
 | ref p =>
  cases rx
  have e':(∃ xs,SqL X.K H p xs∧n=xs.length)∨∃ xs,SqT X.K H p xs∧n=xs.length:=e
  rcases e' with⟨xs,hx,e'⟩ | ⟨xs,hx,e'⟩
  ·subst e'
   obtain⟨its,r',pl,hz⟩:=I.list hx
   have hlen:=r'.length
   exact Calls.call_len_list pl.isList (by simp only[List.size_toArray]; ac_rfl) ⟨.int xs.length,H,I.tok _,⟨_,by simp only[List.size_toArray]; rw[hlen]⟩,q⟩
  ·subst e'
   obtain⟨its,r',pl,hz⟩:=I.tuple hx
   have hlen:=r'.length
   exact len_tuple pl (by simp only[List.size_toArray]; ac_rfl) ⟨.int xs.length,H,I.tok _,⟨_,by simp only[List.size_toArray]; rw[hlen]⟩,q⟩
 | _=>exact(show False from e).elim
end
end L2
namespace L2
open PySem PySem.Spec PyProof.Rows
structure ObjM(h:Heap)(x dx C:Addr)(mA:Str→Option Value):Prop where
 obj:h.get? x=some (PySem.W.instObj C dx)
 ns:h.Ns1 dx mA
 ne:dx≠x
theorem lookIn_ns{h:Heap}{dx:Addr}{mA:Str→Option Value}(n:h.Ns1 dx mA):∃ od,h.get? dx=some od∧∀ name,PySem.W.lookIn name od=some (mA name):=by
 obtain⟨o,es,ep,ho,hd,hk,_,hm⟩:=n
 refine⟨o,ho,fun name=>?_⟩
 have e:=hm name
 unfold nsFind findBy at e
 rw[← Array.find?_toList]at e
 unfold PySem.W.lookIn
 rw[hd]
 dsimp only
 split
 ·rename_i y q
  rw[q]at e
  exact congrArg some e
 ·rename_i q
  rw[q]at e
  have a:es.toList.any (·.refKey)=false:=by
   rw[List.any_eq_false]
   intro y hy
   obtain⟨z,t,hkey⟩:=hk y (Array.mem_toList_iff.mp hy)
   simp[DictEntry.refKey,hkey]
  have a':¬ es.toList.any (·.refKey)=true:=by rw[a]; exact Bool.false_ne_true
  rw[if_neg a']
  exact congrArg some e
theorem ObjM.look{h:Heap}{x dx C:Addr}{mA:Str→Option Value}(I:ObjM h x dx C mA):∃ od,PySem.W.InstAt h x (PySem.W.instObj C dx) C (some od)∧∀ name,PySem.W.lookIn name od=some (mA name) :=
 let ⟨od,ho,hl⟩:=lookIn_ns I.ns
 ⟨od,⟨I.obj,rfl,rfl,ho⟩,hl⟩
section
variable{P:Program}{w:World}{H H':Hp}{h h':Heap}{a C dx:Addr}{fs fs':List (Str×V)}
theorem ins_get(hok:HOk P w H h)(e:H a=some (.ins C dx fs)):∃ mA,ObjM h a dx C mA∧(∀ f,RelO (fs.lookup f) (mA f))∧PySem.Within mA (fs.map (·.1))∧fs.length≤1000∧H dx=some (.own a):=by
 obtain⟨d,z,ne,ob,mA,n,r,q⟩:=(show ObjOk P w H h a (.ins C dx fs)from hok a _ e)
 exact⟨mA,⟨ob,n,ne⟩,r,q,z,d⟩
end
structure Cls(K:PySem.W.Frag)(C:Addr):Prop where
 pg:PySem.W.plainGet K C Str.empty=true
 hd:PySem.W.hasDictIn K C=true
 po:PySem.W.plainOver K C=true
 sa:PySem.W.findIn K (.ref C) "__setattr__" = some (some (.builtin "object.__setattr__"))
theorem Cls.get{K:PySem.W.Frag}{C:Addr}(c:Cls K C)(f:Str):PySem.W.plainGet K C f=true:=c.pg
section
variable{X:Cx}{pins:List (Addr×Obj)}{σ:St}{H:Hp}{s:Shared}{a C dx:Addr}{fs:List (Str×V)}{f:Str}{v:V}{A:Around}{E:Value→Shared→Prop}
theorem Inv.made(I:Inv X pins σ H s):Inv X pins σ (upd (upd H s.heap.objs.size (.own (s.heap.objs.size+1))) (s.heap.objs.size+1) (.ins C s.heap.objs.size []))
  { s with heap:=(s.heap.push PySem.W.emptyDict).push (PySem.W.instObj C s.heap.objs.size) }:=by
 have e1:(s.heap.push PySem.W.emptyDict).get? s.heap.objs.size=some PySem.W.emptyDict:=Heap.get?_push_size s.heap rfl
 have e2:((s.heap.push PySem.W.emptyDict).push (PySem.W.instObj C s.heap.objs.size)).get? (s.heap.objs.size+1)=some (PySem.W.instObj C s.heap.objs.size):=by
  have:=Heap.get?_push_size (s.heap.push PySem.W.emptyDict) (o:=PySem.W.instObj C s.heap.objs.size) rfl
  rwa[Heap.size_push]at this
 have e3:(s.heap.push PySem.W.emptyDict).Ns s.heap.objs.size (fun _=>none):=⟨PySem.W.emptyDict,#[],_,e1,rfl,(fun e he=>absurd he (by simp)),fun _=>rfl⟩
 have I1:=I.laid (a:=s.heap.objs.size) (o:=.own (s.heap.objs.size+1)) (h':=s.heap.push PySem.W.emptyDict) (t':=s.toks) (fun b u q=>Heap.get?_push_of_some _ q) (Nat.le_refl _) ⟨_,e1⟩
 refine I1.laid (a:=s.heap.objs.size+1) (o:=.ins C s.heap.objs.size []) (t':=s.toks) (fun b u q=>Heap.get?_push_of_some _ q) (Nat.le_of_eq (Heap.size_push _ _)) ?_
 have ne:s.heap.objs.size≠s.heap.objs.size+1:=Nat.ne_of_lt (Nat.lt_succ_self _)
 refine⟨by rw[upd_ne ne,upd_same],Nat.zero_le _,ne,e2,fun _=>none,(Heap.Ns1.of_empty e3).at fun o q=>Heap.get?_push_of_some _ q,fun _=>True.intro,fun y hy=>absurd rfl hy⟩
end
section
variable{X:Cx}{pins:List (Addr×Obj)}{σ:St}{H:Hp}{s:Shared}{A:Around}{E:Value→Shared→Prop}{Q:Value→Shared→Prop}{c:Value}{b:Bool}
inductive TyOf(K:PySem.W.Frag)(H:Hp):V→Value→Prop where
 | non:TyOf K H .non (.type "NoneType")
 | bl (x:Bool):TyOf K H (.bl x) (.type "bool")
 | int (i:Int):TyOf K H (.int i) (.type "int")
 | str (x:Str):TyOf K H (.str x) (.type "str")
 | flt (x:UInt64):TyOf K H (.flt x) (.type "float")
 | lst {a:Addr} {xs:List V} (e:H a=some (.lst xs)):TyOf K H (.ref a) (.type "list")
 | frz {a:Addr} {o:Obj} {xs:List V} (e:H a=some (.frz o (.lst xs))):TyOf K H (.ref a) (.type "list")
 | tup {a:Addr} {xs:List V} (e:H a=some (.tup xs)):TyOf K H (.ref a) (.type "tuple")
 | dK {a:Addr} {kvs:List (Key×V)} (e:H a=some (.dK kvs)):TyOf K H (.ref a) (.type "dict")
 | dT {a:Addr} {kvs:List (List Key×V)} (e:H a=some (.dT kvs)):TyOf K H (.ref a) (.type "dict")
 | ins {a C dx:Addr} {fs:List (Str×V)} (e:H a=some (.ins C dx fs)) (cl:Cls K C) (ha:PySem.W.findIn K (.ref C) "__class__" = some (some (.builtin "object.__class__")))
   (hn:PySem.W.specialIn K (.builtin "object.__class__") "__get__" = some (some (.builtin "getset_descriptor.__get__"))) (htk:PySem.W.takesIn K (.builtin "object.__class__")=some true)
   (hm:PySem.W.mroIn K C (.type "object")=some true):TyOf K H (.ref a) (.ref C)
theorem isinst_ok{x:V}{u t:Value}(I:Inv X pins σ H s)(rx:RelV x u)(ty:TyOf X.K H x t)(e:PySem.W.kitOne X.K t c=some b)(h:∀ tk,Q (.bool b) { s with toks:=tk }) :
  wpAny (model X.prog X.w) A (call (.builtin "isinstance") [u,c]) Q E s:=by
 cases ty with
 | non=>cases (show u=Value.none from rx); exact PySem.W.kia_one PySem.W.kitx_none I.kIn True.intro e (fun z=>nomatch z) h
 | bl y=>cases (show u=Value.bool y from rx); exact PySem.W.kia_one PySem.W.kitx_bool I.kIn True.intro e (fun z=>nomatch z) h
 | int i=>obtain⟨t,q⟩:=(show ∃ t,u=Value.int i t from rx); cases q; exact PySem.W.kia_one PySem.W.kitx_int I.kIn True.intro e (fun z=>nomatch z) h
 | str y=>obtain⟨t,q⟩:=(show ∃ t,u=Value.str y t from rx); cases q; exact PySem.W.kia_one PySem.W.kitx_str I.kIn True.intro e (fun z=>nomatch z) h
 | flt y=>obtain⟨t,q⟩:=(show ∃ t,u=Value.float y t from rx); cases q; exact PySem.W.kia_one PySem.W.kitx_float I.kIn True.intro e (fun z=>nomatch z) h
 | @lst a xs ea =>
  cases (show u=Value.ref a from rx)
  obtain⟨_,_,n,_,h1⟩:=(show ObjOk X.prog X.w H s.heap a (.lst xs)from I.hok a _ ea)
  exact PySem.W.kia_one PySem.W.kitx_list I.kIn ⟨_,h1,rfl⟩ e (fun z=>nomatch z) h
 | @frz a ob xs ea =>
  cases (show u=Value.ref a from rx)
  obtain⟨_,_,_,n,_,h1⟩:=(show ObjOk X.prog X.w H s.heap a (.frz ob (.lst xs))from I.hok a _ ea)
  exact PySem.W.kia_one PySem.W.kitx_list I.kIn ⟨_,h1,rfl⟩ e (fun z=>nomatch z) h
 | @tup a xs ea =>
  cases (show u=Value.ref a from rx)
  obtain⟨_,_,_,p,_⟩:=(show ObjOk X.prog X.w H s.heap a (.tup xs)from I.hok a _ ea)
  obtain⟨o,h1,h2,_⟩:=p
  exact PySem.W.kia_one PySem.W.kitx_tuple I.kIn ⟨o,h1,h2⟩ e (fun z=>nomatch z) h
 | @dK a kvs ea =>
  cases (show u=Value.ref a from rx)
  obtain⟨_,_,vs,_,p⟩:=(show ObjOk X.prog X.w H s.heap a (.dK kvs)from I.hok a _ ea)
  obtain⟨o,es,ep,h1,h2,_⟩:=p
  exact PySem.W.kia_one PySem.W.kitx_dict I.kIn ⟨o,h1,h2.1⟩ e (fun z=>nomatch z) h
 | @dT a kvs ea =>
  cases (show u=Value.ref a from rx)
  obtain⟨_,_,xs,_,o,es,ep,h1,h2,_⟩:=(show ObjOk X.prog X.w H s.heap a (.dT kvs)from I.hok a _ ea)
  exact PySem.W.kia_one PySem.W.kitx_dict I.kIn ⟨o,h1,h2.1⟩ e (fun z=>nomatch z) h
 | @ins a C dx fs ea cl ha hn htk hm =>
  cases (show u=Value.ref a from rx)
  obtain⟨mA,O,_⟩:=ins_get I.hok ea
  obtain⟨od,J,_⟩:=O.look
  exact PySem.W.kia_one (PySem.W.kitx_own (cl.get _) cl.hd ha hn htk hm) I.kIn J e (fun z=>nomatch z) h
end
end L2
namespace L2
open PySem PySem.Spec PyProof.Rows
structure Room(k:Nat)(A:Around):Prop where
 hd:A.handled=none
 dp:A.depth+3 * k+5<recursionLimit
 un:A.units+16 * k+200<cLine
theorem Room.mono{j k:Nat}{A:Around}(r:Room k A)(h:j≤k):Room j A:=⟨r.hd,by have:=r.dp; ac_rfl,by have:=r.un; ac_rfl⟩
theorem Room.deeper{k:Nat}{A:Around}(r:Room (k+1) A)(env:Env):Room k (A.deeper env) :=
 ⟨r.hd,by have:=r.dp; show A.depth+1+3 * k+5<_; ac_rfl,by have:=r.un; show A.units+3+16 * k+200<_; ac_rfl⟩
theorem Room.in1{k:Nat}{A:Around}(r:Room (k+1) A):Room k A.in1 :=
 ⟨r.hd,by have:=r.dp; show A.depth+3 * k+5<_; ac_rfl,by have:=r.un; show A.units+1+16 * k+200<_; ac_rfl⟩
theorem Room.depth{k:Nat}{A:Around}(r:Room k A):A.depth<recursionLimit:=by have:=r.dp; ac_rfl
theorem Room.units{k:Nat}{A:Around}(r:Room k A):A.units+64<cLine:=by have:=r.un; ac_rfl
def tNil:TA:=fun _ H Q=>Q [] H
def tCons(ta:TE)(tr:TA):TA:=fun σ H Q=>ta σ H fun x H1=>tr σ H1 fun xs H2=>Q (x::xs) H2
section
variable{X:Cx}{e:Expr}{es:List Expr}{te:TE}{t:TA}{pos:Pos}
theorem pa_nil:PA X [] tNil:=fun _ _ _ _ H Q I h=>Calls.spliced_nil ⟨[],H,I,.nil,h⟩
theorem pa_cons(ha:PE X e te)(hr:PA X es t)(hs:starEach (e::es) X.env=(false,eval e X.env)::starEach es X.env:=by rfl):PA X (e::es) (tCons te t):=by
 intro pos pins s σ H Q I h
 rw[hs]
 show wpAny _ _ (spliced ((false,eval e X.env)::backTo pos (starEach es X.env))) _ _ s
 refine Calls.spliced_cons (thn (ha pins s σ H _ I h) fun u s1 ⟨x,H1,I1,r1,q1⟩=>?_)
 exact thn (hr pos pins s1 σ H1 _ I1 q1) fun us s2 ⟨xs,H2,I2,r2,q2⟩=>⟨x::xs,H2,I2,.cons r1 r2,q2⟩
def tTup(t:TA):TE:=fun σ H Q=>t σ H fun xs H1=>xs.length≤sizeLine∧∀ p,H1 p=none→Q (.ref p) (upd H1 p (.tup xs))
def tLst(t:TA):TE:=fun σ H Q=>t σ H fun xs H1=>xs.length≤sizeLine∧∀ p,H1 p=none→Q (.ref p) (upd H1 p (.lst xs))
theorem pe_tup{x1}(h:PA X es t):PE X (.Tuple es x1 pos) (tTup t):=by
 intro pins s σ H Q I hq
 refine wpAny_Tuple_spliced (thn (h pos pins s σ H _ I hq) fun us s1 ⟨xs,H1,I1,r,z,q⟩=>⟨by rw[← r.length]; exact z,?_⟩)
 have hf:H1 s1.heap.objs.size=none:=I1.hok.fresh (Nat.le_refl _)
 refine⟨.ref s1.heap.objs.size,upd H1 s1.heap.objs.size (.tup xs),I1.laid (t':=s1.toks) (fun b u e=>Heap.get?_push_of_some _ e) (Nat.le_refl _) ?_,rfl,q _ hf⟩
 exact⟨z,us,r,⟨⟨_,Heap.get?_push_size _ rfl,rfl,_,rfl⟩,_,Heap.get?_push_size _ rfl,rfl⟩⟩
theorem pe_lst(h:PA X es t):PE X (.List es pos) (tLst t):=by
 intro pins s σ H Q I hq
 refine wpAny_List_spliced (thn (h pos pins s σ H _ I hq) fun us s1 ⟨xs,H1,I1,r,z,q⟩=>⟨by rw[← r.length]; exact z,?_⟩)
 have hf:H1 s1.heap.objs.size=none:=I1.hok.fresh (Nat.le_refl _)
 refine⟨.ref s1.heap.objs.size,upd H1 s1.heap.objs.size (.lst xs),I1.laid (t':=s1.toks) (fun b u e=>Heap.get?_push_of_some _ e) (Nat.le_refl _) ?_,rfl,q _ hf⟩
 exact⟨z,us,0,r,Heap.get?_push_size _ rfl⟩
end
noncomputable abbrev Sp:=List V→Hp→VK→XK→Prop
noncomputable abbrev CXT:=List Env→Hp→Shared→XK→Value→Shared→Prop
structure Env0(P:Program)(w:World)(K:PySem.W.Frag)(mg:Str→Option Value)(base:Heap)(A:Around)(outer:List Env)(s:Shared)(H:Hp):Prop where
 frames:A.frames=some outer
 mod:Mod K mg base
 bs:∀ b o,base.get? b=some o→s.heap.get? b=some o∧H b=none
 bsz:base.objs.size≤s.heap.objs.size
 funs:s.heap.FunFrames base outer
 frf:∀ b∈frs outer,H b=none
 hok:HOk P w H s.heap
 bare:AllBare s.gens
def CE(outer:List Env)(P:Program)(w:World)(H:Hp)(s:Shared)(Q:VK)(u:Value)(s':Shared):Prop :=
 ∃ v H',s'.os=s.os∧AllBare s'.gens∧Un (frs outer) [] H H' s.heap s'.heap∧HOk P w H' s'.heap∧RelV v u∧Q v H'
def CR(CX:CXT)(outer:List Env)(P:Program)(w:World)(H:Hp)(s:Shared)(Q:VK)(E:XK)(r:Result)(s':Shared):Prop :=
 match r with
 | .ok (.ret u)=>CE outer P w H s Q u s'
 | .ok _=>False
 | .error e=>CX outer H s E e s'
structure FnOk(P:Program)(w:World)(K:PySem.W.Frag)(mg:Str→Option Value)(base:Heap)(CX:CXT)(k:Nat)(f:Addr)(fd:FuncData)(ps:List Str)(sp:Sp):Prop where
 len:∀ vs H Q E,sp vs H Q E→vs.length=ps.length
 run:∀ (A:Around) (outer:List Env) (s:Shared) (H:Hp) (args:Args) (us:List Value) (vs:List V) (Q:VK) (E:XK),Room k A→Env0 P w K mg base A outer s H→BindsTo s fd args (ps.zip us)→Vals vs us→sp vs H Q E →
  codeAny (model P w) A (.call (.ref f) args) (CR CX outer P w H s Q E) s
theorem FnOk.mono{P:Program}{w:World}{K:PySem.W.Frag}{mg:Str→Option Value}{base:Heap}{CX:CXT}{j k:Nat}{f:Addr}{fd:FuncData}{ps:List Str}{sp:Sp}(F:FnOk P w K mg base CX j f fd ps sp)(h:j≤k) :
  FnOk P w K mg base CX k f fd ps sp:=⟨F.len,fun A outer s H args us vs Q E hr=>F.run A outer s H args us vs Q E (hr.mono h)⟩
theorem Env0.in1{P:Program}{w:World}{K:PySem.W.Frag}{mg:Str→Option Value}{base:Heap}{A:Around}{outer:List Env}{s:Shared}{H:Hp}(e:Env0 P w K mg base A outer s H) :
  Env0 P w K mg base A.in1 outer s H:=⟨e.frames,e.mod,e.bs,e.bsz,e.funs,e.frf,e.hok,e.bare⟩
section
variable{X:Cx}{pins:List (Addr×Obj)}{σ:St}{H:Hp}{s s':Shared}
theorem Inv.env0(I:Inv X pins σ H s):Env0 X.prog X.w X.K X.mg X.base X.A X.stack s H :=
 ⟨I.ok.frames,I.ok.mod,I.bs,Nat.le_trans I.ok.bsz I.sz,I.stack,I.stkFree,I.hok,I.bare⟩
theorem Inv.after{Q:VK}{u:Value}(I:Inv X pins σ H s)(h:CE X.stack X.prog X.w H s Q u s'):EP X pins σ Q u s':=by
 obtain⟨v,H',os,bare,un,hok,r,q⟩:=h
 obtain⟨hh,g,d,t,os'⟩:=s'
 obtain rfl:os'=s.os:=os
 exact⟨v,H',I.call (h':=hh) (g':=g) (d':=d) (t':=t) (ch:=[]) un hok bare (fun b z=>absurd z (by simp)),r,q⟩
end
def tCall(sp:Sp)(dvs:List V)(E:XK)(t:TA):TE:=fun σ H Q=>t σ H fun vs H1=>sp (vs++dvs) H1 Q E
def Binds(K:PySem.W.Frag)(fd:FuncData)(ps:List Str)(ds:List Value):Prop :=
 ∀ (s:Shared) (us:List Value),K.In s.heap→(us++ds).length=ps.length→BindsTo s fd ⟨us,[]⟩ (ps.zip (us++ds))
theorem Binds.all{K:PySem.W.Frag}{fd:FuncData}{ps:List Str}(h:∀ us:List Value,us.length=ps.length→bindArgs fd ⟨us,[]⟩=pure (ps.zip us)):Binds K fd ps []:=fun s us _ hl=>by
 rw[List.append_nil]at hl ⊢
 exact .of_eq (h us hl)
def Passes(CX:CXT)(X:Cx)(E:XK):Prop:=∀ (pins:List (Addr×Obj)) (σ:St) (H:Hp) (s:Shared) (e:Value) (s':Shared),Inv X pins σ H s→CX X.stack H s E e s'→X.xe e s'
section
variable{X:Cx}{CX:CXT}{k:Nat}{f C:Addr}{fd:FuncData}{ps:List Str}{sp:Sp}{dvs:List V}{ds:List Value}{E:XK}{x m:Str}{p pos apos:Pos}{e o:Expr}{es:List Expr}{ta:TE}{t:TA}
theorem run_fn{pins:List (Addr×Obj)}{σ:St}{H:Hp}{s:Shared}{Q:VK}{us:List Value}{vs:List V}(F:FnOk X.prog X.w X.K X.mg X.base CX k f fd ps sp)(hr:Room k X.A)(hb:Binds X.K fd ps ds)(hd:Vals dvs ds)(hx:Passes CX X E)
  (I:Inv X pins σ H s) (r:Vals vs us) (h:sp (vs++dvs) H Q E):wpAny (model X.prog X.w) X.A (call (.ref f) us) (EP X pins σ Q) X.xe s:=by
 have r2:Vals (vs++dvs) (us++ds):=r.append hd
 have hl:(us++ds).length=ps.length:=by rw[← r2.length]; exact F.len _ _ _ _ h
 refine wpAny_call (codeAny_mono (F.run X.A X.stack s H ⟨us,[]⟩ (us++ds) (vs++dvs) Q E hr I.env0 (hb s us I.kIn hl) r2 h) fun r s' hq=>?_)
 cases r with
 | error e=>exact hx pins σ H s e s' I hq
 | ok fl =>
  cases fl with
  | ret u=>exact I.after hq
  | next=>exact False.elim hq
  | brk=>exact False.elim hq
  | cont=>exact False.elim hq
theorem pe_call(F:FnOk X.prog X.w X.K X.mg X.base CX k f fd ps sp)(hr:Room k X.A)(hg:Gl X x)(hm:X.mg x=some (.ref f))(hk:PySem.W.keepIn X.K (.ref f)=true)(hb:Binds X.K fd ps ds)(hd:Vals dvs ds)(hx:Passes CX X E)
  (ha:PA X (e::es) t) (hdb:(x == ("__debug__" : Str))=false:=by decide) (he:starEach (e::es) X.env=(false,eval e X.env)::starEach es X.env:=by rfl) (hpl:(backTo pos (starEach es X.env)).any (·.1)=false:=by rfl) :
  PE X (.Call (.Name x p) (e::es) [] pos) (tCall sp dvs E t):=by
 intro pins s σ H Q I h
 refine wpAny_Call_Name_kw (ld_glob I hg hm ?_ hdb)
 refine PySem.W.callWith_K (h₀:=X.base) I.ok.mod.kin hk (thn (ha pos pins s σ H _ I h) fun us s1 ⟨vs,H1,I1,r,q⟩=>⟨I1.kIn,?_⟩) he hpl
 exact run_fn F hr hb hd hx I1 r q
end
structure FnScope(N P:List Str)(sc:Scope):Prop where
 kind:sc.kind = .function
 co:sc.isCoroutine=false
 gen:sc.isGenerator=false
 nd:N.Nodup
 pre:N.take P.length=P
 par:∀ x∈P,sc.names.lookup x=some .local∨sc.names.lookup x=some .cell
 nofree:∀ y∈sc.names,y.2≠.free
theorem bindL_out{kindOf:Str→Option NameKind}{x:Str}:∀ {binds:List (Str×Value)} {m:Str→Option Value},(∀ v,(x,v)∉binds)→bindL kindOf binds m x=m x
 | [],_,_=>rfl
 | (n,v)::r,m,h=>by
  unfold bindL
  rw[bindL_out fun w hw=>h w (List.mem_cons_of_mem _ hw)]
  split
  ·have:x≠n:=by rintro rfl; exact h v List.mem_cons_self
   simp[this]
  ·rfl
theorem bindC_out{kindOf:Str→Option NameKind}{x:Str}:∀ {binds:List (Str×Value)} {m:Str→Option Value},(∀ v,(x,v)∉binds)→bindC kindOf binds m x=m x
 | [],_,_=>rfl
 | (n,v)::r,m,h=>by
  unfold bindC
  rw[bindC_out fun w hw=>h w (List.mem_cons_of_mem _ hw)]
  split
  ·rfl
  ·have:x≠n:=by rintro rfl; exact h v List.mem_cons_self
   simp[this]
theorem bindL_get{kindOf:Str→Option NameKind}{x:Str}{v:Value}:∀ {P:List Str} {vs:List Value} {i:Nat} {m:Str→Option Value},P.Nodup→P[i]?=some x→vs[i]?=some v→kindOf x=some .local →
  bindL kindOf (P.zip vs) m x=some v
 | [],_,_,_,_,h,_,_=>by simp at h
 | _::_,[],_,_,_,_,h,_=>by simp at h
 | p::P,w::vs,0,m,nd,h1,h2,hk=>by
  simp at h1 h2; subst h1; subst h2
  show bindL kindOf ((p,w)::P.zip vs) m p=_
  unfold bindL
  rw[bindL_out fun v hv=>(List.nodup_cons.mp nd).1 (List.of_mem_zip hv).1,if_pos hk]
  simp
 | p::P,w::vs,i+1,m,nd,h1,h2,hk=>by
  show bindL kindOf ((p,w)::P.zip vs) m x=_
  unfold bindL
  exact bindL_get (i:=i) (List.nodup_cons.mp nd).2 (by simpa using h1) (by simpa using h2) hk
theorem bindC_get{kindOf:Str→Option NameKind}{x:Str}{v:Value}:∀ {P:List Str} {vs:List Value} {i:Nat} {m:Str→Option Value},P.Nodup→P[i]?=some x→vs[i]?=some v→kindOf x≠some .local →
  bindC kindOf (P.zip vs) m x=some v
 | [],_,_,_,_,h,_,_=>by simp at h
 | _::_,[],_,_,_,_,h,_=>by simp at h
 | p::P,w::vs,0,m,nd,h1,h2,hk=>by
  simp at h1 h2; subst h1; subst h2
  show bindC kindOf ((p,w)::P.zip vs) m p=_
  unfold bindC
  rw[bindC_out fun v hv=>(List.nodup_cons.mp nd).1 (List.of_mem_zip hv).1,if_neg hk]
  simp
 | p::P,w::vs,i+1,m,nd,h1,h2,hk=>by
  show bindC kindOf ((p,w)::P.zip vs) m x=_
  unfold bindC
  exact bindC_get (i:=i) (List.nodup_cons.mp nd).2 (by simpa using h1) (by simpa using h2) hk
def start(N:List Str)(vs:List V):St:=vs.map some++List.replicate (N.length-vs.length) none
def cxOf(CX:CXT)(P:Program)(w:World)(K:PySem.W.Frag)(mg:Str→Option Value)(base:Heap)(N:List Str)(qual:Str)(scope:Scope)(f:Addr)(cd:Value)(A:Around)(outer:List Env)(s:Shared)(H:Hp)(E:XK):Cx where
 prog:=P
 w:=w
 K:=K
 mg:=mg
 base:=base
 A:=A.deeper (envOfC qual scope s.heap.objs.size f cd)
 N:=N
 s₀:=s
 H₀:=H
 env:=envOfC qual scope s.heap.objs.size f cd
 outer:=outer
 stack:=envOfC qual scope s.heap.objs.size f cd::outer
 ex:=[]
 calm:=true
 fn:=fun _=>true
 pn:=[]
 xe:=fun e s'=>wpAny (model P w) (A.deeper (envOfC qual scope s.heap.objs.size f cd)) (leaving (envOfC qual scope s.heap.objs.size f cd) e) (fun _ s''=>CX outer H s E e s'') (fun e' s''=>CX outer H s E e' s'') s'
theorem cell_has{sc:Scope}{n:Nat}{x:Str}(h:sc.names.lookup x=some .cell):∃ c,(cellsFrom n sc.names []).lookup x=some c:=by
 have q:=PySem.W.cellsFrom_some sc.names n [] (.inl h)
 exact Option.isSome_iff_exists.mp q
theorem inv_start{CX:CXT}{P:Program}{w:World}{K:PySem.W.Frag}{mg:Str→Option Value}{base:Heap}{N ps:List Str}{qual:Str}{scope:Scope}{f:Addr}{cd:Value}{A:Around}{outer:List Env}{s s1:Shared}{H:Hp}{E:XK}{us:List Value}{vs:List V}
  (S:FnScope N ps scope) (hd:A.handled=none) (e0:Env0 P w K mg base A outer s H) (hl:vs.length=ps.length) (r:Vals vs us)
  (x:InCallC s s.heap.objs.size (bindL (envOfC qual scope s.heap.objs.size f cd).kindOf (ps.zip us) fun _=>none) (cellsFrom (s.heap.objs.size+1) scope.names []) (bindC (envOfC qual scope s.heap.objs.size f cd).kindOf (ps.zip us) fun _=>none) s1) :
  Inv (cxOf CX P w K mg base N qual scope f cd A outer s H E) [] (start N vs) H s1:=by
 have hpl:ps.length≤N.length:=by have:=congrArg List.length S.pre; rw[List.length_take]at this; ac_rfl
 obtain⟨h1,tk,rfl,hk⟩:=x.done
 have noA:∀ b:Addr,b∉(cxOf CX P w K mg base N qual scope f cd A outer s H E).ex:=fun b z=>absurd (show b∈([]:List Addr)from z) (by simp)
 refine⟨⟨e0.mod,S.kind,rfl,rfl,Nat.le_refl _,fun y z c h1 h2=>?_,fun y hy=>?_,fun y c _ h=>?_,fun _=>hd,Around.frames_deeper e0.frames,.inr ⟨rfl,rfl⟩,fun b z=>absurd z (noA b),e0.bs,e0.bsz,fun b _ _=>noA b,fun b z=>absurd z (noA b),e0.funs,e0.frf⟩,
  rfl,e0.bare,Un.kept hk,⟨_,x.toInCall.ns,fun i y v h1 h2 h3=>?_⟩,fun y c h=>⟨_,x.cell y c h⟩,e0.hok.fresh (Nat.le_refl _),fun y c h=>?_,fun p hp=>absurd (show p∈([]:List (Addr×Obj))from hp) (by simp),e0.hok.kept hk,?_⟩
 ·exact name_of_addr x.apart (PySem.mem_of_lookup h1) (PySem.mem_of_lookup h2)
 ·have hy:scope.names.lookup y=some .cell∨scope.names.lookup y=some .free:=hy
  rcases hy with hy | hy
  ·exact cell_has hy
  ·exact absurd rfl (S.nofree _ (PySem.mem_of_lookup hy))
 ·exact Nat.le_of_lt (x.above y c (PySem.mem_of_lookup h))
 ·have hi:i<vs.length:=by
   unfold start at h2
   by_cases hi:i<vs.length
   ·exact hi
   ·rw[List.getElem?_append_right (by simpa using hi)]at h2
    rw[List.getElem?_replicate]at h2
    split at h2 <;> cases h2
  have ha:vs[i]?=some v:=by
   unfold start at h2
   rw[List.getElem?_append_left (by simpa using hi),List.getElem?_map]at h2
   cases e:vs[i]? with
   | none=>rw[e]at h2; cases h2
   | some a=>rw[e]at h2; cases h2; rfl
  obtain⟨u,hu,rv⟩:=r.get ha
  have hp:ps[i]?=some y:=by
   rw[← S.pre,List.getElem?_take_of_lt (by ac_rfl)]; exact h1
  have ndP:ps.Nodup:=by rw[← S.pre]; exact S.nd.sublist (List.take_sublist _ _)
  refine⟨u,rv,?_⟩
  rcases S.par y (List.mem_of_getElem? hp)with k | k
  ·exact .inl ⟨k,bindL_get ndP hp hu k⟩
  ·obtain⟨c,e⟩:=cell_has (n:=s.heap.objs.size+1) k
   refine .inr ⟨.inl k,c,e,?_⟩
   have q:=x.cell y c e
   rw[bindC_get ndP hp hu (by show scope.names.lookup y≠_; rw[k]; decide)]at q
   exact q
 ·exact e0.hok.fresh (Nat.le_of_lt (x.above y c (PySem.mem_of_lookup h)))
 ·unfold start
  show _=N.length
  rw[List.length_append,List.length_map,List.length_replicate]
  ac_rfl
theorem fn_of{CX:CXT}{P:Program}{w:World}{K:PySem.W.Frag}{mg:Str→Option Value}{base:Heap}{k:Nat}{f:Addr}{name qual:Str}{params:Arguments}{body:List Stmt}{scope:Scope}{dV kV doc pm cdv ct oc:Value}{an od:Option Addr}
  {osl:Array (Option Value)} {N ps:List Str} {sp:Sp} (lk:K.lookup f=some ⟨oc,od,.func (PySem.W.fnOf name qual params body scope dV kV doc pm an cdv ct),osl⟩) (hcd:PySem.W.codeIn K cdv qual=true) (S:FnScope N ps scope)
  (len:∀ vs H Q E,sp vs H Q E→vs.length=ps.length)
  (hbody:∀ (A:Around) (outer:List Env) (s:Shared) (H:Hp) (vs:List V) (Q:VK) (E:XK),Room k (A.deeper (envOfC qual scope s.heap.objs.size f cdv))→sp vs H Q E →
   ∃ t,PSs (cxOf CX P w K mg base N qual scope f cdv A outer s H E) body t∧t { nx:=fun _ H'=>Q .non H',rt:=Q } (start N vs) H) :
  FnOk P w K mg base CX (k+1) f (PySem.W.fnOf name qual params body scope dV kV doc pm an cdv ct) ps sp:=by
 refine⟨len,fun A outer s H args us vs Q E hr e0 hb r hsp=>?_⟩
 have hl:=len _ _ _ _ hsp
 have KX:K.In s.heap:=e0.mod.kin.keeps fun b o e=>(e0.bs b o e).1
 have lim:s.heap.NoLimit:=e0.mod.nolimit.keeps fun b o e=>(e0.bs b o e).1
 have hkind:∀ y∈ps.zip us,scope.names.lookup y.1=some .local∨(scope.names.lookup y.1=some .cell∧((cellsFrom (s.heap.objs.size+1) scope.names []).lookup y.1).isSome=true):=fun⟨n,v⟩ hy=>by
  rcases S.par n (List.of_mem_zip hy).1 with q | q
  ·exact .inl q
  ·exact .inr ⟨q,PySem.W.cellsFrom_some _ _ _ (.inl q)⟩
 refine codeAny_call_function hr.depth (KX _ _ lk) rfl S.co S.gen rfl (PySem.W.codeRec_of KX hcd) (hb _ _ _ _ ?_)
 refine wpAny_newFunctionEnv_cells S.kind hkind fun env he s1 x=>?_
 subst he
 refine⟨lim.keeps x.toInCall.keep,codeAny_func ?_⟩
 obtain⟨t,ht,hq⟩:=hbody A outer s H vs Q E (hr.deeper _) hsp
 have I:Inv (cxOf CX P w K mg base N qual scope f cdv A outer s H E) [] (start N vs) H s1:=inv_start S hr.hd e0 hl r x
 refine wpAny_mono (ht [] s1 (start N vs) H _ I hq) (fun fl s' hs=>?_) fun e s' hs=>hs
 have fin:∀ {σ':St} {H':Hp} {v:V} {u:Value},Inv (cxOf CX P w K mg base N qual scope f cdv A outer s H E) [] σ' H' s'→RelV v u→Q v H'→CE outer P w H s Q u s' :=
  fun {σ' H' v u} J rv q=>⟨v,H',J.os,J.bare,J.base,J.hok,rv,q⟩
 cases fl with
 | ret u =>
  obtain⟨v,σ',H',J,rv,q⟩:=hs
  exact fin J rv q
 | next =>
  obtain⟨σ',H',J,q⟩:=hs
  exact fin (v:=V.non) (u:=Value.none) J rfl q
 | brk =>
  obtain⟨_,_,_,q⟩:=hs
  exact False.elim q
 | cont =>
  obtain⟨_,_,_,q⟩:=hs
  exact False.elim q
end L2
namespace L2
open PySem PySem.Spec PyProof.Rows
section
variable{X:Cx}{x:Str}{p pos:Pos}{e:Expr}{es:List Expr}{t:TA}{id T:String}{r:List V→Hp→VK→Prop}
def tCB(r:List V→Hp→VK→Prop)(t:TA):TE:=fun σ H Q=>t σ H fun vs H1=>r vs H1 Q
theorem pe_callB(hc:CallR X (.builtin id) r)(hg:Gl X x)(hm:X.mg x=none)(hv:bootBuiltins x=some (.builtin id))(ha:PA X (e::es) t)(hn:x≠"__name__":=by decide)(hdb:(x == ("__debug__" : Str))=false:=by decide)
  (he:starEach (e::es) X.env=(false,eval e X.env)::starEach es X.env:=by rfl) (hpl:(backTo pos (starEach es X.env)).any (·.1)=false:=by rfl):PE X (.Call (.Name x p) (e::es) [] pos) (tCB r t):=by
 intro pins s σ H Q I h
 refine wpAny_Call_Name_kw (ld_blt I hg hm hv ?_ hn hdb)
 exact PyProof.Rows.callWith_builtin1 (thn (ha pos pins s σ H _ I h) fun us s1 ⟨vs,H1,I1,r1,q1⟩=>hc pins s1 σ H1 vs us Q I1 r1 q1) he hpl
theorem pe_callTy(hc:CallR X (.type T) r)(hg:Gl X x)(hm:X.mg x=none)(hv:bootBuiltins x=some (.type T))(ha:PA X (e::es) t)(hn:x≠"__name__":=by decide)(hdb:(x == ("__debug__" : Str))=false:=by decide)
  (he:starEach (e::es) X.env=(false,eval e X.env)::starEach es X.env:=by rfl) (hpl:(backTo pos (starEach es X.env)).any (·.1)=false:=by rfl):PE X (.Call (.Name x p) (e::es) [] pos) (tCB r t):=by
 intro pins s σ H Q I h
 refine wpAny_Call_Name_kw (ld_blt I hg hm hv ?_ hn hdb)
 exact PyProof.Rows.callWith_type1 (thn (ha pos pins s σ H _ I h) fun us s1 ⟨vs,H1,I1,r1,q1⟩=>hc pins s1 σ H1 vs us Q I1 r1 q1) he hpl
end
end L2
namespace HT
open PySem PyProof.Rows
section
open PySem.SeqAt
open PySem.AutoSeq1 (wpAny_loadPart')
open PySem.MeetsSeq PySem.MeetsSeq2 PySem.MeetsSeq3
end
section
variable{prog:Program}{w:World}{A:Around}{E:Value→Shared→Prop}{s:Shared}
theorem cat_tup{t b:Addr}{vs ws:List Value}{Q:Value→Shared→Prop}(ht:IsTup s.heap t vs.toArray)(hb:IsTup s.heap b ws.toArray)(hv:vs≠[])
  (h1:ws=[]→Q (.ref t) s) (h2:ws≠[]→Q (.ref s.heap.objs.size) { s with heap:=s.heap.push { cls:=.type "tuple",data:=.seq (vs++ws).toArray } })
  (hsz:vs.length+ws.length≤sizeLine):wpAny (model prog w) A (binaryOp .Add (.ref t) (.ref b)) Q E s:=by
 obtain⟨⟨cls,dd,data,sl⟩,ho,hc,n,hd⟩:=id ht
 obtain⟨⟨cls2,dd2,data2,sl2⟩,ho2,hc2,n2,hd2⟩:=id hb
 simp only at hc hd hc2 hd2
 subst hc hd hc2 hd2
 have e:vs.toArray++ws.toArray=(vs++ws).toArray:=by simp
 by_cases hw:ws=[]
 ·exact concat_meets ⟨_,ho,rfl⟩ ⟨_,ho2,rfl⟩ noFill_tuple_add seq_tuple_add PySem.F.slot_tuple_add PySem.F.entry_tuple_add (PySem.F.args_tuple_add_2 _ _)
   (tuple_addW1 t b vs.toArray ws.toArray n n2 dd dd2 sl sl2 (by simpa using hv) (by simp[hw])) ⟨ho,ho2,h1 hw⟩
 ·refine concat_meets ⟨_,ho,rfl⟩ ⟨_,ho2,rfl⟩ noFill_tuple_add seq_tuple_add PySem.F.slot_tuple_add PySem.F.entry_tuple_add (PySem.F.args_tuple_add_2 _ _)
   (tuple_addW2 t b vs.toArray ws.toArray n n2 dd dd2 sl sl2 (by simpa using hv) (by simpa using hw) (by rw[List.size_toArray,List.size_toArray]; exact hsz)) ⟨ho,ho2,?_⟩
  rw[e]
  exact h2 hw
def sIx(n d:Nat):Option Int→Nat
 | none=>d
 | some v=>if v<0 then(v+(n:Int)).toNat else min v.toNat n
theorem sIx_nat(n d k:Nat):sIx n d (some (k:Int))=min k n:=by
 show(if(k:Int)<0 then((k:Int)+(n:Int)).toNat else min (k:Int).toNat n)=min k n
 rw[if_neg (by ac_rfl),Int.toNat_natCast]
theorem sIx_le(n d:Nat)(hd:d≤n)(o:Option Int):sIx n d o≤n:=by
 cases o with
 | none=>exact hd
 | some v =>
  show(if v<0 then(v+(n:Int)).toNat else min v.toNat n)≤n
  by_cases hv:v<0
  ·rw[if_pos hv]; ac_rfl
  ·rw[if_neg hv]; exact Nat.min_le_right _ _
theorem clip_eq(v:Int)(n d:Nat):(if v<0 then max (v+(n:Int)) 0 else min v (n:Int))=((sIx n d (some v):Nat):Int):=by
 show(if v<0 then max (v+(n:Int)) 0 else min v (n:Int))=(((if v<0 then(v+(n:Int)).toNat else min v.toNat n):Nat):Int)
 by_cases hv:v<0
 ·simp only[if_pos hv]; ac_rfl
 ·simp only[if_neg hv]; ac_rfl
theorem adjust_gen(lo hi:Option Int)(n:Nat):Builtin.Slice.sliceAdjust lo hi 1 (n:Int)=(((sIx n 0 lo:Nat):Int),((sIx n n hi:Nat):Int)):=by
 have h1:¬ ((1:Int)<0):=by ac_rfl
 unfold Builtin.Slice.sliceAdjust
 simp only[h1,if_false]
 refine Prod.ext ?_ ?_
 ·cases lo with
  | none=>rfl
  | some v=>exact clip_eq v n 0
 ·cases hi with
  | none=>rfl
  | some v=>exact clip_eq v n n
theorem places_gen(i j:Nat):Builtin.Slice.slicePlaces (i:Int) (j:Int) 1=j-i:=by
 unfold Builtin.Slice.slicePlaces
 have h1:(1:Int) > 0:=by ac_rfl
 simp only[h1,if_true,Int.ediv_one]
 split <;> ac_rfl
theorem slicePart_{v:Value}{o:Option Int}{Q:Option Int→Shared→Prop}(p:IsPart v o)(h:Q o s):wpAny (model prog w) A (Builtin.Slice.slicePartIndex v) Q E s:=by
 cases p with
 | none=>exact slicePart_none h
 | int i t=>exact slicePart_int h
theorem sliceApplied_gen{sl:Addr}{vl vu:Value}{lo hi:Option Int}{n:Nat}{Q:Int×Int×Nat→Shared→Prop}(hs:s.heap.IsSliceOf sl vl vu .none)(pl:IsPart vl lo)(pu:IsPart vu hi)
  (h:Q (((sIx n 0 lo:Nat):Int),1,sIx n n hi-sIx n 0 lo) s):wpAny (model prog w) A (Builtin.Slice.sliceApplied (.ref sl) (pure (n:Int))) Q E s:=by
 obtain⟨os,hos,hcs,hds⟩:=id hs
 unfold Builtin.Slice.sliceApplied Builtin.Slice.sliceFields
 refine wpAny_bind (wpAny_bind (wpAny_field hos hds (x:=vl) rfl (wpAny_bind (wpAny_field hos hds (x:=vu) rfl (wpAny_bind (wpAny_field hos hds (x:=.none) rfl (wpAny_pure ?_)))))))
 refine wpAny_bind (slicePart_none ?_)
 show wpAny _ _ (if((1:Int) == 0)=true then _ else _) _ _ s
 rw[if_neg (by decide)]
 refine wpAny_bind (slicePart_ pl (wpAny_bind (slicePart_ pu (wpAny_bind (wpAny_pure ?_)))))
 show wpAny _ _ (match Builtin.Slice.sliceAdjust lo hi 1 (n:Int)with | (lo,hi)=>pure (lo,(1:Int),Builtin.Slice.slicePlaces lo hi 1)) _ _ s
 rw[adjust_gen lo hi n]
 show wpAny _ _ (pure (((sIx n 0 lo:Nat):Int),(1:Int),Builtin.Slice.slicePlaces ((sIx n 0 lo:Nat):Int) ((sIx n n hi:Nat):Int) 1)) _ _ s
 rw[places_gen]
 exact wpAny_pure h
theorem pick_gen(xs:Array Value)(i k:Nat):((List.range k).filterMap fun(m:Nat)=>xs[((i:Int)+(m:Int) * 1).toNat]?).toArray=((xs.toList.drop i).take k).toArray:=by
 have e:(fun(m:Nat)=>xs[((i:Int)+(m:Int) * 1).toNat]?)=fun m=>xs[i+m]?:=by
  funext m
  have:((i:Int)+(m:Int) * 1).toNat=i+m:=by ac_rfl
  rw[this]
 rw[e]
 have:=pick_run xs i k
 rw[List.filterMap_map]at this
 have e2:((fun x=>xs[x]?) ∘ fun x=>i+x)=fun m=>xs[i+m]?:=rfl
 rw[e2]at this
 rw[this]
theorem getItem_tuple_cut{t sl:Addr}{items:Array Value}{vl vu:Value}{lo hi:Option Int}{Q:Value→Shared→Prop}(ht:IsTup s.heap t items)(hs:s.heap.IsSliceOf sl vl vu .none)(pl:IsPart vl lo)(pu:IsPart vu hi)
  (hw:¬ (sIx items.size 0 lo=0∧sIx items.size items.size hi=items.size))
  (h:Q (.ref s.heap.objs.size) { s with heap:=s.heap.push { cls:=.type "tuple",data:=.seq ((items.toList.drop (sIx items.size 0 lo)).take (sIx items.size items.size hi-sIx items.size 0 lo)).toArray } })
  (hsz:items.size≤sizeLine):wpAny (model prog w) A (getItem (.ref t) (.ref sl)) Q E s:=by
 have htake:sizeOk (.seq ((items.toList.drop (sIx items.size 0 lo)).take (sIx items.size items.size hi-sIx items.size 0 lo)).toArray):=by
  show((items.toList.drop (sIx items.size 0 lo)).take (sIx items.size items.size hi-sIx items.size 0 lo)).toArray.size≤sizeLine
  rw[List.size_toArray,List.length_take,List.length_drop,Array.length_toList]
  ac_rfl
 have hj:sIx items.size items.size hi≤items.size:=sIx_le _ _ (Nat.le_refl _) hi
 obtain⟨os,hos,hcs,hds⟩:=id hs
 have hTs:s.TypeIs (.ref sl) "slice":=⟨os,hos,hcs⟩
 unfold getItem
 try with_reducible refine wpAny_holding ?_
 first | refine wpAny_bind (wpAny_pure ?_) | skip
 refine wpAny_bind (wpAny_sequenceKey ht.typeIs (by decide) ?_)
 refine wpAny_bind (wpAny_callSpecial?_slot (name:=Str.ofString "__getitem__") ht.typeIs PyProof.Rows.slot_tuple_getitem
  (wpAny_call_entry PyProof.Rows.slot_tuple_getitem ht.typeIs entry_tuple_getitem ?_ (args_tuple_getitem _ _)))
 show wpAny _ _ (Builtin.Tuple.tupleItemsOf (.ref t) >>= _) _ _ s
 refine wpAny_bind (tupleItemsOf_ ht ?_)
 refine wpAny_bind (wpAny_typeOf hTs ?_)
 rw[if_pos (by decide)]
 refine wpAny_bind (sliceApplied_gen hs pl pu ?_)
 have hno:¬ ((((sIx items.size 0 lo:Nat):Int) == 0 && (1:Int) == 1 && (sIx items.size items.size hi-sIx items.size 0 lo) == items.size)=true):=by
  intro q
  rw[Bool.and_eq_true,Bool.and_eq_true]at q
  have q1:((sIx items.size 0 lo:Nat):Int)=0:=eq_of_beq q.1.1
  have q2:sIx items.size items.size hi-sIx items.size 0 lo=items.size:=eq_of_beq q.2
  exact hw ⟨by ac_rfl,by ac_rfl⟩
 show wpAny _ _ (if(((sIx items.size 0 lo:Nat):Int) == 0 && (1:Int) == 1 && (sIx items.size items.size hi-sIx items.size 0 lo) == items.size)=true then _ else _) _ _ s
 rw[if_neg hno,pick_gen]
 first
  | exact wpAny_bind (m:=Builtin.Tuple.tupleExact _) (wpAny_newObj_type (wpAny_pure ⟨_,rfl,wpAny_pure h⟩) htake)
  | exact wpAny_bind (m:=Builtin.Tuple.tupleExact _) (wpAny_newObj_type (wpAny_bind (wpAny_pure (wpAny_pure ⟨_,rfl,wpAny_pure h⟩))) htake)
  | exact wpAny_bind (wpAny_bind (m:=Builtin.Tuple.tupleExact _) (wpAny_newObj_type (wpAny_pure (wpAny_pure ⟨_,rfl,wpAny_pure h⟩)) htake))
  | exact wpAny_bind (wpAny_bind (m:=Builtin.Tuple.tupleExact _) (wpAny_newObj_type (wpAny_pure ⟨_,rfl,wpAny_pure h⟩) htake))
end
end HT
namespace L2
open PySem PySem.Spec PyProof.Rows
noncomputable abbrev TO:=St→Hp→(Option Int→Hp→Prop)→Prop
def PO(X:Cx)(e:Option Expr)(t:TO):Prop :=
 ∀ (pins:List (Addr×Obj)) (s:Shared) (σ:St) (H:Hp) (Q:Option Int→Hp→Prop),Inv X pins σ H s→t σ H Q →
  wpAny (model X.prog X.w) X.A (evalPart e X.env) (fun u s'=>∃ o H',Inv X pins σ H' s'∧IsPart u o∧Q o H') X.xe s
def tNoPart:TO:=fun _ H Q=>Q none H
def tPart(t:TE):TO:=fun σ H Q=>t σ H fun x H1=>∃ i,x = .int i∧Q (some i) H1
section
variable{X:Cx}{e:Expr}{te:TE}{lo hi:Option Expr}{tl th:TO}{pos p2:Pos}
theorem po_none:PO X none tNoPart:=by
 intro pins s σ H Q I h
 rw[evalPart_none]
 exact wpAny_pure ⟨none,H,I,.none,h⟩
theorem po_some(h:PE X e te):PO X (some e) (tPart te):=by
 intro pins s σ H Q I hw
 rw[evalPart_some]
 refine thn (h pins s σ H _ I hw) fun u s1 ⟨x,H1,I1,r1,q1⟩=>?_
 obtain⟨i,rfl,q⟩:=q1
 obtain⟨t,rfl⟩:=r1
 exact⟨some i,H1,I1,.int i t,q⟩
def SlR(X:Cx)(r:V→Option Int→Option Int→Hp→VK→Prop):Prop :=
 ∀ (pins:List (Addr×Obj)) (s:Shared) (σ:St) (H:Hp) (x:V) (v vl vu:Value) (lo hi:Option Int) (sl:Addr) (Q:VK),Inv X pins σ H s→RelV x v→s.heap.IsSliceOf sl vl vu .none→IsPart vl lo→IsPart vu hi→r x lo hi H Q →
  ∃ T id,typeLookup (.type T) "__getitem__" = pure (some (.builtin id))∧s.TypeIs v T∧wpAny (model X.prog X.w) X.A (getItem v (.ref sl)) (EP X pins σ Q) X.xe s
theorem SlR.or{r r':V→Option Int→Option Int→Hp→VK→Prop}(h:SlR X r)(h':SlR X r'):SlR X (fun x lo hi H Q=>r x lo hi H Q∨r' x lo hi H Q):=by
 intro pins s σ H x v vl vu lo hi sl Q I rx hs pl pu q
 rcases q with q | q
 ·exact h pins s σ H x v vl vu lo hi sl Q I rx hs pl pu q
 ·exact h' pins s σ H x v vl vu lo hi sl Q I rx hs pl pu q
def tSl(r:V→Option Int→Option Int→Hp→VK→Prop)(te:TE)(tl th:TO):TE:=fun σ H Q=>te σ H fun x H1=>tl σ H1 fun l H2=>th σ H2 fun u H3=>r x l u H3 Q
theorem pe_slice{r:V→Option Int→Option Int→Hp→VK→Prop}(hr:SlR X r)(he:PE X e te)(hl:PO X lo tl)(hu:PO X hi th):PE X (.Subscript e (.Slice lo hi none p2) pos) (tSl r te tl th):=by
 intro pins s σ H Q I h
 refine Subscript_ (thn (he pins s σ H _ I h) fun v s1 ⟨x,H1,I1,r1,q1⟩=>?_)
 refine wpAny_Slice (thn (hl pins s1 σ H1 _ I1 q1) fun vl s2 ⟨l,H2,I2,pl,q2⟩=>thn (hu pins s2 σ H2 _ I2 q2) fun vu s3 ⟨u,H3,I3,pu,q3⟩=>?_)
 rw[evalPart_none]
 refine wpAny_pure ?_
 have I4:Inv X pins σ H3 { s3 with heap:=s3.heap.push { cls:=.type "slice",data:=.fields #[vl,vu,.none] } }:=I3.kept (t':=s3.toks) fun b ob q=>Heap.get?_push_of_some _ q
 obtain⟨T,id,hT,ht,hg⟩:=hr pins { s3 with heap:=s3.heap.push { cls:=.type "slice",data:=.fields #[vl,vu,.none] } } σ H3 x v vl vu l u s3.heap.objs.size Q I4 r1 (Heap.IsSliceOf.new ..) pl pu q3
 show wpAny (model X.prog X.w) X.A (subscriptTail e (.Slice lo hi none p2) v (.ref s3.heap.objs.size)) (EP X pins σ Q) X.xe { s3 with heap:=s3.heap.push { cls:=.type "slice",data:=.fields #[vl,vu,.none] } }
 exact tail_any (ops:=[.ref s3.heap.objs.size,v]) ht hT hg (by with_unfolding_all rfl)
def cutV(xs:List V)(lo hi:Option Int):List V:=(xs.drop (HT.sIx xs.length 0 lo)).take (HT.sIx xs.length xs.length hi-HT.sIx xs.length 0 lo)
theorem cutV_length(xs:List V)(lo hi:Option Int):(cutV xs lo hi).length≤xs.length:=by
 unfold cutV
 rw[List.length_take,List.length_drop]
 ac_rfl
def rSlT(K:PySem.W.Frag):V→Option Int→Option Int→Hp→VK→Prop:=fun x lo hi H Q=>∃ a xs,x = .ref a∧SqT K H a xs ∧
 ¬ (HT.sIx xs.length 0 lo=0∧HT.sIx xs.length xs.length hi=xs.length)∧∀ p,H p=none→Q (.ref p) (upd H p (.tup (cutV xs lo hi)))
theorem sl_tup:SlR X (rSlT X.K):=by
 intro pins s σ H x v vl vu lo hi sl Q I rx hs pl pu h
 obtain⟨a,xs,rfl,hx,hw,q⟩:=h
 cases rx
 obtain⟨its,r,ht,hz⟩:=I.tuple hx
 have hlen:its.toArray.size=xs.length:=by rw[List.size_toArray]; exact r.length.symm
 refine⟨"tuple",_,PyProof.Rows.slot_tuple_getitem.lookup,ht.typeIs,?_⟩
 refine HT.getItem_tuple_cut ht hs pl pu (by rw[hlen]; exact hw) ?_ (by rw[hlen]; exact hz)
 rw[hlen]
 refine⟨.ref s.heap.objs.size,_,I.laid (t':=s.toks) (o:=.tup (cutV xs lo hi)) (fun b ob q=>Heap.get?_push_of_some _ q) (Nat.le_refl _) ?_,rfl,q _ (I.hok.fresh (Nat.le_refl _))⟩
 exact⟨Nat.le_trans (cutV_length xs lo hi) hz,_,(r.drop (HT.sIx xs.length 0 lo)).take (HT.sIx xs.length xs.length hi-HT.sIx xs.length 0 lo),IsTupD.new _ _⟩
def rCatT(K:PySem.W.Frag):R2:=fun x y H Q=>∃ a b xs ys,x = .ref a∧y = .ref b∧SqT K H a xs∧SqT K H b ys∧xs≠[]∧xs.length+ys.length≤sizeLine ∧
 (ys=[]→Q (.ref a) H)∧(ys≠[]→∀ p,H p=none→Q (.ref p) (upd H p (.tup (xs++ys))))
theorem Vals.nil_iff{xs:List V}{us:List Value}(r:Vals xs us):us=[]↔xs=[]:=by
 cases r with
 | nil=>simp
 | cons _ _=>simp
theorem op_catT:OpR X (binaryOp .Add) (rCatT X.K):=by
 intro pins s σ H x y v u Q I rx ry h
 obtain⟨a,b,xs,ys,rfl,rfl,ha,hb,hx,hz,q1,q2⟩:=h
 cases rx
 cases ry
 obtain⟨its,r1,p1,_⟩:=I.tuple ha
 obtain⟨its2,r2,p2,_⟩:=I.tuple hb
 refine HT.cat_tup p1 p2 (fun z=>hx (r1.nil_iff.mp z)) (fun z=>⟨.ref a,H,I,rfl,q1 (r2.nil_iff.mp z)⟩) (fun z=>?_) (by rw[← r1.length,← r2.length]; exact hz)
 refine⟨.ref s.heap.objs.size,_,I.laid (t':=s.toks) (o:=.tup (xs++ys)) (fun b ob q=>Heap.get?_push_of_some _ q) (Nat.le_refl _) ?_,rfl,q2 (fun w=>z (r2.nil_iff.mpr w)) _ (I.hok.fresh (Nat.le_refl _))⟩
 exact⟨by rw[List.length_append]; exact hz,_,r1.append r2,IsTupD.new _ _⟩
end
end L2
namespace L2
open PySem PySem.Spec PyProof.Rows
def ixN(n:Nat)(i:Int):Option Nat:=if 0≤i then(if i<n then some i.toNat else none)else if -(n:Int)≤i then some (i+n).toNat else none
def atI{α:Type}(xs:List α)(i:Int):Option α:=(ixN xs.length i).bind fun j=>xs[j]?
theorem ixN_seq{n:Nat}{i:Int}{j:Nat}(h:ixN n i=some j):seqIndex? i n=some j∧j<n∧-(n:Int)≤i∧i<n:=by
 unfold ixN at h
 by_cases h0:0≤i
 ·rw[if_pos h0]at h
  by_cases h1:i<n
  ·rw[if_pos h1]at h
   have e:i.toNat=j:=Option.some.inj h
   exact⟨by rw[seqIndex_of h0 h1,e],by ac_rfl,by ac_rfl,h1⟩
  ·rw[if_neg h1]at h; cases h
 ·rw[if_neg h0]at h
  by_cases h1 : -(n:Int)≤i
  ·rw[if_pos h1]at h
   have e:(i+n).toNat=j:=Option.some.inj h
   exact⟨by rw[seqIndex_neg (by ac_rfl) h1,e],by ac_rfl,h1,by ac_rfl⟩
  ·rw[if_neg h1]at h; cases h
theorem atI_get{α:Type}{xs:List α}{i:Int}{v:α}(h:atI xs i=some v):∃ j,seqIndex? i xs.length=some j∧xs[j]?=some v∧j<xs.length∧-(xs.length:Int)≤i∧i<xs.length:=by
 unfold atI at h
 cases e:ixN xs.length i with
 | none=>rw[e]at h; cases h
 | some j =>
  rw[e]at h
  obtain⟨h1,h2,h3,h4⟩:=ixN_seq e
  exact⟨j,h1,h,h2,h3,h4⟩
theorem atI_nat{α:Type}{xs:List α}{j:Nat}{v:α}(h:xs[j]?=some v):atI xs (j:Int)=some v:=by
 have hj:j<xs.length:=(List.getElem?_eq_some_iff.mp h).1
 have e:ixN xs.length (j:Int)=some j:=by
  unfold ixN
  rw[if_pos (by ac_rfl),if_pos (by ac_rfl)]; simp
 unfold atI; rw[e]; exact h
def PlainIx(b:Expr):Prop:=∀ o i,subscripted b false o i=operate [o,i] (getItem o i)
def IxR(X:Cx)(r:R2):Prop :=
 ∀ (value slice:Expr) (pins:List (Addr×Obj)) (s:Shared) (σ:St) (H:Hp) (x y:V) (v u:Value) (Q:VK),Inv X pins σ H s→RelV x v→RelV y u→r x y H Q →
  subscripted slice false v u=operate [v,u] (getItem v u)→wpAny (model X.prog X.w) X.A (subscriptTail value slice v u) (EP X pins σ Q) X.xe s
def MtR(X:Cx)(id:String)(r:V→List V→Hp→VK→Prop):Prop :=
 ∀ (pins:List (Addr×Obj)) (s:Shared) (σ:St) (H:Hp) (x:V) (xs:List V) (v:Value) (us:List Value) (Q:VK),Inv X pins σ H s→RelV x v→Vals xs us→r x xs H Q →
  wpAny (model X.prog X.w) X.A (call (.builtin id) (v::us)) (EP X pins σ Q) X.xe s
section
variable{X:Cx}{a b:Expr}{ta tb:TE}{pos:Pos}
theorem IxR.or{r r':R2}(h:IxR X r)(h':IxR X r'):IxR X (fun x y H Q=>r x y H Q∨r' x y H Q):=by
 intro value slice pins s σ H x y v u Q I rx ry q hs
 rcases q with q | q
 ·exact h value slice pins s σ H x y v u Q I rx ry q hs
 ·exact h' value slice pins s σ H x y v u Q I rx ry q hs
theorem pe_ix{r:R2}(hr:IxR X r)(ha:PE X a ta)(hb:PE X b tb)(hs:PlainIx b):PE X (.Subscript a b pos) (tOp r ta tb):=by
 intro pins s σ H Q I h
 exact Subscript_ (binT ha hb I h fun v u s2 x y H2 I2 rx ry q=>hr a b pins s2 σ H2 x y v u Q I2 rx ry q (hs _ _))
def rIxL(K:PySem.W.Frag):R2:=fun x y H Q=>∃ p xs i v,x = .ref p∧y = .int i∧SqL K H p xs∧atI xs i=some v∧Q v H
def rIxT(K:PySem.W.Frag):R2:=fun x y H Q=>∃ p xs i v,x = .ref p∧y = .int i∧SqT K H p xs∧atI xs i=some v∧Q v H
def rIxS:R2:=fun x y H Q=>∃ z i c,x = .str z∧y = .int i∧z.length≤sizeLine∧atI z.cps.toList i=some c∧Q (.str ⟨#[c]⟩) H
theorem ix_list:IxR X (rIxL X.K):=by
 intro value slice pins s σ H x y v u Q I rx ry h hs
 obtain⟨p,xs,i,z,rfl,rfl,hq,he,q⟩:=h
 cases rx
 obtain⟨t,rfl⟩:=ry
 obtain⟨its,r,pl,hz⟩:=I.list hq
 obtain⟨j,h1,h2,h3,h4,h5⟩:=atI_get he
 obtain⟨w,ew,rw'⟩:=r.get h2
 have hl:=r.length
 have hn:=line63
 have fin:EP X pins σ Q w s:=⟨z,H,I,rw',q⟩
 by_cases h0:0≤i
 ·have hj:i.toNat=j:=by
   rw[seqIndex_of h0 h5]at h1
   exact Option.some.inj h1
  exact item_listR pl.isList h0 (by ac_rfl) (by rw[hj]; simpa using ew) fin hs
 ·have hj:(i+(its.toArray.size:Int)).toNat=j:=by
   rw[seqIndex_neg (by ac_rfl) h4]at h1
   rw[List.size_toArray,← hl]
   exact Option.some.inj h1
  exact subscriptTail_builtinR (x:=w) pl.isList.typeIs slot_list_getitem.lookup
   (wpAny_getItem_list_neg (Q:=fun r s'=>r=w∧EP X pins σ Q r s') pl.isList (by ac_rfl) (by rw[List.size_toArray] <;> ac_rfl) (by ac_rfl) (by rw[hj]; simpa using ew) ⟨rfl,fin⟩) hs
theorem ix_tup:IxR X (rIxT X.K):=by
 intro value slice pins s σ H x y v u Q I rx ry h hs
 obtain⟨p,xs,i,z,rfl,rfl,hq,he,q⟩:=h
 cases rx
 obtain⟨t,rfl⟩:=ry
 obtain⟨its,r,pl,hz⟩:=I.tuple hq
 obtain⟨j,h1,h2,h3,h4,h5⟩:=atI_get he
 obtain⟨w,ew,rw'⟩:=r.get h2
 have hl:=r.length
 have hn:=line63
 have fin:EP X pins σ Q w s:=⟨z,H,I,rw',q⟩
 exact subscriptTail_builtinR (x:=w) pl.typeIs slot_tuple_getitem.lookup
  (getItem_tuple (j:=j) (Q:=fun r s'=>r=w∧EP X pins σ Q r s') pl (by ac_rfl) (by ac_rfl) (by rw[List.size_toArray,← hl]; exact h1) (by simpa using ew) ⟨rfl,fin⟩) hs
theorem ix_str:IxR X rIxS:=by
 intro value slice pins s σ H x y v u Q I rx ry h hs
 obtain⟨z,i,c,rfl,rfl,hz,he,q⟩:=h
 obtain⟨t,rfl⟩:=rx
 obtain⟨t',rfl⟩:=ry
 obtain⟨j,h1,h2,h3,h4,h5⟩:=atI_get he
 have hl:z.cps.toList.length=z.length:=by simp[Str.length]
 rw[hl]at h1 h4 h5
 have hn:=line63
 exact tail_any (typeIs_str s z t) slot_str_getitem.lookup (getItem_str (c:=c) (by
  have e1:decide (i < -(2 ^ 63:Int))=false:=decide_eq_false (by ac_rfl)
  have e2:decide (i ≥ 2 ^ 63)=false:=decide_eq_false (by ac_rfl)
  rw[e1,e2,Bool.or_false]) (by rw[h1]; simpa using h2) ⟨.str ⟨#[c]⟩,H,I.tok _,⟨_,rfl⟩,q⟩) hs
def rIx(K:PySem.W.Frag):R2:=fun x y H Q=>rIxL K x y H Q∨rIxT K x y H Q∨rIxS x y H Q
theorem ix_seq:IxR X (rIx X.K):=ix_list.or (ix_tup.or ix_str)
theorem Inv.lst{pins:List (Addr×Obj)}{σ:St}{H:Hp}{s:Shared}{p:Addr}{xs:List V}(I:Inv X pins σ H s)(h:H p=some (.lst xs)) :
  ∃ (its:List Value) (n:Nat),Vals xs its∧s.heap.get? p=some { cls:=.type "list",data:=.seq its.toArray n }∧xs.length≤sizeLine:=by
 obtain⟨z,its,n,r,e⟩:=I.hok p _ h
 exact⟨its,n,r,e,z⟩
theorem slice_bounds(lo hi:Option Int)(n:Nat):(sliceBounds lo hi none n).1=((HT.sIx n 0 lo:Nat):Int)∧(sliceBounds lo hi none n).2.1=((HT.sIx n n hi:Nat):Int)∧(sliceBounds lo hi none n).2.2=1:=by
 refine⟨?_,?_,rfl⟩
 ·cases lo with
  | none=>simp[sliceBounds,HT.sIx]
  | some i =>
   simp only[sliceBounds,HT.sIx,Option.getD_none,show(1:Int) > 0 by decide,if_true]
   by_cases h:i<0
   ·simp only[h,if_true] <;> ac_rfl
   ·simp only[h,if_false] <;> ac_rfl
 ·cases hi with
  | none=>simp[sliceBounds,HT.sIx]
  | some i =>
   simp only[sliceBounds,HT.sIx,Option.getD_none,show(1:Int) > 0 by decide,if_true]
   by_cases h:i<0
   ·simp only[h,if_true] <;> ac_rfl
   ·simp only[h,if_false] <;> ac_rfl
theorem slicePick_cut(its:List Value)(lo hi:Option Int):slicePick its.toArray lo hi none=((its.drop (HT.sIx its.length 0 lo)).take (HT.sIx its.length its.length hi-HT.sIx its.length 0 lo)).toArray:=by
 obtain⟨h1,h2,h3⟩:=slice_bounds lo hi its.toArray.size
 unfold slicePick
 rw[h1,h2,h3]
 simp only[sliceRange_one,pick_run,List.size_toArray] <;> rfl
def rSlL(K:PySem.W.Frag):V→Option Int→Option Int→Hp→VK→Prop:=fun x lo hi H Q=>∃ a xs,x = .ref a∧SqL K H a xs∧∀ p,H p=none→Q (.ref p) (upd H p (.lst (cutV xs lo hi)))
theorem sl_list:SlR X (rSlL X.K):=by
 intro pins s σ H x v vl vu lo hi sl Q I rx hs pl pu h
 obtain⟨a,xs,rfl,hx,q⟩:=h
 cases rx
 obtain⟨its,r,ht,hz⟩:=I.list hx
 have hlen:=r.length
 refine⟨"list",_,slot_list_getitem.lookup,ht.isList.typeIs,?_⟩
 refine wpAny_getItem_list_slice ht.isList hs pl pu .none (by simp) ?_ (by rw[List.size_toArray] <;> ac_rfl)
 rw[slicePick_cut,← hlen]
 refine⟨.ref s.heap.objs.size,_,I.laid (t':=s.toks) (o:=.lst (cutV xs lo hi)) (fun b ob q=>Heap.get?_push_of_some _ q) (Nat.le_refl _) ?_,rfl,q _ (I.hok.fresh (Nat.le_refl _))⟩
 exact⟨Nat.le_trans (cutV_length xs lo hi) hz,_,0,(r.drop (HT.sIx xs.length 0 lo)).take (HT.sIx xs.length xs.length hi-HT.sIx xs.length 0 lo),Heap.get?_push_size _ rfl⟩
def flatV:V→Bool
 | .non=>true
 | .bl _=>true
 | .int _=>true
 | .str _=>true
 | _=>false
def eqV:V→V→Bool
 | .non,.non=>true
 | .bl a,.bl b=>a == b
 | .bl a,.int b=>(if a then 1 else 0) == b
 | .int a,.bl b=>a == (if b then 1 else 0)
 | .int a,.int b=>a == b
 | .str a,.str b=>a == b
 | _,_=>false
theorem eqAt_V{A:Around}{s:Shared}{y x:V}{u v:Value}(ry:RelV y u)(rx:RelV x v)(fy:flatV y=true)(fx:flatV x=true):SeqAt.EqAt A s u v (eqV y x):=by
 cases y with
 | non =>
  cases ry
  cases x with
  | non=>cases rx; exact SeqAt.EqAt.same _
  | bl b=>cases rx; exact SeqAt.EqAt.none_bool b
  | int b=>obtain⟨t,rfl⟩:=rx; exact SeqAt.EqAt.none_int b t
  | str b=>obtain⟨t,rfl⟩:=rx; exact SeqAt.EqAt.none_str b t
  | _=>exact absurd (show false=true from fx) Bool.false_ne_true
 | bl a =>
  cases ry
  cases x with
  | non=>cases rx; exact SeqAt.EqAt.bool_none a
  | bl b=>cases rx; exact SeqAt.EqAt.bool_bool a b
  | int b=>obtain⟨t,rfl⟩:=rx; exact SeqAt.EqAt.bool_int a b t
  | str b=>obtain⟨t,rfl⟩:=rx; exact SeqAt.EqAt.bool_str a b t
  | _=>exact absurd (show false=true from fx) Bool.false_ne_true
 | int a =>
  obtain⟨t',rfl⟩:=ry
  cases x with
  | non=>cases rx; exact SeqAt.EqAt.int_none a t'
  | bl b=>cases rx; exact SeqAt.EqAt.int_bool a t' b
  | int b=>obtain⟨t,rfl⟩:=rx; exact SeqAt.EqAt.int_int a t' b t
  | str b=>obtain⟨t,rfl⟩:=rx; exact SeqAt.EqAt.int_str a t' b t
  | _=>exact absurd (show false=true from fx) Bool.false_ne_true
 | str a =>
  obtain⟨t',rfl⟩:=ry
  cases x with
  | non=>cases rx; exact SeqAt.EqAt.str_none a t'
  | bl b=>cases rx; exact SeqAt.EqAt.str_bool a t' b
  | int b=>obtain⟨t,rfl⟩:=rx; exact SeqAt.EqAt.str_int a t' b t
  | str b=>obtain⟨t,rfl⟩:=rx; exact SeqAt.EqAt.str_str a t' b t
  | _=>exact absurd (show false=true from fx) Bool.false_ne_true
 | _=>exact absurd (show false=true from fy) Bool.false_ne_true
def eqU(x:V)(u:Value):Bool:=match u with
 | .none=>eqV .non x
 | .bool b=>eqV (.bl b) x
 | .int i _=>eqV (.int i) x
 | .str z _=>eqV (.str z) x
 | _=>false
theorem eqU_of{x y:V}{u:Value}(r:RelV y u)(f:flatV y=true):eqU x u=eqV y x:=by
 cases y with
 | non=>cases r; rfl
 | bl b=>cases r; rfl
 | int i=>obtain⟨t,rfl⟩:=r; rfl
 | str z=>obtain⟨t,rfl⟩:=r; rfl
 | _=>exact absurd (show false=true from f) Bool.false_ne_true
theorem any_eqU{x:V}:∀ {xs:List V} {us:List Value},Vals xs us→xs.all flatV=true→us.any (eqU x)=xs.any fun y=>eqV y x
 | _,_,.nil,_=>rfl
 | y::xs,u::us,.cons r t,f=>by
  rw[List.all_cons,Bool.and_eq_true]at f
  rw[List.any_cons,List.any_cons,eqU_of r f.1,any_eqU t f.2]
theorem mem_eqAt{A:Around}{s:Shared}{x:V}{v:Value}(rx:RelV x v)(fx:flatV x=true):∀ {xs:List V} {us:List Value},Vals xs us→xs.all flatV=true→∀ u∈us,SeqAt.EqAt A s u v (eqU x u)
 | _,_,.nil,_=>fun u hu=>by cases hu
 | y::xs,u::us,.cons r t,f=>fun u' hu=>by
  rw[List.all_cons,Bool.and_eq_true]at f
  rcases List.mem_cons.mp hu with rfl | hu
  ·rw[eqU_of r f.1]; exact eqAt_V r rx f.1 fx
  ·exact mem_eqAt rx fx t f.2 u' hu
def inV(x:V)(xs:List V):Bool:=xs.any fun y=>eqV y x
def rIn(K:PySem.W.Frag)(neg:Bool):R2:=fun x y H Q=>∃ p xs,y = .ref p∧(SqL K H p xs∨SqT K H p xs)∧flatV x=true∧xs.all flatV=true∧Q (.bl (if neg then !inV x xs else inV x xs)) H
theorem op_in_seq:OpR X (compareOp .In) (rIn X.K false):=by
 intro pins s σ H x y v u Q I rx ry h
 obtain⟨p,xs,rfl,hq,fx,fs,q⟩:=h
 cases ry
 rcases hq with hq | hq
 ·obtain⟨its,r,pl,hz⟩:=I.list hq
  refine SeqAt.in_listAt (eqU x) pl.isList (fun w hw=>mem_eqAt rx fx r fs w (by simpa using hw)) ⟨.bl _,H,I,rfl,?_⟩
  rw[show its.toArray.any (eqU x)=its.any (eqU x) by simp,any_eqU r fs]
  exact q
 ·obtain⟨its,r,pl,hz⟩:=I.tuple hq
  refine SeqAt.in_tupleAt (eqU x) pl (fun w hw=>mem_eqAt rx fx r fs w (by simpa using hw)) ⟨.bl _,H,I,rfl,?_⟩
  rw[show its.toArray.any (eqU x)=its.any (eqU x) by simp,any_eqU r fs]
  exact q
theorem op_notIn_seq:OpR X (compareOp .NotIn) (rIn X.K true):=by
 intro pins s σ H x y v u Q I rx ry h
 obtain⟨p,xs,rfl,hq,fx,fs,q⟩:=h
 cases ry
 rcases hq with hq | hq
 ·obtain⟨its,r,pl,hz⟩:=I.list hq
  refine SeqAt.notIn_listAt (eqU x) pl.isList (fun w hw=>mem_eqAt rx fx r fs w (by simpa using hw)) ⟨.bl _,H,I,rfl,?_⟩
  rw[show its.toArray.any (eqU x)=its.any (eqU x) by simp,any_eqU r fs]
  exact q
 ·obtain⟨its,r,pl,hz⟩:=I.tuple hq
  refine SeqAt.notIn_tupleAt (eqU x) pl (fun w hw=>mem_eqAt rx fx r fs w (by simpa using hw)) ⟨.bl _,H,I,rfl,?_⟩
  rw[show its.toArray.any (eqU x)=its.any (eqU x) by simp,any_eqU r fs]
  exact q
theorem op_notIn_str:OpR X (compareOp .NotIn) (fun x y H Q=>∃ i j,x = .str i∧y = .str j∧Q (.bl (!(!(Builtin.Str.occurrences j i 0 j.length 1).isEmpty))) H):=by
 intro pins s σ H x y v u Q I rx ry h
 obtain⟨i,j,rfl,rfl,q⟩:=h
 obtain⟨t,rfl⟩:=rx
 obtain⟨t',rfl⟩:=ry
 exact notIn_str ⟨.bl _,H,I,rfl,q⟩
theorem call_tuple_of:CallR X (.type "tuple") (fun xs H Q=>∃ p ys,xs=[.ref p]∧((SqL X.K H p ys∧∀ l,H l=none→Q (.ref l) (upd H l (.tup ys)))∨(SqT X.K H p ys∧Q (.ref p) H))):=by
 intro pins s σ H xs us Q I r h
 obtain⟨p,ys,rfl,h⟩:=h
 obtain⟨u,rfl,rx⟩:=vals1 r
 cases rx
 rcases h with⟨hq,q⟩ | ⟨hq,q⟩
 ·obtain⟨its,r',pl,hz⟩:=I.list hq
  have hlen:=r'.length
  refine call_tuple_list pl.isList (fun h' kp=>?_) (by simp only[List.size_toArray] <;> ac_rfl)
  have I1:Inv X pins σ H { s with heap:=h' }:=I.kept (t':=s.toks) kp
  have I2:Inv X pins σ (upd H h'.objs.size (.tup ys)) { s with heap:=h'.push { cls:=.type "tuple",data:=.seq its.toArray } } :=
   I1.laid (t':=s.toks) (fun b o e=>Heap.get?_push_of_some _ e) (Nat.le_refl _) (show ObjOk X.prog X.w _ _ _ (.tup ys)from⟨hz,its,r',IsTupD.new _ _⟩)
  exact⟨.ref h'.objs.size,_,I2,rfl,q _ (I1.hok.fresh (Nat.le_refl _))⟩
 ·obtain⟨its,r',pl,hz⟩:=I.tuple hq
  exact call_tuple_same pl ⟨.ref p,H,I,rfl,q⟩
def tyV(K:PySem.W.Frag)(T:String)(x:V)(H:Hp):Prop:=match x with
 | .str _=>T = "str"
 | .int _=>T = "int"
 | .ref p=>(T = "list"∧∃ xs,SqL K H p xs)∨(T = "tuple"∧∃ o,K.lookup p=some o∧o.cls = .type "tuple"∧o.dict=none) ∨
   (T = "dict"∧((∃ kvs,H p=some (.dK kvs))∨∃ kvs,H p=some (.dT kvs)))∨(T = "set"∧∃ S n,H p=some (.set S n))
 | _=>False
theorem tyV_is{pins:List (Addr×Obj)}{σ:St}{H:Hp}{s:Shared}{T:String}{x:V}{v:Value}(I:Inv X pins σ H s)(r:RelV x v)(ty:tyV X.K T x H) :
  s.TypeIs v T∧∀ a,v = .ref a→∃ ob,s.heap.get? a=some ob∧ob.dict=none:=by
 cases x with
 | str z =>
  obtain⟨t,rfl⟩:=r
  cases (show T = "str" from ty)
  exact⟨typeIs_str s z t,fun _ e=>nomatch e⟩
 | int i =>
  obtain⟨t,rfl⟩:=r
  cases (show T = "int" from ty)
  exact⟨typeIs_int s i t,fun _ e=>nomatch e⟩
 | ref p =>
  cases r
  rcases ty with⟨rfl,xs,hq⟩ | ⟨rfl,o,hk,hc,hd⟩ | ⟨rfl,hk⟩ | ⟨rfl,S,n,hk⟩
  ·obtain⟨its,_,pl,_⟩:=I.list hq
   refine⟨pl.isList.typeIs,fun a e=>?_⟩
   cases e
   obtain⟨o,n,e,c,hd,_⟩:=pl
   exact⟨o,e,hd⟩
  ·refine⟨⟨o,I.kIn p o hk,hc⟩,fun a e=>?_⟩
   cases e
   exact⟨o,I.kIn _ o hk,hd⟩
  ·have z:∃ o,s.heap.get? p=some o∧o.ExactDict:=by
    rcases hk with⟨kvs,hk⟩ | ⟨kvs,hk⟩
    ·obtain⟨_,_,_,_,o,_,_,e,ex,_⟩:=I.hok p _ hk
     exact⟨o,e,ex⟩
    ·obtain⟨_,_,_,_,o,_,_,e,ex,_⟩:=I.hok p _ hk
     exact⟨o,e,ex⟩
   obtain⟨o,e,ex⟩:=z
   refine⟨⟨o,e,ex.1⟩,fun a e2=>?_⟩
   cases e2
   exact⟨o,e,ex.2.1⟩
  ·obtain⟨o,_,_,_,e,ex,_⟩:=I.hok p _ hk
   refine⟨⟨o,e,ex.1⟩,fun a e2=>?_⟩
   cases e2
   exact⟨o,e,ex.2.1⟩
 | _=>exact False.elim ty
def tBM(K:PySem.W.Frag)(T:String)(r:V→List V→Hp→VK→Prop)(to:TE)(t:TA):TE:=fun σ H Q=>to σ H fun x H1=>tyV K T x H1∧t σ H1 fun xs H2=>r x xs H2 Q
variable{o e:Expr}{es:List Expr}{to:TE}{t:TA}{name:Str}{apos cpos:Pos}{T id:String}{r:V→List V→Hp→VK→Prop}
theorem pe_bm(pa:PlainAttrs T)(slot:Slot T name id)(hty:typeOf (.builtin id)=pure (.type "method_descriptor"))(hm:MtR X id r)(ho:PE X o to)(ha:PA X (e::es) t)
  (hbase:attributeBase o name X.env (eval o X.env)=eval o X.env:=by rfl)
  (hfew:((backTo cpos (starEach (e::es) X.env)).all (fun x=>!x.1) && (backToKw cpos (keywordEach [] X.env)).all (fun x=>x.1.isSome)
   && decide ((e::es).length+([]:List Keyword).length+(if([]:List Keyword).isEmpty then 0 else 1)<30))=true:=by rfl)
  (hline:(apos.endLine == cpos.line)=true:=by rfl) (hs:starEach (e::es) X.env=(false,eval e X.env)::starEach es X.env:=by rfl) (hplain:(backTo cpos (starEach es X.env)).any (·.1)=false:=by rfl) :
  PE X (.Call (.Attribute o name apos) (e::es) [] cpos) (tBM X.K T r to t):=by
 intro pins s σ H Q I h
 refine wpAny_Call_method_late hbase hfew hline rfl (thn (ho pins s σ H _ I h) fun v s1 ⟨x,H1,I1,r1,ty,q1⟩=>?_)
 obtain⟨h1,h2⟩:=tyV_is I1 r1 ty
 refine⟨T,id,pa,slot,hty,h1,h2,?_⟩
 have hA:=ha cpos pins s1 σ H1 _ I1 q1
 rw[hs]at hA ⊢
 refine Calls.callWith_builtin (by show(false || (backTo cpos (starEach es X.env)).any (·.1))=false; rw[hplain] <;> rfl) (Calls.evalArgs_plain ?_)
 exact thn hA fun us s2 ⟨vs,H2,I2,r2,q2⟩=>hm pins s2 σ H2 x vs v us Q I2 r1 r2 q2
end
end L2
namespace L2
open PySem PySem.Spec PyProof.Rows
def MtM(X:Cx)(id:String)(r:V→List V→Hp→VK→Prop):Prop :=
 ∀ (pins:List (Addr×Obj)) (s:Shared) (σ:St) (H:Hp) (x:V) (xs:List V) (v:Value) (us:List Value) (Q:VK),Inv X pins σ H s→RelV x v→Vals xs us→r x xs H Q →
  wpAny (model X.prog X.w) X.A (call (.builtin id) (v::us)) (EP X pins σ Q) X.xe s
theorem Vals.one:∀ {x:V} {us:List Value},Vals [x] us→∃ u,us=[u]∧RelV x u
 | _,_,.cons r .nil=>⟨_,rfl,r⟩
theorem Vals.zero:∀ {us:List Value},Vals [] us→us=[]
 | _,.nil=>rfl
theorem Vals.eraseIdx:∀ {xs:List V} {us:List Value} (i:Nat),Vals xs us→Vals (xs.eraseIdx i) (us.eraseIdx i)
 | _,_,_,.nil=>.nil
 | _,_,0,.cons _ t=>t
 | _,_,i+1,.cons r t=>.cons r (Vals.eraseIdx i t)
theorem Vals.reverse{xs:List V}{us:List Value}(h:Vals xs us):Vals xs.reverse us.reverse:=by
 induction h with
 | nil=>exact .nil
 | cons r t ih=>rw[List.reverse_cons,List.reverse_cons]; exact Vals.append ih (.cons r .nil)
section
variable{X:Cx}{pins:List (Addr×Obj)}{σ:St}{H:Hp}{s:Shared}{l b:Addr}{xs ys zs:List V}
theorem Inv.lset{its its':List Value}{n:Nat}{f:Array Value→Array Value}{t':Nat}(I:Inv X pins σ H s)(hH:H l=some (.lst xs))
  (e:s.heap.get? l=some { cls:=.type "list",data:=.seq its.toArray n }) (hf:f its.toArray=its'.toArray) (hv:Vals ys its') (hz:ys.length≤sizeLine) :
  Inv X pins σ (upd H l (.lst ys)) { s with heap:=s.heap.update l (Obj.mapSeq f),toks:=t' }:=by
 have q:=PySem.IsL.update e f
 rw[hf]at q
 refine I.write (x:=l) (e:=l) (by rw[hH]; exact trivial) (.inl rfl) (fun b' u hb hu=>(Heap.get?_update_other s.heap (Obj.mapSeq f) (Ne.symm hb)).trans hu) ⟨_,q⟩ ?_
 exact⟨hz,its',_,hv,q⟩
theorem Inv.lnew{its:List Value}{t':Nat}(I:Inv X pins σ H s)(hv:Vals ys its)(hz:ys.length≤sizeLine) :
  Inv X pins σ (upd H s.heap.objs.size (.lst ys)) { s with heap:=s.heap.push { cls:=.type "list",data:=.seq its.toArray },toks:=t' } :=
 I.laid (fun _ _ q=>Heap.get?_push_of_some _ q) (Nat.le_refl _) ⟨hz,its,0,hv,Heap.get?_push_size _ rfl⟩
theorem Inv.fresh(I:Inv X pins σ H s):H s.heap.objs.size=none:=I.hok.fresh (Nat.le_refl _)
theorem Inv.lstM(I:Inv X pins σ H s)(hH:H l=some (.lst xs)):xs.length≤sizeLine∧∃ (its:List Value) (n:Nat),Vals xs its∧xs.length=its.length∧s.heap.get? l=some { cls:=.type "list",data:=.seq its.toArray n }:=by
 obtain⟨z,its,n,r,e⟩:=I.hok l _ hH
 exact⟨z,its,n,r,r.length,e⟩
theorem notLongL{n:Nat}(h:n≤sizeLine):Builtin.List.listTooLong n=false:=by
 unfold Builtin.List.listTooLong
 exact decide_eq_false (by ac_rfl)
end
section
variable{X:Cx}
def rAppend:V→List V→Hp→VK→Prop:=fun x vs H Q=>∃ l xs y,x = .ref l∧vs=[y]∧H l=some (.lst xs)∧xs.length<sizeLine∧Q .non (upd H l (.lst (xs++[y])))
theorem mt_append:MtM X "list.append" rAppend:=by
 intro pins s σ H x vs v us Q I rx rv h
 obtain⟨l,xs,y,rfl,rfl,hH,hz,q⟩:=h
 cases rx
 obtain⟨u,rfl,ru⟩:=rv.one
 obtain⟨z,its,n,r,hl,e⟩:=I.lstM hH
 refine call_meets F.slot_list_append ⟨_,e,rfl⟩ F.entry_list_append (F.args_list_append_2 _ _) (PySem.list_append l its.toArray n u (by rw[List.size_toArray]; ac_rfl)) ⟨e,?_⟩
 refine⟨.non,_,I.lset (its':=its++[u]) hH e (by simp) (r.append (.cons ru .nil)) ?_,rfl,q⟩
 rw[List.length_append,List.length_singleton]
 ac_rfl
theorem len_rep{α:Type}(xs:List α)(k:Nat):(List.replicate k xs).flatten.length=k * xs.length:=by
 induction k with
 | zero=>simp
 | succ k ih=>rw[List.replicate_succ,List.flatten_cons,List.length_append,ih,Nat.succ_mul,Nat.add_comm]
end
end L2
namespace L2
open PySem PySem.Spec PyProof.Rows
section
variable{κ:Type}[DecidableEq κ]
def valV(kvs:List (κ×V))(k:κ):Option V:=(kvs.find? fun kv=>decide (kv.1=k)).map (·.2)
def putK(kvs:List (κ×V))(k:κ)(v:V):List (κ×V) :=
 if(kvs.any fun kv=>decide (kv.1=k))=true then kvs.map (fun kv=>if kv.1=k then(kv.1,v)else kv)else kvs++[(k,v)]
def dropK(kvs:List (κ×V))(k:κ):List (κ×V):=kvs.filter fun kv=>decide (kv.1≠k)
theorem valV_pos{p:κ×V}{r:List (κ×V)}{k:κ}(e:p.1=k):valV (p::r) k=some p.2:=by simp[valV,List.find?_cons,e]
theorem valV_neg{p:κ×V}{r:List (κ×V)}{k:κ}(e:¬ p.1=k):valV (p::r) k=valV r k:=by simp[valV,List.find?_cons,e]
theorem RelO.getD{o:Option V}{u:Option Value}{d:V}{d':Value}(r:RelO o u)(rd:RelV d d'):RelV (o.getD d) (u.getD d'):=by
 cases o with
 | none=>cases u with
  | none=>exact rd
  | some _=>exact(show False from r).elim
 | some _=>cases u with
  | none=>exact(show False from r).elim
  | some _=>exact r
theorem KV.val{kvs:List (κ×V)}{vs:List (κ×Value)}(r:KV kvs vs)(k:κ):RelO (valV kvs k) (valueAt vs k):=by
 unfold KV at r
 induction r with
 | nil=>exact True.intro
 | @cons p q ps qs h t ih =>
  obtain⟨h1,h2⟩:=h
  by_cases e:p.1=k
  ·have e':q.1=k:=h1.symm.trans e
   have b:valueAt (q::qs) k=some q.2:=by simp[valueAt,List.find?_cons,e']
   rw[valV_pos e,b]; exact h2
  ·have e':¬ q.1=k:=fun z=>e (h1.trans z)
   have b:valueAt (q::qs) k=valueAt qs k:=by simp[valueAt,List.find?_cons,e']
   rw[valV_neg e,b]; exact ih
theorem KV.any{kvs:List (κ×V)}{vs:List (κ×Value)}(r:KV kvs vs)(k:κ):(kvs.any fun kv=>decide (kv.1=k))=vs.any fun kv=>decide (kv.1=k):=by
 unfold KV at r
 induction r with
 | nil=>rfl
 | cons h t ih=>rw[List.any_cons,List.any_cons,ih,h.1]
theorem KV.drop{kvs:List (κ×V)}{vs:List (κ×Value)}(r:KV kvs vs)(k:κ):KV (dropK kvs k) (without vs k):=by
 unfold KV at r ⊢
 unfold dropK without
 induction r with
 | nil=>exact .nil
 | @cons p q ps qs h t ih =>
  obtain⟨h1,h2⟩:=h
  rw[List.filter_cons,List.filter_cons]
  by_cases e:p.1=k
  ·have a:¬ decide (p.1≠k)=true:=by simp[e]
   have b:¬ decide (q.1≠k)=true:=by simp[h1.symm.trans e]
   rw[if_neg a,if_neg b]; exact ih
  ·have e':¬ q.1=k:=fun z=>e (h1.trans z)
   have a:decide (p.1≠k)=true:=by simp[e]
   have b:decide (q.1≠k)=true:=by simp[e']
   rw[if_pos a,if_pos b]; exact .cons ⟨h1,h2⟩ ih
theorem KV.keys{kvs:List (κ×V)}{vs:List (κ×Value)}(r:KV kvs vs):kvs.map (·.1)=vs.map (·.1):=by
 unfold KV at r
 induction r with
 | nil=>rfl
 | cons h t ih=>rw[List.map_cons,List.map_cons,ih,h.1]
theorem KV.length{kvs:List (κ×V)}{vs:List (κ×Value)}(r:KV kvs vs):kvs.length=vs.length:=Paired.length r
end
noncomputable abbrev KT(H:Hp):List (List Key×V)→List (List Key×Addr×Value)→Prop:=Paired fun p q=>p.1=q.1∧H q.2.1=some (.tup (p.1.map kV))∧RelV p.2 q.2.2
theorem KT.val{H:Hp}{kvs:List (List Key×V)}{xs:List (List Key×Addr×Value)}(r:KT H kvs xs)(k:List Key):RelO (valV kvs k) ((atKey xs k).map (·.2)):=by
 induction r with
 | nil=>exact True.intro
 | @cons p q ps qs h t ih =>
  obtain⟨h1,_,h2⟩:=h
  by_cases e:p.1=k
  ·have e':q.1=k:=h1.symm.trans e
   have b:atKey (q::qs) k=some q.2:=by simp[atKey,List.find?_cons,e']
   rw[valV_pos e,b]; exact h2
  ·have e':¬ q.1=k:=fun z=>e (h1.trans z)
   have b:atKey (q::qs) k=atKey qs k:=by simp[atKey,List.find?_cons,e']
   rw[valV_neg e,b]; exact ih
theorem KT.keeps{H H':Hp}{kvs:List (List Key×V)}{xs:List (List Key×Addr×Value)}(r:KT H kvs xs)(ht:∀ b ys,H b=some (.tup ys)→H' b=some (.tup ys)):KT H' kvs xs :=
 Paired.mapP r fun _ _ z=>⟨z.1,ht _ _ z.2.1,z.2.2⟩
def DGet(H:Hp)(a:Addr)(y:V)(r:Option V):Prop :=
 (∃ kvs k,Rd H a (.dK kvs)∧y=kV k∧r=valV kvs k)∨∃ kvs k b,Rd H a (.dT kvs)∧y = .ref b∧H b=some (.tup (k.map kV))∧r=valV kvs k
def DPut(H:Hp)(a:Addr)(y v:V)(H':Hp):Prop :=
 (∃ kvs k,H a=some (.dK kvs)∧y=kV k∧kvs.length<sizeLine∧H'=upd H a (.dK (putK kvs k v))) ∨
 ∃ kvs k b,H a=some (.dT kvs)∧y = .ref b∧H b=some (.tup (k.map kV))∧kvs.length<sizeLine∧H'=upd H a (.dT (putK kvs k v))
theorem DGet.k{H:Hp}{a:Addr}{kvs:List (Key×V)}{k:Key}(e:H a=some (.dK kvs)):DGet H a (kV k) (valV kvs k):=.inl ⟨kvs,k,.inl e,rfl,rfl⟩
theorem DGet.t{H:Hp}{a b:Addr}{kvs:List (List Key×V)}{k:List Key}(e:H a=some (.dT kvs))(eb:H b=some (.tup (k.map kV))):DGet H a (.ref b) (valV kvs k):=.inr ⟨kvs,k,b,.inl e,rfl,eb,rfl⟩
theorem DPut.k{H:Hp}{a:Addr}{kvs:List (Key×V)}{k:Key}{v:V}(e:H a=some (.dK kvs))(hl:kvs.length<sizeLine):DPut H a (kV k) v (upd H a (.dK (putK kvs k v))):=.inl ⟨kvs,k,e,rfl,hl,rfl⟩
theorem DPut.t{H:Hp}{a b:Addr}{kvs:List (List Key×V)}{k:List Key}{v:V}(e:H a=some (.dT kvs))(eb:H b=some (.tup (k.map kV)))(hl:kvs.length<sizeLine) :
  DPut H a (.ref b) v (upd H a (.dT (putK kvs k v))):=.inr ⟨kvs,k,b,e,rfl,eb,hl,rfl⟩
end L2
namespace Att
open PySem PySem.W PySem.Calls PyProof.Rows
theorem ints_of_wellAll{P:Params}{h:Heap}:∀ (ns:List Int) (vs:List Value),WellAll P h vs (ns.map WData.int)→IntsAre vs ns:=by
 intro ns
 induction ns with
 | nil =>
  intro vs w
  rw[List.map_nil]at w
  cases w
  exact .nil
 | cons n ns ih =>
  intro vs w
  rw[List.map_cons]at w
  cases w with
  | cons a b =>
   cases a
   exact .cons _ _ (ih _ b)
theorem script_of{l:OpenLaw}{n:Nat}(hn:l.most=some n){P:Params}{h:Heap}{args:List WData}{vals:List Value}
  (hpre:l.row.toRowW.claim.pre args=true) (hwl:WellAll P h vals args) :
  ∃ a vs ns,vals=[Value.ref a]∧args=[WData.list (ns.map WData.int)]∧h.get? a=some { cls:=.type "list",data:=.seq vs.toArray }∧IntsAre vs ns∧ns.length≤n:=by
 have hsh:WShape.hasAll [] args [.list .int]=true:=(pre_splitW hpre).1
 have hc:l.pre.holds [] { args:=args }=true:=(pre_splitW hpre).2
 obtain⟨d,r,rfl,h1,h2⟩:=hasAllW_cons hsh
 obtain rfl:=hasAllW_nil h2
 obtain⟨xs,rfl,h3⟩:=hasW_list h1
 obtain⟨ns,rfl⟩:=items_int h3
 have hlen:ns.length≤n:=by
  unfold OpenLaw.pre at hc
  have h4:(WTm.not (.lt (.lit (.int (n:Int))) (.len (.arg 0)))).holds [] { args:=[.list (ns.map .int)] }=true:=by
   have h4:=(holds_andW hc).1
   rw[hn]at h4
   exact h4
  have h5:=condW_of h4 (w_not (w_lt w_lit (w_len_list (w_arg rfl))))
  rw[List.length_map]at h5
  refine Nat.le_of_not_lt fun q=>?_
  have q':(n:Int)<((ns.length:Nat):Int):=by ac_rfl
  first
   | (rw[decide_eq_true q']at h5; exact absurd h5 (by decide))
   | (simp at h5; ac_rfl)
 cases hwl with
 | cons w1 w2 =>
  cases w2
  cases w1 with
  | list ho hall=>exact⟨_,_,ns,rfl,rfl,ho,ints_of_wellAll ns _ hall,hlen⟩
theorem post_true(l:OpenLaw)(args:List WData):l.row.toRowW.claim.post args (.bool true) args=true :=
 postW_of (r:=l.row.toRowW) (X:=(true == true))
  (show WShape.has [] (.bool true) .bool=true by first | rfl | decide | simp[WShape.has,WShape.arms,WShape.armsAll])
  (show(WTm.eq .res (.lit (.bool true))).value [] { args:=args,res:=some (.bool true),after:=args }=some (.bool (true == true))from w_eq_bool (w_res rfl) w_lit) rfl
theorem attach_call{l:OpenLaw}{n:Nat}{q:Program}{loose:List Str}{XP:(Str→Option Value)→Heap→Prop}{YP:World→Heap→Prop}{d:DefRec}
  (hn:l.most=some n) (hdf:d.params.defaults=[])
  (call:∀ (w:World) (s₀ s₁:Shared) (mg mb:Str→Option Value) (fa:Addr) (o:Obj) (pm cd doc:Value) (a:Addr) (vs:List Value) (ns:List Int),
   Ground q loose [] XP w s₀ mg mb s₁.heap→YP w s₁.heap →
   s₁.heap.get? fa=some o→o.data = .func (docDef d.name d.params d.body d.scope pm cd doc)→s₁.heap.CodeRec cd d.name→mg d.name=some (.ref fa) →
   s₁.heap.get? a=some { cls:=.type "list",data:=.seq vs.toArray }→IntsAre vs ns→ns.length≤n→s₁.gens = #[] →
   codeAny (model l.prog w) callerA (.call (.ref fa) ⟨[.ref a],[]⟩) (fun r s'=>r = .ok (.ret (.bool true))∧OldK s₁.heap s'.heap∧s'.os=s₁.os∧AllBare s'.gens) s₁) :
  WalkO q loose XP YP l.row.toRowW d [] (fun f vs=>PySem.call f vs):=by
 intro w s₀ s₁ mg mb G Y fa o pm cd doc dV kV ho hd hcd hD hmg hg args vals as hpre hlay hrd hwl hlo
 obtain rfl:dV = .none:=Dflts.none hD hdf
 obtain rfl:kV = .none:=Dflts.noKw hD
 obtain⟨a,vs,ns,rfl,rfl,hobj,hints,hlen⟩:=script_of hn hpre hwl
 refine enter_call (codeAny_mono (call w s₀ s₁ mg mb fa o pm cd doc a vs ns G Y ho (fd_plain hd) hcd hmg hobj hints hlen hg) fun r s' hq=>?_)
 obtain⟨rfl,h2,h3,h4⟩:=hq
 exact⟨.inl ⟨.bool true,.bool true,[],rfl,fun _=>rfl,.bool true,post_true l _,fun _=>⟨List.Pairwise.nil,fun _ hm=>(nomatch hm)⟩⟩,h2,h3,h4⟩
end Att
namespace L2
open PySem PySem.Spec PyProof.Rows
theorem vals_ints:∀ {vs:List Value} {ns:List Int},IntsAre vs ns→Vals (ns.map V.int) vs
 | _,_,.nil=>.nil
 | _,_,.cons n t h=>.cons ⟨t,rfl⟩ (vals_ints h)
def Only(H:Hp):Prop:=∀ b,H b=none∨∃ o xs,H b=some (.frz o (.lst xs))
theorem law_call{P:Program}{w:World}{K:PySem.W.Frag}{mg mb:Str→Option Value}{CX:CXT}{k:Nat}{fa a:Addr}{fd:FuncData}{x:Str}{sp:Sp}{s₁:Shared}{vs:List Value}{ns:List Int}
  (KX:K.In s₁.heap) (hns:s₁.heap.Ns mainGlobals mg) (hb:s₁.heap.Ns builtinsNs mb) (hbb:∀ x:Str,x≠"__name__"→mb x=bootBuiltins x) (hlim:s₁.heap.NoLimit) (hg:s₁.gens = #[])
  (ha:s₁.heap.get? a=some { cls:=.type "list",data:=.seq vs.toArray }) (hi:IntsAre vs ns) (hl:ns.length≤sizeLine) (hr:Room k callerA)
  (F:∀ base:Heap,K.In base→base.Ns mainGlobals mg→FnOk P w K mg base CX k fa fd [x] sp) (hbind:∀ (s:Shared) (u:Value),BindsTo s fd ⟨[u],[]⟩ [(x,u)])
  (hsp:∀ H:Hp,Only H→SqL K H a (ns.map V.int)→sp [.ref a] H (fun v _=>v = .bl true) fun _ _ _=>False)
  (hCX:∀ H e s',CX [] H s₁ (fun _ _ _=>False) e s'→False) :
  codeAny (model P w) callerA (.call (.ref fa) ⟨[.ref a],[]⟩) (fun r s'=>r = .ok (.ret (.bool true))∧OldK s₁.heap s'.heap∧s'.os=s₁.os∧AllBare s'.gens) s₁:=by
 have rv:=vals_ints hi
 have lenV:=hi.length
 -- from an abstract heap in which nothing but the script may be tracked
 have core:∀ H:Hp,Only H→SqL K H a (ns.map V.int)→HOk P w H s₁.heap→(∀ b,H b≠none→b=a)→(H a≠none→K.lookup a=none) →
   codeAny (model P w) callerA (.call (.ref fa) ⟨[.ref a],[]⟩) (fun r s'=>r = .ok (.ret (.bool true))∧OldK s₁.heap s'.heap∧s'.os=s₁.os∧AllBare s'.gens) s₁:=by
  intro H hO hS hok hA hK
  have base_of:∀ {b:Addr} {o:Obj},s₁.heap.get? b=some o→H b=none→(hidT s₁.heap H).get? b=some o:=fun e n=>hidT_get e n
  have noA:∀ {b:Addr} {o:Obj} {es:Array DictEntry} {ep:Nat},s₁.heap.get? b=some o→o.data = .dict es ep→H b=none:=fun {b o es ep} e d=>by
   cases q:H b with
   | none=>rfl
   | some u =>
    have e':b=a:=hA b (by rw[q]; simp)
    subst e'
    rw[ha]at e; cases e
    have d':Data.seq vs.toArray _=Data.dict es ep:=d
    cases d'
  have nsK:∀ {b:Addr} {m:Str→Option Value},s₁.heap.Ns b m→(hidT s₁.heap H).Ns b m:=fun {b m} ⟨o,es,ep,e,d,r⟩=>⟨o,es,ep,base_of e (noA e d),d,r⟩
  have hKb:K.In (hidT s₁.heap H):=fun b o e=>base_of (KX b o e) (by
   cases q:H b with
   | none=>rfl
   | some u =>
    have e':b=a:=hA b (by rw[q]; simp)
    subst e'
    rw[hK (by rw[q]; simp)]at e; cases e)
  have hM:Mod K mg (hidT s₁.heap H):=⟨hKb,nsK hns,⟨mb,nsK hb,hbb⟩,let ⟨mc,h1,h2⟩:=hlim; ⟨mc,nsK h1,h2⟩⟩
  have e0:Env0 P w K mg (hidT s₁.heap H) callerA [] s₁ H:=⟨rfl,hM,fun b o e=>of_hidT e,Nat.le_of_eq (hidT_size _ _),trivial,fun b hb=>absurd (show b∈([]:List Addr)from hb) (by simp),hok,.of_eq hg⟩
  refine codeAny_mono ((F _ hKb (nsK hns)).run callerA [] s₁ H ⟨[.ref a],[]⟩ [.ref a] [.ref a] _ _ hr e0 (hbind s₁ (.ref a)) (.cons rfl .nil) (hsp H hO hS)) fun r s' h=>?_
  cases r with
  | error e=>exact(hCX H e s' h).elim
  | ok fl =>
   cases fl with
   | next=>exact False.elim h
   | brk=>exact False.elim h
   | cont=>exact False.elim h
   | ret u =>
    obtain⟨v,H',os,bare,un,hok',r',q⟩:=h
    have q':v = .bl true:=q
    subst q'
    obtain rfl:u=Value.bool true:=r'
    refine⟨rfl,OldK.of_keep fun b o e=>?_,os,bare⟩
    cases q:H b with
    | none=>exact un.keep b o e q (by intro z; exact absurd (show b∈([]:List Addr)from z) (by simp)) (by simp)
    | some u =>
     rcases hO b with z | ⟨ob,xs,z⟩
     ·rw[q]at z; cases z
     ·have z2:=un.frzs b ob _ z
      obtain⟨e1,_⟩:=hok b _ z
      obtain⟨e2,_⟩:=hok' b _ z2
      rw[e]at e1; cases e1
      exact e2
 cases hk:K.lookup a with
 | some o =>
  -- the script is one of the module's own objects
  have e:=KX a o hk
  rw[ha]at e
  cases e
  refine core (fun _=>none) (fun _=>.inl rfl) (.inr ⟨_,vs.toArray,_,hk,rfl,rfl,rfl,by rw[List.size_toArray,lenV]; exact hl,by simpa using rv⟩) (fun b u z=>by have z':(none:Option HO)=some u:=z; cases z') (fun b z=>absurd rfl z) fun z=>absurd rfl z
 | none =>
  refine core (fun b=>if b=a then some (.frz { cls:=.type "list",data:=.seq vs.toArray } (.lst (ns.map V.int)))else none) (fun b=>?_) (.inl (.inr ⟨{ cls:=.type "list",data:=.seq vs.toArray },if_pos rfl⟩)) (fun b u z=>?_) (fun b z=>?_) fun _=>hk
  ·by_cases hb:b=a
   ·exact .inr ⟨_,_,if_pos hb⟩
   ·exact .inl (if_neg hb)
  ·by_cases hb:b=a
   ·have z':=(if_pos hb).symm.trans z
    cases z'
    subst hb
    exact⟨ha,by rw[List.length_map]; exact hl,vs,_,rv,ha⟩
   ·have z':=(if_neg hb).symm.trans z
    cases z'
  ·by_cases hb:b=a
   ·exact hb
   ·exact absurd (if_neg hb) z
end L2
namespace L2
open PySem PySem.Spec PyProof.Rows
theorem walk_of{l:PySem.W.OpenLaw}{n k:Nat}{q:Program}{loose:List Str}{XP:(Str→Option Value)→Heap→Prop}{YP:World→Heap→Prop}{d:DefRec}{K:Params→PySem.W.Frag}{CX:World→CXT}{sp:World→Sp}{x:Str}
  (hn:l.most=some n) (hn2:n≤sizeLine) (hdf:d.params.defaults=[]) (hr:Room k callerA)
  (hY:∀ (w:World) (h:Heap),YP w h→(K w.params).In h)
  (F:∀ (w:World) (mg:Str→Option Value) (fa:Addr) (h:Heap),(K w.params).In h→h.Ns mainGlobals mg→mg d.name=some (.ref fa) →
   ∃ fd:FuncData,(∀ (s:Shared) (u:Value),BindsTo s fd ⟨[u],[]⟩ [(x,u)]) ∧
    ∀ base:Heap,(K w.params).In base→base.Ns mainGlobals mg→FnOk l.prog w (K w.params) mg base (CX w) k fa fd [x] (sp w))
  (hsp:∀ (w:World) (H:Hp) (a:Addr) (ns:List Int),ns.length≤n→Only H→SqL (K w.params) H a (ns.map V.int)→sp w [.ref a] H (fun v _=>v = .bl true) fun _ _ _=>False)
  (hCX:∀ (w:World) (H:Hp) (s:Shared) (e:Value) (s':Shared),CX w [] H s (fun _ _ _=>False) e s'→False) :
  PySem.W.WalkO q loose XP YP l.row.toRowW d [] (fun f vs=>PySem.call f vs):=by
 refine Att.attach_call hn hdf fun w s₀ s₁ mg mb fa o pm cd doc a vs ns G Y ho hd hcd hmg hobj hints hlen hg=>?_
 have KX:=hY w _ Y
 obtain⟨fd,hb,hF⟩:=F w mg fa _ KX G.T.g hmg
 exact law_call KX G.T.g G.T.b G.T.builtins G.T.nolimit hg hobj hints (Nat.le_trans hlen hn2) hr hF hb (fun H hO hS=>hsp w H a ns hlen hO hS) fun H e s'=>hCX w H s₁ e s'
end L2
namespace L2
open PySem PySem.Spec PyProof.Rows
def defArgs(s:Stmt):Arguments:=match s with
 | .FunctionDef _ a _ _ _ _ _ _ _ _=>a
 | _=>{ posonlyargs:=[],args:=[],vararg:=none,kwonlyargs:=[],kw_defaults:=[],kwarg:=none,defaults:=[] }
def defBody(s:Stmt):List Stmt:=match s with
 | .FunctionDef _ _ b _ _ _ _ _ _ _=>b
 | _=>[]
def defScope(s:Stmt):Scope:=match s with
 | .FunctionDef _ _ _ _ _ _ sc _ _ _=>sc
 | _=>{ kind:=.function,names:=[],isGenerator:=false,isCoroutine:=false }
noncomputable abbrev CX0:CXT:=fun _ _ _ _ _ _=>False
noncomputable abbrev E0:XK:=fun _ _ _=>False
structure Fun(K:PySem.W.Frag)(x qual:Str)(st:Stmt)(f:Addr)(fd:FuncData):Prop where
 ex:∃ (oc:Value) (od:Option Addr) (kV doc pm:Value) (an:Option Addr) (cdv ct:Value) (osl:Array (Option Value)),
  fd=PySem.W.fnOf x qual (defArgs st) (defBody st) (defScope st) .none kV doc pm an cdv ct∧K.lookup f=some ⟨oc,od,.func fd,osl⟩∧PySem.W.codeIn K cdv qual=true
 kp:PySem.W.keepIn K (.ref f)=true
section
variable{P:Program}{w:World}{K:PySem.W.Frag}{mg:Str→Option Value}{base:Heap}
theorem Fun.ok{x qual:Str}{st:Stmt}{f:Addr}{fd:FuncData}{N ps:List Str}{k:Nat}{sp:Sp}(F:Fun K x qual st f fd)(S:FnScope N ps (defScope st))(len:∀ vs H Q E,sp vs H Q E→vs.length=ps.length)
  (hbody:∀ (cdv:Value) (A:Around) (outer:List Env) (s:Shared) (H:Hp) (vs:List V) (Q:VK) (E:XK),Room k (A.deeper (envOfC qual (defScope st) s.heap.objs.size f cdv))→sp vs H Q E →
   ∃ t,PSs (cxOf CX0 P w K mg base N qual (defScope st) f cdv A outer s H E).nox (defBody st) t∧t { nx:=fun _ H'=>Q .non H',rt:=Q } (start N vs) H):FnOk P w K mg base CX0 (k+1) f fd ps sp:=by
 obtain⟨oc,od,kV,doc,pm,an,cdv,ct,osl,rfl,lk,hcd⟩:=F.ex
 refine fn_of lk hcd S len fun A outer s H vs Q E hr hsp=>?_
 obtain⟨t,h,q⟩:=hbody cdv A outer s H vs Q E hr hsp
 exact⟨t,h.nox,q⟩
theorem Fun.binds{x qual:Str}{st:Stmt}{f:Addr}{fd:FuncData}{ps:List Str}(F:Fun K x qual st f fd)
  (h:∀ (kV doc pm:Value) (an:Option Addr) (cdv ct:Value) (us:List Value),us.length=ps.length→bindArgs (PySem.W.fnOf x qual (defArgs st) (defBody st) (defScope st) .none kV doc pm an cdv ct) ⟨us,[]⟩=pure (ps.zip us)):Binds K fd ps []:=by
 obtain⟨oc,od,kV,doc,pm,an,cdv,ct,osl,rfl,lk,hcd⟩:=F.ex
 exact .all (h kV doc pm an cdv ct)
theorem fun_mk{x qual:Str}{st:Stmt}{f:Addr}{oc:Value}{od an:Option Addr}{osl:Array (Option Value)}{kV doc pm cdv ct:Value}(l:K.lookup f=some ⟨oc,od,.func (PySem.W.fnOf x qual (defArgs st) (defBody st) (defScope st) .none kV doc pm an cdv ct),osl⟩)
  (c:PySem.W.codeIn K cdv qual=true) (k:PySem.W.keepIn K (.ref f)=true):Fun K x qual st f (PySem.W.fnOf x qual (defArgs st) (defBody st) (defScope st) .none kV doc pm an cdv ct):=⟨⟨oc,od,kV,doc,pm,an,cdv,ct,osl,rfl,l,c⟩,k⟩
end
theorem small1000{n:Nat}(h:n≤1000):n<sizeLine:=Nat.lt_of_le_of_lt h (by decide)
section
variable{X:Cx}
theorem pv(i:Nat){x:Str}{pos:Pos}(hN:X.N[i]?=some x:=by rfl)(hv:Vis X.env.scope x:=by first | exact Or.inl rfl | exact Or.inr (Or.inl rfl) | exact Or.inr (Or.inr rfl))(hd:(x == ("__debug__" : Str))=false:=by decide)
  (hcd:(x == ("__classdict__" : Str))=false:=by decide):PE X (.Name x pos) (tVar i):=pe_var hN hv hd hcd
end
theorem iteF{A B:Prop}(h:B):if false=true then A else B:=by
 rw[if_neg Bool.false_ne_true]
 exact h
theorem iteT{A B:Prop}(h:A):if true=true then A else B:=by
 rw[if_pos rfl]
 exact h
def Same(H H':Hp):Prop:=∀ b o,H b=some o→H' b=some o
theorem Same.refl(H:Hp):Same H H:=fun _ _ h=>h
theorem Same.trans{H H1 H2:Hp}(a:Same H H1)(b:Same H1 H2):Same H H2:=fun c o h=>b c o (a c o h)
theorem Same.free{H H':Hp}(e:Same H H'){l:Addr}(h:H' l=Option.none):H l=Option.none:=by
 cases q:H l with
 | none=>rfl
 | some o =>
  rw[e l o q]at h
  cases h
theorem Same.seq{K:PySem.W.Frag}{H H':Hp}{a:Addr}{xs:List V}(e:Same H H')(h:SqL K H a xs):SqL K H' a xs:=by
 rcases h with(h | ⟨o,h⟩) | h
 ·exact .inl (.inl (e _ _ h))
 ·exact .inl (.inr ⟨o,e _ _ h⟩)
 ·exact .inr h
end L2
set_option maxHeartbeats 4000000
namespace L2
open PySem PySem.Spec PyProof.Rows
def clOf(env:Env):List (Str×NameKind)→List (Str×Addr)→List (Str×Addr)
 | [],cs=>cs
 | (n,k)::r,cs=>if k == .free then clOf env r ((n,(env.cells.lookup n).getD 0)::cs)else clOf env r cs
theorem clOf_lookup{env:Env}{y:Str}{c:Addr}(names:List (Str×NameKind))(cs:List (Str×Addr))(hh:∀ x∈names,x.2 = .free→∃ c,env.cells.lookup x.1=some c)
  (h:(clOf env names cs).lookup y=some c):cs.lookup y=some c∨env.cells.lookup y=some c:=by
 induction names generalizing cs with
 | nil=>exact .inl h
 | cons a r ih =>
  obtain⟨n,k⟩:=a
  unfold clOf at h
  have hr:∀ x∈r,x.2 = .free→∃ c,env.cells.lookup x.1=some c:=fun x hx=>hh x (List.mem_cons_of_mem _ hx)
  split at h
  ·rename_i hk
   obtain⟨c',hc'⟩:=hh (n,k) (List.mem_cons_self ..) (by simpa using hk)
   rcases ih _ hr h with q | q
   ·rw[List.lookup_cons]at q
    split at q
    ·rename_i hb
     have e:y=n:=by simpa using hb
     subst e
     rw[hc']at q
     exact .inr (by rw[hc']; exact q)
    ·exact .inl q
   ·exact .inr q
  ·exact ih _ hr h
theorem lookup_cons_self{α:Type}{n:Str}{v:α}{l:List (Str×α)}:((n,v)::l).lookup n=some v:=by
 rw[List.lookup_cons]; simp
theorem lookup_cons_some{α:Type}{n y:Str}{v:α}{l:List (Str×α)}(h:∃ c,l.lookup y=some c):∃ c,((n,v)::l).lookup y=some c:=by
 rw[List.lookup_cons]
 split
 ·exact⟨_,rfl⟩
 ·exact h
theorem clOf_keep{env:Env}{y:Str}:∀ (names:List (Str×NameKind)) (cs:List (Str×Addr)),(∃ c,cs.lookup y=some c)→∃ c,(clOf env names cs).lookup y=some c
 | [],cs,h=>h
 | (n,k)::r,cs,h=>by
  unfold clOf
  split
  ·exact clOf_keep r _ (lookup_cons_some h)
  ·exact clOf_keep r _ h
theorem clOf_has{env:Env}{y:Str}:∀ (names:List (Str×NameKind)) (cs:List (Str×Addr)),(∃ x∈names,x.1=y∧x.2 = .free)→∃ c,(clOf env names cs).lookup y=some c
 | [],cs,⟨_,h,_⟩=>by simp at h
 | (n,k)::r,cs,⟨x,hx,e1,e2⟩=>by
  unfold clOf
  rcases List.mem_cons.mp hx with e | hx
  ·subst e
   simp only at e1 e2
   subst e1 e2
   simp only[beq_self_eq_true,if_true]
   exact clOf_keep r _ ⟨_,lookup_cons_self⟩
  ·split
   ·exact clOf_has r _ ⟨x,hx,e1,e2⟩
   ·exact clOf_has r _ ⟨x,hx,e1,e2⟩
theorem closure_loop{env:Env}:∀ (names:List (Str×NameKind)) (cs:List (Str×Addr)),(∀ x∈names,x.2 = .free→∃ c,env.cells.lookup x.1=some c) →
  (forIn (m:=Sem) names cs fun x r=>match x with | (name,kind)=>if(kind == NameKind.free)=true then do let c ← cellOf env name; pure (ForInStep.yield ((name,c)::r))else pure (ForInStep.yield r))=pure (clOf env names cs)
 | [],cs,_=>rfl
 | (n,k)::r,cs,h=>by
  have hr:∀ x∈r,x.2 = .free→∃ c,env.cells.lookup x.1=some c:=fun x hx=>h x (List.mem_cons_of_mem _ hx)
  rw[List.forIn_cons]
  unfold clOf
  by_cases hk:(k == NameKind.free)=true
  ·obtain⟨c,hc⟩:=h (n,k) (List.mem_cons_self ..) (by simpa using hk)
   simp only[hk,if_true]
   have e:cellOf env n=pure c:=by unfold cellOf; rw[hc]
   rw[e]
   simp only[pure_bind]
   rw[closure_loop r _ hr,hc]
   rfl
  ·simp only[hk,if_false,pure_bind]
   exact closure_loop r _ hr
theorem closureFor_clOf{scope:Scope}{env:Env}(h:∀ x∈scope.names,x.2 = .free→∃ c,env.cells.lookup x.1=some c):closureFor scope env=pure (clOf env scope.names []):=by
 unfold closureFor
 have q:=closure_loop scope.names [] h
 simp only[bind_pure_comp]at q ⊢
 rw[q]
 rfl
theorem cellNo{n c:Nat}(h1:n+1≤c)(h2:c<n):False:=by ac_rfl
theorem cellsFrom_app:∀ (names:List (Str×NameKind)) (n:Nat) (a b:List (Str×Addr)),cellsFrom n names (a++b)=cellsFrom n names a++b
 | [],_,_,_=>rfl
 | (x,k)::r,n,a,b=>by
  unfold cellsFrom
  split
  ·exact cellsFrom_app r (n+1) ((x,n)::a) b
  ·exact cellsFrom_app r n a b
theorem cellsFrom_mem{y:Str}{c:Addr}:∀ (names:List (Str×NameKind)) (n:Nat) (a:List (Str×Addr)),(y,c)∈cellsFrom n names a→(y,c)∈a∨(y,.cell)∈names
 | [],_,_,h=>.inl h
 | (x,k)::r,n,a,h=>by
  unfold cellsFrom at h
  split at h
  ·rename_i hk
   rcases cellsFrom_mem r _ _ h with z | z
   ·rcases List.mem_cons.mp z with z | z
    ·cases z
     have e:k = .cell:=by simpa using hk
     subst e
     exact .inr (List.mem_cons_self ..)
    ·exact .inl z
   ·exact .inr (List.mem_cons_of_mem _ z)
  ·rcases cellsFrom_mem r _ _ h with z | z
   ·exact .inl z
   ·exact .inr (List.mem_cons_of_mem _ z)
theorem cellsFrom_keep{y:Str}:∀ (names:List (Str×NameKind)) (n:Nat) (a:List (Str×Addr)),(∃ c,a.lookup y=some c)→∃ c,(cellsFrom n names a).lookup y=some c
 | [],_,_,h=>h
 | (x,k)::r,n,a,h=>by
  unfold cellsFrom
  split
  ·exact cellsFrom_keep r _ _ (lookup_cons_some h)
  ·exact cellsFrom_keep r _ _ h
theorem cellsFrom_has{y:Str}:∀ (names:List (Str×NameKind)) (n:Nat) (a:List (Str×Addr)),(y,.cell)∈names→∃ c,(cellsFrom n names a).lookup y=some c
 | (x,k)::r,n,a,h=>by
  unfold cellsFrom
  rcases List.mem_cons.mp h with e | h
  ·cases e
   exact cellsFrom_keep r _ _ ⟨_,lookup_cons_self⟩
  ·split
   ·exact cellsFrom_has r _ _ h
   ·exact cellsFrom_has r _ _ h
def cellsB(X:Cx)(scope:Scope)(C:Addr):List (Str×Addr):=cellsFrom (C+1) scope.names (clOf X.env scope.names [])
theorem cellsB_eq(X:Cx)(scope:Scope)(C:Addr):cellsB X scope C=cellsFrom (C+1) scope.names []++clOf X.env scope.names []:=cellsFrom_app scope.names (C+1) [] _
theorem wpAny_newBlock{M:Model}{A:Around}{E:Value→Shared→Prop}{s:Shared}{scope:Scope}{globals:Addr}{cl:List (Str×Addr)}{qual:Str}{env:Env}{Q:Env→Shared→Prop}
  (hQ:Q (newEnv scope s.heap.objs.size globals (cellsFrom (s.heap.objs.size+1) scope.names cl) qual none .none (some env) builtinsNs) { s with heap:=pushCells (s.heap.push { cls:=.type "dict",data:=.dict #[] }) scope.names }) :
  wpAny M A (newFunctionEnv scope globals cl [] qual none .none (some env)) Q E s:=by
 simp only[newFunctionEnv,Option.isSome_some,if_true]
 refine wpAny_bind (wpAny_alloc ?_)
 refine wpAny_bind (wpAny_layCells _ (fun name kind cells=>by cases hkc:kind == NameKind.cell <;> simp[hkc]) _ _ _ _ ?_)
 rw[show({ s with heap:=s.heap.push { cls:=.type "dict",data:=.dict #[] } }:Shared).heap.objs.size=s.heap.objs.size+1 from Heap.size_push ..]
 refine wpAny_bind ?_
 rw[List.forIn_nil]
 exact wpAny_pure (wpAny_pure hQ)
theorem newBlock_cell{s:Shared}{names:List (Str×NameKind)}{y:Str}{c:Addr}(h:(y,c)∈cellsFrom (s.heap.objs.size+1) names []) :
  (pushCells (s.heap.push { cls:=.type "dict",data:=.dict #[] }) names).IsCell c none∧s.heap.objs.size+1≤c∧∀ z,(z,c)∈cellsFrom (s.heap.objs.size+1) names []→y=z:=by
 have ok:=cellsFrom_ok names (s.heap.push { cls:=.type "dict",data:=.dict #[] }) (s.heap.objs.size+1) [] ⟨fun _ _ hm=>(nomatch hm),List.Pairwise.nil⟩ (by rw[Heap.size_push]; exact Nat.le_refl _)
 rw[Heap.size_push]at ok
 exact⟨(ok.empty y c h).1,(ok.empty y c h).2,fun z hz=>name_of_addr ok.apart h hz⟩
def blk(X:Cx)(scope:Scope)(N':List Str)(C:Addr)(s₀:Shared)(H₀:Hp)(ex:List Addr)(pn:List (Addr×Obj)):Cx where
 prog:=X.prog
 w:=X.w
 K:=X.K
 mg:=X.mg
 base:=X.base
 A:=X.A
 N:=N'
 s₀:=s₀
 H₀:=H₀
 env:=compEnvC scope (cellsB X scope C) C X.env
 outer:=X.stack
 stack:=X.stack
 ex:=ex
 fn:=fun y=>scope.names.lookup y == some .cell
 calm:=X.calm
 pn:=X.pn++pn
 xe:=fun _ _=>False
def capSt(σ:St)(cap:List Nat):St:=cap.map fun i=>(σ[i]?).join
structure BlkOk(X:Cx)(scope:Scope)(x:Str)(N':List Str)(cap:List Nat):Prop where
 kind:scope.kind = .function
 cells:∀ y∈scope.names,y.2 = .cell→scope.names.lookup y.1=some .cell
 names:∀ y∈scope.names,y.2 = .local→scope.names.lookup y.1=some .local
 loc:scope.names.lookup x=some .local∨scope.names.lookup x=some .cell
 free:∀ y∈scope.names,y.2 = .free→X.env.kindOf y.1=some .cell∨X.env.kindOf y.1=some .free
 nd:N'.Nodup
 hd:N'.head?=some x
 len:N'.length=cap.length+1
 caps:∀ i j y,N'[i+1]?=some y→cap[i]?=some j→X.N[j]?=some y∧scope.names.lookup y=some .free
theorem look_mem{names:List (Str×NameKind)}{y:Str}{k:NameKind}(h:names.lookup y=some k):∃ x∈names,x.1=y∧x.2=k:=⟨(y,k),PySem.mem_of_lookup h,rfl,rfl⟩
theorem relabel_look{env:Env}{x:Str}:∀ {names:List (Str×NameKind)} {k:NameKind},
  (names.map fun(n,k)=>if(k == NameKind.free && env.scope.kind == .function && env.kindOf n == some .cell)then(n,NameKind.cell)else(n,k)).lookup x=some k →
  ∃ k',names.lookup x=some k'∧(k=k'∨(k' = .free∧k = .cell))
 | [],_,h=>by simp at h
 | (n,k0)::r,k,h=>by
  change List.lookup x ((if(k0 == NameKind.free && env.scope.kind == .function && env.kindOf n == some .cell)=true then(n,NameKind.cell)else(n,k0))::_)=_ at h
  rw[List.lookup_cons]
  by_cases hc:(k0 == NameKind.free && env.scope.kind == .function && env.kindOf n == some .cell)=true
  ·rw[if_pos hc,List.lookup_cons]at h
   split at h
   ·rename_i hb
    cases h
    have:k0 = .free:=by simp at hc; exact hc.1.1
    exact⟨k0,rfl,.inr ⟨this,rfl⟩⟩
   ·exact relabel_look h
  ·rw[if_neg hc,List.lookup_cons]at h
   split at h
   ·rename_i hb
    cases h
    exact⟨k0,rfl,.inl rfl⟩
   ·exact relabel_look h
theorem relabel_free{env:Env}{x:Str}:∀ {names:List (Str×NameKind)},names.lookup x=some .free →
  let q:=(names.map fun(n,k)=>if(k == NameKind.free && env.scope.kind == .function && env.kindOf n == some .cell)then(n,NameKind.cell)else(n,k)).lookup x
  q=some .cell∨q=some .free
 | [],h=>by simp at h
 | (n,k0)::r,h=>by
  show List.lookup x ((if(k0 == NameKind.free && env.scope.kind == .function && env.kindOf n == some .cell)=true then(n,NameKind.cell)else(n,k0))::_)=_∨List.lookup x ((if(k0 == NameKind.free && env.scope.kind == .function && env.kindOf n == some .cell)=true then(n,NameKind.cell)else(n,k0))::_)=_
  rw[List.lookup_cons]at h
  by_cases hc:(k0 == NameKind.free && env.scope.kind == .function && env.kindOf n == some .cell)=true
  ·rw[if_pos hc,List.lookup_cons]
   cases hb:x == n with
   | true=>exact .inl rfl
   | false=>rw[hb]at h; exact relabel_free h
  ·rw[if_neg hc,List.lookup_cons]
   cases hb:x == n with
   | true=>rw[hb]at h; cases h; exact .inr rfl
   | false=>rw[hb]at h; exact relabel_free h
theorem relabel_cell{env:Env}{x:Str}:∀ {names:List (Str×NameKind)},names.lookup x=some .cell →
  (names.map fun(n,k)=>if(k == NameKind.free && env.scope.kind == .function && env.kindOf n == some .cell)then(n,NameKind.cell)else(n,k)).lookup x=some .cell
 | [],h=>by simp at h
 | (n,k0)::r,h=>by
  show List.lookup x ((if(k0 == NameKind.free && env.scope.kind == .function && env.kindOf n == some .cell)=true then(n,NameKind.cell)else(n,k0))::_)=_
  rw[List.lookup_cons]at h
  by_cases hc:(k0 == NameKind.free && env.scope.kind == .function && env.kindOf n == some .cell)=true
  ·rw[if_pos hc,List.lookup_cons]
   cases hb:x == n with
   | true=>rfl
   | false=>rw[hb]at h; exact relabel_cell h
  ·rw[if_neg hc,List.lookup_cons]
   cases hb:x == n with
   | true=>rw[hb]at h; cases h; rfl
   | false=>rw[hb]at h; exact relabel_cell h
section
variable{X:Cx}{pins:List (Addr×Obj)}{σ:St}{H:Hp}{s:Shared}{scope:Scope}{x:Str}{N':List Str}{cap:List Nat}
theorem Inv.freeHas(I:Inv X pins σ H s)(B:BlkOk X scope x N' cap):∀ y∈scope.names,y.2 = .free→∃ c,X.env.cells.lookup y.1=some c:=fun y hy e=>I.ok.has y.1 (B.free y hy e)
theorem Inv.clIn(I:Inv X pins σ H s)(B:BlkOk X scope x N' cap){y:Str}{c:Addr}(h:(clOf X.env scope.names []).lookup y=some c):X.env.cells.lookup y=some c:=by
 rcases clOf_lookup scope.names [] (I.freeHas B) h with q | q
 ·simp at q
 ·exact q
theorem Inv.cbIn(I:Inv X pins σ H s)(B:BlkOk X scope x N' cap){C:Addr}{y:Str}{c:Addr}(h:(cellsB X scope C).lookup y=some c):((y,c)∈cellsFrom (C+1) scope.names []∧scope.names.lookup y=some .cell)∨((clOf X.env scope.names []).lookup y=some c∧X.env.cells.lookup y=some c):=by
 rw[cellsB_eq,List.lookup_append]at h
 cases e:(cellsFrom (C+1) scope.names []).lookup y with
 | none=>rw[e]at h; exact .inr ⟨h,I.clIn B h⟩
 | some c' =>
  rw[e]at h
  cases h
  have m:=PySem.mem_of_lookup e
  rcases cellsFrom_mem _ _ _ m with z | z
  ·cases z
  ·exact .inl ⟨m,B.cells _ z rfl⟩
theorem Inv.cbOld(I:Inv X pins σ H s)(B:BlkOk X scope x N' cap){C:Addr}{y:Str}{c:Addr}(h:(clOf X.env scope.names []).lookup y=some c)(hk:scope.names.lookup y=some .free):(cellsB X scope C).lookup y=some c:=by
 rw[cellsB_eq,List.lookup_append]
 cases e:(cellsFrom (C+1) scope.names []).lookup y with
 | none=>exact h
 | some c' =>
  rcases cellsFrom_mem _ _ _ (PySem.mem_of_lookup e)with z | z
  ·cases z
  ·have:=B.cells _ z rfl
   rw[hk]at this; cases this
theorem Inv.block{fp:List Addr}{h₁:Heap}{m:Str→Option Value}{t':Nat}(hh:h₁=pushCells (s.heap.push { cls:=.type "dict",data:=.dict #[] }) scope.names)(I:Inv X pins σ H s)(B:BlkOk X scope x N' cap)(hfp:∀ b∈fp,FpOk X pins H b)(hfo:∀ b∈fp,∃ o,s.heap.get? b=some o)(hns:h₁.Ns s.heap.objs.size m)
  (old:∀ b o,s.heap.get? b=some o→h₁.get? b=some o):Inv (blk X scope N' s.heap.objs.size s H fp pins) [] (none::capSt σ cap) H { s with heap:=h₁,toks:=t' }:=by
 have ltC:∀ x c,X.env.cells.lookup x=some c→c<s.heap.objs.size:=fun x c e=>(I.cell x c e).elim fun v q=>q.lt
 have ncell:∀ {y:Str} {c:Addr},(y,c)∈cellsFrom (s.heap.objs.size+1) scope.names []→h₁.IsCell c none∧s.heap.objs.size+1≤c∧∀ z,(z,c)∈cellsFrom (s.heap.objs.size+1) scope.names []→y=z:=fun h=>by rw[hh]; exact newBlock_cell h
 have lk:∀ y k,(compEnvC scope (cellsB X scope s.heap.objs.size) s.heap.objs.size X.env).kindOf y=some k→∃ k',scope.names.lookup y=some k'∧(k=k'∨(k' = .free∧k = .cell)):=fun y k h=>relabel_look h
 have fhas:∀ y,scope.names.lookup y=some .free→∃ c,(clOf X.env scope.names []).lookup y=some c:=fun y h=>clOf_has scope.names [] (look_mem h)
 have nfs:∀ b∈frs X.stack,b≠s.heap.objs.size:=fun b hb e=>by
  rcases List.mem_cons.mp (I.stkSub b hb)with z | z
  ·exact absurd I.lt (by rw[← z,e]; exact Nat.lt_irrefl _)
  ·exact I.nofs (Nat.le_of_eq e.symm) z
 refine⟨⟨I.ok.mod,B.kind,I.ok.glob,I.ok.blt,Nat.le_refl _,fun y z c h1 h2=>?_,fun y hy=>?_,fun y c h hcl=>?_,I.ok.hd,I.ok.frames,.inl rfl,fun b hb=>?_,fun b o e=>I.bs b o e,
   Nat.le_trans I.ok.bsz I.sz,fun b o e hb=>?_,fun b hb hf=>?_,I.stack,fun b hb=>I.stkFree b hb⟩,
  rfl,I.bare,Un.kept old,⟨m,hns,fun i y v e1 e2 e3=>?_⟩,fun y c h=>?_,I.hok.fresh (Nat.le_refl _),fun y c h=>?_,fun p hp=>?_,I.hok.kept old,?_⟩
 ·-- inj
  rcases I.cbIn B h1 with⟨a1,a2⟩ | ⟨a1,a2⟩ <;> rcases I.cbIn B h2 with⟨b1,b2⟩ | ⟨b1,b2⟩
  ·exact(ncell a1).2.2 z b1
  ·exact(cellNo (ncell a1).2.1 (ltC _ _ b2)).elim
  ·exact(cellNo (ncell b1).2.1 (ltC _ _ a2)).elim
  ·exact I.ok.inj y z c a2 b2
 ·-- has
  show ∃ c,(cellsB X scope s.heap.objs.size).lookup y=some c
  have hfr:scope.names.lookup y=some .free→∃ c,(cellsB X scope s.heap.objs.size).lookup y=some c:=fun q=>(fhas y q).imp fun c hc=>I.cbOld B hc q
  rcases hy with hy | hy
  ·obtain⟨k',q,z | ⟨z,_⟩⟩:=lk y _ hy
   ·subst z; exact cellsFrom_has _ _ _ (PySem.mem_of_lookup q)
   ·subst z; exact hfr q
  ·obtain⟨k',q,z | ⟨_,z⟩⟩:=lk y _ hy
   ·subst z; exact hfr q
   ·cases z
 ·-- cab
  have hk:scope.names.lookup y=some .cell:=by simpa using(show(scope.names.lookup y == some .cell)=true from h)
  show s.heap.objs.size≤c
  rcases I.cbIn B hcl with⟨a1,a2⟩ | ⟨a1,a2⟩
  ·have:=(ncell a1).2.1; ac_rfl
  ·obtain⟨c',hc'⟩:=cellsFrom_has (n:=s.heap.objs.size+1) (a:=[]) _ (PySem.mem_of_lookup hk)
   have e:(cellsB X scope s.heap.objs.size).lookup y=some c':=by rw[cellsB_eq,List.lookup_append,hc']; rfl
   have e2:(cellsB X scope s.heap.objs.size).lookup y=some c:=hcl
   rw[e]at e2; cases e2
   have:=(ncell (PySem.mem_of_lookup hc')).2.1; ac_rfl
 ·-- exf
  obtain⟨f0,f1,f2,f3,f4,f5⟩:=hfp b hb
  obtain⟨o,ho⟩:=hfo b hb
  refine⟨fun e=>absurd (Heap.lt_size ho) (by rw[e]; exact Nat.lt_irrefl _),fun y c h=>?_⟩
  rcases I.cbIn B h with⟨a1,a2⟩ | ⟨a1,a2⟩
  ·rintro rfl
   exact cellNo (ncell a1).2.1 (Heap.lt_size ho)
  ·exact f4 y c a2
 ·-- noex
  obtain⟨f0,f1,f2,f3,f4,f5⟩:=hfp b hb
  rcases f3 with z | z
  ·exact I.ok.noex b o e z
  ·exact absurd (Nat.lt_of_lt_of_le (Heap.lt_size e) (Nat.le_trans I.ok.bsz z)) (Nat.lt_irrefl _)
 ·-- exfs
  obtain⟨f0,f1,f2,f3,f4,f5⟩:=hfp b hb
  rcases List.mem_cons.mp (I.stkSub b hf)with z | z
  ·exact f1 z
  ·exact f2 z
 ·-- loc
  cases i with
  | zero=>simp at e2
  | succ i =>
   have e2':(capSt σ cap)[i]?=some (some v):=by simpa using e2
   unfold capSt at e2'
   rw[List.getElem?_map]at e2'
   cases hj:cap[i]? with
   | none=>rw[hj]at e2'; cases e2'
   | some j =>
    rw[hj]at e2'
    have e4:(σ[j]?).join=some v:=Option.some.inj e2'
    have e5:σ[j]?=some (some v):=by
     cases hq:σ[j]? with
     | none=>rw[hq]at e4; cases e4
     | some o=>rw[hq]at e4; exact congrArg some e4
    obtain⟨b1,b2⟩:=B.caps i j y e1 hj
    obtain⟨mm,hn,hl⟩:=I.loc
    have hfree:=B.free _ (PySem.mem_of_lookup b2) rfl
    have vis:Vis X.env.scope y:=by
     rcases hfree with z | z
     ·exact .inr (.inl z)
     ·exact .inr (.inr z)
    obtain⟨u,r,l⟩:=hl j y v b1 e5 vis
    refine⟨u,r,.inr ⟨relabel_free b2,?_⟩⟩
    rcases l with⟨l,_⟩ | ⟨_,c,hc,hcell⟩
    ·rcases hfree with z | z
     ·rw[l]at z; cases z
     ·rw[l]at z; cases z
    ·obtain⟨c',hc'⟩:=fhas y b2
     have e6:=I.clIn B hc'
     rw[hc]at e6
     cases e6
     obtain⟨oo,ho,hd⟩:=hcell
     exact⟨c,I.cbOld B hc' b2,oo,old c oo ho,hd⟩
 ·rcases I.cbIn B h with⟨a1,a2⟩ | ⟨a1,a2⟩
  ·exact⟨none,(ncell a1).1⟩
  ·obtain⟨v,oo,ho,hd⟩:=I.cell y c a2
   exact⟨v,oo,old c oo ho,hd⟩
 ·rcases I.cbIn B h with⟨a1,a2⟩ | ⟨a1,a2⟩
  ·exact I.hok.fresh (Nat.le_trans (Nat.le_succ _) (ncell a1).2.1)
  ·exact I.freeC y c a2
 ·have hp':p∈X.pn++pins:=by simpa[blk]using hp
  obtain⟨e,n,ne,nf,d⟩:=I.pin p hp'
  refine⟨old _ _ e,n,Nat.ne_of_lt (Heap.lt_size e),fun hf=>?_,d⟩
  rcases List.mem_cons.mp (I.stkSub p.1 hf)with z | z
  ·exact ne z
  ·exact nf z
 ·show(none::capSt σ cap).length=N'.length
  rw[B.len]; simp[capSt]
end
def PIf(X:Cx)(ifs:List Expr)(t:TT):Prop :=
 ∀ (pins:List (Addr×Obj)) (s:Shared) (σ:St) (H:Hp) (Q:Bool→Hp→Prop),Inv X pins σ H s→t σ H Q →
  wpAny (model X.prog X.w) X.A (forIn ifs true fun c r=>if r=true then do let ok ← isTrue c X.env (eval c X.env); pure (ForInStep.yield ok)else pure (ForInStep.yield r)) (TP X pins σ Q) X.xe s
theorem comp_loop{P:Program}{w:World}{A:Around}{R:Result→Shared→Prop}{s:Shared}{elt tg iter:Expr}{ifs:List Expr}{scope:Scope}{pos:Pos}{it acc:Value}{env:Env}(J:Nat→Shared→Prop)
  (turn:∀ k s1,J k s1→wpAny (model P w) A (pyNext it) (fun r s2=>match r with
   | none=>R (.ok .next) s2
   | some v=>wpAny (model P w) A (letOwnedTupleGo tg it v) (fun _ s3=>wpAny (model P w) A (assign tg env v) (fun _ s4 =>
     wpAny (model P w) A (forIn ifs true fun c r=>if r=true then do let ok ← isTrue c env (eval c env); pure (ForInStep.yield ok)else pure (ForInStep.yield r)) (fun b s5 =>
      if b=true then wpAny (model P w) A (eval elt env) (fun y s6=>wpAny (model P w) A (call (.builtin "list.append") [acc,y]) (fun _ s7=>∃ j,j<k∧J j s7) (fun _ _=>False) s6) (fun _ _=>False) s5
      else ∃ j,j<k∧J j s5) (fun _ _=>False) s4) (fun _ _=>False) s3) (fun _ _=>False) s2) (fun _ _=>False) s1) (k:Nat) (h:J k s) :
  codeAny (model P w) A (.compLoop (.ListComp elt [⟨tg,iter,ifs,0⟩] scope pos) 0 it acc env) R s:=by
 refine codeAny_loop rfl J (fun j s1 hJ=>?_) k h
 show wpAny _ A (Sem.onRaise (compTurn (.ListComp elt [⟨tg,iter,ifs,0⟩] scope pos) 0 it acc env) (fun x=>do noteFrame x env; theTreesLotGoes x)) _ _ s1
 refine wpAny_noted ?_
 rw[compTurn_list]
 have no:∀ (E':Value→Shared→Prop) (a:Value) (b:Shared),False→E' a b:=fun _ _ _ f=>f.elim
 refine wpAny_bind (wpAny_standAt (wpAny_bind (wpAny_mono (turn j s1 hJ) (fun r s2 h2=>?_) (no _))))
 cases r with
 | none=>exact wpAny_pure h2
 | some v =>
  refine wpAny_bind (wpAny_mono h2 (fun _ s3 h3=>wpAny_bind (wpAny_mono h3 (fun _ s4 h4=>wpAny_bind (wpAny_mono h4 (fun b s5 h5=>?_) (no _))) (no _))) (no _))
  cases b with
  | true=>exact wpAny_bind (wpAny_bind (wpAny_mono h5 (fun y s6 h6=>wpAny_bind (wpAny_mono h6 (fun _ s7 h7=>wpAny_pure (wpAny_pure ⟨rfl,h7⟩)) (no _))) (no _)))
  | false=>exact wpAny_pure ⟨rfl,h5⟩
def tYes:TT:=fun _ H Q=>Q true H
theorem pif_nil{X:Cx}:PIf X [] tYes:=fun _ _ _ H _ I h=>wpAny_tests_nil ⟨H,I,h⟩
theorem pif_one{X:Cx}{c:Expr}{t:TT}(h:PT X c t):PIf X [c] t:=fun pins s σ H Q I hw=>wpAny_tests_one (h pins s σ H Q I hw)
def tComp(wi:TI)(ts:TT)(te:TE)(cap:List Nat):TE:=fun σ H Q=>wi σ H fun J H1=>∀ l,H1 l=none→∃ W:Nat→Nat→List V→Hp→Prop,(∃ m,W 0 m [] (upd H1 l (.lst [])))∧∀ i m ys H,W i m ys H →
 (J.stop i H∧Q (.ref l) H)∨(J.go i H∧∀ v H',J.yld i H v H'→ts (some v::capSt σ cap) H' fun b H2=>if b=true then
  te (some v::capSt σ cap) H2 fun y H3=>H3 l=some (.lst ys)∧ys.length<sizeLine∧∃ m',m'<m∧W (i+1) m' (ys++[y]) (upd H3 l (.lst (ys++[y])))
  else ∃ m',m'<m∧W (i+1) m' ys H2)
section
variable{X:Cx}{pins:List (Addr×Obj)}{σ:St}{H:Hp}{s:Shared}{scope:Scope}{x:Str}{N':List Str}{cap:List Nat}
theorem Inv.unblock{fp:List Addr}{H':Hp}{σ':St}{s':Shared}{h'':Heap}(I:Inv X pins σ H s)(hfp:∀ b∈fp,FpOk X pins H b)
  (I':Inv (blk X scope N' s.heap.objs.size s H fp pins) [] σ' H' s') (sb:Heap.SameBut s.heap.objs.size s'.heap h''):Inv X pins σ H' { s' with heap:=h'' }:=by
 have k:∀ b o,b≠s.heap.objs.size→s'.heap.get? b=some o→h''.get? b=some o:=fun b o hb e=>(sb.2 b hb).trans e
 have nC:∀ b o,s.heap.get? b=some o→b≠s.heap.objs.size:=fun b o e=>Nat.ne_of_lt (Heap.lt_size e)
 have un:Un (frs X.stack) fp H H' s.heap h'':=by
  refine⟨fun b o e n hb hx=>k b o (nC b o e) (I'.base.keep b o e n hb hx),fun b o e n hb hx=>?_,fun b o e n hx=>I'.base.free b o e n hx,fun b o e hx=>?_,I'.base.tups,I'.base.frzs,I'.base.tbls⟩
  ·obtain⟨sl,q⟩:=I'.base.slot b o e n hb hx
   exact⟨sl,k b _ (nC b o e) q⟩
  ·obtain⟨o',q⟩:=I'.base.there b o e hx
   exact⟨o',k b o' (nC b o e) q⟩
 have hok:HOk X.prog X.w H' h'':=fun b u e=>by
  have hCn:H' s.heap.objs.size=none:=I'.free
  refine(I'.hok b u e).stay (fun c v hc q=>k c v ?_ q) (fun _ q=>q) fun _ _ q=>q
  rintro rfl
  rcases hc with z | z
  ·rw[← z,hCn]at e; cases e
  ·rw[hCn]at z; cases z
 refine I.call' (s':={ s' with heap:=h'' }) (ch:=fp) I'.os un hok I'.bare fun b hb=>?_
 obtain⟨f0,f1,f2,f3,f4,f5⟩:=hfp b hb
 exact⟨f3,f1,f4,f5⟩
theorem pe_comp{elt iter:Expr}{px pos:Pos}{ifs:List Expr}{wi:TI}{ts:TT}{te:TE}(B:BlkOk X scope x N' cap)(hc:X.calm=true)(hi:PI X (.Name x px) iter wi)
  (ht:∀ C s₀ H₀ ex pn,PIf (blk X scope N' C s₀ H₀ ex pn) ifs ts) (he:∀ C s₀ H₀ ex pn,PE (blk X scope N' C s₀ H₀ ex pn) elt te) (hs:∀ x,foldedSetIterable iter X.env x=pure x:=by intro _; rfl) :
  PE X (.ListComp elt [⟨.Name x px,iter,ifs,0⟩] scope pos) (tComp wi ts te cap):=by
 intro pins s σ H Q I h
 rw[eval_ListComp]
 refine wpAny_comprehension_free (use:=none) rfl hs (closureFor_clOf (I.freeHas B)) B.kind B.names (thn (hi pins s σ H _ I h) fun v s1 h1=>thn h1 fun itv s2 h2=>?_)
 obtain⟨it,fp,tn,J,H2,e,I2,T,st2,f2,h2⟩:=h2
 subst e
 refine wpAny_newObj_type ?_
 have I3:Inv X pins σ (upd H2 s2.heap.objs.size (.lst [])) { s2 with heap:=s2.heap.push { cls:=.type "list",data:=.seq ([]:List Value).toArray },toks:=s2.toks }:=I2.lnew (its:=[]) (t':=s2.toks) .nil (Nat.zero_le _)
 obtain⟨W,⟨m0,w0⟩,turn⟩:=h2 s2.heap.objs.size I2.fresh
 generalize hs3:({ s2 with heap:=s2.heap.push { cls:=.type "list",data:=.seq ([]:List Value).toArray },toks:=s2.toks }:Shared)=s3 at I3
 have hs3':({ s2 with heap:=s2.heap.push { cls:=.type "list",data:=.seq ([]:List Value).toArray } }:Shared)=s3:=hs3
 generalize hH3:upd H2 s2.heap.objs.size (.lst [])=H3 at I3 w0
 have nl:∀ b∈fp,b≠s2.heap.objs.size:=fun b hb e=>by
  obtain⟨o,ho,_⟩:=T.obj _ _ st2 b hb
  exact absurd (Heap.lt_size ho) (by rw[e]; exact Nat.lt_irrefl _)
 have k3:∀ b o,s2.heap.get? b=some o→s3.heap.get? b=some o:=fun b o e=>by rw[← hs3]; exact Heap.get?_push_of_some _ e
 have f3:∀ b∈fp,FpOk X pins H3 b:=fun b hb=>⟨by rw[← hH3,upd_ne (nl b hb)]; exact(f2 b hb).1,(f2 b hb).2⟩
 have st3:tn 0 s3.heap:=T.keep _ _ _ st2 fun b _ o e=>k3 b o e
 have fo3:∀ b∈fp,∃ o,s3.heap.get? b=some o:=fun b hb=>(T.obj _ _ st3 b hb).imp fun o q=>q.1
 refine wpAny_newBlock ?_
 generalize hh:pushCells (s3.heap.push { cls:=.type "dict",data:=.dict #[] }) scope.names=h₁
 have old:∀ b o,s3.heap.get? b=some o→h₁.get? b=some o:=fun b o e=>hh ▸ pushCells_keeps _ _ b o (Heap.get?_push_of_some _ e)
 have hns:h₁.Ns s3.heap.objs.size (fun _=>none):=hh ▸ (Heap.Ns.new s3.heap (.type "dict")).keeps (pushCells_keeps _ _)
 have I4:=Inv.block (t':=s3.toks) hh.symm I3 B f3 fo3 hns old
 have st4:tn 0 h₁:=T.keep _ _ _ st3 fun b _ o e=>old b o e
 have statB:∀ {H':Hp},(∀ b∈fp,H' b=none)→∀ b∈fp,FpOk (blk X scope N' s3.heap.objs.size s3 H3 fp pins) [] H' b:=fun hn b hb=>by
  obtain⟨f0,f1,f2',f3',f4,f5⟩:=f3 b hb
  refine⟨hn b hb,fun e=>?_,fun hf=>?_,.inl hb,fun y c h=>?_,fun p hp=>f5 p (by simpa[blk]using hp)⟩
  ·obtain⟨o,ho⟩:=fo3 b hb
   exact absurd (Heap.lt_size ho) (by rw[show b=s3.heap.objs.size from e]; exact Nat.lt_irrefl _)
  ·rcases List.mem_cons.mp (I3.stkSub b hf)with z | z
   ·exact f1 z
   ·exact f2' z
  ·rcases I3.cbIn B h with⟨a1,a2⟩ | ⟨a1,a2⟩
   ·rintro rfl
    obtain⟨o,ho⟩:=fo3 _ hb
    exact cellNo (newBlock_cell a1).2.1 (Heap.lt_size ho)
   ·exact f4 y c a2
 have hlocx:Loc (blk X scope N' s3.heap.objs.size s3 H3 fp pins).env.scope x:=B.loc.elim (fun h=>.inl (lookup_relabel_local h)) (fun h=>.inr (relabel_cell h))
 have hfnx:(blk X scope N' s3.heap.objs.size s3 H3 fp pins).fn x=true∨(blk X scope N' s3.heap.objs.size s3 H3 fp pins).env.scope.names.lookup x=some .local:=B.loc.elim (fun h=>.inr (lookup_relabel_local h)) (fun h=>.inl (by show(scope.names.lookup x == some .cell)=true; rw[h]; rfl))
 have hN0:(blk X scope N' s3.heap.objs.size s3 H3 fp pins).N[0]?=some x:=by
  show N'[0]?=some x
  rw[← List.head?_eq_getElem?]; exact B.hd
 have loop:codeAny (model X.prog X.w) X.A (.compLoop (.ListComp elt [⟨.Name x px,iter,ifs,0⟩] scope pos) 0 (.ref it) (.ref s2.heap.objs.size) (compEnvC scope (cellsB X scope s3.heap.objs.size) s3.heap.objs.size X.env))
   (compPost (model X.prog X.w) X.A X.xe none (EP X pins σ Q) (.ref s2.heap.objs.size) s3.heap.objs.size) { s3 with heap:=h₁,toks:=s3.toks }:=by
  refine comp_loop (fun n s'=>∃ i ys σ' H',(∃ v0,σ'=v0::capSt σ cap)∧Inv (blk X scope N' s3.heap.objs.size s3 H3 fp pins) [] σ' H' s'∧tn i s'.heap∧(∀ b∈fp,H' b=none)∧W i n ys H') ?_ m0
   ⟨0,[],_,H3,⟨none,rfl⟩,I4,st4,fun b hb=>(f3 b hb).1,w0⟩
  rintro n s5 ⟨i,ys,σ5,H5,⟨v0,rfl⟩,I5,st5,fr5,w5⟩
  rcases turn i n ys H5 w5 with⟨stop,q⟩ | ⟨go,step⟩
  ·refine wpAny_mono (T.done (blk X scope N' s3.heap.objs.size s3 H3 fp pins) rfl rfl rfl hc i [] s5 _ H5 (fun _ _=>False) I5 (statB fr5) st5 stop) (fun r s6 ⟨hr,I6⟩=>?_) (fun _ _ f=>f.elim)
   subst hr
   obtain⟨mm,hn6,_⟩:=I6.loc
   exact⟨mm,hn6,fun h'' sb=>⟨.ref s2.heap.objs.size,H5,I3.unblock f3 I6 sb,rfl,q⟩⟩
  ·refine wpAny_mono (T.item (blk X scope N' s3.heap.objs.size s3 H3 fp pins) rfl rfl rfl hc i [] s5 _ H5 (fun _ _=>False) I5 (statB fr5) st5 go) (fun r s6 ⟨u,hr,h6⟩=>?_) (fun _ _ f=>f.elim)
   subst hr
   refine wpAny_mono h6 (fun _ s7 ⟨v,H7,I7,r7,y7,st7,fr7⟩=>?_) (fun _ _ f=>f.elim)
   have I7':=I7.pinned (statB fr7) (T.obj _ _ st7)
   have back:∀ {σ8:St} {H8:Hp} {s8:Shared},Inv (blk X scope N' s3.heap.objs.size s3 H3 fp pins) ([]++pinsAt fp s7.heap) σ8 H8 s8→tn (i+1) s8.heap∧(∀ b∈fp,H8 b=none):=fun {σ8 H8 s8} I8 =>
    ⟨T.keep _ _ _ st7 fun b hb o e=>(I8.pin (b,o) (List.mem_append_right _ (List.mem_append_right _ (mem_pinsAt hb e)))).1,fun b hb=>by
     obtain⟨o,e,d⟩:=T.obj _ _ st7 b hb
     exact(I8.pin (b,o) (List.mem_append_right _ (List.mem_append_right _ (mem_pinsAt hb e)))).2.1⟩
   refine wpAny_assign_Name (store_ok (v:=v) I7' B.nd hN0 hlocx r7 (fun s8 I8=>?_) hfnx)
   refine thn (ht _ _ _ _ _ _ s8 _ H7 _ I8 (step v H7 y7)) fun b s9 ⟨H9,I9,q9⟩=>?_
   cases b with
   | false =>
    obtain⟨m',hm,w9⟩:=(show ∃ m',m'<n∧W (i+1) m' ys H9 from q9)
    exact⟨m',hm,i+1,ys,_,H9,⟨some v,rfl⟩,I9.unpinned,(back I9).1,(back I9).2,w9⟩
   | true =>
    refine thn (he _ _ _ _ _ _ s9 _ H9 _ I9 q9) fun u10 s10 ⟨y,H10,I10,r10,hl10,hz10,m',hm,w10⟩=>?_
    refine thn (mt_append _ s10 _ H10 (.ref s2.heap.objs.size) [y] _ [u10] (fun z H11=>H11=upd H10 s2.heap.objs.size (.lst (ys++[y]))) I10 rfl (.cons r10 .nil) ⟨_,ys,y,rfl,rfl,hl10,hz10,rfl⟩) fun _ s11 ⟨_,H11,I11,_,e11⟩=>?_
    subst e11
    exact⟨m',hm,i+1,ys++[y],_,_,⟨some v,rfl⟩,I11.unpinned,(back I11).1,(back I11).2,w10⟩
 exact codeAny_compStart_list loop (T.self _ 0 _ _ _ st4 loop)
end
end L2
namespace L2
open PySem PySem.Spec PyProof.Rows
def Walk(J:It)(xs:List V)(R:Hp→Prop):Prop :=
 ∀ H,R H→∀ i,(∀ x,xs[i]?=some x→J.go i H∧∀ y H',J.yld i H y H'→H'=H∧y=x)∧(i=xs.length→J.stop i H)
theorem walk_list{K:PySem.W.Frag}{a:Addr}{xs:List V}:Walk (Itl K a) xs (fun H=>SqL K H a xs):=fun H h i =>
 ⟨fun x hx=>⟨⟨xs,x,h,hx⟩,fun y H' z=>⟨z.1,by have:=z.2 xs h; rw[hx]at this; exact(Option.some.inj this).symm⟩⟩,fun hi=>⟨xs,h,Nat.le_of_eq hi.symm⟩⟩
theorem walk_tup{K:PySem.W.Frag}{a:Addr}{xs:List V}:Walk (Itt K a) xs (fun H=>SqT K H a xs):=fun H h i =>
 ⟨fun x hx=>⟨⟨xs,x,h,hx⟩,fun y H' z=>⟨z.1,by have:=z.2 xs h; rw[hx]at this; exact(Option.some.inj this).symm⟩⟩,fun hi=>⟨xs,h,Nat.le_of_eq hi.symm⟩⟩
def rngV(lo:Int)(n:Nat):List V:=(List.range n).map fun i=>V.int (lo+(i:Nat))
theorem rngV_len(lo:Int)(n:Nat):(rngV lo n).length=n:=by simp[rngV]
theorem walk_rng{lo:Int}{n:Nat}:Walk (Itr lo n) (rngV lo n) (fun _=>True):=fun H _ i=>by
 refine⟨fun x hx=>?_,fun hi=>by rw[rngV_len]at hi; exact Nat.le_of_eq hi.symm⟩
 have hlt:i<n:=by have:=(List.getElem?_eq_some_iff.mp hx).1; rw[rngV_len]at this; exact this
 refine⟨hlt,fun y H' z=>⟨z.1,?_⟩⟩
 unfold rngV at hx
 rw[List.getElem?_map,List.getElem?_range hlt]at hx
 have hx':V.int (lo+(i:Nat))=x:=Option.some.inj hx
 rw[z.2,← hx']
def sg(c:Nat):V:=.str ⟨#[c]⟩
def Its(z:Str):It:=⟨fun i _=>i<z.cps.size,fun i H x H'=>H'=H∧∃ c,z.cps[i]?=some c∧x=sg c,fun i _=>i=z.cps.size⟩
theorem walk_str{z:Str}:Walk (Its z) (z.cps.toList.map sg) (fun _=>True):=fun H _ i=>by
 refine⟨fun x hx=>?_,fun hi=>by show i=z.cps.size; simpa using hi⟩
 rw[List.getElem?_map]at hx
 cases e:z.cps.toList[i]? with
 | none=>rw[e]at hx; cases hx
 | some c =>
  rw[e]at hx
  have hlt:i<z.cps.size:=by have:=(List.getElem?_eq_some_iff.mp e).1; simpa using this
  refine⟨hlt,fun y H' w=>⟨w.1,?_⟩⟩
  obtain⟨c',e',rfl⟩:=w.2
  have:z.cps[i]?=some c:=by simpa using e
  rw[this]at e'
  cases e'
  exact(Option.some.inj hx)
theorem Same.upd{H H':Hp}{l:Addr}{o:HO}(h:Same H H')(hl:H l=none):Same H (upd H' l o):=fun b u e=>by
 rw[upd_ne (ne_of_none e hl)]; exact h b u e
theorem Same.tup{K:PySem.W.Frag}{H H':Hp}{a:Addr}{xs:List V}(e:Same H H')(h:SqT K H a xs):SqT K H' a xs:=by
 rcases h with(h | ⟨o,h⟩) | h
 ·exact .inl (.inl (e _ _ h))
 ·exact .inl (.inr ⟨o,e _ _ h⟩)
 ·exact .inr h
section
variable{X:Cx}{tg:Expr}
theorem turn_walks{P:Program}{w:World}{K:PySem.W.Frag}{z:Str}{it:Addr}{St':Nat→Heap→Prop} (hty:∀ i h,St' i h→∃ o n vs,h.get? it=some o∧o.cls = .type n∧o.data = .fields vs ∧
   ["enumerate","zip","dict_itemiterator","dict_reverseitemiterator","odict_iterator","itertools.zip_longest","itertools.pairwise"].contains n=false)
  (hself:∀ (A:Around) (i:Nat) (s:Shared) (Q:Value→Shared→Prop) (E:Value→Shared→Prop),St' i s.heap→Q (.ref it) s→wpAny (model P w) A (pyIter (.ref it)) Q E s)
  (hW:∀ A:Around,A.handled=none→Walks P w A it [it] [it] z.cps.size (SignAt z) St'):Turn P w K tg (Its z) [it] it St' where
 mem:=by simp
 obj:=fun i h st b hb=>by
  have e:b=it:=by simpa using hb
  subst e
  obtain⟨o,n,vs,h1,_,h3,_⟩:=hty i h st
  exact⟨o,h1,fun v q=>by rw[h3]at q; cases q⟩
 keep:=fun i h h' st k=>by
  exact(hW ({}:Around) rfl).frame i h h' st k
 item:=by
  intro X hP hw hK hc i pins s σ H E I hf st hg
  subst hP hw hK
  obtain⟨f0,f1,f2,f3,f4,f5⟩:=hf it (by simp)
  refine(hW X.A (I.ok.hd hc)).item i s _ _ hg st fun v h' tk hv st' k=>?_
  have I1:Inv X pins σ H { s with heap:=h',toks:=tk }:=I.turned (t':=tk) (fun b o hb e=>k b o (by simpa using hb) e) f0 f1 f3 f4 f5
  obtain⟨o,n,vs,h1,h2,h3,h4⟩:=hty _ _ st'
  obtain⟨c,u,e1,rfl⟩:=hv
  exact⟨_,rfl,go_of (s:={ s with heap:=h',toks:=tk }) h1 h2 h3 h4 ⟨sg c,H,I1,⟨u,rfl⟩,⟨rfl,c,e1,rfl⟩,st',fun b hb=>(hf b hb).1⟩⟩
 done:=by
  intro X hP hw hK hc i pins s σ H E I hf st hg
  subst hP hw hK
  obtain⟨f0,f1,f2,f3,f4,f5⟩:=hf it (by simp)
  have hg':i=z.cps.size:=hg
  subst hg'
  exact(hW X.A (I.ok.hd hc)).done s _ _ st fun h' tk k=>⟨rfl,I.turned (t':=tk) (fun b o hb e=>k b o (by simpa using hb) e) f0 f1 f3 f4 f5⟩
 self:=hself
theorem for_walk{J:It}{xs:List V}{R:Hp→Prop}{g:TG}{tb:TS}{D:Ends}{σ:St}{H:Hp}(hJ:Walk J xs R)(Pv:Nat→St→Hp→Prop)(h0:Pv 0 σ H)(hl:∀ i σ H,i≤xs.length→Pv i σ H→R H)
  (hs:∀ i x σ H,xs[i]?=some x→Pv i σ H→g x σ H fun σ2 H2=>tb { D with nx:=Pv (i+1),ct:=Pv (i+1),bk:=D.nx } σ2 H2) (hd:∀ σ H,Pv xs.length σ H→D.nx σ H) :
  ∃ W:Nat→Nat→St→Hp→Prop,(∃ m,W 0 m σ H)∧∀ i m σ H,W i m σ H →
   (J.stop i H∧D.nx σ H)∨(J.go i H∧∃ N:St→Hp→Prop,(∀ σ' H',N σ' H'→∃ m',m'<m∧W (i+1) m' σ' H')∧∀ x H',J.yld i H x H'→g x σ H' fun σ2 H2=>tb { D with nx:=N,ct:=N,bk:=D.nx } σ2 H2):=by
 refine⟨fun i m σ H=>m=xs.length-i∧i≤xs.length∧Pv i σ H,⟨xs.length,by simp,Nat.zero_le _,h0⟩,?_⟩
 rintro i m σ H ⟨rfl,hi,p⟩
 have q:=hJ H (hl i σ H hi p) i
 by_cases hlt:i<xs.length
 ·have hx:xs[i]?=some xs[i]:=by simp[hlt]
  obtain⟨go,yl⟩:=q.1 xs[i] hx
  refine .inr ⟨go,Pv (i+1),fun σ' H' p'=>⟨xs.length-(i+1),by ac_rfl,rfl,hlt,p'⟩,fun x H' y=>?_⟩
  obtain⟨rfl,rfl⟩:=yl x H' y
  exact hs i _ σ _ hx p
 ·have e:i=xs.length:=by ac_rfl
  subst e
  exact .inl ⟨q.2 rfl,hd σ H p⟩
theorem range_all{α:Type}(l:List α)(f:α→Bool)(d:Nat→Bool)(hd:∀ i x,l[i]?=some x→d i=f x):(List.range l.length).all d=l.all f:=by
 induction l generalizing d with
 | nil=>rfl
 | cons x r ih =>
  rw[List.length_cons,List.range_succ_eq_map,List.all_cons,List.all_map,List.all_cons,hd 0 x rfl]
  congr 1
  exact ih _ fun i y h=>hd (i+1) y (by simpa using h)
theorem bools_at{bs:List Bool}{us:List Value}(r:Vals (bs.map V.bl) us){i:Nat}{v:Value}(h:us.toArray[i]?=some v):v = .bool (bs.getD i false):=by
 have hl:=r.length
 rw[List.length_map]at hl
 have hi:i<us.length:=by have:=(Array.getElem?_eq_some_iff.mp h).1; simpa using this
 have e:(bs.map V.bl)[i]?=some (.bl (bs.getD i false)):=by
  rw[List.getElem?_map,List.getElem?_eq_getElem (by ac_rfl)]
  simp[List.getD,List.getElem?_eq_getElem (show i<bs.length by ac_rfl)]
 obtain⟨u,e1,e2⟩:=r.get e
 have:us[i]?=some v:=by simpa using h
 rw[this]at e1
 cases e1
 exact e2
theorem in1_handled{A:Around}(h:A.handled=none):A.in1.handled=none:=h
theorem call_allB(hc:X.calm=true):CallR X (.builtin "all") (fun xs H Q=>∃ (p:Addr) (bs:List Bool),xs=[.ref p]∧SqL X.K H p (bs.map V.bl)∧Q (.bl (bs.all id)) H):=by
 intro pins s σ H xs us Q I r h
 obtain⟨p,bs,rfl,hq,q⟩:=h
 obtain⟨u,rfl,ru⟩:=vals1 r
 cases ru
 obtain⟨its,rv,pl,hz⟩:=I.list hq
 have hl:=rv.length
 rw[List.length_map]at hl
 refine call_all_walk (wpAny_pyIter_list pl.isList ?_)
 have hne:p≠s.heap.objs.size:=by
  obtain⟨o,ho,_⟩:=pl.isList
  exact Nat.ne_of_lt (Heap.lt_size ho)
 refine⟨s.heap.objs.size,_,_,_,_,_,fun i=>bs.getD i false,rfl,Walks.list (in1_handled (I.ok.hd hc)) s.heap.objs.size p hne its.toArray,⟨⟨_,Heap.get?_push_size _ rfl,rfl,rfl⟩,?_⟩,fun i v s' Q' E' hv hQ=>?_,fun h' tk k=>?_⟩
 ·obtain⟨o,ho,hc,hd⟩:=pl.isList
  exact⟨o,Heap.get?_push_of_some _ ho,hc,hd⟩
 ·rw[bools_at rv hv]
  exact wpAny_truthy_bool hQ
 ·have e:(List.range its.toArray.size).all (fun i=>bs.getD i false)=bs.all id:=by
   rw[List.size_toArray,← hl]
   exact range_all bs id _ fun i x hx=>by simp[List.getD,hx]
  rw[e]
  have I1:Inv X pins σ H { s with heap:=s.heap.push { cls:=.type "list_iterator",data:=.fields #[.ref p,.int 0 0] },toks:=s.toks }:=I.kept (t':=s.toks) fun b o e=>Heap.get?_push_of_some _ e
  exact⟨.bl _,H,Inv.turned (t':=tk) I1 (it:=s.heap.objs.size) (fun b o hb e=>k b o (by simpa using hb) e) I.fresh (Nat.ne_of_gt I.lt) (.inr I.sz) (fun x c e z=>by
   obtain⟨v,qq⟩:=I.cell x c e
   exact absurd qq.lt (by rw[z]; exact Nat.lt_irrefl _)) (fun pp hp z=>absurd (Heap.lt_size (I.pin pp hp).1) (by rw[z]; exact Nat.lt_irrefl _)),rfl,q⟩
end
end L2
namespace L2
open PySem PySem.Spec PyProof.Rows
section
variable{X:Cx}
def cutS(z:Str)(lo hi:Option Int):Str:=⟨((z.cps.toList.drop (HT.sIx z.length 0 lo)).take (HT.sIx z.length z.length hi-HT.sIx z.length 0 lo)).toArray⟩
theorem sliceRange_nat(a b:Nat):sliceRange (a:Int) (b:Int) 1=(List.range (b-a)).map fun k=>a+k:=by
 unfold sliceRange
 have e:(if(1:Int) > 0 then(if(a:Int)<(b:Int)then((b:Int)-a+1-1) / 1 else 0)else(if(a:Int) > b then((a:Int)-b-1-1) / (-1)else 0)).toNat=b-a:=by
  rw[if_pos (by decide)]
  split
  ·rw[Int.ediv_one]; ac_rfl
  ·have:b-a=0:=by ac_rfl
   rw[this]; rfl
 show(List.range (if(1:Int) > 0 then(if(a:Int)<(b:Int)then((b:Int)-a+1-1) / 1 else 0)else(if(a:Int) > b then((a:Int)-b-1-1) / (-1)else 0)).toNat).map _=_
 rw[e]
 refine List.map_congr_left fun k _=>?_
 ac_rfl
theorem strSliceIndices_cut(lo hi:Option Int)(n:Nat):Builtin.Str.strSliceIndices lo hi 1 n=(List.range (HT.sIx n n hi-HT.sIx n 0 lo)).map fun k=>HT.sIx n 0 lo+k:=by
 rw[← sliceRange_nat]
 have p:(1:Int) > 0:=by decide
 cases lo <;> cases hi <;> (unfold Builtin.Str.strSliceIndices HT.sIx; simp only[p,if_true]; congr 1 <;> (try split) <;> ac_rfl)
theorem pick_cut{α:Type}(l:List α)(a k:Nat):((List.range k).map fun j=>a+j).filterMap (fun i=>l[i]?)=(l.drop a).take k:=by
 induction k with
 | zero=>simp
 | succ k ih =>
  rw[List.range_succ,List.map_append,List.filterMap_append,ih,List.take_succ]
  congr 1
  simp[List.filterMap_cons]
  cases l[a+k]? <;> rfl
theorem slice_text(z:Str)(t:Tok)(l u:Option (Int×Tok)):∃ m,sliceMade z t l u none=m∧(m = .val (.str z t)∧cutS z (l.map (·.1)) (u.map (·.1))=z∨m = .str (cutS z (l.map (·.1)) (u.map (·.1)))):=by
 refine⟨_,rfl,?_⟩
 unfold sliceMade slicePicked
 have e:=strSliceIndices_cut (l.map (·.1)) (u.map (·.1)) z.length
 simp only[Option.map_none,Option.getD_none]
 rw[e]
 have pk:=pick_cut z.cps.toList (HT.sIx z.length 0 (l.map (·.1))) (HT.sIx z.length z.length (u.map (·.1))-HT.sIx z.length 0 (l.map (·.1)))
 have pk':(((List.range (HT.sIx z.length z.length (u.map (·.1))-HT.sIx z.length 0 (l.map (·.1)))).map fun k=>HT.sIx z.length 0 (l.map (·.1))+k).filterMap (z.cps[·]?)).toArray=(cutS z (l.map (·.1)) (u.map (·.1))).cps:=by
  unfold cutS
  rw[← pk]
  simp
 split
 ·rename_i h
  left
  refine⟨rfl,?_⟩
  simp only[beq_self_eq_true,Bool.true_and,List.length_map,List.length_range,beq_iff_eq]at h
  have h0:HT.sIx z.length z.length (u.map (·.1))≤z.length:=HT.sIx_le _ _ (Nat.le_refl _) _
  have hl:z.cps.toList.length=z.length:=by simp[Str.length]
  have h1:HT.sIx z.length 0 (l.map (·.1))=0∨z.length=0:=by ac_rfl
  unfold cutS
  rw[h]
  rcases h1 with h1 | h1
  ·rw[h1,List.drop_zero,List.take_of_length_le (by ac_rfl)]
  ·have:z.cps.toList=[]:=List.eq_nil_of_length_eq_zero (by ac_rfl)
   rw[this]
   cases z
   rename_i c
   simp at this
   subst this
   simp
 ·right
  rw[show(⟨(((List.range (HT.sIx z.length z.length (u.map (·.1))-HT.sIx z.length 0 (l.map (·.1)))).map fun k=>HT.sIx z.length 0 (l.map (·.1))+k).filterMap (z.cps[·]?)).toArray⟩:Str)=cutS z (l.map (·.1)) (u.map (·.1))from by rw[pk']]
def rSlS:V→Option Int→Option Int→Hp→VK→Prop:=fun x lo hi H Q=>∃ z,x = .str z∧z.length≤sizeLine∧Q (.str (cutS z lo hi)) H
theorem cutS_le(z:Str)(lo hi:Option Int):(cutS z lo hi).length≤z.length:=by
 unfold cutS Str.length
 simp
 ac_rfl
theorem part_of{v:Value}{o:Option Int}(p:IsPart v o):∃ q:Option (Int×Tok),v=partValue q∧q.map (·.1)=o:=by
 cases p with
 | none=>exact⟨none,rfl,rfl⟩
 | int i t=>exact⟨some (i,t),rfl,rfl⟩
theorem sl_str:SlR X rSlS:=by
 intro pins s σ H x v vl vu lo hi sl Q I rx hs pl pu h
 obtain⟨z,rfl,hz,q⟩:=h
 obtain⟨t,rfl⟩:=rx
 obtain⟨l,rfl,rfl⟩:=part_of pl
 obtain⟨u,rfl,rfl⟩:=part_of pu
 refine⟨"str",_,F.slot_str_getitem.lookup,typeIs_str s z t,?_⟩
 obtain⟨m,em,hm⟩:=slice_text z t l u
 refine getItem_meets (typeIs_str s z t) (by decide) F.slot_str_getitem F.entry_str_getitem (F.args_str_getitem_2 _ _) (meets_str_getitem_slice z t sl l u none (by decide)) ⟨hs,?_⟩
 rw[em]
 rcases hm with⟨rfl,e⟩ | rfl
 ·exact⟨.str z,H,I,⟨t,rfl⟩,by rw[e]at q; exact q⟩
 ·exact⟨Nat.le_trans (cutS_le z _ _) hz,⟨.str _,H,I.tok _,⟨_,rfl⟩,q⟩⟩
end
end L2
namespace L2
open PySem PySem.Spec PyProof.Rows
section
variable{X:Cx}
def EqV(K:PySem.W.Frag)(H:Hp)(d:Nat)(x y:V)(k:Bool):Prop :=
 ∀ (X:Cx),X.K=K→∀ (pins:List (Addr×Obj)) (σ:St) (s:Shared) (u v:Value) (A:Around),Inv X pins σ H s→RelV x u→RelV y v→A.units+d<cLine→SeqAt.EqAt A s u v k
theorem eqv_flat{K:PySem.W.Frag}{H:Hp}{d:Nat}{x y:V}(fx:flatV x=true)(fy:flatV y=true):EqV K H d x y (eqV x y):=fun _ _ _ _ _ _ _ _ _ rx ry _=>eqAt_V rx ry fx fy
def allEq(e:Nat→Bool)(n m:Nat):Bool:=(List.range (min n m)).all e && n == m
theorem in1_units{A:Around}:A.in1.units=A.units+1:=rfl
theorem rc_list{H:Hp}{d:Nat}{a b:Addr}{xs ys:List V}{e:Nat→Bool}{pins:List (Addr×Obj)}{σ:St}{s:Shared}{A:Around}(I:Inv X pins σ H s)(ha:SqL X.K H a xs)(hb:SqL X.K H b ys)
  (he:∀ (j:Nat) x y,xs[j]?=some x→ys[j]?=some y→EqV X.K H d x y (e j)) (hu:A.units+(d+1)<cLine):SeqAt.RcAt A s (.ref a) (.ref b) (allEq e xs.length ys.length)∧SeqAt.RcNeAt A s (.ref a) (.ref b) (!allEq e xs.length ys.length):=by
 obtain⟨us,ru,pu,_⟩:=I.list ha
 obtain⟨vs,rv,pv',_⟩:=I.list hb
 have hl1:=ru.length
 have hl2:=rv.length
 have hE:∀ j (h1:j<us.toArray.size) (h2:j<vs.toArray.size),SeqAt.EqAt A.in1 s us.toArray[j] vs.toArray[j] (e j):=fun j h1 h2=>by
  have h1':j<us.length:=by simpa using h1
  have h2':j<vs.length:=by simpa using h2
  have e1:xs[j]?=some xs[j]:=List.getElem?_eq_getElem (by ac_rfl)
  have e2:ys[j]?=some ys[j]:=List.getElem?_eq_getElem (by ac_rfl)
  obtain⟨u,q1,r1⟩:=ru.get e1
  obtain⟨v,q2,r2⟩:=rv.get e2
  have f1:us[j]=u:=by rw[List.getElem?_eq_getElem h1']at q1; exact Option.some.inj q1
  have f2:vs[j]=v:=by rw[List.getElem?_eq_getElem h2']at q2; exact Option.some.inj q2
  have:=he j xs[j] ys[j] e1 e2 X rfl pins σ s u v A.in1 I r1 r2 (by rw[in1_units]; ac_rfl)
  simpa[f1,f2]using this
 by_cases hsz:xs.length=ys.length
 ·have hs:us.toArray.size=vs.toArray.size:=by simp; ac_rfl
  have e1:allEq e xs.length ys.length=(List.range us.toArray.size).all e:=by
   unfold allEq
   rw[hsz,Nat.min_self,beq_self_eq_true,Bool.and_true,List.size_toArray,← hl1,hsz]
  rw[e1]
  exact⟨.lists pu.isList pv'.isList hs (by ac_rfl) hE,.lists pu.isList pv'.isList hs (by ac_rfl) hE⟩
 ·have e1:allEq e xs.length ys.length=false:=by
   unfold allEq
   rw[beq_false_of_ne hsz,Bool.and_false]
  have hs:(us.toArray.size != vs.toArray.size)=true:=by simp; ac_rfl
  rw[e1]
  exact⟨.lists_lengths pu.isList pv'.isList hs (by ac_rfl),.lists_lengths pu.isList pv'.isList hs (by ac_rfl)⟩
theorem rc_tup{H:Hp}{d:Nat}{a b:Addr}{xs ys:List V}{e:Nat→Bool}{pins:List (Addr×Obj)}{σ:St}{s:Shared}{A:Around}(I:Inv X pins σ H s)(ha:SqT X.K H a xs)(hb:SqT X.K H b ys)
  (he:∀ (j:Nat) x y,xs[j]?=some x→ys[j]?=some y→EqV X.K H d x y (e j)) (hu:A.units+(d+1)<cLine):SeqAt.RcAt A s (.ref a) (.ref b) (allEq e xs.length ys.length)∧SeqAt.RcNeAt A s (.ref a) (.ref b) (!allEq e xs.length ys.length):=by
 obtain⟨us,ru,pu,_⟩:=I.tuple ha
 obtain⟨vs,rv,pv',_⟩:=I.tuple hb
 have hl1:=ru.length
 have hl2:=rv.length
 have hE:∀ j (h1:j<us.toArray.size) (h2:j<vs.toArray.size),SeqAt.EqAt A.in1 s us.toArray[j] vs.toArray[j] (e j):=fun j h1 h2=>by
  have h1':j<us.length:=by simpa using h1
  have h2':j<vs.length:=by simpa using h2
  have e1:xs[j]?=some xs[j]:=List.getElem?_eq_getElem (by ac_rfl)
  have e2:ys[j]?=some ys[j]:=List.getElem?_eq_getElem (by ac_rfl)
  obtain⟨u,q1,r1⟩:=ru.get e1
  obtain⟨v,q2,r2⟩:=rv.get e2
  have f1:us[j]=u:=by rw[List.getElem?_eq_getElem h1']at q1; exact Option.some.inj q1
  have f2:vs[j]=v:=by rw[List.getElem?_eq_getElem h2']at q2; exact Option.some.inj q2
  have:=he j xs[j] ys[j] e1 e2 X rfl pins σ s u v A.in1 I r1 r2 (by rw[in1_units]; ac_rfl)
  simpa[f1,f2]using this
 have e1:allEq e xs.length ys.length=((List.range (min us.toArray.size vs.toArray.size)).all e && us.toArray.size == vs.toArray.size):=by
  unfold allEq
  rw[List.size_toArray,List.size_toArray,← hl1,← hl2]
 rw[e1]
 exact⟨.tuples pu pv' (by ac_rfl) hE,.tuples pu pv' (by ac_rfl) hE⟩
theorem eqv_list{K:PySem.W.Frag}{H:Hp}{d:Nat}{a b:Addr}{xs ys:List V}{e:Nat→Bool}(ha:SqL K H a xs)(hb:SqL K H b ys)(hne:a≠b)(he:∀ (j:Nat) x y,xs[j]?=some x→ys[j]?=some y→EqV K H d x y (e j)) :
  EqV K H (d+1) (.ref a) (.ref b) (allEq e xs.length ys.length):=fun X hK pins σ s u v A I ru rv hu=>by
 subst hK
 cases ru
 cases rv
 exact .of_refs hne (rc_list I ha hb he hu).1
theorem eqv_tup{K:PySem.W.Frag}{H:Hp}{d:Nat}{a b:Addr}{xs ys:List V}{e:Nat→Bool}(ha:SqT K H a xs)(hb:SqT K H b ys)(hne:a≠b)(he:∀ (j:Nat) x y,xs[j]?=some x→ys[j]?=some y→EqV K H d x y (e j)) :
  EqV K H (d+1) (.ref a) (.ref b) (allEq e xs.length ys.length):=fun X hK pins σ s u v A I ru rv hu=>by
 subst hK
 cases ru
 cases rv
 exact .of_refs hne (rc_tup I ha hb he hu).1
theorem eqv_same{K:PySem.W.Frag}{H:Hp}{d:Nat}{a:Addr}:EqV K H d (.ref a) (.ref a) true:=fun X hK pins σ s u v A I ru rv hu=>by
 cases ru
 cases rv
 exact .same _
def rEqQ(K:PySem.W.Frag)(neg:Bool):R2:=fun x y H Q=>∃ a b xs ys d e,x = .ref a∧y = .ref b∧((SqL K H a xs∧SqL K H b ys)∨(SqT K H a xs∧SqT K H b ys))∧d≤8 ∧
 (∀ (j:Nat) x y,xs[j]?=some x→ys[j]?=some y→EqV K H d x y (e j))∧Q (.bl (if neg then !allEq e xs.length ys.length else allEq e xs.length ys.length)) H
theorem op_eqQ(hu:X.A.units+64<cLine):OpR X (compareOp .Eq) (rEqQ X.K false):=by
 intro pins s σ H x y v u Q I rx ry h
 obtain⟨a,b,xs,ys,d,e,rfl,rfl,hs,hd,he,q⟩:=h
 cases rx
 cases ry
 rcases hs with⟨h1,h2⟩ | ⟨h1,h2⟩
 ·exact(rc_list I h1 h2 he (by ac_rfl)).1 _ _ _ _ ⟨.bl _,H,I,rfl,q⟩
 ·exact(rc_tup I h1 h2 he (by ac_rfl)).1 _ _ _ _ ⟨.bl _,H,I,rfl,q⟩
theorem op_neQ(hu:X.A.units+64<cLine):OpR X (compareOp .NotEq) (rEqQ X.K true):=by
 intro pins s σ H x y v u Q I rx ry h
 obtain⟨a,b,xs,ys,d,e,rfl,rfl,hs,hd,he,q⟩:=h
 cases rx
 cases ry
 rcases hs with⟨h1,h2⟩ | ⟨h1,h2⟩
 ·exact(rc_list I h1 h2 he (by ac_rfl)).2 _ _ _ _ ⟨.bl _,H,I,rfl,q⟩
 ·exact(rc_tup I h1 h2 he (by ac_rfl)).2 _ _ _ _ ⟨.bl _,H,I,rfl,q⟩
end
end L2
namespace L2
open PySem PySem.Spec PyProof.Rows
noncomputable abbrev Tx:=List Nat
def tS(l:Tx):Str:=⟨l.toArray⟩
def tV(l:Tx):V:=.str (tS l)
def tVs(ls:List Tx):List V:=ls.map tV
theorem tS_cps(l:Tx):(tS l).cps.toList=l:=by simp[tS]
theorem tS_len(l:Tx):(tS l).length=l.length:=by simp[tS,Str.length]
theorem tS_of(z:Str):tS z.cps.toList=z:=by cases z; simp[tS]
theorem tS_inj{a b:Tx}(h:tS a=tS b):a=b:=by rw[← tS_cps a,h,tS_cps]
theorem tV_inj{a b:Tx}(h:tV a=tV b):a=b:=tS_inj (V.str.inj h)
theorem tVs_len(ls:List Tx):(tVs ls).length=ls.length:=List.length_map _
def leT(a b:Tx):Bool:=decide (a≤b)
def sortT(ls:List Tx):List Tx:=ls.mergeSort leT
theorem leT_trans(a b c:Tx)(h1:leT a b=true)(h2:leT b c=true):leT a c=true:=by
 simp only[leT,decide_eq_true_eq]at *
 exact List.le_trans h1 h2
theorem leT_total(a b:Tx):(leT a b || leT b a)=true:=by
 simp only[leT,Bool.or_eq_true,decide_eq_true_eq]
 exact List.le_total a b
theorem leT_antisymm{a b:Tx}(h1:leT a b=true)(h2:leT b a=true):a=b:=by
 simp only[leT,decide_eq_true_eq]at *
 exact List.le_antisymm h1 h2
theorem sortT_perm(ls:List Tx):(sortT ls).Perm ls:=List.mergeSort_perm _ _
theorem sortT_rises(ls:List Tx):(sortT ls).Pairwise (fun a b=>leT a b=true):=List.pairwise_mergeSort leT_trans leT_total _
theorem sortT_len(ls:List Tx):(sortT ls).length=ls.length:=(sortT_perm ls).length_eq
theorem eq_sortT{ls ms:List Tx}(hp:ms.Perm ls)(hs:ms.Pairwise (fun a b=>leT a b=true)):ms=sortT ls :=
 List.Perm.eq_of_pairwise (le:=fun a b=>leT a b=true) (fun _ _ _ _ h1 h2=>leT_antisymm h1 h2) hs (sortT_rises ls) (hp.trans (sortT_perm ls).symm)
theorem rising_pairwise:∀ (p:Str) (l:List Str),risingS p l=true→(p::l).Pairwise (fun a b=>leT a.cps.toList b.cps.toList=true)
 | p,[],_=>List.pairwise_singleton _ _
 | p,x::r,h=>by
  have h':(!ltCps x.cps.toList p.cps.toList && risingS x r)=true:=h
  rw[Bool.and_eq_true,ltCps_eq]at h'
  have q:=rising_pairwise x r h'.2
  have px:leT p.cps.toList x.cps.toList=true:=by
   simp only[leT,decide_eq_true_eq]
   intro hlt
   simp[hlt]at h'
  refine List.pairwise_cons.mpr ⟨fun y hy=>?_,q⟩
  rcases List.mem_cons.mp hy with rfl | hy
  ·exact px
  ·exact leT_trans _ _ _ px (List.rel_of_pairwise_cons q hy)
theorem sortedS_T{ss:List Str}(h:sortedS ss=true):(ss.map fun z=>z.cps.toList).Pairwise (fun a b=>leT a b=true):=by
 rw[List.pairwise_map]
 cases ss with
 | nil=>exact List.Pairwise.nil
 | cons x r=>exact rising_pairwise x r h
theorem vals_strs:∀ {ls:List Tx} {us:List Value},Vals (tVs ls) us→StrsAre us (ls.map tS)
 | [],_,.nil=>.nil
 | l::ls,_::_,.cons ⟨t,e⟩ r=>by subst e; exact .cons _ t (vals_strs (ls:=ls) r)
theorem strs_vals:∀ {ss:List Str} {us:List Value},StrsAre us ss→Vals (tVs (ss.map fun z=>z.cps.toList)) us
 | _,_,.nil=>.nil
 | _,_,.cons y t h=>.cons ⟨t,by rw[tS_of]⟩ (strs_vals h)
section
variable{X:Cx}
theorem Inv.sorted{pins:List (Addr×Obj)}{σ:St}{H:Hp}{s1:Shared}{ls:List Tx}{ss ss':List Str}{h':Heap}{out:Array Value}{e:Nat}(I:Inv X pins σ H s1)(hl:ss=ls.map tS)(h64:ls.length<64)
  (k:∀ b o,s1.heap.get? b=some o→h'.get? b=some o) (ho:h'.get? s1.heap.objs.size=some (seqObj "list" out e)) (a1:StrsAre out.toList ss') (a2:ss'.Perm ss) (a3:sortedS ss'=true) :
  Inv X pins σ (upd H s1.heap.objs.size (.lst (tVs (sortT ls)))) { s1 with heap:=h' }:=by
 have e1:ss'.map (fun z=>z.cps.toList)=sortT ls:=by
  refine eq_sortT ?_ (sortedS_T a3)
  have:=a2.map fun z=>z.cps.toList
  rw[hl,List.map_map]at this
  have e2:(ls.map ((fun z:Str=>z.cps.toList) ∘ tS))=ls:=by
   simp[Function.comp_def,tS_cps]
  rw[e2]at this
  exact this
 have hv:Vals (tVs (sortT ls)) out.toList:=by rw[← e1]; exact strs_vals a1
 refine I.laid (t':=s1.toks) k (Nat.le_refl _) ⟨?_,out.toList,e,hv,?_⟩
 ·rw[tVs_len,sortT_len]
  exact Nat.le_of_lt (small1000 (by ac_rfl))
 ·rw[Array.toArray_toList]; exact ho
theorem mul_text(z:Tx)(n:Nat):Txt.mul (tS z) (n:Int)=tS (List.replicate n z).flatten:=by
 unfold Txt.mul
 cases n with
 | zero=>simp[tS,Str.empty]
 | succ n =>
  rw[if_neg (by ac_rfl)]
  split
  ·rename_i h
   simp only[Bool.or_eq_true,beq_iff_eq]at h
   rcases h with h | h
   ·have:n=0:=by ac_rfl
    subst this
    simp
   ·rw[tS_len]at h
    have:z=[]:=List.eq_nil_of_length_eq_zero h
    subst this
    simp
  ·unfold tS
   congr 1
   have gen:∀ (k:Nat) (acc:Array Nat),(List.replicate k z.toArray).foldl (·++·) acc=acc++(List.replicate k z).flatten.toArray:=by
    intro k
    induction k with
    | zero=>intro acc; simp
    | succ k ih=>intro acc; rw[List.replicate_succ,List.foldl_cons,ih,List.replicate_succ,List.flatten_cons]; simp[Array.append_assoc]
   have e:=gen (n+1) #[]
   simp only[Int.toNat_natCast]
   simpa using e
theorem op_mulT:OpR X (binaryOp .Mult) (fun x y H Q=>∃ (z:Tx) (n:Nat),x=tV z∧y = .int n∧n≤100∧z.length≤100∧Q (tV (List.replicate n z).flatten) H):=by
 intro pins s σ H x y v u Q I rx ry h
 obtain⟨z,n,rfl,rfl,hn,hz,q⟩:=h
 obtain⟨t,rfl⟩:=rx
 obtain⟨t',rfl⟩:=ry
 refine SB.mul ?_ fun t2 k=>?_
 ·have hp:z.length * n≤10000:=Nat.le_trans (Nat.mul_le_mul hz hn) (by decide)
  refine⟨by rw[Bool.or_eq_false_iff]; constructor <;> (apply decide_eq_false; ac_rfl),fun h1 _=>?_,fun h1 _=>?_⟩
  ·rw[tS_len]
   intro hgt
   have h2:(2 ^ 63-1:Int) / n ≥ (2 ^ 63-1) / 100:=by
    have hn0:(0:Int)<n:=by ac_rfl
    apply (Int.le_ediv_iff_mul_le hn0).mpr
    have:((2 ^ 63-1:Int) / 100) * n≤((2 ^ 63-1) / 100) * 100:=Int.mul_le_mul_of_nonneg_left (by ac_rfl) (by decide)
    refine Int.le_trans this (by decide)
   have h3:((2 ^ 63-1:Int) / 100) > 1000:=by decide
   ac_rfl
  ·rw[tS_len,Int.toNat_natCast]
   unfold Builtin.Str.tooLong
   apply decide_eq_false
   have:10000<sizeLine:=by rw[sizeLine_eq]; decide
   ac_rfl
 ·rw[mul_text]
  exact⟨tV _,H,I.tok _,⟨_,rfl⟩,q⟩
end
end L2
namespace L2
open PySem PySem.Spec PyProof.Rows
theorem put_marks(t:SetTable)(j:Nat):(t.put j).1.led=t.led∧(t.put j).1.plain=t.plain:=⟨rfl,rfl⟩
theorem orStandIn_marks(t:SetTable)(n:Nat):(t.orStandIn n).led=t.led∧((t.orStandIn n).plain=t.plain∨(t.orStandIn n).plain=false):=by
 unfold SetTable.orStandIn
 split
 ·exact⟨rfl,.inl rfl⟩
 ·exact⟨rfl,.inr rfl⟩
theorem layNew_marks(t:SetTable)(es:Array (Int×Value))(h:Int)(x:Value):(layNew t es h x).2.1.led=t.led∧((layNew t es h x).2.1.plain=t.plain∨(layNew t es h x).2.1.plain=false):=by
 unfold layNew
 split
 ·rename_i slot wasDummy _
  have h1:=put_marks t slot
  have h2:=orStandIn_marks (t.put slot).1 (SetTable.insertAt es (t.put slot).2 (h,x)).size
  exact⟨h2.1.trans h1.1,by rw[← h1.2]; exact h2.2⟩
 ·exact⟨rfl,.inr rfl⟩
theorem relayAll_marks(t:SetTable)(es:Array (Int×Value))(wanted:Nat)(hp:t.plain=false):(relayAll t es wanted).2.1.led=t.led∧(relayAll t es wanted).2.1.plain=false:=by
 unfold relayAll
 split
 ·rename_i t' order e
  have q:t'.led=t.led∧t'.plain=t.plain:=by
   unfold SetTable.relaid SetTable.laid at e
   cases q:SetTable.layClean (SetTable.sizeAbove wanted-1) (es.map (·.1))with
   | none=>rw[q]at e; cases e
   | some ow=>rw[q]at e; cases e; exact⟨rfl,rfl⟩
  dsimp only
  split
  ·exact⟨q.1,q.2.trans hp⟩
  ·exact⟨rfl,rfl⟩
 ·exact⟨rfl,rfl⟩
def byTx(w:World):Bool:=w.params.followText "set-order"
structure SetS(P:Program)(w:World)(h:Heap)(a:Addr)(ks:List Str):Prop where
 ex:∃ (es:Array (Int×Value)) (ep:Nat) (t:SetTable) (ss:List Str),h.get? a=some { cls:=.type "set",dict:=none,data:=.set es ep t }∧StrsAre (es.toList.map (·.2)) ss∧ss.Perm ks∧ElemsOf (PySem.strKind P w) es.toList ∧
  es.size<4090∧t.fits es.size=true∧t.led=(!byTx w)∧(ks≠[]→t.plain=false)
theorem SetS.at{P:Program}{w:World}{h h':Heap}{a:Addr}{ks:List Str}(S:SetS P w h a ks)(k:∀ o,h.get? a=some o→h'.get? a=some o):SetS P w h' a ks:=by
 obtain⟨es,ep,t,ss,e,r⟩:=S.ex
 exact⟨es,ep,t,ss,k _ e,r⟩
theorem strs_mem:∀ {vs:List Value} {ss:List Str},StrsAre vs ss→∀ x,x∈ss↔∃ t,Value.str x t∈vs
 | _,_,.nil,x=>by simp
 | _,_,.cons y t h,x=>by
  rw[List.mem_cons,strs_mem h x]
  constructor
  ·rintro(rfl | ⟨t',q⟩)
   ·exact⟨t,List.mem_cons_self ..⟩
   ·exact⟨t',List.mem_cons_of_mem _ q⟩
  ·rintro⟨t',q⟩
   rcases List.mem_cons.mp q with q | q
   ·cases q; exact .inl rfl
   ·exact .inr ⟨t',q⟩
theorem strs_perm:∀ {us vs:List Value},us.Perm vs→∀ {ss:List Str},StrsAre vs ss→∃ ss',StrsAre us ss'∧ss'.Perm ss:=by
 intro us vs p ss h
 refine⟨us.map strOf,strsAre_map us fun v hv=>h.all v (p.mem_iff.mp hv),?_⟩
 have:=p.map strOf
 rwa[h.strs]at this
section
variable{P:Program}{w:World}{A:Around}{E:Value→Shared→Prop}{s:Shared}
def addT(ks:List Str)(x:Str):List Str:=if x∈ks then ks else ks++[x]
theorem SetS.put{h:Heap}{a:Addr}{es es':Array (Int×Value)}{ep:Nat}{t t':SetTable}(e:h.get? a=some { cls:=.type "set",dict:=none,data:=.set es ep t }) :
  (h.update a (Obj.putSet es' t')).get? a=some { cls:=.type "set",dict:=none,data:=.set es' (ep+1) t' }:=by
 have:=Heap.get?_update_self (Obj.putSet es' t') e (by rw[putSet_of es' t' rfl]; rfl)
 rw[putSet_of es' t' rfl]at this
 exact this
theorem set_addT{a:Addr}{ks:List Str}{x:Str}{tk:Tok}{Q:Bool→Shared→Prop}(S:SetS P w s.heap a ks)(hn:ks.length<4000)
  (h:∀ h' b,Heap.SameBut a s.heap h'→SetS P w h' a (addT ks x)→Q b { s with heap:=h' }) :
  wpAny (model P w) A (setAddHashed a (.str x tk) ((PySem.strKind P w).hash x)) Q E s:=by
 obtain⟨es,ep,t,ss,ho,hS,hp,hel,hsz,hf,hled,hpl⟩:=S.ex
 have isD:∀ y t',(PySem.strKind P w).is x (.str y t')=decide (y=x):=fun y t'=>by
  show Value.isStrOf x (.str y t')=_
  rw[Bool.eq_iff_iff]
  simp[Value.isStrOf]
  try exact eq_comm
 have hkey:(PySem.strKind P w).is x (.str x tk)=true:=by rw[isD]; simp
 have hb:es.size<scanBound:=Nat.lt_trans hsz (by decide)
 unfold setAddHashed setAddHashedIn
 refine wpAny_holding (wpAny_bind (wpAny_setState_of ho rfl hf ?_))
 dsimp only
 rw[byScan_of (knd:=PySem.strKind P w) (x:=.str x tk) rfl hb hel]
 simp only[if_true]
 unfold setAddByScan
 refine wpAny_bind (wpAny_bind (wpAny_rule (wpAny_bind (wpAny_setScan_of hkey ho rfl hf hel ?_))))
 have memx:x∈ks↔∃ e∈es.toList,(PySem.strKind P w).is x e.2=true:=by
  rw[← hp.mem_iff,strs_mem hS x]
  constructor
  ·rintro⟨t',q⟩
   obtain⟨e,he,ee⟩:=List.mem_map.mp q
   exact⟨e,he,by rw[ee,isD]; simp⟩
  ·rintro⟨e,he,q⟩
   obtain⟨y,t',ey⟩:=hS.all e.2 (List.mem_map.mpr ⟨e,he,rfl⟩)
   rw[ey,isD]at q
   have:y=x:=of_decide_eq_true q
   subst this
   exact⟨t',List.mem_map.mpr ⟨e,he,ey⟩⟩
 have klen:ks.length=es.size:=by
  have e1:=hp.length_eq
  have e2:ss.length=es.size:=by rw[← hS.strs]; simp
  ac_rfl
 cases hr:List.findIdx? (fun e=>(PySem.strKind P w).is x e.2) es.toList with
 | some j =>
  dsimp only
  obtain⟨hj,hpj,_⟩:=List.findIdx?_eq_some_iff_getElem.mp hr
  have hx:x∈ks:=memx.mpr ⟨_,List.getElem_mem hj,hpj⟩
  refine wpAny_pure (wpAny_pure ?_)
  exact h s.heap _ (Heap.SameBut.refl a s.heap) (by unfold addT; rw[if_pos hx]; exact S)
 | none =>
  dsimp only
  have hx:¬ x∈ks:=fun hm=>by
   obtain⟨e,he,q⟩:=memx.mp hm
   have:=List.findIdx?_eq_none_iff.mp hr e he
   rw[q]at this
   exact Bool.noConfusion this
  have hgw:∀ (b:Bool) {s₁:Shared} {Q':Unit→Shared→Prop},Q' () s₁→wpAny (model P w) A (match b with | true=>rule "set.scan.the-table-gave-way" | false=>pure ()) Q' E s₁ :=
   fun b s₁ Q' hq=>by cases b <;> first | exact wpAny_pure hq | exact wpAny_rule hq
  have hperm:=layNew_perm t es ((PySem.strKind P w).hash x) (.str x tk)
  have hfits:=layNew_fits t es ((PySem.strKind P w).hash x) (.str x tk)
  have hmk:=layNew_marks t es ((PySem.strKind P w).hash x) (.str x tk)
  generalize hL:layNew t es ((PySem.strKind P w).hash x) (.str x tk)=L at hperm hfits hmk ⊢
  obtain⟨es1,t1,wasDummy,gave⟩:=L
  dsimp only at hperm hfits hmk ⊢
  rw[Array.toList_push]at hperm
  have hel1:ElemsOf (PySem.strKind P w) es1.toList:=(hel.push hkey rfl).perm hperm
  have hsz1:es1.size=es.size+1:=by
   have:=hperm.length_eq
   simpa using this
  have hS1:∃ ss1,StrsAre (es1.toList.map (·.2)) ss1∧ss1.Perm (addT ks x):=by
   have p1:=hperm.map (fun e:Int×Value=>e.2)
   rw[List.map_append]at p1
   have q1:StrsAre (es.toList.map (·.2)++[Value.str x tk]) (ss++[x]):=by
    have gen:∀ {vs:List Value} {zs:List Str},StrsAre vs zs→StrsAre (vs++[Value.str x tk]) (zs++[x]):=by
     intro vs zs hh
     induction hh with
     | nil=>exact .cons x tk .nil
     | cons y t _ ih=>exact .cons y t ih
    exact gen hS
   obtain⟨ss1,r1,r2⟩:=strs_perm p1 q1
   refine⟨ss1,r1,r2.trans ?_⟩
   unfold addT
   rw[if_neg hx]
   exact hp.append_right _
  obtain⟨ss1,r1,r2⟩:=hS1
  have hne:addT ks x≠[]:=by unfold addT; rw[if_neg hx]; simp
  have tail:∀ t2:SetTable,t2.fits es1.size=true→t2.led=(!byTx w)→t2.plain=false→wpAny (model P w) A (do
    storeSet a es1 t2
    if(!wasDummy && t2.tooFull)=true then do
      (match (relayAll t2 es1 (SetTable.grown es1.size)).2.2 with | true=>rule "set.scan.the-table-gave-way" | false=>pure ())
      storeSet a (relayAll t2 es1 (SetTable.grown es1.size)).1 (relayAll t2 es1 (SetTable.grown es1.size)).2.1
      pure (some true)
     else pure (some true)) (fun r s'=>∃ h',r=some true∧s'={ s with heap:=h' }∧Heap.SameBut a s.heap h'∧SetS P w h' a (addT ks x)) E s:=by
   intro t2 hf2 hl2 hp2
   refine wpAny_bind (wpAny_storeSet_of ho rfl ?_ (fits_of_scanBound (Nat.lt_trans (show es1.size<4090 by ac_rfl) (by decide))))
   have o1:=SetS.put (es':=es1) (t':=t2) ho
   have sb1:=Heap.SameBut.update s.heap a (Obj.putSet es1 t2)
   split
   ·have hp3:=relayAll_perm t2 es1 (SetTable.grown es1.size)
    have hf3:=relayAll_fits t2 es1 (SetTable.grown es1.size)
    have hm3:=relayAll_marks t2 es1 (SetTable.grown es1.size) hp2
    generalize hRl:relayAll t2 es1 (SetTable.grown es1.size)=Rl at hp3 hf3 hm3 ⊢
    obtain⟨es2,t3,gave2⟩:=Rl
    dsimp only at hp3 hf3 hm3 ⊢
    have hsz2:es2.size=es1.size:=by have:=hp3.length_eq; simpa using this
    refine wpAny_bind (hgw _ ?_)
    refine wpAny_bind (wpAny_storeSet_of o1 rfl ?_ (fits_of_scanBound (Nat.lt_trans (show es2.size<4090 by ac_rfl) (by decide))))
    obtain⟨ss2,u1,u2⟩:=strs_perm (hp3.map (fun e:Int×Value=>e.2)) r1
    refine wpAny_pure ⟨_,rfl,rfl,sb1.trans (Heap.SameBut.update _ a _),⟨es2,_,t3,ss2,SetS.put o1,u1,u2.trans r2,hel1.perm hp3,by ac_rfl,hf3,hm3.1.trans hl2,fun _=>hm3.2⟩⟩
   ·exact wpAny_pure ⟨_,rfl,rfl,sb1,⟨es1,_,t2,ss1,o1,r1,r2,hel1,by ac_rfl,hf2,hl2,fun _=>hp2⟩⟩
  have hled1:t1.led=(!byTx w):=hmk.1.trans hled
  refine wpAny_bind (hgw _ ?_)
  split
  ·refine wpAny_bind ?_
   rw[hashByValue_scannable 8 (x:=.str x tk) rfl]
   refine wpAny_pure ?_
   have hk:plainKind (.str x tk)=false:=rfl
   rw[hk]
   simp only[Bool.false_eq_true,if_false]
   refine thn (tail { t1 with plain:=false } (SetTable.fits_plain_off hfits) hled1 rfl) fun r s' ⟨h',e1,e2,e3,e4⟩=>?_
   subst e1 e2
   exact wpAny_pure (h h' _ e3 e4)
  ·rename_i hpl1
   refine wpAny_bind (wpAny_pure ?_)
   simp only[if_true]
   refine thn (tail t1 hfits hled1 (by simpa using hpl1)) fun r s' ⟨h',e1,e2,e3,e4⟩=>?_
   subst e1 e2
   exact wpAny_pure (h h' _ e3 e4)
end
end L2
namespace L2
open PySem PySem.Spec PyProof.Rows
def met(val:Nat→Str)(i:Nat):List Str:=((List.range i).map val).foldl addT []
theorem met_succ(val:Nat→Str)(i:Nat):met val (i+1)=addT (met val i) (val i):=by
 unfold met; rw[List.range_succ,List.map_append,List.foldl_append]; rfl
theorem met_mono(val:Nat→Str){i:Nat}:∀ {j:Nat},i≤j→(met val i).length≤(met val j).length
 | 0,h=>by rw[show i=0 by ac_rfl]; exact Nat.le_refl _
 | j+1,h=>by
  by_cases e:i=j+1
  ·subst e; exact Nat.le_refl _
  ·refine Nat.le_trans (met_mono val (j:=j) (by ac_rfl)) ?_
   rw[met_succ]
   unfold addT
   split
   ·exact Nat.le_refl _
   ·simp
section
variable{P:Program}{w:World}{A:Around}{R:Result→Shared→Prop}{I:Addr}{fp wr:List Addr}{G:Array GenState→Array GenState→Prop}{n:Nat}{Pv:Nat→Value→Prop}{St:Nat→Shared→Prop}
theorem set_loopT(W:WalksS P w A.in1 I fp wr G n Pv St)(S:Addr)(hSf:S∉fp)(val:Nat→Str)(hval:∀ i v,Pv i v→∃ t,v = .str (val i) t)(hb:∀ i,i≤n→(met val i).length<4000) :
  ∀ (k i:Nat) (s:Shared),n-i=k→i≤n→St i s→SetS P w s.heap S (met val i) →
   (∀ s',Moved (S::wr) G s s'→SetS P w s'.heap S (met val n)→R (.ok (.ret .none)) s')→codeAny (model P w) A (.builtin "set.update.loop" ⟨[.ref S,.ref I],[]⟩) R s:=by
 have hSw:S∉wr:=fun h=>hSf (W.sub _ h)
 have hsub:∀ b∈wr,b∈S::wr:=fun b hb=>List.mem_cons_of_mem _ hb
 intro k
 induction k with
 | zero =>
  intro i s hk hi hst hS hR
  obtain rfl:i=n:=by ac_rfl
  refine codeAny_builtin PyProof.Rows.F.entry_set_update_loop ?_
  rw[Around.under_plainId PyProof.Rows.F.plain_set_update_loop _]
  show wpAny _ A.in1 (pyNext (.ref I) >>= _) _ _ s
  refine wpAny_bind (W.done s _ _ hst fun s' hm=>?_)
  show wpAny _ A.in1 (ret Value.none) _ _ s'
  exact wpAny_pure (hR s' (hm.mono hsub) (hS.at fun o e=>hm.heap S o hSw e))
 | succ k ih =>
  intro i s hk hi hst hS hR
  have hlt:i<n:=by ac_rfl
  refine codeAny_builtin PyProof.Rows.F.entry_set_update_loop ?_
  rw[Around.under_plainId PyProof.Rows.F.plain_set_update_loop _]
  show wpAny _ A.in1 (pyNext (.ref I) >>= _) _ _ s
  refine wpAny_bind (W.item i s _ _ hlt hst fun v s' hP hst' hm=>?_)
  obtain⟨t,rfl⟩:=hval i v hP
  have hS':SetS P w s'.heap S (met val i):=hS.at fun o e=>hm.heap S o hSw e
  show wpAny _ A.in1 (holding [Value.str (val i) t] (setAdd S (.str (val i) t)) >>= _) _ _ s'
  refine wpAny_bind (wpAny_holding ?_)
  unfold setAdd
  refine wpAny_holding ?_
  have hkey:(PySem.strKind P w).is (val i) (.str (val i) t)=true:=by
   show Value.isStrOf (val i) (.str (val i) t)=true
   simp[Value.isStrOf]
  refine wpAny_bind ((PySem.strKind P w).pyHash (k:=val i) hkey ?_)
  have hroom:(met val i).length<4000:=hb i (Nat.le_of_lt hlt)
  refine set_addT (s:={ s' with toks:=s'.toks+1 }) hS' hroom fun h' b hsb hS2=>?_
  rw[← met_succ]at hS2
  refine wpAny_pure ⟨plainId_quiet PyProof.Rows.F.plain_set_update_loop _,ih (i+1) _ (by ac_rfl) hlt (W.frame _ s' _ _ hst' (Nat.le_succ _) fun b hb o e=>?_) hS2 fun s'' hm'' hS''=>?_⟩
  ·rw[hsb.2 b (fun h:b=S=>hSf (by rw[← h]; exact hb))]; exact e
  ·refine hR s'' (Moved.trans W.gtrans ((hm.mono hsub).then_heap (Nat.le_succ _) fun b o hb e=>?_) hm'') hS''
   rw[hsb.2 b (fun h:b=S=>hb (by rw[h]; exact List.mem_cons_self))]; exact e
end
section
variable{P:Program}{w:World}{A:Around}{E:Value→Shared→Prop}{s:Shared}
theorem set_newT(a:Value){Q:Value→Shared→Prop} (h:SetS P w (s.heap.push { cls:=.type "set",dict:=none,data:=.set #[] 0 (.fresh 0 0 (!byTx w)) }) s.heap.objs.size [] →
   Q (.ref s.heap.objs.size) { s with heap:=s.heap.push { cls:=.type "set",dict:=none,data:=.set #[] 0 (.fresh 0 0 (!byTx w)) } }) :
  codeAny (model P w) A (.call (.builtin "set.__new__") ⟨[.type "set",a],[]⟩) (wants Q E) s:=by
 refine codeAny_of_tree ?_
 show wpAny _ A.in1 (do checkBuiltinCall "set.__new__" ⟨[.type "set",a],[]⟩; again (.builtin "set.__new__" ⟨[.type "set",a],[]⟩)) _ _ s
 refine wpAny_bind (wpAny_of_eq (PySem.F.newCall_set_1 a) (wpAny_pure ⟨plainId_quiet F.plain_set_new _,codeAny_builtin F.entry_set_new ?_⟩))
 rw[Around.under_plainId F.plain_set_new _]
 unfold Builtin.«set.__new__» Builtin.Frozenset.newClass
 have hsub:=sub_set_self
 obtain⟨hp,g,d,tk,os⟩:=s
 dsimp only
 wp_walk
 refine wpAny_askSetting (wpAny_pure ?_)
 dsimp only
 simp only[newObj]
 refine wpAny_bind (wpAny_alloc (wpAny_pure ?_))
 refine wpAny_pure (h ⟨#[],0,_,[],Heap.get?_push_size _ rfl,.nil,List.Perm.refl _,fun e he=>by simp at he,by decide,rfl,rfl,fun h=>absurd rfl h⟩)
end
end L2
set_option maxHeartbeats 8000000
namespace L2
open PySem PySem.Spec PyProof.Rows
theorem entry_set_iterT:entryFor table "set.__iter__" = some Builtin.«frozenset.__iter__»:=entryFor_alias (id':="frozenset.__iter__") (by kernel_rfl) rfl (by decide +kernel) (by kernel_rfl)
theorem slot_si_next:Slot "set_iterator" "__next__" "set_iterator.__next__" :=
 .of (owner:="set_iterator") (n:="__next__") (by rw[typeLookup_type,builtinLookup_eq_fast]; kernel_rfl) (by decide +kernel) (by decide +kernel) (by decide +kernel) (by first | exact .inl (by decide +kernel) | exact .inr (by decide +kernel)) (by rw[isSubtype_type]; kernel_rfl)
theorem entry_si_next:entryFor table "set_iterator.__next__" = some Builtin.«set_iterator.__next__»:=entryFor_of_fast (by kernel_rfl)
theorem args_si_next(a:Value):argsOk "set_iterator.__next__" ⟨[a],[]⟩:=by unfold argsOk; kernel_rfl
theorem slot_si_iter:Slot "set_iterator" "__iter__" "set_iterator.__iter__" :=
 .of (owner:="set_iterator") (n:="__iter__") (by rw[typeLookup_type,builtinLookup_eq_fast]; kernel_rfl) (by decide +kernel) (by decide +kernel) (by decide +kernel) (by first | exact .inl (by decide +kernel) | exact .inr (by decide +kernel)) (by rw[isSubtype_type]; kernel_rfl)
theorem entry_si_iter:entryFor table "set_iterator.__iter__" = some Builtin.«dict_keyiterator.__iter__»:=entryFor_alias (id':="dict_keyiterator.__iter__") (by kernel_rfl) rfl (by decide +kernel) (by kernel_rfl)
theorem args_si_iter(a:Value):argsOk "set_iterator.__iter__" ⟨[a],[]⟩:=by unfold argsOk; kernel_rfl
end L2
namespace L2
open PySem PySem.Spec PyProof.Rows
def siObj(first:Value)(i:Nat)(a:Addr)(n ep:Nat):Obj:={ cls:=.type "set_iterator",data:=.fields #[first,.int i 0,.ref a,.int n 0,.int ep 0] }
section
variable{P:Program}{w:World}{A:Around}{E:Value→Shared→Prop}{s:Shared}
theorem si_self{I a:Addr}{first:Value}{i n ep:Nat}{Q:Value→Shared→Prop}(h:s.heap.get? I=some (siObj first i a n ep))(hQ:Q (.ref I) s):wpAny (model P w) A (pyIter (.ref I)) Q E s:=by
 have hT:s.TypeIs (.ref I) "set_iterator":=⟨_,h,rfl⟩
 refine wpAny_pyIter_slot hT slot_si_iter (wpAny_call_entry slot_si_iter hT entry_si_iter ?_ (args_si_iter _))
 show wpAny _ _ (ret (.ref I)) _ _ s
 exact wpAny_pure ⟨_,rfl,"set_iterator",_,hT,slot_si_next.lookup,hQ⟩
theorem next_open{I a:Addr}{first:Value}{i:Nat}{es:Array (Int×Value)}{ep:Nat}{t:SetTable}{Q:Option Value→Shared→Prop}(ha:s.heap.get? a=some { cls:=.type "set",dict:=none,data:=.set es ep t })(hf:t.fits es.size=true)
  (hI:s.heap.get? I=some (siObj first i a es.size ep))
  (h:wpAny (model P w) A.in1 (if let .int slot _:=first then do
    match ← setNext a slot.toNat (i:Int).toNat (ep:Int).toNat with
    | some (x,next)=>do
     setField (.ref I) 0 (rawInt next)
     setField (.ref I) 1 (rawInt ((i:Int)+1))
     ret x
    | none=>do setField (.ref I) 2 .none; raiseNew (← newExc (.type "StopIteration") [])
   else do
    let some places ← seqItems? first | unsupported "internal:set_iterator"
    match places[(i:Int).toNat]? with
    | some (.int place _)=>do
     let x ← setNextDrawn a place.toNat (ep:Int).toNat
     setField (.ref I) 1 (rawInt ((i:Int)+1))
     ret x
    | some _=>unsupported "internal:set_iterator"
    | none=>do setField (.ref I) 0 (rawInt 0); setField (.ref I) 2 .none; raiseNew (← newExc (.type "StopIteration") []))
   (fun fin s'=>∃ r,fin = .done (.ret r)∧Q (some r) s') (fun e s'=>wpAny (model P w) A (do if ← isInstance e (.type "StopIteration")then pure none else throw e) Q E s') s) :
  wpAny (model P w) A (pyNext (.ref I)) Q E s:=by
 have hT:s.TypeIs (.ref I) "set_iterator":=⟨_,hI,rfl⟩
 unfold pyNext
 refine wpAny_bind (wpAny_attempt (wpAny_callSpecial?_slot (name:=Str.ofString "__next__") hT slot_si_next (wpAny_call_entry slot_si_next hT entry_si_next ?_ (args_si_next _))))
 unfold Builtin.«set_iterator.__next__» slotArgs
 refine wpAny_bind (wpAny_pure ?_)
 refine wpAny_bind (wpAny_fieldsOf hI rfl ?_)
 show wpAny _ _ (setEntries a >>= _) _ _ s
 refine wpAny_bind (wpAny_setEntries_of ha rfl hf ?_)
 have e0:(((es.size:Nat):Int) != ((es.size:Nat):Int))=false:=by simp
 rw[e0]
 simp only[Bool.false_eq_true,if_false]
 refine wpAny_mono ?_ (fun fin s' q=>?_) (fun e s' q=>q) (Q:=fun fin s'=>∃ r,fin = .done (.ret r)∧Q (some r) s') (E:=fun e s'=>wpAny (model P w) A (do if ← isInstance e (.type "StopIteration")then pure none else throw e) Q E s')
 ·exact h
 ·obtain⟨r,e1,e2⟩:=q
  exact⟨r,e1,wpAny_pure e2⟩
end
end L2
namespace L2
open PySem PySem.Spec PyProof.Rows
theorem out_perm{α:Type}:∀ {l:List α} {i:Nat} (h:i<l.length),(l[i]::l.eraseIdx i).Perm l
 | [],i,h=>by simp at h
 | x::r,0,h=>by simp
 | x::r,i+1,h=>by
  have q:=out_perm (l:=r) (i:=i) (by simpa using h)
  simp only[List.getElem_cons_succ,List.eraseIdx_cons_succ]
  exact(List.Perm.swap x _ _).trans (List.Perm.cons x q)
theorem pick_go{α:Type}(next:Nat→Nat):∀ (fuel k:Nat) (left:List α) (out:Array α),fuel=left.length→(pickOrder.go next fuel k left out).toList.Perm (out.toList++left)
 | 0,k,left,out,h=>by
  have:left=[]:=List.eq_nil_of_length_eq_zero h.symm
  subst this
  simp[pickOrder.go]
 | fuel+1,k,left,out,h=>by
  have hlt:next k % left.length<left.length:=Nat.mod_lt _ (by ac_rfl)
  unfold pickOrder.go
  rw[List.getElem?_eq_getElem hlt]
  dsimp only
  have ih:=pick_go next fuel (k+1) (left.eraseIdx (next k % left.length)) (out.push left[next k % left.length]) (by rw[List.length_eraseIdx,if_pos hlt]; ac_rfl)
  refine ih.trans ?_
  rw[Array.toList_push,List.append_assoc]
  exact List.Perm.append_left _ (out_perm hlt)
theorem pick_perm{α:Type}(next:Nat→Nat)(xs:Array α):(pickOrder next xs).toList.Perm xs.toList:=by
 have:=pick_go next xs.size 0 xs.toList #[] (by simp)
 simpa[pickOrder]using this
section
variable{P:Program}{w:World}{A:Around}{E:Value→Shared→Prop}{s:Shared}
theorem chooseT{src:Source}{n:Nat}{Q:Nat→Shared→Prop}(hn:n≠0)(h:∀ k d,k<n→Q k { s with drawn:=d }):wpAny (model P w) A (choose src n) Q E s:=fun Γ p hΓ=>by
 unfold choose
 rw[Sem.wp_choose]
 refine⟨hn,?_⟩
 exact h _ _ (Nat.mod_lt _ (Nat.pos_of_ne_zero hn))
theorem drawT{α:Type}:∀ (n:Nat) (xs:List α) (s:Shared) (Q:List α→Shared→Prop),n=xs.length→(∀ ys d,ys.Perm xs→Q ys { s with drawn:=d })→wpAny (model P w) A (drawOrder n xs) Q E s
 | 0,[],s,Q,_,h=>by
  unfold drawOrder
  exact wpAny_pure (h [] s.drawn (List.Perm.refl _))
 | 0,x::xs,s,Q,hn,h=>by simp at hn
 | n+1,[],s,Q,hn,h=>by simp at hn
 | n+1,x::xs,s,Q,hn,h=>by
  unfold drawOrder
  refine wpAny_bind (chooseT (by simp) fun k d hk=>?_)
  rw[List.getElem?_eq_getElem hk]
  dsimp only
  refine wpAny_bind (drawT n ((x::xs).eraseIdx k) _ _ (by rw[List.length_eraseIdx,if_pos hk]; ac_rfl) fun ys d' hy=>?_)
  refine wpAny_pure (h _ d' ?_)
  exact(List.Perm.cons _ hy).trans (out_perm hk)
theorem stop_tail{Q:Option Value→Shared→Prop}{R:Fin→Shared→Prop}(hh:A.handled=none)(hQ:∀ h',(∀ b o,s.heap.get? b=some o→h'.get? b=some o)→Q none { s with heap:=h' }) :
  wpAny (model P w) A.in1 (do raiseNew (← newExc (.type "StopIteration") [])) R (fun e s'=>wpAny (model P w) A (do if ← isInstance e (.type "StopIteration")then pure none else throw e) Q E s') s:=by
 refine wpAny_bind ?_
 simp only[newExc,newTuple]
 refine wpAny_bind (wpAny_newObj_type ?_ (by size_fits)); refine wpAny_bind (m:=firstArgMember _ _) (wpAny_of_eq (a:=Value.none) (by first | rfl | (simp only[firstArgMember]; rfl)) ?_)
 refine wpAny_newObj_type ?_ (by size_fits); simp only[raiseNew]
 refine wpAny_bind (wpAny_handled ?_); rw[show A.in1.handled=none from hh]
 refine wpAny_bind (wpAny_pure (wpAny_throw ?_)); refine wpAny_bind (wpAny_isInstance (T:="StopIteration") (b:=true) ⟨_,Heap.get?_push_size _ rfl,rfl⟩ isSubtype_stop ?_)
 exact wpAny_pure (hQ _ fun b o e=>Heap.get?_push_of_some _ (Heap.get?_push_of_some _ e))
theorem si_set0{I a:Addr}{first f':Value}{i n ep:Nat}{Q:Unit→Shared→Prop}(hI:s.heap.get? I=some (siObj first i a n ep))(h:∀ h',Heap.SameBut I s.heap h'→h'.get? I=some (siObj f' i a n ep)→Q () { s with heap:=h' }) :
  wpAny (model P w) A (setField (.ref I) 0 f') Q E s:=by
 refine wpAny_setField hI rfl (by simp[siObj]) (h _ (Heap.SameBut.update ..) ?_)
 rw[Heap.get?_update_self _ hI (by rfl)]
 rfl
theorem si_set1{I a:Addr}{first:Value}{i n ep:Nat}{Q:Unit→Shared→Prop}(hI:s.heap.get? I=some (siObj first i a n ep))(h:∀ h',Heap.SameBut I s.heap h'→h'.get? I=some (siObj first (i+1) a n ep)→Q () { s with heap:=h' }) :
  wpAny (model P w) A (setField (.ref I) 1 (rawInt ((i:Int)+1))) Q E s:=by
 refine wpAny_setField hI rfl (by simp[siObj]) (h _ (Heap.SameBut.update ..) ?_)
 rw[Heap.get?_update_self _ hI (by rfl)]
 rfl
theorem si_set2{I a:Addr}{first:Value}{i n ep:Nat}{Q:Unit→Shared→Prop}(hI:s.heap.get? I=some (siObj first i a n ep))(h:∀ h',Heap.SameBut I s.heap h'→(∃ o,h'.get? I=some o)→Q () { s with heap:=h' }) :
  wpAny (model P w) A (setField (.ref I) 2 .none) Q E s:=by
 refine wpAny_setField hI rfl (by simp[siObj]) (h _ (Heap.SameBut.update ..) ⟨_,Heap.get?_update_self _ hI (by rfl)⟩)
noncomputable abbrev setObjT(es:Array (Int×Value))(ep:Nat)(t:SetTable):Obj:={ cls:=.type "set",dict:=none,data:=.set es ep t }
theorem walks_byText{I a:Addr}{es:Array (Int×Value)}{ep:Nat}{t:SetTable}(hne:a≠I)(hf:t.fits es.size=true)(hb:byTx w=true)(hh:A.handled=none) :
  Walks P w A I [I,a] [I] es.size (fun i v=>((pickOrder (w.params.setOrder a ep) es).toList.map (·.2))[i]?=some v) (fun i h=>h.get? I=some (siObj (rawInt 0) i a es.size ep)∧h.get? a=some (setObjT es ep t)):=by
 have hsz:(pickOrder (w.params.setOrder a ep) es).size=es.size:=by have:=(pick_perm (w.params.setOrder a ep) es).length_eq; simpa using this
 have body:∀ (s:Shared) (i:Nat) (Q:Option (Value×Nat)→Shared→Prop) (E:Value→Shared→Prop),s.heap.get? a=some (setObjT es ep t) →
   Q (((pickOrder (w.params.setOrder a ep) es)[i]?).map fun e=>(e.2,0)) s→wpAny (model P w) A.in1 (setNext a (0:Int).toNat (i:Int).toNat (ep:Int).toNat) Q E s:=fun s i Q E ha hq=>by
  unfold setNext
  refine wpAny_bind (wpAny_setState_of ha rfl hf ?_)
  unfold setsByText
  refine wpAny_bind (wpAny_bind (wpAny_askSetting (wpAny_pure ?_)))
  show wpAny _ _ (if byTx w=true then _ else _) _ _ s
  rw[if_pos hb]
  simp only[Int.toNat_natCast,bne_self_eq_false,Bool.false_eq_true,if_false]
  unfold setWalk
  refine wpAny_bind (wpAny_bind (wpAny_setState_of ha rfl hf ?_))
  unfold setsByText
  refine wpAny_bind (wpAny_bind (wpAny_askSetting (wpAny_pure ?_)))
  show wpAny _ _ (if byTx w=true then _ else _) _ _ s
  rw[if_pos hb]
  refine wpAny_bind (wpAny_askSetting (wpAny_pure (wpAny_pure ?_)))
  exact hq
 refine⟨fun b hb=>by simp at hb; simp[hb],fun i h h' st k=>⟨k I (by simp) _ st.1,k a (by simp) _ st.2⟩,fun i s Q E hi st hQ=>?_,fun s Q E st hQ=>?_,fun i s Q E st hQ=>si_self st.1 hQ⟩
 ·refine next_open st.2 hf st.1 ?_
  refine wpAny_bind (body s i _ _ st.2 ?_)
  have hlt:i<(pickOrder (w.params.setOrder a ep) es).size:=by ac_rfl
  rw[Array.getElem?_eq_getElem hlt]
  dsimp only[Option.map_some]
  refine wpAny_bind (si_set0 st.1 fun h1 sb1 e1=>?_)
  refine wpAny_bind (si_set1 (s:={ s with heap:=h1 }) e1 fun h2 sb2 e2=>?_)
  refine wpAny_pure ⟨_,rfl,hQ _ h2 s.toks ?_ ⟨e2,?_⟩ fun b o hb e=>?_⟩
  ·rw[List.getElem?_map]
   simp[Array.getElem?_eq_getElem hlt]
  ·exact(sb2.2 a hne).trans ((sb1.2 a hne).trans st.2)
  ·exact(sb2.2 b (by simpa using hb)).trans ((sb1.2 b (by simpa using hb)).trans e)
 ·refine next_open st.2 hf st.1 ?_
  refine wpAny_bind (body s es.size _ _ st.2 ?_)
  rw[Array.getElem?_eq_none (by ac_rfl)]
  dsimp only[Option.map_none]
  refine wpAny_bind (si_set2 st.1 fun h1 sb1 _=>?_)
  exact stop_tail (s:={ s with heap:=h1 }) hh fun h2 k2=>hQ h2 s.toks fun b o hb e=>k2 b o ((sb1.2 b (by simpa using hb)).trans e)
theorem walks_drawn{I a T:Addr}{es:Array (Int×Value)}{ep:Nat}{t:SetTable}{ord:List Nat}(hne:a≠I)(hT:T≠I)(hf:t.fits es.size=true)(hp:ord.Perm (List.range es.size))(hh:A.handled=none) :
  Walks P w A I [I,a,T] [I] es.size (fun i v=>(ord.filterMap fun j=>(es[j]?).map (·.2))[i]?=some v)
   (fun i h=>h.get? I=some (siObj (.ref T) i a es.size ep)∧h.get? a=some (setObjT es ep t)∧h.get? T=some { cls:=.type "tuple",data:=.seq (ord.map fun(k:Nat)=>rawInt k).toArray }):=by
 have hol:ord.length=es.size:=by simpa using hp.length_eq
 have hmem:∀ j∈ord,j<es.size:=fun j hj=>by simpa using hp.mem_iff.mp hj
 have fm:∀ (l:List Nat),(∀ j∈l,j<es.size)→∀ (i j:Nat),l[i]?=some j→∃ e:Int×Value,es[j]?=some e∧(l.filterMap fun j=>(es[j]?).map (·.2))[i]?=some e.2:=by
  intro l
  induction l with
  | nil=>intro _ i j h; simp at h
  | cons x r ih =>
   intro hl i j h
   have hx:x<es.size:=hl x (List.mem_cons_self ..)
   have ex:es[x]?=some es[x]:=Array.getElem?_eq_getElem hx
   cases i with
   | zero =>
    simp at h
    subst h
    exact⟨_,ex,by rw[List.filterMap_cons,ex]; rfl⟩
   | succ i =>
    obtain⟨e,q1,q2⟩:=ih (fun j hj=>hl j (List.mem_cons_of_mem _ hj)) i j (by simpa using h)
    exact⟨e,q1,by rw[List.filterMap_cons,ex]; simpa using q2⟩
 have tupR:∀ (s:Shared) (Q:Option (Array Value)→Shared→Prop) (E:Value→Shared→Prop),s.heap.get? T=some { cls:=.type "tuple",data:=.seq (ord.map fun(k:Nat)=>rawInt k).toArray }→Q (some (ord.map fun(k:Nat)=>rawInt k).toArray) s→wpAny (model P w) A.in1 (seqItems? (.ref T)) Q E s:=fun s Q E ht hq=>by
  exact wpAny_seqItems ht rfl hq
 refine⟨fun b hb=>by simp at hb; simp[hb],fun i h h' st k=>⟨k I (by simp) _ st.1,k a (by simp) _ st.2.1,k T (by simp) _ st.2.2⟩,fun i s Q E hi st hQ=>?_,fun s Q E st hQ=>?_,fun i s Q E st hQ=>si_self st.1 hQ⟩
 ·refine next_open st.2.1 hf st.1 ?_
  refine wpAny_bind (tupR s _ _ st.2.2 ?_)
  have hlt:i<ord.length:=by ac_rfl
  have e1:((ord.map fun(k:Nat)=>rawInt k).toArray)[(i:Int).toNat]?=some (rawInt (ord[i]:Nat)):=by simp[hlt]
  dsimp only
  rw[e1]
  obtain⟨e,q1,q2⟩:=fm ord hmem i ord[i] (List.getElem?_eq_getElem hlt)
  show wpAny _ _ (setNextDrawn a _ _ >>= _) _ _ s
  refine wpAny_bind ?_
  unfold setNextDrawn
  refine wpAny_bind (wpAny_setState_of st.2.1 rfl hf ?_)
  simp only[Int.toNat_natCast,bne_self_eq_false,Bool.false_eq_true,if_false]
  rw[q1]
  refine wpAny_pure ?_
  refine wpAny_bind (si_set1 st.1 fun h2 sb2 e2=>?_)
  refine wpAny_pure ⟨_,rfl,hQ _ h2 s.toks q2 ⟨e2,(sb2.2 a hne).trans st.2.1,(sb2.2 T hT).trans st.2.2⟩ fun b o hb e=>(sb2.2 b (by simpa using hb)).trans e⟩
 ·refine next_open st.2.1 hf st.1 ?_
  refine wpAny_bind (tupR s _ _ st.2.2 ?_)
  have e1:((ord.map fun(k:Nat)=>rawInt k).toArray)[(es.size:Int).toNat]?=none:=by simp[hol]
  dsimp only
  rw[e1]
  refine wpAny_bind (si_set0 st.1 fun h1 sb1 e1=>?_)
  refine wpAny_bind (si_set2 (s:={ s with heap:=h1 }) e1 fun h2 sb2 _=>?_)
  exact stop_tail (s:={ s with heap:=h2 }) hh fun h3 k3=>hQ h3 s.toks fun b o hb e=>k3 b o ((sb2.2 b (by simpa using hb)).trans ((sb1.2 b (by simpa using hb)).trans e))
theorem below1(j k:Nat):SetTable.below #[j] k=if j<k then 1 else 0:=by
 unfold SetTable.below
 simp only[List.size_toArray,List.length_cons,List.length_nil]
 unfold SetTable.below.go
 simp
 split
 ·rename_i h
  unfold SetTable.below.go
  simp
 ·unfold SetTable.below.go
  simp
theorem walks_one{I a:Addr}{es:Array (Int×Value)}{ep:Nat}{t:SetTable}(hne:a≠I)(hf:t.fits es.size=true)(hb:byTx w=false)(hled:t.led=true)(h1:es.size=1)(hh:A.handled=none) :
  Walks P w A I [I,a] [I] 1 (fun i v=>(es.toList.map (·.2))[i]?=some v) (fun i h=>h.get? I=some (siObj (rawInt (if i=0 then 0 else((t.place.getD 0 0:Nat):Int)+1)) i a es.size ep)∧h.get? a=some (setObjT es ep t)):=by
 have hps:t.place.size=1:=by
  simp only[SetTable.fits,Bool.and_eq_true,beq_iff_eq]at hf
  ac_rfl
 obtain⟨j,hj⟩:∃ j,t.place = #[j]:=by
  match hq:t.place,hps with
  | ⟨[j]⟩,_=>exact⟨j,rfl⟩
 have gj:((t.place.getD 0 0:Nat):Int)=(j:Int):=by rw[hj]; rfl
 obtain⟨e,he⟩:∃ e,es = #[e]:=by
  match hq:es,h1 with
  | ⟨[e]⟩,_=>exact⟨e,rfl⟩
 have body:∀ (s:Shared) (slot:Nat) (i:Nat) (Q:Option (Value×Nat)→Shared→Prop) (E:Value→Shared→Prop),s.heap.get? a=some (setObjT es ep t) →
   Q (if j<slot then none else some (e.2,j+1)) s→wpAny (model P w) A.in1 (setNext a slot i ep) Q E s:=fun s slot i Q E ha hq=>by
  unfold setNext
  refine wpAny_bind (wpAny_setState_of ha rfl hf ?_)
  unfold setsByText
  refine wpAny_bind (wpAny_bind (wpAny_askSetting (wpAny_pure ?_)))
  show wpAny _ _ (if byTx w=true then _ else _) _ _ s
  rw[if_neg (by rw[hb]; decide)]
  refine wpAny_ite_split (fun hc=>absurd (show(!t.plain && decide (es.size > 1))=true from hc) (by rw[h1]; simp)) (fun _=>?_)
  refine wpAny_bind ?_
  refine wpAny_mono (Q:=fun _ s'=>s'=s) (E:=E) ?_ (fun _ s' hs'=>?_) (fun _ _ x=>x)
  ·refine wpAny_ite_split (fun hc=>absurd (show(!t.led && !es.isEmpty)=true from hc) (by rw[hled]; simp)) (fun _=>wpAny_pure rfl)
  ·subst hs'
   rw[hj,below1,he]
   by_cases hlt:j<slot
   ·rw[if_pos hlt]at hq ⊢
    exact wpAny_pure hq
   ·rw[if_neg hlt]at hq ⊢
    exact wpAny_pure hq
 refine⟨fun b hb=>by simp at hb; simp[hb],fun i h h' st k=>⟨k I (by simp) _ st.1,k a (by simp) _ st.2⟩,fun i s Q E hi st hQ=>?_,fun s Q E st hQ=>?_,fun i s Q E st hQ=>si_self st.1 hQ⟩
 ·obtain rfl:i=0:=by ac_rfl
  refine next_open st.2 hf st.1 ?_
  show wpAny _ _ (setNext a (0:Int).toNat ((0:Nat):Int).toNat (ep:Int).toNat >>= _) _ _ s
  simp only[Int.toNat_natCast,Int.toNat_zero]
  refine wpAny_bind (body s 0 0 _ _ st.2 ?_)
  rw[if_neg (Nat.not_lt_zero j)]
  dsimp only
  refine wpAny_bind (si_set0 st.1 fun h1 sb1 e1=>?_)
  refine wpAny_bind (si_set1 (s:={ s with heap:=h1 }) e1 fun h2 sb2 e2=>?_)
  refine wpAny_pure ⟨_,rfl,hQ _ h2 s.toks ?_ ⟨?_,?_⟩ fun b o hb e=>?_⟩
  ·rw[he]; rfl
  ·rw[e2,if_neg (by decide),gj]; rfl
  ·exact(sb2.2 a hne).trans ((sb1.2 a hne).trans st.2)
  ·exact(sb2.2 b (by simpa using hb)).trans ((sb1.2 b (by simpa using hb)).trans e)
 ·refine next_open st.2 hf st.1 ?_
  rw[if_neg (by decide),gj]
  show wpAny _ _ (setNext a ((j:Int)+1).toNat ((1:Nat):Int).toNat (ep:Int).toNat >>= _) _ _ s
  have e1:((j:Int)+1).toNat=j+1:=by ac_rfl
  rw[e1,Int.toNat_natCast,Int.toNat_natCast]
  refine wpAny_bind (body s (j+1) 1 _ _ st.2 ?_)
  rw[if_pos (Nat.lt_succ_self j)]
  dsimp only
  refine wpAny_bind (si_set2 st.1 fun h1 sb1 _=>?_)
  exact stop_tail (s:={ s with heap:=h1 }) hh fun h2 k2=>hQ h2 s.toks fun b o hb e=>k2 b o ((sb1.2 b (by simpa using hb)).trans e)
end
end L2
namespace L2
open PySem PySem.Spec PyProof.Rows
section
variable{P:Program}{w:World}{A:Around}{E:Value→Shared→Prop}{s:Shared}
theorem getD_strs:∀ {vs:List Value} {ss:List Str} (i:Nat) (v:Value),StrsAre vs ss→vs[i]?=some v→∃ t,v = .str (ss.getD i Str.empty) t
 | _,_,i,v,.nil,h=>by simp at h
 | _,_,0,v,.cons y t _,h=>by simp at h; exact⟨t,by rw[← h]; rfl⟩
 | _,_,i+1,v,.cons y t hr,h=>by
  simp only[List.getElem?_cons_succ]at h
  obtain⟨t',e⟩:=getD_strs i v hr h
  exact⟨t',by rw[e]; rfl⟩
set_option maxRecDepth 100000 in
theorem call_setT{l:Addr}{items:Array Value}{ss:List Str}{Q:Value→Shared→Prop}(hh:A.handled=none)(hl:s.heap.IsList l items)(hi:StrsAre items.toList ss)(hb:(met (fun i=>ss.getD i Str.empty) items.size).length<4000)
  (h:∀ (h':Heap) (tk:Nat),SetS P w h' s.heap.objs.size (met (fun i=>ss.getD i Str.empty) items.size)→(∀ b o,b<s.heap.objs.size→s.heap.get? b=some o→h'.get? b=some o)→Q (.ref s.heap.objs.size) { s with heap:=h',toks:=tk }) :
  wpAny (model P w) A (call (.type "set") [.ref l]) Q E s:=by
 obtain⟨c,tl,hmro⟩:=F.called_set.mro; have hmade:=F.called_set.made; have hsub:=F.called_set.sub
 refine wpAny_call (codeAny_of_tree ?_)
 show wpAny _ _ (callAny (.type "set") _) _ _ _; refine wpAny_pure ⟨Code.quiet_builtin _ (by decide +kernel),codeAny_builtin F.entry_type_call ?_⟩
 rw[Around.under_plain (weight_type_call_type "set" [.ref l] []) rfl]; have h1:=F.called_set.notType; have h2:=F.called_set.canCreate
 have hct:=PySem.F.typeCall_set_1 (.ref l)
 repeat any_goals (first | assumption | wp_step)
 refine codeAny_mono (set_newT (P:=P) (w:=w) (.ref l) (E:=E) (Q:=fun obj s1=>obj = .ref s.heap.objs.size∧s1={ s with heap:=s.heap.push { cls:=.type "set",dict:=none,data:=.set #[] 0 (.fresh 0 0 (!byTx w)) } }∧SetS P w s1.heap s.heap.objs.size []) fun S0=>⟨rfl,rfl,S0⟩) fun r s1 hr=>?_
 cases r with
 | error e=>exact hr
 | ok fl =>
  cases fl with
  | ret obj =>
   obtain⟨rfl,rfl,S0⟩:=hr
   have hS:=Heap.get?_push_size (h:=s.heap) (o:=({ cls:=.type "set",dict:=none,data:=.set #[] 0 (.fresh 0 0 (!byTx w)) }:Obj))
   have hS':(s.heap.push { cls:=.type "set",dict:=none,data:=.set #[] 0 (.fresh 0 0 (!byTx w)) }).get? s.heap.objs.size=some { cls:=.type "set",dict:=none,data:=.set #[] 0 (.fresh 0 0 (!byTx w)) }:=Heap.get?_push_size _ rfl
   have hT:Shared.TypeIs { s with heap:=s.heap.push { cls:=.type "set",dict:=none,data:=.set #[] 0 (.fresh 0 0 (!byTx w)) } } (.ref s.heap.objs.size) "set":=⟨_,hS',rfl⟩
   have hli:=F.called_set.init.lookup; have hbi:=F.called_set.init.bind (.ref s.heap.objs.size)
   repeat any_goals (first | assumption | wp_step)
   refine codeAny_mono (codeAny_call_builtin (R:=wants (fun r s2=>r = .none∧∃ h' tk,s2={ s with heap:=h',toks:=tk }∧SetS P w h' s.heap.objs.size (met (fun i=>ss.getD i Str.empty) items.size) ∧
     (∀ b o,b<s.heap.objs.size→s.heap.get? b=some o→h'.get? b=some o)) E) F.called_set.init.plain F.entry_set_init (check_set_init_1 hT ?_)) fun r2 s2 hr2=>?_
   ·obtain⟨⟨ocls,odict,odata,oslots⟩,hol,hcl,nl,hdl⟩:=hl
    simp only at hcl hdl; subst hcl; subst hdl
    have hol':(s.heap.push { cls:=.type "set",dict:=none,data:=.set #[] 0 (.fresh 0 0 (!byTx w)) }).get? l=some { cls:=.type "list",dict:=odict,data:=.seq items nl,slots:=oslots }:=Heap.get?_push_of_some _ hol
    have hsls:=PySem.F.sub_list_set; have hslf:=PySem.F.sub_list_frozenset; have hne:(Value.type "list" == Value.type "dict")=false:=by decide
    have hl1:(s.heap.push { cls:=.type "set",dict:=none,data:=.set #[] 0 (.fresh 0 0 (!byTx w)) }).IsList l items:=⟨_,hol',rfl,nl,rfl⟩
    unfold Builtin.«set.__init__» noKeywords Builtin.Frozenset.updateFrom; generalize hPI:pyIter=PI
    wp_walk
    subst hPI
    refine wpAny_pyIter_list hl1 (wpAny_bind (wpAny_runValue ?_))
    have hlS:l<s.heap.objs.size:=Heap.lt_size hol
    have hh3:A.in1.in1.in1.handled=none:=by simp[hh]
    have hsz:(s.heap.push { cls:=.type "set",dict:=none,data:=.set #[] 0 (.fresh 0 0 (!byTx w)) }).objs.size=s.heap.objs.size+1:=Heap.size_push ..
    have hneI:l≠(s.heap.push { cls:=.type "set",dict:=none,data:=.set #[] 0 (.fresh 0 0 (!byTx w)) }).objs.size:=by rw[hsz]; exact Nat.ne_of_lt (Nat.lt_succ_of_lt hlS)
    have hSf:s.heap.objs.size∉[(s.heap.push { cls:=.type "set",dict:=none,data:=.set #[] 0 (.fresh 0 0 (!byTx w)) }).objs.size,l]:=by
     rw[hsz]; simp only[List.mem_cons,List.mem_singleton,List.not_mem_nil,or_false,not_or]; exact⟨Nat.ne_of_lt (Nat.lt_succ_self _),Nat.ne_of_gt hlS⟩
    refine set_loopT ((Walks.list hh3 _ l hneI items).toS) s.heap.objs.size hSf (fun i=>ss.getD i Str.empty) (fun i v hv=>getD_strs i v hi (by rw[Array.getElem?_toList]; exact hv)) (fun i hi=>Nat.lt_of_le_of_lt (met_mono _ hi) hb) (items.size-0) 0 _ (by ac_rfl) (Nat.zero_le _)
     ⟨⟨_,Heap.get?_push_size _ rfl,rfl,rfl⟩,(hl1.push _)⟩ (S0.at fun o e=>Heap.get?_push_of_some _ e) ?_
    intro s' hm hS2
    obtain⟨h',g',d',tk',os'⟩:=s'
    obtain rfl:g'=s.gens:=hm.gens
    obtain rfl:d'=s.drawn:=hm.drawn
    obtain rfl:os'=s.os:=hm.os
    show wpAny _ _ _ _ _ _
    refine wpAny_pure ?_
    show wpAny _ _ (ret Value.none) _ _ _
    refine wpAny_pure ⟨rfl,h',tk',rfl,hS2,fun b o hb e=>hm.heap b o ?_ (Heap.get?_push_of_some _ (Heap.get?_push_of_some _ e))⟩
    rw[hsz]; simp only[List.mem_cons,List.mem_singleton,List.not_mem_nil,or_false,not_or]; exact⟨Nat.ne_of_lt hb,Nat.ne_of_lt (Nat.lt_succ_of_lt hb)⟩
   ·cases r2 with
    | error e=>exact hr2
    | ok fl2 =>
     cases fl2 with
     | ret r =>
      obtain⟨rfl,h',tk,rfl,hS2,hk'⟩:=hr2
      repeat any_goals (first | assumption | wp_step)
      exact h _ _ hS2 hk'
     | _=>exact hr2.elim
  | _=>exact hr.elim
end
end L2
namespace L2
open PySem PySem.Spec PyProof.Rows
theorem small4096{n:Nat}(h:n≤4096):n<sizeLine:=Nat.lt_of_le_of_lt h (by decide)
theorem look_set_len:typeLookup (.type "set") "__len__" = pure (some (.builtin "set.__len__")):=F.slot_set_len.lookup
section
variable{P:Program}{w:World}{A:Around}{E:Value→Shared→Prop}{s:Shared}
structure SetWalk(P:Program)(w:World)(s s':Shared)(a I:Addr)(ks:List Str)(fp:List Addr)(n:Nat)(Pv:Nat→Value→Prop)(St:Nat→Heap→Prop):Prop where
 wk:∀ A:Around,A.handled=none→Walks P w A I fp [I] n Pv St
 st:St 0 s'.heap
 old:∀ b o,s.heap.get? b=some o→s'.heap.get? b=some o
 new:s.heap.objs.size≤I
 lt:∀ b∈fp,b<s'.heap.objs.size
 rest:s'={ s with heap:=s'.heap,drawn:=s'.drawn }
 ord:∀ acc:Array Value,ItemsOf Pv acc n→∃ ss,StrsAre acc.toList ss∧ss.Perm ks
 len:n<4090
 fps:∀ b∈fp,b=a∨s.heap.objs.size≤b
theorem items_eq{l:List Value}{acc:Array Value}{n:Nat}(hl:l.length=n)(h:ItemsOf (fun i v=>l[i]?=some v) acc n):acc.toList=l:=by
 refine List.ext_getElem? fun i=>?_
 by_cases hi:i<n
 ·have:i<acc.size:=by rw[h.1]; exact hi
  have q:=h.2 i acc[i] (Array.getElem?_eq_getElem this)
  rw[q]
  simp[this]
 ·rw[List.getElem?_eq_none (by rw[Array.length_toList,h.1]; ac_rfl),List.getElem?_eq_none (by ac_rfl)]
end
def uniqT(ls:List Tx):List Tx:=ls.foldl (fun ks x=>if x∈ks then ks else ks++[x]) []
theorem met_uniq(ls:List Tx):met (fun i=>(ls.map tS).getD i Str.empty) ls.length=(uniqT ls).map tS:=by
 have gen:∀ (l:List Tx) (acc:List Tx),(l.map tS).foldl addT (acc.map tS)=(l.foldl (fun ks x=>if x∈ks then ks else ks++[x]) acc).map tS:=by
  intro l
  induction l with
  | nil=>intro acc; rfl
  | cons x r ih =>
   intro acc
   rw[List.map_cons,List.foldl_cons,List.foldl_cons]
   have:addT (acc.map tS) (tS x)=(if x∈acc then acc else acc++[x]).map tS:=by
    unfold addT
    have hm:tS x∈acc.map tS↔x∈acc:=by
     rw[List.mem_map]
     exact⟨fun⟨y,hy,e⟩=>by rw[← tS_inj e]; exact hy,fun h=>⟨x,h,rfl⟩⟩
    by_cases h:x∈acc
    ·rw[if_pos h,if_pos (hm.mpr h)]
    ·rw[if_neg h,if_neg (fun z=>h (hm.mp z)),List.map_append]; rfl
   rw[this,ih]
 have e:(List.range ls.length).map (fun i=>(ls.map tS).getD i Str.empty)=ls.map tS:=by
  refine List.ext_getElem? fun i=>?_
  rw[List.getElem?_map]
  by_cases hi:i<ls.length
  ·rw[List.getElem?_range hi]
   simp[hi]
  ·rw[List.getElem?_eq_none (by simpa using hi),List.getElem?_eq_none (by simpa using hi)]
   rfl
 unfold met
 rw[e]
 exact gen ls []
theorem uniqT_go(l acc:List Tx):(acc.Nodup→(l.foldl (fun ks x=>if x∈ks then ks else ks++[x]) acc).Nodup)∧∀ x,x∈l.foldl (fun ks x=>if x∈ks then ks else ks++[x]) acc↔x∈acc∨x∈l:=by
 induction l generalizing acc with
 | nil=>exact⟨fun h=>h,fun x=>by simp⟩
 | cons y r ih =>
  rw[List.foldl_cons]
  obtain⟨h1,h2⟩:=ih (if y∈acc then acc else acc++[y])
  refine⟨fun h=>h1 ?_,fun x=>?_⟩
  ·split
   ·exact h
   ·rename_i hy
    rw[List.nodup_append]
    exact⟨h,by simp,fun a ha b hb=>by simp at hb; subst hb; exact fun e=>hy (e ▸ ha)⟩
  ·rw[h2 x,List.mem_cons]
   split
   ·rename_i hy
    constructor
    ·rintro(h | h)
     ·exact .inl h
     ·exact .inr (.inr h)
    ·rintro(h | rfl | h)
     ·exact .inl h
     ·exact .inl hy
     ·exact .inr h
   ·rw[List.mem_append,List.mem_singleton,or_assoc]
theorem uniqT_mem(l:List Tx)(x:Tx):x∈uniqT l↔x∈l:=by rw[uniqT,(uniqT_go l []).2 x]; simp
theorem uniqT_len(l:List Tx):(uniqT l).length≤l.length:=by
 have gen:∀ (l acc:List Tx),(l.foldl (fun ks x=>if x∈ks then ks else ks++[x]) acc).length≤acc.length+l.length:=by
  intro l
  induction l with
  | nil=>intro acc; simp
  | cons x r ih =>
   intro acc
   rw[List.foldl_cons]
   refine Nat.le_trans (ih _) ?_
   split <;> simp <;> ac_rfl
 simpa[uniqT]using gen l []
section
variable{X:Cx}
def setHO(X:Cx)(a:Addr)(ls:List Tx):HO:=.ext fun h=>SetS X.prog X.w h a (ls.map tS)
theorem call_setL(hc:X.calm=true):CallR X (.type "set") (fun xs H Q=>∃ (p:Addr) (ls:List Tx),xs=[.ref p]∧SqL X.K H p (tVs ls)∧(uniqT ls).length<4000∧∀ a,H a=none→Q (.ref a) (upd H a (setHO X a (uniqT ls)))):=by
 intro pins s σ H xs us Q I r h
 obtain⟨p,ls,rfl,hq,h60,q⟩:=h
 obtain⟨u,rfl,ru⟩:=vals1 r
 cases ru
 obtain⟨its,rv,pl,hz⟩:=I.list hq
 have hl:=rv.length
 rw[tVs_len]at hl
 refine call_setT (P:=X.prog) (w:=X.w) (I.ok.hd hc) pl.isList (by simpa using vals_strs rv) (by rw[List.size_toArray,show its.length=ls.length by ac_rfl,met_uniq,List.length_map]; exact h60) fun h' tk S k=>?_
 have S':SetS X.prog X.w h' s.heap.objs.size ((uniqT ls).map tS):=by
  have e:its.toArray.size=ls.length:=by rw[List.size_toArray]; ac_rfl
  rw[e,met_uniq]at S
  exact S
 refine⟨.ref s.heap.objs.size,_,I.laid (t':=tk) (o:=setHO X s.heap.objs.size (uniqT ls)) (fun b o e=>k b o (Heap.lt_size e) e) (Nat.le_refl _) ?_,rfl,q _ I.fresh⟩
 obtain⟨es,ep,t,ss,e,_⟩:=S'.ex
 exact⟨S',⟨_,e⟩,fun h1 h2 q1 q2=>q1.at q2⟩
end
end L2
namespace L2
open PySem PySem.Spec PyProof.Rows
structure Cal(P:Program)(w:World)(K:PySem.W.Frag)(mg:Str→Option Value)(base:Heap)(x:Str)(k:Nat)(ps:List Str)(sp:Sp):Prop where
 ex:∃ f fd,mg x=some (.ref f)∧FnOk P w K mg base CX0 k f fd ps sp∧Binds K fd ps []∧PySem.W.keepIn K (.ref f)=true
theorem Cal.mono{P:Program}{w:World}{K:PySem.W.Frag}{mg:Str→Option Value}{base:Heap}{x:Str}{j k:Nat}{ps:List Str}{sp:Sp}(c:Cal P w K mg base x j ps sp)(h:j≤k):Cal P w K mg base x k ps sp:=by
 obtain⟨f,fd,h1,h2,h3,h4⟩:=c.ex
 exact⟨f,fd,h1,h2.mono h,h3,h4⟩
structure Def(K:PySem.W.Frag)(mg:Str→Option Value)(x:Str)(st:Stmt):Prop where
 ex:∃ f fd,mg x=some (.ref f)∧Fun K x x st f fd
def Near(t:Addr)(H H':Hp):Prop:=∀ b o,H b=some o→b≠t→H' b=some o
theorem Near.trans{t:Addr}{H H1 H2:Hp}(a:Near t H H1)(b:Near t H1 H2):Near t H H2:=fun c o h hc=>b c o (a c o h hc) hc
theorem Near.free{t:Addr}{H H':Hp}(e:Near t H H'){l:Addr}(h:H' l=none)(hl:l≠t):H l=none:=by
 cases q:H l with
 | none=>rfl
 | some o=>rw[e l o q hl]at h; cases h
theorem Near.seq{K:PySem.W.Frag}{t a:Addr}{H H':Hp}{xs:List V}(e:Near t H H')(ha:a≠t)(h:SqL K H a xs):SqL K H' a xs:=by
 rcases h with(h | ⟨o,h⟩) | h
 ·exact .inl (.inl (e _ _ h ha))
 ·exact .inl (.inr ⟨o,e _ _ h ha⟩)
 ·exact .inr h
theorem Near.tup{K:PySem.W.Frag}{t a:Addr}{H H':Hp}{xs:List V}(e:Near t H H')(ha:a≠t)(h:SqT K H a xs):SqT K H' a xs:=by
 rcases h with(h | ⟨o,h⟩) | h
 ·exact .inl (.inl (e _ _ h ha))
 ·exact .inl (.inr ⟨o,e _ _ h ha⟩)
 ·exact .inr h
def Town(H:Hp)(t:Addr)(n:Nat):Prop:=∃ xs,H t=some (.lst xs)∧xs.length≤n
theorem Town.mono{H:Hp}{t:Addr}{m n:Nat}(h:Town H t m)(hn:m≤n):Town H t n:=let ⟨xs,a,b⟩:=h; ⟨xs,a,Nat.le_trans b hn⟩
theorem Town.upd{H:Hp}{t p:Addr}{n:Nat}{o:HO}(h:Town H t n)(hp:H p=none):Town (upd H p o) t n:=by
 obtain⟨xs,a,b⟩:=h
 exact⟨xs,by rw[upd_ne (ne_of_none a hp)]; exact a,b⟩
theorem same_upd{H:Hp}{p:Addr}{o:HO}(h:H p=none):Same H (upd H p o):=fun b u q=>by rw[upd_ne (ne_of_none q h)]; exact q
theorem atI_int{α:Type}{xs:List α}{k:Int}(h0:0≤k)(h:k.toNat<xs.length):atI xs k=some xs[k.toNat]:=by
 have e:((k.toNat:Nat):Int)=k:=by ac_rfl
 have q:=atI_nat (xs:=xs) (j:=k.toNat) (v:=xs[k.toNat]) (by simp[h])
 rwa[e]at q
end L2
namespace L2
open PySem PySem.Spec PyProof.Rows
def blkChk(N:List Str)(sc scope:Scope)(x:Str)(N':List Str)(cap:List Nat):Bool :=
 decide (scope.kind = .function) && scope.names.all (fun y=>(decide (y.2≠.cell) || decide (scope.names.lookup y.1=some .cell)) && (decide (y.2≠.local) || decide (scope.names.lookup y.1=some .local)) && (decide (y.2≠.free) || decide (sc.names.lookup y.1=some .cell) || decide (sc.names.lookup y.1=some .free)))
 && (decide (scope.names.lookup x=some .local) || decide (scope.names.lookup x=some .cell)) && decide N'.Nodup && decide (N'.head?=some x) && decide (N'.length=cap.length+1) && (cap.zip N'.tail).all fun p=>decide (N[p.1]?=some p.2) && decide (scope.names.lookup p.2=some .free)
theorem BlkOk.of{X:Cx}{scope:Scope}{x:Str}{N':List Str}{cap:List Nat}(N:List Str)(sc:Scope)(hN:X.N=N)(hsc:X.env.scope=sc)(h:blkChk N sc scope x N' cap=true):BlkOk X scope x N' cap:=by
 subst hN hsc
 simp only[blkChk,Bool.and_eq_true,decide_eq_true_eq,List.all_eq_true,Bool.or_eq_true]at h
 obtain⟨⟨⟨⟨⟨⟨h1,h2⟩,h3⟩,h4⟩,h5⟩,h6⟩,h7⟩:=h
 refine⟨h1,fun y hy e=>(h2 y hy).1.1.elim (fun z=>absurd e z) fun z=>z,fun y hy e=>?_,h3,fun y hy e=>?_,h4,h5,h6,fun i j y e1 e2=>?_⟩
 ·rcases(h2 y hy).1.2 with z | z
  ·exact absurd e z
  ·exact z
 ·rcases(h2 y hy).2 with(z | z) | z
  ·exact absurd e z
  ·exact .inl z
  ·exact .inr z
 ·have hm:(j,y)∈cap.zip N'.tail:=by
   refine List.mem_iff_getElem?.mpr ⟨i,?_⟩
   rw[List.getElem?_zip_eq_some]
   refine⟨e2,?_⟩
   rw[← List.drop_one,List.getElem?_drop,Nat.add_comm]
   exact e1
  exact h7 _ hm
end L2
namespace Pu
open PySem PySem.Spec PyProof.Rows L2
noncomputable abbrev St:=L2.St
inductive PV where
 | non | bl (b:Bool) | int (i:Int) | str (x:Tx) | tup (xs:List PV) | lst (xs:List PV) | raw (v:V) | exc (c:Value)
def excO(a:Addr)(c:Value):HO:=.ext fun h=>∃ o vs,h.get? a=some o∧o.cls=c∧o.data = .fields vs∧o.dict=none
def maxS:Nat:=1000000
theorem maxS_le:maxS≤sizeLine:=by rw[sizeLine_eq]; decide
def notImm:HO→Prop
 | .lst _=>True
 | .dK _=>True
 | .dT _=>True
 | .ins _ _ _=>True
 | .own _=>True
 | _=>False
mutual
def Rep(K:PySem.W.Frag)(H:Hp)(F:Addr→Prop):PV→V→Prop
 | .non,v=>v = .non
 | .bl b,v=>v = .bl b
 | .int i,v=>v = .int i
 | .str x,v=>v=tV x∧x.length≤maxS
 | .tup xs,v=>∃ a vs,v = .ref a∧H a=some (.tup vs)∧Reps K H F xs vs
 | .lst xs,v=>∃ a vs,v = .ref a∧Rd H a (.lst vs)∧F a∧Reps K H F xs vs
 | .raw u,v=>v=u
 | .exc c,v=>∃ a,v = .ref a∧H a=some (excO a c)
def Reps(K:PySem.W.Frag)(H:Hp)(F:Addr→Prop):List PV→List V→Prop
 | [],vs=>vs=[]
 | x::xs,vs=>∃ v r,vs=v::r∧Rep K H F x v∧Reps K H F xs r
end
section
variable{K:PySem.W.Frag}{H H':Hp}{F F':Addr→Prop}
mutual
theorem Rep.mono(hF:∀ a,F a→F' a)(hL:∀ a xs,F a→Rd H a (.lst xs)→Rd H' a (.lst xs))(hT:∀ a o,H a=some o→¬ notImm o→H' a=some o):∀ (x:PV) (v:V),Rep K H F x v→Rep K H' F' x v
 | .non,_,h=>h
 | .bl _,_,h=>h
 | .int _,_,h=>h
 | .str _,_,h=>h
 | .raw _,_,h=>h
 | .exc _,_,⟨a,e,h⟩=>⟨a,e,hT a _ h id⟩
 | .tup xs,_,⟨a,vs,e,h1,h2⟩=>⟨a,vs,e,hT a _ h1 id,Reps.mono hF hL hT xs vs h2⟩
 | .lst xs,_,⟨a,vs,e,h1,h0,h2⟩=>⟨a,vs,e,hL a vs h0 h1,hF a h0,Reps.mono hF hL hT xs vs h2⟩
theorem Reps.mono(hF:∀ a,F a→F' a)(hL:∀ a xs,F a→Rd H a (.lst xs)→Rd H' a (.lst xs))(hT:∀ a o,H a=some o→¬ notImm o→H' a=some o):∀ (xs:List PV) (vs:List V),Reps K H F xs vs→Reps K H' F' xs vs
 | [],_,h=>h
 | x::xs,_,⟨v,r,e,h1,h2⟩=>⟨v,r,e,Rep.mono hF hL hT x v h1,Reps.mono hF hL hT xs r h2⟩
end
theorem Reps.len:∀ {xs:List PV} {vs:List V},Reps K H F xs vs→vs.length=xs.length
 | [],_,h=>by rw[show _=[] from h]; rfl
 | _::_,_,⟨_,_,e,_,h2⟩=>by rw[e,List.length_cons,List.length_cons,Reps.len h2]
theorem Reps.get:∀ {xs:List PV} {vs:List V} {i:Nat} {x:PV},Reps K H F xs vs→xs[i]?=some x→∃ v,vs[i]?=some v∧Rep K H F x v
 | [],_,_,_,_,e=>by simp at e
 | x::xs,_,0,y,⟨v,r,e,h1,_⟩,q=>by simp at q; subst q; subst e; exact⟨v,rfl,h1⟩
 | x::xs,_,i+1,y,⟨v,r,e,_,h2⟩,q=>by
  obtain⟨w,a,b⟩:=Reps.get (i:=i) (x:=y) h2 (by simpa using q)
  subst e
  exact⟨w,by simpa using a,b⟩
theorem Reps.back:∀ {xs:List PV} {vs:List V} {i:Nat} {v:V},Reps K H F xs vs→vs[i]?=some v→∃ x,xs[i]?=some x∧Rep K H F x v
 | [],_,_,_,h,e=>by rw[show _=[] from h]at e; simp at e
 | x::xs,_,0,y,⟨v,r,e,h1,_⟩,q=>by subst e; simp at q; subst q; exact⟨x,rfl,h1⟩
 | x::xs,_,i+1,y,⟨v,r,e,_,h2⟩,q=>by
  subst e
  obtain⟨w,a,b⟩:=Reps.back (i:=i) (v:=y) h2 (by simpa using q)
  exact⟨w,by simpa using a,b⟩
theorem Reps.app:∀ {xs ys:List PV} {vs ws:List V},Reps K H F xs vs→Reps K H F ys ws→Reps K H F (xs++ys) (vs++ws)
 | [],_,_,_,h,g=>by rw[show _=[] from h]; exact g
 | x::xs,_,_,_,⟨v,r,e,h1,h2⟩,g=>by subst e; exact⟨v,_,rfl,h1,Reps.app h2 g⟩
theorem Reps.one{x:PV}{v:V}(h:Rep K H F x v):Reps K H F [x] [v]:=⟨v,[],rfl,h,rfl⟩
theorem Reps.drop:∀ (n:Nat) {xs:List PV} {vs:List V},Reps K H F xs vs→Reps K H F (xs.drop n) (vs.drop n)
 | 0,_,_,h=>h
 | _+1,[],_,h=>by rw[show _=[] from h]; rfl
 | n+1,_::_,_,⟨_,_,e,_,h2⟩=>by subst e; exact Reps.drop n h2
theorem Reps.take:∀ (n:Nat) {xs:List PV} {vs:List V},Reps K H F xs vs→Reps K H F (xs.take n) (vs.take n)
 | 0,_,_,_=>by rw[List.take_zero,List.take_zero]; rfl
 | _+1,[],_,h=>by rw[show _=[] from h]; rfl
 | n+1,_::_,_,⟨v,_,e,h1,h2⟩=>by subst e; exact⟨v,_,rfl,h1,Reps.take n h2⟩
theorem Reps.set{x:PV}{v:V}(hx:Rep K H F x v):∀ (n:Nat) {xs:List PV} {vs:List V},Reps K H F xs vs→Reps K H F (xs.set n x) (vs.set n v)
 | _,[],_,h=>by rw[show _=[] from h]; rfl
 | 0,_::_,_,⟨_,r,e,_,h2⟩=>by subst e; exact⟨v,r,rfl,hx,h2⟩
 | n+1,_::_,_,⟨w,_,e,h1,h2⟩=>by subst e; exact⟨w,_,rfl,h1,Reps.set hx n h2⟩
theorem Reps.cons{x:PV}{v:V}{xs:List PV}{vs:List V}(h:Rep K H F x v)(g:Reps K H F xs vs):Reps K H F (x::xs) (v::vs):=⟨v,vs,rfl,h,g⟩
end
structure Grow(O O' F F':Addr→Prop)(H H':Hp):Prop where
 fro:∀ a,F a→F' a
 keep:∀ b o,H b=some o→¬ O b→H' b=some o
 there:∀ b o,H b=some o→∃ o',H' b=some o'
 fnew:∀ a,F' a→F a∨H a=none∨O a
 onew:∀ a,O' a→O a∨H a=none
theorem Grow.refl(O F:Addr→Prop)(H:Hp):Grow O O F F H H:=⟨fun _ h=>h,fun _ _ h _=>h,fun _ o h=>⟨o,h⟩,fun _ h=>.inl h,fun _ h=>.inl h⟩
theorem Grow.trans{O O1 O2 F F1 F2:Addr→Prop}{H H1 H2:Hp}(g:Grow O O1 F F1 H H1)(k:Grow O1 O2 F1 F2 H1 H2):Grow O O2 F F2 H H2 where
 fro:=fun a h=>k.fro a (g.fro a h)
 keep:=fun b o h n=>k.keep b o (g.keep b o h n) fun z=>(g.onew b z).elim n fun q=>by rw[q]at h; cases h
 there:=fun b o h=>let ⟨o',h'⟩:=g.there b o h; k.there b o' h'
 fnew:=fun a h=>by
  have back:H1 a=none→H a=none∨O a:=fun z=>by
   cases q:H a with
   | none=>exact .inl rfl
   | some o=>obtain⟨o',h'⟩:=g.there a o q; rw[z]at h'; cases h'
  rcases k.fnew a h with z | z | z
  ·exact g.fnew a z
  ·exact .inr (back z)
  ·exact .inr ((g.onew a z).symm)
 onew:=fun a h=>by
  rcases k.onew a h with z | z
  ·exact g.onew a z
  ·cases q:H a with
   | none=>exact .inr rfl
   | some o=>obtain⟨o',h'⟩:=g.there a o q; rw[z]at h'; cases h'
def Fit(O F:Addr→Prop)(H:Hp):Prop:=∀ b,O b→¬ F b∧∃ o,H b=some o∧notImm o
section
variable{K:PySem.W.Frag}{O O' F F':Addr→Prop}{H H':Hp}
theorem Grow.imm(g:Grow O O' F F' H H')(f:Fit O F H){a:Addr}{o:HO}(h:H a=some o)(n:¬ notImm o):H' a=some o :=
 g.keep _ _ h fun z=>by
  obtain⟨_,o',e',n'⟩:=f a z
  rw[h]at e'; cases e'; exact n n'
theorem Grow.lst(g:Grow O O' F F' H H')(f:Fit O F H){a:Addr}{xs:List V}(hF:F a)(h:Rd H a (.lst xs)):Rd H' a (.lst xs):=by
 have no:¬ O a:=fun z=>(f a z).1 hF
 rcases h with h | ⟨o,h⟩
 ·exact .inl (g.keep _ _ h no)
 ·exact .inr ⟨o,g.keep _ _ h no⟩
theorem Rep.grow(g:Grow O O' F F' H H')(f:Fit O F H){x:PV}{v:V}(h:Rep K H F x v):Rep K H' F' x v:=Rep.mono g.fro (fun _ _ hF q=>g.lst f hF q) (fun _ _ q n=>g.imm f q n) x v h
theorem Reps.grow(g:Grow O O' F F' H H')(f:Fit O F H){x:List PV}{v:List V}(h:Reps K H F x v):Reps K H' F' x v:=Reps.mono g.fro (fun _ _ hF q=>g.lst f hF q) (fun _ _ q n=>g.imm f q n) x v h
end
theorem _root_.L2.Same.rd{H H':Hp}{a:Addr}{u:HO}(e:Same H H')(h:Rd H a u):Rd H' a u:=h.elim (fun z=>.inl (e _ _ z)) fun⟨o,z⟩=>.inr ⟨o,e _ _ z⟩
structure Al(F F':Addr→Prop)(H H':Hp):Prop where
 fro:∀ a,F a→F' a
 same:Same H H'
 fnew:∀ a,F' a→F a∨(H a=none∧∃ o,H' a=some o)
theorem Al.refl(F:Addr→Prop)(H:Hp):Al F F H H:=⟨fun _ h=>h,Same.refl H,fun _ h=>.inl h⟩
theorem Al.grow{F F' O:Addr→Prop}{H H':Hp}(a:Al F F' H H'):Grow O O F F' H H' :=
 ⟨a.fro,fun b o h _=>a.same b o h,fun b o h=>⟨o,a.same b o h⟩,fun b h=>(a.fnew b h).imp id fun z=>.inl z.1,fun _ h=>.inl h⟩
theorem Al.rep{K:PySem.W.Frag}{F F':Addr→Prop}{H H':Hp}(a:Al F F' H H'){x:PV}{v:V}(h:Rep K H F x v):Rep K H' F' x v:=Rep.mono a.fro (fun _ _ _ q=>a.same.rd q) (fun _ _ q _=>a.same _ _ q) x v h
theorem Al.reps{K:PySem.W.Frag}{F F':Addr→Prop}{H H':Hp}(a:Al F F' H H'){x:List PV}{v:List V}(h:Reps K H F x v):Reps K H' F' x v:=Reps.mono a.fro (fun _ _ _ q=>a.same.rd q) (fun _ _ q _=>a.same _ _ q) x v h
theorem Al.trans{F F1 F2:Addr→Prop}{H H1 H2:Hp}(a:Al F F1 H H1)(b:Al F1 F2 H1 H2):Al F F2 H H2 :=
 ⟨fun c h=>b.fro c (a.fro c h),a.same.trans b.same,fun c h=>by
  rcases b.fnew c h with z | ⟨z,w⟩
  ·rcases a.fnew c z with y | ⟨y,o,q⟩
   ·exact .inl y
   ·exact .inr ⟨y,o,b.same _ _ q⟩
  ·exact .inr ⟨a.same.free z,w⟩⟩
theorem Al.new{F:Addr→Prop}{H:Hp}{l:Addr}{o:HO}(h:H l=none):Al F (fun a=>F a∨a=l) H (upd H l o) :=
 ⟨fun _ h=>.inl h,same_upd h,fun a z=>z.imp id fun e=>by subst e; exact⟨h,o,upd_same⟩⟩
theorem Al.new0{F:Addr→Prop}{H:Hp}{l:Addr}{o:HO}(h:H l=none):Al F F H (upd H l o):=⟨fun _ h=>h,same_upd h,fun a z=>.inl z⟩
inductive PO where
 | lst (xs:List PV) | dK (kvs:List (Key×PV)) | lls (xss:List (List PV)) | ins (C:Addr) (fs:List (Str×PV))
def flatO:PO→Bool
 | .lls _=>false
 | _=>true
inductive Slot where
 | none | val (v:PV) | own (o:PO)
noncomputable abbrev PEnv:=List Slot
def KReps(K:PySem.W.Frag)(H:Hp)(F:Addr→Prop)(kvs:List (Key×PV))(ws:List (Key×V)):Prop:=Paired (fun(p:Key×PV) (q:Key×V)=>p.1=q.1∧Rep K H F p.2 q.2) kvs ws
def FReps(K:PySem.W.Frag)(H:Hp)(F:Addr→Prop)(fs:List (Str×PV))(ws:List (Str×V)):Prop:=Paired (fun(p:Str×PV) (q:Str×V)=>p.1=q.1∧Rep K H F p.2 q.2) fs ws
def LReps(K:PySem.W.Frag)(H:Hp)(F:Addr→Prop)(xss:List (List PV))(as:List Addr):Prop:=Paired (fun(xs:List PV) (b:Addr)=>∃ vs,H b=some (.lst vs)∧Reps K H F xs vs) xss as
def Own(K:PySem.W.Frag)(H:Hp)(F:Addr→Prop)(po:PO)(a:Addr)(S:Addr→Prop):Prop :=
 match po with
 | .lst xs=>(∃ vs,H a=some (.lst vs)∧Reps K H F xs vs)∧∀ b,S b↔b=a
 | .dK kvs=>(∃ ws,H a=some (.dK ws)∧KReps K H F kvs ws)∧∀ b,S b↔b=a
 | .lls xss=>∃ as,H a=some (.lst (as.map .ref))∧LReps K H F xss as∧as.Nodup∧a∉as∧∀ b,S b↔b=a∨b∈as
 | .ins C fs=>(∃ dx ws,H a=some (.ins C dx ws)∧FReps K H F fs ws)∧∀ b,S b↔b=a
structure Rel(K:PySem.W.Frag)(F:Addr→Prop)(S:Nat→Addr→Prop)(ε:PEnv)(σ:St)(H:Hp):Prop where
 len:ε.length=σ.length
 ex:∀ a,F a→∃ o,H a=some o
 val:∀ (i:Nat) (pv:PV),ε[i]?=some (.val pv)→∃ v,σ[i]?=some (some v)∧Rep K H F pv v
 own:∀ (i:Nat) (po:PO),ε[i]?=some (.own po)→∃ a,σ[i]?=some (some (.ref a))∧Own K H F po a (S i)
 foot:∀ (i:Nat) (b:Addr),S i b→(∃ po,ε[i]?=some (.own po))∧¬ F b∧∃ o,H b=some o∧notImm o
 dist:∀ (i j:Nat) (b:Addr),S i b→S j b→i=j
def U(S:Nat→Addr→Prop)(b:Addr):Prop:=∃ i,S i b
section
variable{K:PySem.W.Frag}{F F':Addr→Prop}{S:Nat→Addr→Prop}{ε:PEnv}{σ:St}{H H':Hp}
theorem Rel.fit(r:Rel K F S ε σ H):Fit (U S) F H:=fun b ⟨i,h⟩=>(r.foot i b h).2
theorem KReps.mono{kvs:List (Key×PV)}{ws:List (Key×V)}(hF:∀ x v,Rep K H F x v→Rep K H' F' x v)(h:KReps K H F kvs ws):KReps K H' F' kvs ws:=by
 unfold KReps at h ⊢
 induction h with
 | nil=>exact .nil
 | cons r _ ih=>exact .cons ⟨r.1,hF _ _ r.2⟩ ih
theorem FReps.mono{fs:List (Str×PV)}{ws:List (Str×V)}(hF:∀ x v,Rep K H F x v→Rep K H' F' x v)(h:FReps K H F fs ws):FReps K H' F' fs ws:=by
 unfold FReps at h ⊢
 induction h with
 | nil=>exact .nil
 | cons r _ ih=>exact .cons ⟨r.1,hF _ _ r.2⟩ ih
theorem LReps.mono{xss:List (List PV)}{as:List Addr}(hFs:∀ x v,Reps K H F x v→Reps K H' F' x v)(ha:∀ b o,b∈as→H b=some o→H' b=some o)(h:LReps K H F xss as):LReps K H' F' xss as:=by
 unfold LReps at h ⊢
 induction h with
 | nil=>exact .nil
 | cons r _ ih =>
  obtain⟨vs,h1,h2⟩:=r
  exact .cons ⟨vs,ha _ _ (by simp) h1,hFs _ _ h2⟩ (ih fun b o hb=>ha b o (by simp[hb]))
theorem Own.mono{po:PO}{a:Addr}{Sa:Addr→Prop}(hF:∀ x v,Rep K H F x v→Rep K H' F' x v)(hFs:∀ x v,Reps K H F x v→Reps K H' F' x v)(ha:∀ b o,Sa b→H b=some o→H' b=some o)(h:Own K H F po a Sa):Own K H' F' po a Sa:=by
 cases po with
 | lst xs=>obtain⟨⟨vs,e,q⟩,w⟩:=h; exact⟨⟨vs,ha a _ ((w a).mpr rfl) e,hFs _ _ q⟩,w⟩
 | dK kvs=>obtain⟨⟨ws,e,q⟩,w⟩:=h; exact⟨⟨ws,ha a _ ((w a).mpr rfl) e,q.mono hF⟩,w⟩
 | lls xss=>obtain⟨as,e,q,n1,n2,w⟩:=h; exact⟨as,ha a _ ((w a).mpr (.inl rfl)) e,q.mono hFs fun b o hb=>ha b o ((w b).mpr (.inr hb)),n1,n2,w⟩
 | ins C fs=>obtain⟨⟨dx,ws,e,q⟩,w⟩:=h; exact⟨⟨dx,ws,ha a _ ((w a).mpr rfl) e,q.mono hF⟩,w⟩
theorem Rel.al(r:Rel K F S ε σ H)(a:Al F F' H H'):Rel K F' S ε σ H' where
 len:=r.len
 ex:=fun b h=>(a.fnew b h).elim (fun z=>let ⟨o,q⟩:=r.ex b z; ⟨o,a.same _ _ q⟩) fun z=>z.2
 val:=fun i pv e=>let ⟨v,h1,h2⟩:=r.val i pv e; ⟨v,h1,a.rep h2⟩
 own:=fun i po e=>let ⟨b,h1,h2⟩:=r.own i po e; ⟨b,h1,h2.mono (fun _ _ q=>a.rep q) (fun _ _ q=>a.reps q) fun c o _ q=>a.same _ _ q⟩
 foot:=fun i b h=>by
  obtain⟨h1,h2,o,h3,h4⟩:=r.foot i b h
  refine⟨h1,fun z=>?_,o,a.same _ _ h3,h4⟩
  rcases a.fnew b z with y | ⟨y,_⟩
  ·exact h2 y
  ·rw[h3]at y; cases y
 dist:=r.dist
end
inductive R(α:Type) where
 | ok (a:α) (ε:PEnv) | er (c:Value) (ε:PEnv) | no
def R.bind{α β:Type}(r:R α)(k:α→PEnv→R β):R β:=match r with
 | .ok a ε=>k a ε
 | .er c ε=>.er c ε
 | .no=>.no
def lift{α:Type}(o:Option α)(ε:PEnv):R α:=match o with
 | some a=>.ok a ε
 | none=>.no
@[simp] theorem R.bind_ok{α β:Type}(a:α)(ε:PEnv)(k:α→PEnv→R β):(R.ok a ε).bind k=k a ε:=rfl
@[simp] theorem R.bind_er{α β:Type}(c:Value)(ε:PEnv)(k:α→PEnv→R β):(R.er c ε:R α).bind k = .er c ε:=rfl
@[simp] theorem R.bind_no{α β:Type}(k:α→PEnv→R β):(R.no:R α).bind k = .no:=rfl
@[simp] theorem lift_some{α:Type}(a:α)(ε:PEnv):lift (some a) ε = .ok a ε:=rfl
@[simp] theorem lift_none{α:Type}(ε:PEnv):lift (none:Option α) ε = .no:=rfl
def Ok(K:PySem.W.Frag)(E:XK)(σ:St)(F:Addr→Prop)(S:Nat→Addr→Prop)(H:Hp){α:Type}(r:R α)(C:α→PEnv→(Addr→Prop)→(Nat→Addr→Prop)→Hp→Prop):Prop:=match r with
 | .ok a ε'=>∀ F' S' H',Rel K F' S' ε' σ H'→Grow (U S) (U S') F F' H H'→C a ε' F' S' H'
 | .er c ε'=>∀ x F' S' H',Rel K F' S' ε' σ H'→Grow (U S) (U S') F F' H H'→E c x H'
 | .no=>False
section
variable{K:PySem.W.Frag}{E:XK}{σ:St}{F:Addr→Prop}{S:Nat→Addr→Prop}{H:Hp}{α β:Type}{C C':α→PEnv→(Addr→Prop)→(Nat→Addr→Prop)→Hp→Prop}{D:β→PEnv→(Addr→Prop)→(Nat→Addr→Prop)→Hp→Prop}
theorem Ok.imp{r:R α}(h:Ok K E σ F S H r C)(f:∀ a ε' F' S' H',Rel K F' S' ε' σ H'→Grow (U S) (U S') F F' H H'→C a ε' F' S' H'→C' a ε' F' S' H'):Ok K E σ F S H r C':=by
 cases r with
 | ok a ε'=>exact fun F' S' H' r g=>f a ε' F' S' H' r g (h F' S' H' r g)
 | er c ε'=>exact h
 | no=>exact h
theorem Ok.from{r:R β}{F1:Addr→Prop}{S1:Nat→Addr→Prop}{H1:Hp}(h:Ok K E σ F S H r D)(g:Grow (U S) (U S1) F F1 H H1):Ok K E σ F1 S1 H1 r D:=by
 cases r with
 | ok a ε'=>exact fun F' S' H' r' g'=>h F' S' H' r' (g.trans g')
 | er c ε'=>exact fun x F' S' H' r' g'=>h x F' S' H' r' (g.trans g')
 | no=>exact h
theorem Ok.bind{r:R α}{k:α→PEnv→R β}(h:Ok K E σ F S H (r.bind k) D):Ok K E σ F S H r (fun a ε1 F1 S1 H1=>Ok K E σ F1 S1 H1 (k a ε1) D):=by
 cases r with
 | ok a ε'=>exact fun F' S' H' r g=>Ok.from h g
 | er c ε'=>exact h
 | no=>exact h
end
structure Bx(p:Prop):Prop where
 run:p
def wpE(X:Cx)(e:Expr):TE:=fun σ H Q=>Bx (∀ pins s,Inv X pins σ H s→wpAny (model X.prog X.w) X.A (eval e X.env) (EP X pins σ Q) X.xe s)
def wpT(X:Cx)(e:Expr):TT:=fun σ H Q=>Bx (∀ pins s,Inv X pins σ H s→wpAny (model X.prog X.w) X.A (isTrue e X.env (eval e X.env)) (TP X pins σ Q) X.xe s)
def wpS(X:Cx)(st:Stmt):TS:=fun D σ H=>Bx (∀ pins s,Inv X pins σ H s→wpAny (model X.prog X.w) X.A (exec st X.env) (SP X pins D) X.xe s)
def wpSs(X:Cx)(st:List Stmt):TS:=fun D σ H=>Bx (∀ pins s,Inv X pins σ H s→wpAny (model X.prog X.w) X.A (execs st X.env) (SP X pins D) X.xe s)
section
variable{X:Cx}{e:Expr}{st:Stmt}{sts:List Stmt}
theorem pe_wp:PE X e (wpE X e):=fun pins s _ _ _ I h=>h.run pins s I
theorem pt_wp:PT X e (wpT X e):=fun pins s _ _ _ I h=>h.run pins s I
theorem ps_wp:PS X st (wpS X st):=fun pins s _ _ _ I h=>h.run pins s I
theorem pss_wp:PSs X sts (wpSs X sts):=fun pins s _ _ _ I h=>h.run pins s I
theorem wp_e{t:TE}(h:PE X e t){σ:St}{H:Hp}{Q:VK}(q:t σ H Q):wpE X e σ H Q:=⟨fun pins s I=>h pins s σ H Q I q⟩
theorem wp_t{t:TT}(h:PT X e t){σ:St}{H:Hp}{Q:Bool→Hp→Prop}(q:t σ H Q):wpT X e σ H Q:=⟨fun pins s I=>h pins s σ H Q I q⟩
theorem wp_s{t:TS}(h:PS X st t){σ:St}{H:Hp}{D:Ends}(q:t D σ H):wpS X st D σ H:=⟨fun pins s I=>h pins s σ H D I q⟩
theorem wp_ss{t:TS}(h:PSs X sts t){σ:St}{H:Hp}{D:Ends}(q:t D σ H):wpSs X sts D σ H:=⟨fun pins s I=>h pins s σ H D I q⟩
end
def DE(X:Cx)(E:XK)(e:Expr)(d:PEnv→R PV):Prop :=
 ∀ F S ε σ H Q,Rel X.K F S ε σ H→Ok X.K E σ F S H (d ε) (fun pv _ F' _ H'=>∀ v,Rep X.K H' F' pv v→Q v H')→wpE X e σ H Q
def DN(X:Cx)(E:XK)(e:Expr)(d:PEnv→R PO):Prop :=
 ∀ F S ε σ H Q,Rel X.K F S ε σ H→Ok X.K E σ F S H (d ε) (fun po _ F' S' H'=>∀ a Sa,Own X.K H' F' po a Sa→(∀ b,Sa b→H b=none∧¬ F' b∧¬ U S' b∧∃ o,H' b=some o∧notImm o)→Q (.ref a) H')→wpE X e σ H Q
def DT(X:Cx)(E:XK)(e:Expr)(d:PEnv→R Bool):Prop :=
 ∀ F S ε σ H Q,Rel X.K F S ε σ H→Ok X.K E σ F S H (d ε) (fun b _ _ _ H'=>Q b H')→wpT X e σ H Q
end Pu
namespace Pu
open PySem PySem.Spec PyProof.Rows L2
section
variable{X:Cx}{E:XK}{a b c:Expr}{da db dc:PEnv→R PV}{pos:Pos}
def dC(pv:PV):PEnv→R PV:=fun ε=>.ok pv ε
theorem de_int{i j pos}:DE X E (.Constant (.int i) j pos) (dC (.int i)):=fun F S ε σ H Q r h=>wp_e pe_int (h F S H r (Grow.refl ..) _ rfl)
theorem de_bl{i j pos}:DE X E (.Constant (.bool i) j pos) (dC (.bl i)):=fun F S ε σ H Q r h=>wp_e pe_bl (h F S H r (Grow.refl ..) _ rfl)
theorem de_str(l:Tx){x:Str}{j pos}(hx:x=tS l:=by decide +kernel)(hl:l.length≤maxS:=by decide):DE X E (.Constant (.str x) j pos) (dC (.str l)):=fun F S ε σ H Q r h =>
 wp_e pe_str (h F S H r (Grow.refl ..) _ (by rw[hx]; exact⟨rfl,hl⟩))
def dV(i:Nat):PEnv→R PV:=fun ε=>match ε[i]? with
 | some (.val pv)=>.ok pv ε
 | _=>.no
theorem de_var(i:Nat){x:Str}{pos:Pos}(hN:X.N[i]?=some x:=by rfl)(hv:Vis X.env.scope x:=by first | exact Or.inl rfl | exact Or.inr (Or.inl rfl) | exact Or.inr (Or.inr rfl))(hd:(x == ("__debug__" : Str))=false:=by decide)
  (hcd:(x == ("__classdict__" : Str))=false:=by decide):DE X E (.Name x pos) (dV i):=fun F S ε σ H Q r h=>by
 unfold dV at h
 split at h
 ·rename_i p e
  obtain⟨v,e1,e2⟩:=r.val i p e
  exact wp_e (pe_var hN hv hd hcd) ⟨v,e1,h F S H r (Grow.refl ..) v e2⟩
 ·exact h.elim
theorem de_gint{x:Str}{i:Int}{pos:Pos}(h:∃ t,X.mg x=some (.int i t))(hg:Gl X x:=by rfl)(hd:(x == ("__debug__" : Str))=false:=by decide):DE X E (.Name x pos) (dC (.int i)):=fun F S ε σ H Q r q=>by
 obtain⟨t,e⟩:=h
 exact wp_e (pe_glob (v:=.int i) hg e ⟨t,rfl⟩ hd) (q F S H r (Grow.refl ..) _ rfl)
theorem de_gstr{x:Str}{l:Tx}{pos:Pos}(h:∃ t,X.mg x=some (.str (tS l) t))(hg:Gl X x:=by rfl)(hl:l.length≤maxS:=by decide)(hd:(x == ("__debug__" : Str))=false:=by decide):DE X E (.Name x pos) (dC (.str l)):=fun F S ε σ H Q r q=>by
 obtain⟨t,e⟩:=h
 exact wp_e (pe_glob (v:=tV l) hg e ⟨t,rfl⟩ hd) (q F S H r (Grow.refl ..) _ ⟨rfl,hl⟩)
def Rel.frz{K:PySem.W.Frag}{F:Addr→Prop}{S:Nat→Addr→Prop}{ε:PEnv}{σ:St}{H:Hp}{i:Nat}{xs:List PV}(r:Rel K F S ε σ H)(e:ε[i]?=some (.own (.lst xs))) :
  ∃ a F' S',Rel K F' S' (ε.set i (.val (.lst xs))) σ H∧Grow (U S) (U S') F F' H H∧σ[i]?=some (some (.ref a))∧Rep K H F' (.lst xs) (.ref a):=by
 obtain⟨a,e1,⟨vs,ha,hr⟩,hS⟩:=r.own i _ e
 have hi:i<ε.length:=(List.getElem?_eq_some_iff.mp e).1
 have sub:∀ b,F b→F b∨b=a:=fun b h=>.inl h
 have mono:∀ x v,Rep K H F x v→Rep K H (fun b=>F b∨b=a) x v:=Rep.mono sub (fun _ _ _ q=>q) (fun _ _ q _=>q)
 have monos:∀ x v,Reps K H F x v→Reps K H (fun b=>F b∨b=a) x v:=Reps.mono sub (fun _ _ _ q=>q) (fun _ _ q _=>q)
 have rp:Rep K H (fun b=>F b∨b=a) (.lst xs) (.ref a):=⟨a,vs,rfl,.inl ha,.inr rfl,monos _ _ hr⟩
 refine⟨a,fun b=>F b∨b=a,fun j b=>S j b∧j≠i,⟨by rw[List.length_set]; exact r.len,fun b h=>?_,fun j pv q=>?_,fun j po q=>?_,fun j b h=>?_,fun j k b h1 h2=>r.dist j k b h1.1 h2.1⟩,?_,e1,rp⟩
 ·rcases h with h | rfl
  ·exact r.ex b h
  ·exact⟨_,ha⟩
 ·by_cases hj:i=j
  ·subst hj
   rw[List.getElem?_set_self hi]at q
   cases q
   exact⟨_,e1,rp⟩
  ·rw[List.getElem?_set_ne hj]at q
   obtain⟨v,q1,q2⟩:=r.val j pv q
   exact⟨v,q1,mono _ _ q2⟩
 ·by_cases hj:i=j
  ·subst hj
   rw[List.getElem?_set_self hi]at q
   cases q
  ·rw[List.getElem?_set_ne hj]at q
   obtain⟨v,q1,q2⟩:=r.own j po q
   refine⟨v,q1,?_⟩
   have q3:=q2.mono (H':=H) mono monos fun _ _ _ z=>z
   have eS:(fun b=>S j b∧j≠i)=S j:=by funext b; simp[Ne.symm hj]
   rw[eS]; exact q3
 ·obtain⟨⟨po,q1⟩,q2,q3⟩:=r.foot j b h.1
  refine⟨⟨po,by rw[List.getElem?_set_ne (Ne.symm h.2)]; exact q1⟩,fun z=>?_,q3⟩
  rcases z with z | rfl
  ·exact q2 z
  ·exact h.2 (r.dist j i b h.1 ((hS b).mpr rfl))
 ·refine⟨fun _ h=>.inl h,fun b o h _=>h,fun b o h=>⟨o,h⟩,fun b h=>?_,fun b ⟨j,h⟩=>.inl ⟨j,h.1⟩⟩
  rcases h with h | rfl
  ·exact .inl h
  ·exact .inr (.inr ⟨i,(hS b).mpr rfl⟩)
def P2(K:PySem.W.Frag)(r:R2)(f:PV→PV→Option PV):Prop:=∀ (F:Addr→Prop) (H:Hp) (x y:PV) (v u:V) (Q:VK) (pv:PV),Rep K H F x v→Rep K H F y u→f x y=some pv→(∀ w F' H',Al F F' H H'→Rep K H' F' pv w→Q w H')→r v u H Q
def d2(f:PV→PV→Option PV)(da db:PEnv→R PV):PEnv→R PV:=fun ε=>(da ε).bind fun x ε1=>(db ε1).bind fun y ε2=>lift (f x y) ε2
theorem d2_run{r:R2}{f:PV→PV→Option PV}(hp:P2 X.K r f)(ha:DE X E a da)(hb:DE X E b db){F:Addr→Prop}{S:Nat→Addr→Prop}{ε:PEnv}{σ:St}{H:Hp}{Q:VK}(rl:Rel X.K F S ε σ H)
  (h:Ok X.K E σ F S H (d2 f da db ε) (fun pv _ F' _ H'=>∀ v,Rep X.K H' F' pv v→Q v H')):wpE X a σ H fun x H1=>wpE X b σ H1 fun y H2=>r x y H2 Q:=by
 refine ha F S ε σ H _ rl ((Ok.bind h).imp fun x ε1 F1 S1 H1 r1 g1 h1 v rv=>?_)
 refine hb F1 S1 ε1 σ H1 _ r1 ((Ok.bind h1).imp fun y ε2 F2 S2 H2 r2 g2 h2 u ru=>?_)
 cases e:f x y with
 | none=>rw[e]at h2; exact h2.elim
 | some pv =>
  rw[e]at h2
  exact hp F2 H2 x y v u Q pv (rv.grow g2 r1.fit) ru e fun w F' H' al rw'=>h2 F' S2 H' (r2.al al) al.grow w rw'
theorem de_op{op:Operator}{r:R2}{f:PV→PV→Option PV}(ho:OpR X (binaryOp op) r)(hp:P2 X.K r f)(ha:DE X E a da)(hb:DE X E b db):DE X E (.BinOp a op b pos) (d2 f da db):=fun F S ε σ H Q rl h =>
 wp_e (pe_op ho pe_wp pe_wp) (d2_run hp ha hb rl h)
theorem de_cmp{op:CmpOp}{r:R2}{f:PV→PV→Option PV}(ho:OpR X (compareOp op) r)(hp:P2 X.K r f)(ha:DE X E a da)(hb:DE X E b db)(hm:behindInMarks op b=false):DE X E (.Compare a [op] [b] pos) (d2 f da db):=fun F S ε σ H Q rl h =>
 wp_e (pe_cmpR ho pe_wp pe_wp hm) (d2_run hp ha hb rl h)
def isB:PV→Option Bool
 | .bl b=>some b
 | _=>none
def dB(d:PEnv→R PV):PEnv→R Bool:=fun ε=>(d ε).bind fun x ε1=>lift (isB x) ε1
theorem isB_rep{K:PySem.W.Frag}{H:Hp}{F:Addr→Prop}{x:PV}{v:V}{k:Bool}(h:Rep K H F x v)(e:isB x=some k):v = .bl k:=by
 cases x <;> simp[isB]at e
 subst e; exact h
theorem dB_ok{F:Addr→Prop}{S:Nat→Addr→Prop}{ε:PEnv}{σ:St}{H:Hp}{Q:Bool→Hp→Prop}{d:PEnv→R PV}(h:Ok X.K E σ F S H (dB d ε) (fun k _ _ _ H'=>Q k H')) :
  Ok X.K E σ F S H (d ε) (fun pv _ F' _ H'=>∀ v,Rep X.K H' F' pv v→∃ k,v = .bl k∧Q k H'):=by
 refine(Ok.bind h).imp fun x ε1 F1 S1 H1 r1 g1 h1 v rv=>?_
 cases e:isB x with
 | none=>rw[e]at h1; exact h1.elim
 | some k=>rw[e]at h1; exact⟨k,isB_rep rv e,h1 F1 S1 H1 r1 (Grow.refl ..)⟩
theorem dt_cmp{op:CmpOp}{r:R2}{f:PV→PV→Option PV}(ho:OpR X (compareOp op) r)(hp:P2 X.K r f)(ha:DE X E a da)(hb:DE X E b db)(hm:behindInMarks op b=false):DT X E (.Compare a [op] [b] pos) (dB (d2 f da db)):=fun F S ε σ H Q rl h =>
 wp_t (pt_cmpR ho pe_wp pe_wp hm) (d2_run (Q:=fun x H'=>∃ k,x = .bl k∧Q k H') hp ha hb rl (dB_ok h))
theorem dt_val{e:Expr}{d:PEnv→R PV}(hd:DE X E e d)(he:∀ whole,isTrue e X.env whole=(do let v ← whole; standAt e.pos; holding [v] (truthy v)):=by intro _; rfl):DT X E e (dB d):=fun F S ε σ H Q rl h =>
 wp_t (pt_val pe_wp he) (hd F S ε σ H _ rl (dB_ok h))
def dChain(f g:PV→PV→Option PV)(da db dc:PEnv→R PV):PEnv→R PV:=fun ε=>(da ε).bind fun x ε1=>(db ε1).bind fun y ε2=>(lift ((f x y).bind isB) ε2).bind fun k ε2 =>
 match k with
 | true=>(dc ε2).bind fun z ε3=>lift (g y z) ε3
 | false=>.ok (.bl false) ε2
theorem dChain_run{r r':R2}{f g:PV→PV→Option PV}(hp:P2 X.K r f)(hp':P2 X.K r' g)(ha:DE X E a da)(hb:DE X E b db)(hc:DE X E c dc){F:Addr→Prop}{S:Nat→Addr→Prop}{ε:PEnv}{σ:St}{H:Hp}{Q:VK}(rl:Rel X.K F S ε σ H)
  (h:Ok X.K E σ F S H (dChain f g da db dc ε) (fun pv _ F' _ H'=>∀ v,Rep X.K H' F' pv v→Q v H')):tChain r r' (wpE X a) (wpE X b) (wpE X c) σ H Q:=by
 refine ha F S ε σ H _ rl ((Ok.bind h).imp fun x ε1 F1 S1 H1 r1 g1 h1 v rv=>?_)
 refine hb F1 S1 ε1 σ H1 _ r1 ((Ok.bind h1).imp fun y ε2 F2 S2 H2 r2 g2 h2 u ru=>?_)
 cases e:f x y with
 | none=>rw[e]at h2; exact h2.elim
 | some pv =>
  rw[e]at h2
  refine hp F2 H2 x y v u _ pv (rv.grow g2 r1.fit) ru e fun w F' H' al rw'=>?_
  cases e2:isB pv with
  | none=>rw[Option.bind_some,e2]at h2; exact h2.elim
  | some k =>
   rw[Option.bind_some,e2]at h2
   refine⟨k,isB_rep rw' e2,?_⟩
   have r3:=r2.al al
   cases k with
   | false=>exact iteF (Ok.from h2 al.grow F' S2 H' r3 (Grow.refl ..) _ rfl)
   | true =>
    have h3:Ok X.K E σ F2 S2 H2 ((dc ε2).bind fun z ε3=>lift (g y z) ε3) (fun pv _ F' _ H'=>∀ v,Rep X.K H' F' pv v→Q v H'):=h2
    refine iteT (hc F' S2 ε2 σ H' _ r3 ((Ok.bind (Ok.from h3 al.grow)).imp fun z ε4 F4 S4 H4 r4 g4 h4 u4 ru4=>?_))
    cases e4:g y z with
    | none=>rw[e4]at h4; exact h4.elim
    | some pz =>
     rw[e4]at h4
     exact hp' F4 H4 y z u u4 Q pz ((al.rep ru).grow g4 r3.fit) ru4 e4 fun w5 F5 H5 al5 rw5=>h4 F5 S4 H5 (r4.al al5) al5.grow w5 rw5
theorem de_chain{op op':CmpOp}{r r':R2}{f g:PV→PV→Option PV}(ho:OpR X (compareOp op) r)(ho':OpR X (compareOp op') r')(hp:P2 X.K r f)(hp':P2 X.K r' g)(ha:DE X E a da)(hb:DE X E b db)(hc:DE X E c dc)
  (hm:lastMarks [op,op'] [b,c]=false:=by with_unfolding_all rfl):DE X E (.Compare a [op,op'] [b,c] pos) (dChain f g da db dc):=fun F S ε σ H Q rl h=>wp_e (pe_chain ho ho' pe_wp pe_wp pe_wp hm) (dChain_run hp hp' ha hb hc rl h)
theorem dt_chain{op op':CmpOp}{r r':R2}{f g:PV→PV→Option PV}(ho:OpR X (compareOp op) r)(ho':OpR X (compareOp op') r')(hp:P2 X.K r f)(hp':P2 X.K r' g)(ha:DE X E a da)(hb:DE X E b db)(hc:DE X E c dc)
  (hm:lastMarks [op,op'] [b,c]=false:=by with_unfolding_all rfl):DT X E (.Compare a [op,op'] [b,c] pos) (dB (dChain f g da db dc)):=fun F S ε σ H Q rl h =>
 wp_t (pt_chain ho ho' pe_wp pe_wp pe_wp hm) (dChain_run (Q:=fun x H'=>∃ k,x = .bl k∧Q k H') hp hp' ha hb hc rl (dB_ok h))
variable{ta tb:PEnv→R Bool}{rest:List Expr}
def DW(X:Cx)(E:XK)(e:Expr)(d:PEnv→R Bool):Prop:=∀ F S ε σ H Q,Rel X.K F S ε σ H→Ok X.K E σ F S H (d ε) (fun b _ _ _ H'=>Q b H')→∀ (whole:Sem Value) pins s,Inv X pins σ H s→wpAny (model X.prog X.w) X.A (isTrue e X.env whole) (TP X pins σ Q) X.xe s
def wpW(X:Cx)(e:Expr):TT:=fun σ H Q=>∀ (whole:Sem Value) pins s,Inv X pins σ H s→wpAny (model X.prog X.w) X.A (isTrue e X.env whole) (TP X pins σ Q) X.xe s
theorem pw_wp{e:Expr}:PW X e (wpW X e):=fun whole pins s _ _ _ I h=>h whole pins s I
theorem DW.dt{e:Expr}{d:PEnv→R Bool}(h:DW X E e d):DT X E e d:=fun F S ε σ H Q rl q=>⟨fun pins s I=>h F S ε σ H Q rl q _ pins s I⟩
def dAnd(ta tb:PEnv→R Bool):PEnv→R Bool:=fun ε=>(ta ε).bind fun k ε1=>match k with
 | true=>tb ε1
 | false=>.ok false ε1
def dOr(ta tb:PEnv→R Bool):PEnv→R Bool:=fun ε=>(ta ε).bind fun k ε1=>match k with
 | true=>.ok true ε1
 | false=>tb ε1
def dNot(ta:PEnv→R Bool):PEnv→R Bool:=fun ε=>(ta ε).bind fun k ε1=>.ok (!k) ε1
theorem dw_or1(h:DT X E a ta):DW X E (.BoolOp .Or [a] pos) ta:=fun F S ε σ H Q rl q whole pins s I=>pw_or1 pt_wp whole pins s σ H Q I (h F S ε σ H Q rl q)
theorem dw_or(ha:DT X E a ta)(hb:DW X E (.BoolOp .Or (b::rest) pos) tb):DW X E (.BoolOp .Or (a::b::rest) pos) (dOr ta tb):=fun F S ε σ H Q rl q whole pins s I=>by
 refine pw_or pt_wp pw_wp whole pins s σ H Q I (ha F S ε σ H _ rl ((Ok.bind q).imp fun k ε1 F1 S1 H1 r1 g1 h1=>?_))
 cases k with
 | true=>exact iteT (h1 F1 S1 H1 r1 (Grow.refl ..))
 | false=>exact iteF (hb F1 S1 ε1 σ H1 Q r1 h1)
theorem dt_not(ha:DT X E a ta):DT X E (.UnaryOp .Not a pos) (dNot ta):=fun F S ε σ H Q rl q =>
 wp_t (pt_not pt_wp) (ha F S ε σ H _ rl ((Ok.bind q).imp fun k ε1 F1 S1 H1 r1 g1 h1=>h1 F1 S1 H1 r1 (Grow.refl ..)))
def dAndV(da db:PEnv→R PV):PEnv→R PV:=fun ε=>(dB da ε).bind fun k ε1=>match k with
 | true=>db ε1
 | false=>.ok (.bl false) ε1
def dOrV(da db:PEnv→R PV):PEnv→R PV:=fun ε=>(dB da ε).bind fun k ε1=>match k with
 | true=>.ok (.bl true) ε1
 | false=>db ε1
def dNotV(da:PEnv→R PV):PEnv→R PV:=fun ε=>(dB da ε).bind fun k ε1=>.ok (.bl (!k)) ε1
theorem dB_imp{d:PEnv→R PV}{β:Type}{D:β→PEnv→(Addr→Prop)→(Nat→Addr→Prop)→Hp→Prop}{k:Bool→PEnv→R β}{F:Addr→Prop}{S:Nat→Addr→Prop}{ε:PEnv}{σ:St}{H:Hp}{P:Bool→Hp→Prop}
  (h:Ok X.K E σ F S H ((dB d ε).bind k) D) (f:∀ c ε1 F1 S1 H1,Rel X.K F1 S1 ε1 σ H1→Grow (U S) (U S1) F F1 H H1→Ok X.K E σ F1 S1 H1 (k c ε1) D→P c H1) :
  Ok X.K E σ F S H (d ε) (fun pv _ F' _ H'=>∀ v,Rep X.K H' F' pv v→∃ c,v = .bl c∧P c H'):=by
 have h2:=(Ok.bind h).imp (C':=fun c ε1 F1 S1 H1=>P c H1) fun c ε1 F1 S1 H1 r1 g1 h1=>f c ε1 F1 S1 H1 r1 g1 h1
 exact dB_ok h2
theorem de_one{op}{d:PEnv→R PV}(h:DE X E a d):DE X E (.BoolOp op [a] pos) d:=fun F S ε σ H Q rl q=>wp_e (pe_one pe_wp) (h F S ε σ H Q rl q)
theorem de_and(ha:DE X E a da)(hb:DE X E (.BoolOp .And (b::rest) pos) db):DE X E (.BoolOp .And (a::b::rest) pos) (dAndV da db):=fun F S ε σ H Q rl q=>by
 refine wp_e (pe_and pe_wp pe_wp) (ha F S ε σ H _ rl (dB_imp q fun k ε1 F1 S1 H1 r1 g1 h1=>?_))
 cases k with
 | true=>exact iteT (hb F1 S1 ε1 σ H1 Q r1 h1)
 | false=>exact iteF (h1 F1 S1 H1 r1 (Grow.refl ..) _ rfl)
theorem de_not(ha:DE X E a da):DE X E (.UnaryOp .Not a pos) (dNotV da):=fun F S ε σ H Q rl q =>
 wp_e (pe_not pe_wp) (ha F S ε σ H _ rl (dB_imp q fun k ε1 F1 S1 H1 r1 g1 h1=>h1 F1 S1 H1 r1 (Grow.refl ..) _ rfl))
def dIf{α:Type}(t:PEnv→R Bool)(da db:PEnv→R α):PEnv→R α:=fun ε=>(t ε).bind fun k ε1=>match k with
 | true=>da ε1
 | false=>db ε1
def P1(K:PySem.W.Frag)(r:V→Hp→VK→Prop)(f:PV→Option PV):Prop:=∀ (F:Addr→Prop) (H:Hp) (x:PV) (v:V) (Q:VK) (pv:PV),Rep K H F x v→f x=some pv→(∀ w F' H',Al F F' H H'→Rep K H' F' pv w→Q w H')→r v H Q
def d1(f:PV→Option PV)(da:PEnv→R PV):PEnv→R PV:=fun ε=>(da ε).bind fun x ε1=>lift (f x) ε1
theorem d1_run{r:V→Hp→VK→Prop}{f:PV→Option PV}(hp:P1 X.K r f)(ha:DE X E a da){F:Addr→Prop}{S:Nat→Addr→Prop}{ε:PEnv}{σ:St}{H:Hp}{Q:VK}(rl:Rel X.K F S ε σ H)
  (h:Ok X.K E σ F S H (d1 f da ε) (fun pv _ F' _ H'=>∀ v,Rep X.K H' F' pv v→Q v H')):wpE X a σ H fun x H1=>r x H1 Q:=by
 refine ha F S ε σ H _ rl ((Ok.bind h).imp fun x ε1 F1 S1 H1 r1 g1 h1 v rv=>?_)
 cases e:f x with
 | none=>rw[e]at h1; exact h1.elim
 | some pv =>
  rw[e]at h1
  exact hp F1 H1 x v Q pv rv e fun w F' H' al rw'=>h1 F' S1 H' (r1.al al) al.grow w rw'
theorem de_un{op:UnaryOp}{r:V→Hp→VK→Prop}{f:PV→Option PV}(ho:UnR X (unaryOp op) r)(hp:P1 X.K r f)(ha:DE X E a da):DE X E (.UnaryOp op a pos) (d1 f da):=fun F S ε σ H Q rl h =>
 wp_e (pe_un ho pe_wp) (d1_run hp ha rl h)
end
end Pu
namespace Pu
open PySem PySem.Spec PyProof.Rows L2
def wpA(X:Cx)(es:List Expr):TA:=fun σ H Q=>Bx (∀ pos pins s,Inv X pins σ H s→wpAny (model X.prog X.w) X.A (spliced (backTo pos (starEach es X.env))) (AP X pins σ Q) X.xe s)
def DA(X:Cx)(E:XK)(es:List Expr)(d:PEnv→R (List PV)):Prop :=
 ∀ F S ε σ H Q,Rel X.K F S ε σ H→Ok X.K E σ F S H (d ε) (fun pvs _ F' _ H'=>∀ vs,Reps X.K H' F' pvs vs→Q vs H')→wpA X es σ H Q
section
variable{X:Cx}{E:XK}{a b c e:Expr}{es:List Expr}{da db dc d:PEnv→R PV}{ds:PEnv→R (List PV)}{pos:Pos}
theorem pa_wp{es:List Expr}:PA X es (wpA X es):=fun pos pins s _ _ _ I h=>h.run pos pins s I
theorem wp_a{t:TA}(h:PA X es t){σ:St}{H:Hp}{Q:List V→Hp→Prop}(q:t σ H Q):wpA X es σ H Q:=⟨fun pos pins s I=>h pos pins s σ H Q I q⟩
def dNil:PEnv→R (List PV):=fun ε=>.ok [] ε
def dCons(d:PEnv→R PV)(ds:PEnv→R (List PV)):PEnv→R (List PV):=fun ε=>(d ε).bind fun x ε1=>(ds ε1).bind fun xs ε2=>.ok (x::xs) ε2
theorem da_nil:DA X E [] dNil:=fun F S ε σ H Q rl h=>wp_a pa_nil (h F S H rl (Grow.refl ..) _ rfl)
theorem da_cons(ha:DE X E e d)(hr:DA X E es ds)(hs:starEach (e::es) X.env=(false,eval e X.env)::starEach es X.env:=by rfl):DA X E (e::es) (dCons d ds):=fun F S ε σ H Q rl h=>by
 refine wp_a (pa_cons pe_wp pa_wp hs) (ha F S ε σ H _ rl ((Ok.bind h).imp fun x ε1 F1 S1 H1 r1 g1 h1 v rv=>?_))
 refine hr F1 S1 ε1 σ H1 _ r1 ((Ok.bind h1).imp fun xs ε2 F2 S2 H2 r2 g2 h2 vs rvs=>?_)
 exact h2 F2 S2 H2 r2 (Grow.refl ..) _ ⟨v,vs,rfl,rv.grow g2 r1.fit,rvs⟩
theorem Rel.more{K:PySem.W.Frag}{F N:Addr→Prop}{S:Nat→Addr→Prop}{ε:PEnv}{σ:St}{H:Hp}(r:Rel K F S ε σ H)(hn:∀ b,N b→¬ U S b∧∃ o,H b=some o):Rel K (fun b=>F b∨N b) S ε σ H:=by
 have mono:∀ x v,Rep K H F x v→Rep K H (fun b=>F b∨N b) x v:=Rep.mono (fun _ h=>.inl h) (fun _ _ _ q=>q) (fun _ _ q _=>q)
 have monos:∀ x v,Reps K H F x v→Reps K H (fun b=>F b∨N b) x v:=Reps.mono (fun _ h=>.inl h) (fun _ _ _ q=>q) (fun _ _ q _=>q)
 refine⟨r.len,fun b h=>h.elim (r.ex b) fun z=>(hn b z).2,fun i pv e=>?_,fun i po e=>?_,fun i b h=>?_,r.dist⟩
 ·obtain⟨v,h1,h2⟩:=r.val i pv e; exact⟨v,h1,mono _ _ h2⟩
 ·obtain⟨v,h1,h2⟩:=r.own i po e; exact⟨v,h1,h2.mono mono monos fun _ _ _ z=>z⟩
 ·obtain⟨h1,h2,h3⟩:=r.foot i b h
  exact⟨h1,fun z=>z.elim h2 fun w=>(hn b w).1 ⟨i,h⟩,h3⟩
def frzO:PO→Option PV
 | .lst xs=>some (.lst xs)
 | _=>none
def dF(d:PEnv→R PO):PEnv→R PV:=fun ε=>(d ε).bind fun po ε1=>lift (frzO po) ε1
theorem DN.de{d:PEnv→R PO}(h:DN X E e d):DE X E e (dF d):=fun F S ε σ H Q rl q=>by
 unfold dF at q
 refine h F S ε σ H Q rl ?_
 cases e0:d ε with
 | no=>rw[e0]at q; exact q.elim
 | er c ε'=>rw[e0]at q; exact q
 | ok po ε1 =>
  rw[e0]at q
  intro F1 S1 H1 r1 g1 a Sa ow fr
  cases po with
  | dK kvs=>exact q.elim
  | lls xss=>exact q.elim
  | ins C fs=>exact q.elim
  | lst xs =>
   have hN:∀ b,Sa b→¬ U S1 b∧∃ o,H1 b=some o:=fun b z=>let ⟨_,_,x3,o,x4,_⟩:=fr b z; ⟨x3,o,x4⟩
   obtain⟨⟨vs,ha,hr⟩,hS⟩:=ow
   have g2:Grow (U S) (U S1) F (fun b=>F1 b∨Sa b) H H1:=⟨fun b z=>.inl (g1.fro b z),g1.keep,g1.there,fun b z=>z.elim (g1.fnew b) fun w=>.inr (.inl (fr b w).1),g1.onew⟩
   exact q _ S1 H1 (r1.more hN) g2 _ ⟨a,vs,rfl,.inl ha,.inr ((hS a).mpr rfl),Reps.mono (fun _ z=>.inl z) (fun _ _ _ z=>z) (fun _ _ z _=>z) _ _ hr⟩
def tupP(xs:List PV):Option PV:=if xs.length≤1000 then some (.tup xs)else none
def lstP(xs:List PV):Option PO:=if xs.length≤1000 then some (.lst xs)else none
def dL{α:Type}(f:List PV→Option α)(ds:PEnv→R (List PV)):PEnv→R α:=fun ε=>(ds ε).bind fun xs ε1=>lift (f xs) ε1
def PL(K:PySem.W.Frag)(r:List V→Hp→VK→Prop)(f:List PV→Option PV):Prop:=∀ (F:Addr→Prop) (H:Hp) (xs:List PV) (vs:List V) (Q:VK) (pv:PV),Reps K H F xs vs→f xs=some pv→(∀ w F' H',Al F F' H H'→Rep K H' F' pv w→Q w H')→r vs H Q
def PLn(K:PySem.W.Frag)(r:List V→Hp→VK→Prop)(f:List PV→Option PO):Prop:=∀ (F:Addr→Prop) (H:Hp) (xs:List PV) (vs:List V) (Q:VK) (po:PO),(∀ a,F a→∃ o,H a=some o)→Reps K H F xs vs→f xs=some po →
 (∀ a F' H' Sa,Al F F' H H'→Own K H' F' po a Sa→(∀ b,Sa b→H b=none∧¬ F' b∧∃ o,H' b=some o∧notImm o)→Q (.ref a) H')→r vs H Q
theorem dL_run{r:List V→Hp→VK→Prop}{f:List PV→Option PV}(hp:PL X.K r f)(hd:DA X E es ds){F:Addr→Prop}{S:Nat→Addr→Prop}{ε:PEnv}{σ:St}{H:Hp}{Q:VK}(rl:Rel X.K F S ε σ H)
  (h:Ok X.K E σ F S H (dL f ds ε) (fun pv _ F' _ H'=>∀ v,Rep X.K H' F' pv v→Q v H')):wpA X es σ H fun xs H1=>r xs H1 Q:=by
 refine hd F S ε σ H _ rl ((Ok.bind h).imp fun xs ε1 F1 S1 H1 r1 g1 h1 vs rvs=>?_)
 cases e:f xs with
 | none=>rw[e]at h1; exact h1.elim
 | some pv =>
  rw[e]at h1
  exact hp F1 H1 xs vs Q pv rvs e fun w F' H' al rw'=>h1 F' S1 H' (r1.al al) al.grow w rw'
theorem fresh_back{O O' F F':Addr→Prop}{H H':Hp}(g:Grow O O' F F' H H'){b:Addr}(h:H' b=none):H b=none:=by
 cases q:H b with
 | none=>rfl
 | some o=>obtain⟨o',e⟩:=g.there b o q; rw[h]at e; cases e
theorem dLn_run{r:List V→Hp→VK→Prop}{f:List PV→Option PO}(hp:PLn X.K r f)(hd:DA X E es ds){F:Addr→Prop}{S:Nat→Addr→Prop}{ε:PEnv}{σ:St}{H:Hp}{Q:VK}(rl:Rel X.K F S ε σ H)
  (h:Ok X.K E σ F S H (dL f ds ε) (fun po _ F' S' H'=>∀ a Sa,Own X.K H' F' po a Sa→(∀ b,Sa b→H b=none∧¬ F' b∧¬ U S' b∧∃ o,H' b=some o∧notImm o)→Q (.ref a) H')):wpA X es σ H fun xs H1=>r xs H1 Q:=by
 refine hd F S ε σ H _ rl ((Ok.bind h).imp fun xs ε1 F1 S1 H1 r1 g1 h1 vs rvs=>?_)
 cases e:f xs with
 | none=>rw[e]at h1; exact h1.elim
 | some po =>
  rw[e]at h1
  refine hp F1 H1 xs vs Q po r1.ex rvs e fun a F' H' Sa al ow fr=>h1 F' S1 H' (r1.al al) al.grow a Sa ow fun b z=>?_
  obtain⟨z1,z2,o,z3,z4⟩:=fr b z
  refine⟨fresh_back g1 z1,z2,fun⟨i,w⟩=>?_,o,z3,z4⟩
  obtain⟨_,_,o',w1,_⟩:=r1.foot i b w
  rw[z1]at w1; cases w1
theorem small_line{n:Nat}(h:n≤1000):n≤sizeLine:=Nat.le_of_lt (small1000 h)
theorem pl_tup{K:PySem.W.Frag}:PL K (fun xs H Q=>xs.length≤sizeLine∧∀ p,H p=none→Q (.ref p) (upd H p (.tup xs))) tupP:=fun F H xs vs Q pv rs e q=>by
 unfold tupP at e
 split at e
 ·cases e
  refine⟨by rw[rs.len]; exact small_line (by assumption),fun p hp=>q _ F _ (Al.new0 hp) ⟨p,vs,rfl,upd_same,(Al.new0 hp).reps rs⟩⟩
 ·cases e
theorem own_new{K:PySem.W.Frag}{F:Addr→Prop}{H:Hp}{l:Addr}{xs:List PV}{vs:List V}(hl:H l=none)(rs:Reps K H F xs vs):Own K (upd H l (.lst vs)) F (.lst xs) l (fun b=>b=l):=⟨⟨vs,upd_same,(Al.new0 hl).reps rs⟩,fun b=>Iff.rfl⟩
theorem own_new_fr{F:Addr→Prop}{H:Hp}{l:Addr}{o:HO}(hl:H l=none)(hF:∀ a,F a→∃ o,H a=some o)(hn:notImm o):∀ b,b=l→H b=none∧¬ F b∧∃ o',(upd H l o) b=some o'∧notImm o':=fun b z=>by
 subst z
 exact⟨hl,(fun w=>by obtain⟨o,q⟩:=hF b w; rw[hl]at q; cases q),o,upd_same,hn⟩
theorem pln_lst{K:PySem.W.Frag}:PLn K (fun xs H Q=>xs.length≤sizeLine∧∀ p,H p=none→Q (.ref p) (upd H p (.lst xs))) lstP:=fun F H xs vs Q po hF rs e q=>by
 unfold lstP at e
 split at e
 ·cases e
  exact⟨by rw[rs.len]; exact small_line (by assumption),fun p hp=>q p F _ _ (Al.new0 hp) (own_new hp rs) (own_new_fr hp hF trivial)⟩
 ·cases e
theorem de_tup{x1}(h:DA X E es ds):DE X E (.Tuple es x1 pos) (dL tupP ds):=fun F S ε σ H Q rl q=>wp_e (pe_tup pa_wp) (dL_run pl_tup h rl q)
theorem dn_lst(h:DA X E es ds):DN X E (.List es pos) (dL lstP ds):=fun F S ε σ H Q rl q=>wp_e (pe_lst pa_wp) (dLn_run pln_lst h rl q)
theorem de_lst(h:DA X E es ds):DE X E (.List es pos) (dF (dL lstP ds)):=(dn_lst h).de
variable{x:Str}{p:Pos}{id T:String}{r:List V→Hp→VK→Prop}{f:List PV→Option PV}{fn:List PV→Option PO}
theorem de_callB(hc:CallR X (.builtin id) r)(hp:PL X.K r f)(hm:X.mg x=none)(hv:bootBuiltins x=some (.builtin id))(ha:DA X E (e::es) ds)(hg:Gl X x:=by rfl)(hn:x≠"__name__":=by decide)(hdb:(x == ("__debug__" : Str))=false:=by decide)
  (he:starEach (e::es) X.env=(false,eval e X.env)::starEach es X.env:=by rfl) (hpl:(backTo pos (starEach es X.env)).any (·.1)=false:=by rfl):DE X E (.Call (.Name x p) (e::es) [] pos) (dL f ds):=fun F S ε σ H Q rl q =>
 wp_e (pe_callB hc hg hm hv pa_wp hn hdb he hpl) (dL_run hp ha rl q)
theorem dn_callB(hc:CallR X (.builtin id) r)(hp:PLn X.K r fn)(hm:X.mg x=none)(hv:bootBuiltins x=some (.builtin id))(ha:DA X E (e::es) ds)(hg:Gl X x:=by rfl)(hn:x≠"__name__":=by decide)(hdb:(x == ("__debug__" : Str))=false:=by decide)
  (he:starEach (e::es) X.env=(false,eval e X.env)::starEach es X.env:=by rfl) (hpl:(backTo pos (starEach es X.env)).any (·.1)=false:=by rfl):DN X E (.Call (.Name x p) (e::es) [] pos) (dL fn ds):=fun F S ε σ H Q rl q =>
 wp_e (pe_callB hc hg hm hv pa_wp hn hdb he hpl) (dLn_run hp ha rl q)
theorem de_callT(hc:CallR X (.type T) r)(hp:PL X.K r f)(hm:X.mg x=none)(hv:bootBuiltins x=some (.type T))(ha:DA X E (e::es) ds)(hg:Gl X x:=by rfl)(hn:x≠"__name__":=by decide)(hdb:(x == ("__debug__" : Str))=false:=by decide)
  (he:starEach (e::es) X.env=(false,eval e X.env)::starEach es X.env:=by rfl) (hpl:(backTo pos (starEach es X.env)).any (·.1)=false:=by rfl):DE X E (.Call (.Name x p) (e::es) [] pos) (dL f ds):=fun F S ε σ H Q rl q =>
 wp_e (pe_callTy hc hg hm hv pa_wp hn hdb he hpl) (dL_run hp ha rl q)
theorem de_ix{r:R2}{f:PV→PV→Option PV}(hr:IxR X r)(hp:P2 X.K r f)(ha:DE X E a da)(hb:DE X E b db)(hs:PlainIx b:=by exact fun _ _=>rfl):DE X E (.Subscript a b pos) (d2 f da db):=fun F S ε σ H Q rl h =>
 wp_e (pe_ix hr pe_wp pe_wp hs) (d2_run hp ha hb rl h)
def wpO(X:Cx)(e:Option Expr):TO:=fun σ H Q=>Bx (∀ pins s,Inv X pins σ H s→wpAny (model X.prog X.w) X.A (evalPart e X.env) (fun u s'=>∃ o H',Inv X pins σ H' s'∧IsPart u o∧Q o H') X.xe s)
theorem po_wp{o:Option Expr}:L2.PO X o (wpO X o):=fun pins s _ _ _ I h=>h.run pins s I
theorem wp_o{o:Option Expr}{t:TO}(h:L2.PO X o t){σ:St}{H:Hp}{Q:Option Int→Hp→Prop}(q:t σ H Q):wpO X o σ H Q:=⟨fun pins s I=>h pins s σ H Q I q⟩
def DO(X:Cx)(E:XK)(e:Option Expr)(d:PEnv→R (Option Int)):Prop:=∀ F S ε σ H Q,Rel X.K F S ε σ H→Ok X.K E σ F S H (d ε) (fun o _ _ _ H'=>Q o H')→wpO X e σ H Q
def dNo:PEnv→R (Option Int):=fun ε=>.ok none ε
def isI:PV→Option Int
 | .int i=>some i
 | _=>none
def dPart(d:PEnv→R PV):PEnv→R (Option Int):=fun ε=>(d ε).bind fun x ε1=>lift ((isI x).map some) ε1
theorem do_none:DO X E none dNo:=fun F S ε σ H Q rl h=>wp_o po_none (h F S H rl (Grow.refl ..))
theorem do_some(he:DE X E e d):DO X E (some e) (dPart d):=fun F S ε σ H Q rl h=>by
 refine wp_o (po_some pe_wp) (he F S ε σ H _ rl ((Ok.bind h).imp fun x ε1 F1 S1 H1 r1 g1 h1 v rv=>?_))
 cases x <;> first | exact(show False from h1).elim | skip
 rename_i i
 exact⟨i,rv,h1 F1 S1 H1 r1 (Grow.refl ..)⟩
def dSl{α:Type}(f:PV→Option Int→Option Int→Option α)(d:PEnv→R PV)(dl du:PEnv→R (Option Int)):PEnv→R α:=fun ε=>(d ε).bind fun x ε1=>(dl ε1).bind fun l ε2=>(du ε2).bind fun u ε3=>lift (f x l u) ε3
def PSl(K:PySem.W.Frag)(r:V→Option Int→Option Int→Hp→VK→Prop)(f:PV→Option Int→Option Int→Option PV):Prop:=∀ (F:Addr→Prop) (H:Hp) (x:PV) (lo hi:Option Int) (v:V) (Q:VK) (pv:PV),Rep K H F x v→f x lo hi=some pv→(∀ w F' H',Al F F' H H'→Rep K H' F' pv w→Q w H')→r v lo hi H Q
theorem de_slice{r:V→Option Int→Option Int→Hp→VK→Prop}{f:PV→Option Int→Option Int→Option PV}{lo hi:Option Expr}{dl du:PEnv→R (Option Int)}{p2:Pos}(hr:SlR X r)(hp:PSl X.K r f)(he:DE X E e d)(hl:DO X E lo dl)(hu:DO X E hi du) :
  DE X E (.Subscript e (.Slice lo hi none p2) pos) (dSl f d dl du):=fun F S ε σ H Q rl h=>by
 refine wp_e (pe_slice hr pe_wp po_wp po_wp) (he F S ε σ H _ rl ((Ok.bind h).imp fun x ε1 F1 S1 H1 r1 g1 h1 v rv=>?_))
 refine hl F1 S1 ε1 σ H1 _ r1 ((Ok.bind h1).imp fun l ε2 F2 S2 H2 r2 g2 h2=>?_)
 refine hu F2 S2 ε2 σ H2 _ r2 ((Ok.bind h2).imp fun u ε3 F3 S3 H3 r3 g3 h3=>?_)
 cases e3:f x l u with
 | none=>rw[e3]at h3; exact h3.elim
 | some pv =>
  rw[e3]at h3
  exact hp F3 H3 x l u v Q pv ((rv.grow g2 r1.fit).grow g3 r2.fit) e3 fun w F' H' al rw'=>h3 F' S3 H' (r3.al al) al.grow w rw'
end
end Pu
namespace Pu
open PySem PySem.Spec PyProof.Rows L2
inductive Flw where
 | next | ret (s:Slot) | brk | cont
def RepS(K:PySem.W.Frag)(H:Hp)(F:Addr→Prop)(s:Slot)(v:V)(Sr:Addr→Prop):Prop:=match s with
 | .val pv=>Rep K H F pv v∧∀ b,¬ Sr b
 | .own po=>∃ a,v = .ref a∧Own K H F po a Sr
 | .none=>False
def PinOk(pin:List Nat)(σ σ':St):Prop:=∀ i∈pin,σ'[i]?=σ[i]?
theorem PinOk.refl(pin:List Nat)(σ:St):PinOk pin σ σ:=fun _ _=>rfl
theorem PinOk.trans{pin:List Nat}{σ σ1 σ2:St}(a:PinOk pin σ σ1)(b:PinOk pin σ1 σ2):PinOk pin σ σ2:=fun i h=>(b i h).trans (a i h)
theorem PinOk.set{pin:List Nat}{σ:St}{i:Nat}{x:Option V}(h:i∉pin):PinOk pin σ (σ.set i x):=fun j hj=>by
 rw[List.getElem?_set_ne (by rintro rfl; exact h hj)]
def Loose(F':Addr→Prop)(S':Nat→Addr→Prop)(H':Hp)(Sr:Addr→Prop):Prop:=∀ b,Sr b→¬ F' b∧¬ U S' b∧∃ o,H' b=some o∧notImm o
def OkS(K:PySem.W.Frag)(E:XK)(pin:List Nat)(σ:St)(F:Addr→Prop)(S:Nat→Addr→Prop)(H:Hp)(r:R Flw)(D:Ends):Prop:=match r with
 | .ok .next ε'=>∀ F' S' σ' H',Rel K F' S' ε' σ' H'→Grow (U S) (U S') F F' H H'→PinOk pin σ σ'→D.nx σ' H'
 | .ok .brk ε'=>∀ F' S' σ' H',Rel K F' S' ε' σ' H'→Grow (U S) (U S') F F' H H'→PinOk pin σ σ'→D.bk σ' H'
 | .ok .cont ε'=>∀ F' S' σ' H',Rel K F' S' ε' σ' H'→Grow (U S) (U S') F F' H H'→PinOk pin σ σ'→D.ct σ' H'
 | .ok (.ret s) ε'=>∀ v F' S' σ' H' Sr,Rel K F' S' ε' σ' H'→Grow (U S) (fun b=>U S' b∨Sr b) F F' H H'→PinOk pin σ σ'→RepS K H' F' s v Sr→Loose F' S' H' Sr→D.rt v H'
 | .er c ε'=>∀ x F' S' σ' H',Rel K F' S' ε' σ' H'→Grow (U S) (U S') F F' H H'→PinOk pin σ σ'→E c x H'
 | .no=>False
def DS(X:Cx)(E:XK)(pin:List Nat)(st:Stmt)(d:PEnv→R Flw):Prop:=∀ F S ε σ H D,Rel X.K F S ε σ H→OkS X.K E pin σ F S H (d ε) D→wpS X st D σ H
def DSs(X:Cx)(E:XK)(pin:List Nat)(st:List Stmt)(d:PEnv→R Flw):Prop:=∀ F S ε σ H D,Rel X.K F S ε σ H→OkS X.K E pin σ F S H (d ε) D→wpSs X st D σ H
section
variable{K:PySem.W.Frag}{E:XK}{pin:List Nat}{σ σ1:St}{F F1:Addr→Prop}{S S1:Nat→Addr→Prop}{H H1:Hp}{D:Ends}
theorem OkS.from{r:R Flw}(h:OkS K E pin σ F S H r D)(g:Grow (U S) (U S1) F F1 H H1)(p:PinOk pin σ σ1):OkS K E pin σ1 F1 S1 H1 r D:=by
 cases r with
 | no=>exact h
 | er c ε'=>exact fun x F' S' σ' H' r' g' p'=>h x F' S' σ' H' r' (g.trans g') (p.trans p')
 | ok f ε' =>
  cases f with
  | next=>exact fun F' S' σ' H' r' g' p'=>h F' S' σ' H' r' (g.trans g') (p.trans p')
  | brk=>exact fun F' S' σ' H' r' g' p'=>h F' S' σ' H' r' (g.trans g') (p.trans p')
  | cont=>exact fun F' S' σ' H' r' g' p'=>h F' S' σ' H' r' (g.trans g') (p.trans p')
  | ret s=>exact fun v F' S' σ' H' Sr r' g' p'=>h v F' S' σ' H' Sr r' (g.trans g') (p.trans p')
theorem OkS.bindE{α:Type}{r:R α}{k:α→PEnv→R Flw}(h:OkS K E pin σ F S H (r.bind k) D):Ok K E σ F S H r (fun a ε1 F1 S1 H1=>OkS K E pin σ F1 S1 H1 (k a ε1) D):=by
 cases r with
 | no=>exact h
 | er c ε'=>exact fun x F' S' H' r' g'=>h x F' S' σ H' r' g' (PinOk.refl _ _)
 | ok a ε'=>exact fun F' S' H' r' g'=>h.from g' (PinOk.refl _ _)
end
section
variable{X:Cx}{E:XK}{pin:List Nat}{st:Stmt}{rest:List Stmt}{d d1 d2:PEnv→R Flw}{e:Expr}{de:PEnv→R PV}{pos:Pos}
def dNext:PEnv→R Flw:=fun ε=>.ok .next ε
theorem dss_nil:DSs X E pin [] dNext:=fun F S ε σ H D rl h=>wp_ss pss_nil (h F S σ H rl (Grow.refl ..) (PinOk.refl _ _))
def dSeq(d1 d2:PEnv→R Flw):PEnv→R Flw:=fun ε=>match d1 ε with
 | .ok .next ε1=>d2 ε1
 | r=>r
theorem dss_cons(h1:DS X E pin st d1)(h2:DSs X E pin rest d2):DSs X E pin (st::rest) (dSeq d1 d2):=fun F S ε σ H D rl h=>by
 refine wp_ss (pss_cons ps_wp pss_wp) (h1 F S ε σ H { D with nx:=wpSs X rest D } rl ?_)
 unfold dSeq at h
 split at h
 ·rename_i ε1 e1
  rw[e1]
  exact fun F' S' σ' H' r' g' p'=>h2 F' S' ε1 σ' H' D r' (h.from g' p')
 ·rename_i r hne
  generalize d1 ε=r1 at h hne
  cases r1 with
  | no=>exact h
  | er c ε'=>exact h
  | ok f ε' =>
   cases f with
   | next=>exact absurd rfl (hne ε')
   | brk=>exact h
   | cont=>exact h
   | ret s=>exact h
theorem dss_one(h1:DS X E pin st d1):DSs X E pin [st] d1:=fun F S ε σ H D rl h=>wp_ss (pss_one ps_wp) (h1 F S ε σ H D rl h)
def dStop(f:Flw):PEnv→R Flw:=fun ε=>.ok f ε
def dDrop(d:PEnv→R PV):PEnv→R Flw:=fun ε=>(d ε).bind fun _ ε1=>.ok .next ε1
def dRet(d:PEnv→R PV):PEnv→R Flw:=fun ε=>(d ε).bind fun x ε1=>.ok (.ret (.val x)) ε1
theorem Grow.cup{O O' F F':Addr→Prop}{H H':Hp}(g:Grow O O' F F' H H'):Grow O (fun b=>O' b∨False) F F' H H':=⟨g.fro,g.keep,g.there,g.fnew,fun a h=>h.elim (g.onew a) False.elim⟩
theorem ds_ret(he:DE X E e de):DS X E pin (.Return (some e) pos) (dRet de):=fun F S ε σ H D rl h =>
 wp_s (ps_ret pe_wp) (he F S ε σ H _ rl (h.bindE.imp fun x ε1 F1 S1 H1 r1 g1 h1 v rv=>h1 v F1 S1 σ H1 (fun _=>False) r1 (Grow.refl ..).cup (PinOk.refl _ _) ⟨rv,fun _ z=>z⟩ fun _ z=>z.elim))
def dRetN(d:PEnv→R PO):PEnv→R Flw:=fun ε=>(d ε).bind fun x ε1=>.ok (.ret (.own x)) ε1
theorem ds_retNew{dn:PEnv→R PO}(he:DN X E e dn):DS X E pin (.Return (some e) pos) (dRetN dn):=fun F S ε σ H D rl h=>by
 refine wp_s (ps_ret pe_wp) (he F S ε σ H _ rl ?_)
 unfold dRetN at h
 cases e0:dn ε with
 | no=>rw[e0]at h; exact h.elim
 | er c ε'=>rw[e0]at h; exact fun x F' S' H' r' g'=>h x F' S' σ H' r' g' (PinOk.refl _ _)
 | ok po ε1 =>
  rw[e0]at h
  intro F1 S1 H1 r1 g1 a Sa ow fr
  exact h _ F1 S1 σ H1 Sa r1 ⟨g1.fro,g1.keep,g1.there,g1.fnew,fun b z=>z.elim (g1.onew b) fun w=>.inr (fr b w).1⟩ (PinOk.refl _ _) ⟨a,rfl,ow⟩ fun b z=>let ⟨_,x2,x3,x4⟩:=fr b z; ⟨x2,x3,x4⟩
def dRetM(i:Nat):PEnv→R Flw:=fun ε=>match ε[i]? with
 | some (.own po)=>.ok (.ret (.own po)) (ε.set i .none)
 | _=>.no
theorem Rel.drop{K:PySem.W.Frag}{F:Addr→Prop}{S:Nat→Addr→Prop}{ε:PEnv}{σ:St}{H:Hp}(r:Rel K F S ε σ H)(i:Nat):Rel K F (fun j b=>S j b∧j≠i) (ε.set i .none) σ H:=by
 have no:∀ {j s},(ε.set i .none)[j]?=some s→s≠.none→j≠i∧ε[j]?=some s:=fun {j s} e hs=>by
  by_cases hj:i=j
  ·subst hj
   by_cases hi:i<ε.length
   ·rw[List.getElem?_set_self hi]at e; exact absurd (Option.some.inj e).symm hs
   ·rw[List.getElem?_eq_none (by rw[List.length_set]; ac_rfl)]at e; cases e
  ·rw[List.getElem?_set_ne hj]at e; exact⟨Ne.symm hj,e⟩
 refine⟨by rw[List.length_set]; exact r.len,r.ex,fun j pv e=>r.val j pv (no e (by intro z; cases z)).2,fun j po e=>?_,fun j b h=>?_,fun j k b h1 h2=>r.dist j k b h1.1 h2.1⟩
 ·obtain⟨hj,e⟩:=no e (by intro z; cases z)
  obtain⟨a,h1,h2⟩:=r.own j po e
  have eS:(fun b=>S j b∧j≠i)=S j:=by funext b; simp[hj]
  exact⟨a,h1,by rw[eS]; exact h2⟩
 ·obtain⟨⟨po,q1⟩,q2⟩:=r.foot j b h.1
  exact⟨⟨po,by rw[List.getElem?_set_ne (Ne.symm h.2)]; exact q1⟩,q2⟩
theorem ds_retMove(i:Nat){x:Str}{p:Pos}(hN:X.N[i]?=some x:=by rfl)(hv:Vis X.env.scope x:=by first | exact Or.inl rfl | exact Or.inr (Or.inl rfl) | exact Or.inr (Or.inr rfl))(hd:(x == ("__debug__" : Str))=false:=by decide)
  (hcd:(x == ("__classdict__" : Str))=false:=by decide):DS X E pin (.Return (some (.Name x p)) pos) (dRetM i):=fun F S ε σ H D rl h=>by
 unfold dRetM at h
 split at h
 ·rename_i po e
  obtain⟨a,e1,ow⟩:=rl.own i po e
  refine wp_s (ps_ret (pe_var hN hv hd hcd)) ⟨_,e1,h _ F (fun j b=>S j b∧j≠i) σ H (S i) (rl.drop i) ⟨fun _ z=>z,fun _ _ z _=>z,fun _ o z=>⟨o,z⟩,fun _ z=>.inl z,fun b z=>?_⟩ (PinOk.refl _ _) ⟨a,rfl,ow⟩ fun b z=>?_⟩
  ·rcases z with⟨j,z,_⟩ | z
   ·exact .inl ⟨j,z⟩
   ·exact .inl ⟨i,z⟩
  ·exact⟨(rl.foot i b z).2.1,fun⟨j,w,hj⟩=>hj (rl.dist j i b w z),(rl.foot i b z).2.2⟩
 ·exact h.elim
theorem Rel.set{K:PySem.W.Frag}{F:Addr→Prop}{S:Nat→Addr→Prop}{ε:PEnv}{σ:St}{H:Hp}{i:Nat}{pv:PV}{v:V}(r:Rel K F S ε σ H)(h:Rep K H F pv v):Rel K F (fun j b=>S j b∧j≠i) (ε.set i (.val pv)) (σ.set i (some v)) H:=by
 have r0:=r.drop i
 have len:(ε.set i (.val pv)).length=(σ.set i (some v)).length:=by rw[List.length_set,List.length_set]; exact r.len
 refine⟨len,r.ex,fun j p e=>?_,fun j po e=>?_,fun j b h=>?_,r0.dist⟩
 ·by_cases hj:i=j
  ·subst hj
   have hi:i<ε.length:=by
    have:=(List.getElem?_eq_some_iff.mp e).1
    rw[List.length_set]at this; exact this
   rw[List.getElem?_set_self hi]at e
   cases e
   exact⟨v,List.getElem?_set_self (by rw[← r.len]; exact hi),h⟩
  ·rw[List.getElem?_set_ne hj]at e
   obtain⟨w,h1,h2⟩:=r.val j p e
   exact⟨w,by rw[List.getElem?_set_ne hj]; exact h1,h2⟩
 ·have hj:i≠j:=by
   rintro rfl
   have hi:i<ε.length:=by
    have:=(List.getElem?_eq_some_iff.mp e).1
    rw[List.length_set]at this; exact this
   rw[List.getElem?_set_self hi]at e; cases e
  rw[List.getElem?_set_ne hj]at e
  obtain⟨a,h1,h2⟩:=r.own j po e
  have eS:(fun b=>S j b∧j≠i)=S j:=by funext b; simp[Ne.symm hj]
  exact⟨a,by rw[List.getElem?_set_ne hj]; exact h1,by rw[eS]; exact h2⟩
 ·obtain⟨⟨po,q1⟩,q2⟩:=r0.foot j b h
  refine⟨⟨po,?_⟩,q2⟩
  rw[List.getElem?_set_ne (Ne.symm h.2)]at q1 ⊢
  exact q1
theorem Grow.less{S:Nat→Addr→Prop}{F:Addr→Prop}{H:Hp}(i:Nat):Grow (U S) (U fun j b=>S j b∧j≠i) F F H H:=⟨fun _ z=>z,fun _ _ z _=>z,fun _ o z=>⟨o,z⟩,fun _ z=>.inl z,fun b ⟨j,z⟩=>.inl ⟨j,z.1⟩⟩
theorem Rel.setOwn{K:PySem.W.Frag}{F:Addr→Prop}{S:Nat→Addr→Prop}{ε:PEnv}{σ:St}{H:Hp}{i:Nat}{po:PO}{a:Addr}{Sa:Addr→Prop}(r:Rel K F S ε σ H)(hi:i<ε.length)(h:Own K H F po a Sa)(fr:Loose F S H Sa) :
  Rel K F (fun j b=>(S j b∧j≠i)∨(j=i∧Sa b)) (ε.set i (.own po)) (σ.set i (some (.ref a))) H:=by
 have r0:=r.drop i
 refine⟨by rw[List.length_set,List.length_set]; exact r.len,r.ex,fun j p e=>?_,fun j po' e=>?_,fun j b h=>?_,fun j k b h1 h2=>?_⟩
 ·have hj:i≠j:=by rintro rfl; rw[List.getElem?_set_self hi]at e; cases e
  rw[List.getElem?_set_ne hj]at e
  obtain⟨w,h1,h2⟩:=r.val j p e
  exact⟨w,by rw[List.getElem?_set_ne hj]; exact h1,h2⟩
 ·by_cases hj:i=j
  ·subst hj
   rw[List.getElem?_set_self hi]at e
   cases e
   have eS:(fun b=>(S i b∧i≠i)∨(i=i∧Sa b))=Sa:=by funext b; simp
   exact⟨a,List.getElem?_set_self (by rw[← r.len]; exact hi),by rw[eS]; exact h⟩
  ·rw[List.getElem?_set_ne hj]at e
   obtain⟨a',h1,h2⟩:=r.own j po' e
   have eS:(fun b=>(S j b∧j≠i)∨(j=i∧Sa b))=S j:=by funext b; simp[Ne.symm hj]
   exact⟨a',by rw[List.getElem?_set_ne hj]; exact h1,by rw[eS]; exact h2⟩
 ·rcases h with h | ⟨rfl,h⟩
  ·obtain⟨⟨po',q1⟩,q2⟩:=r0.foot j b h
   refine⟨⟨po',?_⟩,q2⟩
   rw[List.getElem?_set_ne (Ne.symm h.2)]at q1 ⊢
   exact q1
  ·obtain⟨x1,x2,x3⟩:=fr b h
   exact⟨⟨po,List.getElem?_set_self hi⟩,x1,x3⟩
 ·rcases h1 with h1 | ⟨rfl,h1⟩ <;> rcases h2 with h2 | ⟨rfl,h2⟩
  ·exact r.dist j k b h1.1 h2.1
  ·exact absurd ⟨j,h1.1⟩ (fr b h2).2.1
  ·exact absurd ⟨k,h2.1⟩ (fr b h1).2.1
  ·rfl
def dSet(i:Nat)(d:PEnv→R PV):PEnv→R Flw:=fun ε=>(d ε).bind fun x ε1=>.ok .next (ε1.set i (.val x))
theorem ds_set(i:Nat){x:Str}{p:Pos}(hN:X.N.Nodup)(he:DE X E e de)(hp:i∉pin:=by decide)(hi:X.N[i]?=some x:=by rfl)(hx:Loc X.env.scope x:=by first | exact Or.inl rfl | exact Or.inr rfl)(hs:swapsWith e (some (.Name x p)) pos.line X.env=pure false:=by rfl)
  (hf:X.fn x=true∨X.env.scope.names.lookup x=some .local:=by first | exact .inl rfl | exact .inr rfl):DS X E pin (.Assign [.Name x p] e pos) (dSet i de):=fun F S ε σ H D rl h =>
 wp_s (ps_set hN hi hx pe_wp hs hf) (he F S ε σ H _ rl (h.bindE.imp fun x ε1 F1 S1 H1 r1 g1 h1 v rv=>h1 F1 _ _ H1 (r1.set rv) (Grow.less i) (PinOk.set hp)))
def dOwn(i:Nat)(d:PEnv→R PO):PEnv→R Flw:=fun ε=>(d ε).bind fun x ε1=>if i<ε1.length then .ok .next (ε1.set i (.own x))else .no
theorem ds_own(i:Nat){x:Str}{p:Pos}{dn:PEnv→R PO}(hN:X.N.Nodup)(he:DN X E e dn)(hp:i∉pin:=by decide)(hi:X.N[i]?=some x:=by rfl)(hx:Loc X.env.scope x:=by first | exact Or.inl rfl | exact Or.inr rfl)(hs:swapsWith e (some (.Name x p)) pos.line X.env=pure false:=by rfl)
  (hf:X.fn x=true∨X.env.scope.names.lookup x=some .local:=by first | exact .inl rfl | exact .inr rfl):DS X E pin (.Assign [.Name x p] e pos) (dOwn i dn):=fun F S ε σ H D rl h=>by
 refine wp_s (ps_set hN hi hx pe_wp hs hf) (he F S ε σ H _ rl ?_)
 unfold dOwn at h
 cases e0:dn ε with
 | no=>rw[e0]at h; exact h.elim
 | er c ε'=>rw[e0]at h; exact fun x F' S' H' r' g'=>h x F' S' σ H' r' g' (PinOk.refl _ _)
 | ok po ε1 =>
  rw[e0]at h
  simp only[R.bind_ok]at h
  intro F1 S1 H1 r1 g1 a Sa ow fr
  by_cases hl:i<ε1.length
  ·rw[if_pos hl]at h
   refine h F1 _ _ H1 (r1.setOwn hl ow fun b z=>(fr b z).2) ⟨g1.fro,g1.keep,g1.there,g1.fnew,fun b ⟨j,z⟩=>?_⟩ (PinOk.set hp)
   rcases z with z | ⟨_,z⟩
   ·exact g1.onew b ⟨j,z.1⟩
   ·exact .inr (fr b z).1
  ·rw[if_neg hl]at h; exact h.elim
theorem ds_if{c:Expr}{a b:List Stmt}{t:PEnv→R Bool}(hc:DT X E c t)(ha:DSs X E pin a d1)(hb:DSs X E pin b d2):DS X E pin (.If c a b pos) (dIf t d1 d2):=fun F S ε σ H D rl h=>by
 refine wp_s (ps_if pt_wp pss_wp pss_wp) (hc F S ε σ H _ rl (h.bindE.imp fun k ε1 F1 S1 H1 r1 g1 h1=>?_))
 cases k with
 | true=>exact iteT (ha F1 S1 ε1 σ H1 D r1 h1)
 | false=>exact iteF (hb F1 S1 ε1 σ H1 D r1 h1)
def noEr(r:R Flw):R Flw:=match r with
 | .er _ _=>.no
 | r=>r
theorem ds_nox(h:DS X.nox E0 pin st d):DS X E pin st (fun ε=>noEr (d ε)):=fun F S ε σ H D rl q=>Bx.mk fun pins s I=>by
 have q:OkS X.K E pin σ F S H (noEr (d ε)) D:=q
 have q':OkS X.K E0 pin σ F S H (d ε) D:=by
  cases e:d ε with
  | no=>rw[e]at q; exact q
  | er c ε'=>rw[e]at q; exact q.elim
  | ok f ε'=>rw[e]at q; cases f <;> exact q
 exact wpAny_mono ((h F S ε σ H D rl q').run pins s (I.wish _)) (fun _ _ z=>z.unwish) fun _ _ z=>z.elim
def wpI(X:Cx)(tg iter:Expr):TI:=fun σ H Rr=>Bx (∀ pins s,Inv X pins σ H s→wpAny (model X.prog X.w) X.A (eval iter X.env) (fun v s1=>wpAny (model X.prog X.w) X.A (pyIter v) (PIE X pins σ tg Rr) X.xe s1) X.xe s)
theorem pi_wp{tg iter:Expr}:PI X tg iter (wpI X tg iter):=fun pins s _ _ _ I h=>h.run pins s I
theorem wp_i{tg iter:Expr}{t:TI}(h:PI X tg iter t){σ:St}{H:Hp}{Rr:It→Hp→Prop}(q:t σ H Rr):wpI X tg iter σ H Rr:=⟨fun pins s I=>h pins s σ H Rr I q⟩
def DI(X:Cx)(E:XK)(tg iter:Expr)(d:PEnv→R (List PV)):Prop:=∀ F S ε σ H Rr,Rel X.K F S ε σ H →
 Ok X.K E σ F S H (d ε) (fun pvs _ F' S' H'=>∀ J vs RR,Reps X.K H' F' pvs vs→vs.length≤sizeLine→Walk J vs RR→(∀ S'' F'' H'',Grow (U S') (U S'') F' F'' H' H''→RR H'')→Rr J H')→wpI X tg iter σ H Rr
def loopD(i:Nat)(db:PEnv→R Flw):List PV→PEnv→R Flw
 | [],ε=>.ok .next ε
 | x::xs,ε=>match db (ε.set i (.val x))with
  | .ok .next ε'=>loopD i db xs ε'
  | .ok .cont ε'=>loopD i db xs ε'
  | .ok .brk ε'=>.ok .next ε'
  | r=>r
def dFor(i:Nat)(di:PEnv→R (List PV))(db:PEnv→R Flw):PEnv→R Flw:=fun ε=>(di ε).bind fun xs ε1=>loopD i db xs ε1
theorem ds_for(i:Nat){x:Str}{p:Pos}{iter:Expr}{body:List Stmt}{di:PEnv→R (List PV)}{db:PEnv→R Flw}(hpo:PassesOwn (model X.prog X.w) X.A X.env X.xe)(hc:X.calm=true)(hN:X.N.Nodup)(hi:DI X E (.Name x p) iter di)(hb:DSs X E pin body db)
  (hp:i∉pin:=by decide) (hx:X.N[i]?=some x:=by rfl) (hl:Loc X.env.scope x:=by first | exact Or.inl rfl | exact Or.inr rfl) (hs:∀ x,foldedSetIterable iter X.env x=pure x:=by intro _; rfl)
  (hf:X.fn x=true∨X.env.scope.names.lookup x=some .local:=by first | exact .inl rfl | exact .inr rfl):DS X E pin (.For (.Name x p) iter body [] pos) (dFor i di db):=fun F S ε σ H D rl h=>by
 refine wp_s (ps_for hpo hc pi_wp (pg_name hN hx hl hf) pss_wp hs) (hi F S ε σ H _ rl (h.bindE.imp fun xs ε1 F1 S1 H1 r1 g1 h1 J vs RR rs hz hw keep=>?_))
 refine for_walk hw (fun k σ' H'=>∃ F' S' ε',Rel X.K F' S' ε' σ' H'∧Grow (U S1) (U S') F1 F' H1 H'∧OkS X.K E pin σ' F' S' H' (loopD i db (xs.drop k) ε') D) ⟨F1,S1,ε1,r1,Grow.refl ..,h1⟩ (fun k σ' H' _ ⟨F',S',ε',_,g,_⟩=>keep S' F' H' g) ?_ ?_
 ·rintro k v σ' H' hv ⟨F',S',ε',r',g',q⟩
  obtain⟨x,hx,rx⟩:=rs.back hv
  have hk:k<xs.length:=(List.getElem?_eq_some_iff.mp hx).1
  have ed:xs.drop k=x::xs.drop (k+1):=by
   rw[List.drop_eq_getElem_cons hk]
   congr 1
   exact(List.getElem?_eq_some_iff.mp hx).2
  rw[ed]at q
  have rx':=rx.grow g' r1.fit
  have r2:=r'.set (i:=i) rx'
  have gl:Grow (U S') (U fun j b=>S' j b∧j≠i) F' F' H' H':=Grow.less i
  show wpSs X body _ (σ'.set i (some v)) H'
  refine hb F' _ _ _ H' _ r2 ?_
  unfold loopD at q
  have q:=q.from gl (PinOk.set (x:=some v) hp)
  cases e:db (ε'.set i (.val x))with
  | no=>rw[e]at q; exact q
  | er c ε3=>rw[e]at q; exact q
  | ok f ε3 =>
   rw[e]at q
   cases f with
   | next=>exact fun F3 S3 σ3 H3 r3 g3 p3=>⟨F3,S3,ε3,r3,(g'.trans gl).trans g3,q.from g3 p3⟩
   | cont=>exact fun F3 S3 σ3 H3 r3 g3 p3=>⟨F3,S3,ε3,r3,(g'.trans gl).trans g3,q.from g3 p3⟩
   | brk=>exact q
   | ret s=>exact q
 ·rintro σ' H' ⟨F',S',ε',r',g',q⟩
  have hl:vs.length=xs.length:=rs.len
  rw[hl,List.drop_length]at q
  exact q F' S' σ' H' r' (Grow.refl ..) (PinOk.refl _ _)
def whileD(t:PEnv→R Bool)(db:PEnv→R Flw):Nat→PEnv→R Flw
 | 0,_=>.no
 | n+1,ε=>(t ε).bind fun k ε1=>match k with
  | false=>.ok .next ε1
  | true=>match db ε1 with
   | .ok .next ε'=>whileD t db n ε'
   | .ok .cont ε'=>whileD t db n ε'
   | .ok .brk ε'=>.ok .next ε'
   | r=>r
theorem ds_while{c:Expr}{body:List Stmt}{t:PEnv→R Bool}{db:PEnv→R Flw}(fuel:PEnv→Nat)(hpo:PassesOwn (model X.prog X.w) X.A X.env X.xe)(hc:DT X E c t)(hb:DSs X E pin body db):DS X E pin (.While c body [] pos) (fun ε=>whileD t db (fuel ε) ε):=fun F S ε σ H D rl h=>by
 refine wp_s (ps_while hpo pt_wp pss_wp) ⟨fun m σ' H'=>∃ F' S' ε',Rel X.K F' S' ε' σ' H'∧OkS X.K E pin σ' F' S' H' (whileD t db m ε') D,⟨fuel ε,F,S,ε,rl,h⟩,?_⟩
 rintro m σ1 H1 ⟨F1,S1,ε1,r1,q⟩
 cases m with
 | zero=>exact q.elim
 | succ m =>
  refine hc F1 S1 ε1 σ1 H1 _ r1 (q.bindE.imp fun k ε2 F2 S2 H2 r2 g2 q2=>?_)
  cases k with
  | false=>exact iteF (q2 F2 S2 σ1 H2 r2 (Grow.refl ..) (PinOk.refl _ _))
  | true =>
   refine iteT ⟨fun σ' H'=>∃ F' S' ε',Rel X.K F' S' ε' σ' H'∧OkS X.K E pin σ' F' S' H' (whileD t db m ε') D,fun σ' H' w=>⟨m,Nat.lt_succ_self m,w⟩,hb F2 S2 ε2 σ1 H2 _ r2 ?_⟩
   have q2:OkS X.K E pin σ1 F2 S2 H2 (match db ε2 with
    | .ok .next ε'=>whileD t db m ε'
    | .ok .cont ε'=>whileD t db m ε'
    | .ok .brk ε'=>.ok .next ε'
    | r=>r) D:=q2
   cases e:db ε2 with
   | no=>rw[e]at q2; exact q2
   | er c ε3=>rw[e]at q2; exact q2
   | ok f ε3 =>
    rw[e]at q2
    cases f with
    | next=>exact fun F3 S3 σ3 H3 r3 g3 p3=>⟨F3,S3,ε3,r3,q2.from g3 p3⟩
    | cont=>exact fun F3 S3 σ3 H3 r3 g3 p3=>⟨F3,S3,ε3,r3,q2.from g3 p3⟩
    | brk=>exact q2
    | ret s=>exact q2
end
end Pu
namespace Pu
open PySem PySem.Spec PyProof.Rows L2
def OkG(K:PySem.W.Frag)(E:XK)(vs:List V)(F:Addr→Prop)(S:Nat→Addr→Prop)(H:Hp)(r:R Slot)(Q:VK):Prop:=match r with
 | .ok s ss'=>∀ v F' S' H' Sr,Rel K F' S' ss' (vs.map some) H'→Grow (U S) (fun b=>U S' b∨Sr b) F F' H H'→RepS K H' F' s v Sr→Loose F' S' H' Sr→(∀ b,Sr b→H b=none)→Q v H'
 | .er c ss'=>∀ x F' S' H',Rel K F' S' ss' (vs.map some) H'→Grow (U S) (U S') F F' H H'→E c x H'
 | .no=>False
def spG(K:PySem.W.Frag)(g:PEnv→R Slot):Sp:=fun vs H Q E=>∃ F S ss,Rel K F S ss (vs.map some) H∧OkG K E vs F S H (g ss) Q
structure CalX(CX:CXT)(P:Program)(w:World)(K:PySem.W.Frag)(mg:Str→Option Value)(base:Heap)(x:Str)(k:Nat)(ps:List Str)(sp:Sp):Prop where
 ex:∃ f fd,mg x=some (.ref f)∧FnOk P w K mg base CX k f fd ps sp∧Binds K fd ps []∧PySem.W.keepIn K (.ref f)=true
theorem CalX.mono{CX:CXT}{P:Program}{w:World}{K:PySem.W.Frag}{mg:Str→Option Value}{base:Heap}{x:Str}{j k:Nat}{ps:List Str}{sp:Sp}(c:CalX CX P w K mg base x j ps sp)(h:j≤k):CalX CX P w K mg base x k ps sp:=by
 obtain⟨f,fd,h1,h2,h3,h4⟩:=c.ex
 exact⟨f,fd,h1,h2.mono h,h3,h4⟩
def back:PEnv→PEnv→Option PEnv
 | [],_=>some []
 | .own _::ss,.own po::es=>(back ss es).map (.own po::·)
 | .own _::_,_=>none
 | s::ss,_::es=>(back ss es).map (s::·)
 | _::_,[]=>none
theorem back_get:∀ {ss es ss':PEnv},back ss es=some ss'→ss'.length=ss.length∧∀ (i:Nat) (s:Slot),ss'[i]?=some s→(∃ po po',ss[i]?=some (.own po)∧es[i]?=some (.own po')∧s = .own po')∨(ss[i]?=some s∧∀ po,s≠.own po)
 | [],_,ss',h=>by cases h; exact⟨rfl,fun i s e=>by simp at e⟩
 | .own po::ss,.own po'::es,ss',h=>by
  unfold back at h
  cases e:back ss es with
  | none=>rw[e]at h; cases h
  | some r =>
   rw[e]at h; cases h
   obtain⟨l,q⟩:=back_get e
   refine⟨by simp[l],fun i s hi=>?_⟩
   cases i with
   | zero=>simp at hi; subst hi; exact .inl ⟨po,po',rfl,rfl,rfl⟩
   | succ i=>simpa using q i s (by simpa using hi)
 | .own po::ss,.none::es,ss',h=>by cases h
 | .own po::ss,.val _::es,ss',h=>by cases h
 | .own po::ss,[],ss',h=>by cases h
 | .none::ss,[],ss',h=>by cases h
 | .val _::ss,[],ss',h=>by cases h
 | .none::ss,x::es,ss',h=>by
  have h:(back ss es).map (Slot.none::·)=some ss':=by unfold back at h; cases x <;> exact h
  cases e:back ss es with
  | none=>rw[e]at h; cases h
  | some r =>
   rw[e]at h; cases h
   obtain⟨l,q⟩:=back_get e
   refine⟨by simp[l],fun i s hi=>?_⟩
   cases i with
   | zero=>simp at hi; subst hi; exact .inr ⟨rfl,fun _ z=>by cases z⟩
   | succ i=>simpa using q i s (by simpa using hi)
 | .val pv::ss,x::es,ss',h=>by
  have h:(back ss es).map (Slot.val pv::·)=some ss':=by unfold back at h; cases x <;> exact h
  cases e:back ss es with
  | none=>rw[e]at h; cases h
  | some r =>
   rw[e]at h; cases h
   obtain⟨l,q⟩:=back_get e
   refine⟨by simp[l],fun i s hi=>?_⟩
   cases i with
   | zero=>simp at hi; subst hi; exact .inr ⟨rfl,fun _ z=>by cases z⟩
   | succ i=>simpa using q i s (by simpa using hi)
def fnD(n:Nat)(d:PEnv→R Flw):PEnv→R Slot:=fun ss=>match d (ss++List.replicate n .none)with
 | .ok (.ret r) ε'=>(lift (back ss ε') []).bind fun ss' _=>.ok r ss'
 | .ok .next ε'=>(lift (back ss ε') []).bind fun ss' _=>.ok (.val .non) ss'
 | .er c ε'=>(lift (back ss ε') []).bind fun ss' _=>.er c ss'
 | _=>.no
section
variable{K:PySem.W.Frag}{F F':Addr→Prop}{S S':Nat→Addr→Prop}{ss ε' ss':PEnv}{σ':St}{H H':Hp}{vs:List V}
theorem Rel.start(r:Rel K F S ss (vs.map some) H)(n:Nat):Rel K F S (ss++List.replicate n .none) (vs.map some++List.replicate n none) H:=by
 have hl:ss.length=(vs.map some).length:=r.len
 have no:∀ {j:Nat} {s:Slot},(ss++List.replicate n Slot.none)[j]?=some s→s≠.none→ss[j]?=some s:=fun {j s} e hs=>by
  by_cases hj:j<ss.length
  ·rw[List.getElem?_append_left hj]at e; exact e
  ·rw[List.getElem?_append_right (by ac_rfl),List.getElem?_replicate]at e
   split at e
   ·exact absurd (Option.some.inj e).symm hs
   ·cases e
 have up:∀ {j:Nat} {v:Option V},(vs.map some)[j]?=some v→(vs.map some++List.replicate n none)[j]?=some v:=fun {j v} e=>by
  rw[List.getElem?_append_left (List.getElem?_eq_some_iff.mp e).1]; exact e
 refine⟨by simp[hl],r.ex,fun j pv e=>?_,fun j po e=>?_,fun j b h=>?_,r.dist⟩
 ·obtain⟨v,h1,h2⟩:=r.val j pv (no e (by intro z; cases z)); exact⟨v,up h1,h2⟩
 ·obtain⟨v,h1,h2⟩:=r.own j po (no e (by intro z; cases z)); exact⟨v,up h1,h2⟩
 ·obtain⟨⟨po,q⟩,q2⟩:=r.foot j b h
  exact⟨⟨po,by rw[List.getElem?_append_left (List.getElem?_eq_some_iff.mp q).1]; exact q⟩,q2⟩
theorem own_at{po:PO}{a:Addr}{Sa:Addr→Prop}(h:Own K H F po a Sa)(hf:flatO po=true):∀ b,Sa b↔b=a:=by
 cases po with
 | lst xs=>exact h.2
 | dK kvs=>exact h.2
 | lls xss=>cases hf
 | ins C fs=>exact h.2
theorem own_self{po:PO}{a:Addr}{Sa:Addr→Prop}(h:Own K H F po a Sa):Sa a:=by
 cases po with
 | lst xs=>exact(h.2 a).mpr rfl
 | dK kvs=>exact(h.2 a).mpr rfl
 | lls xss=>obtain⟨as,_,_,_,_,w⟩:=h; exact(w a).mpr (.inl rfl)
 | ins C fs=>exact(h.2 a).mpr rfl
theorem Rel.back{O':Addr→Prop}{pin:List Nat}{n:Nat}(r0:Rel K F S ss (vs.map some) H)(r:Rel K F' S' ε' σ' H')(g:Grow (U S) O' F F' H H')(p:PinOk pin (vs.map some++List.replicate n none) σ')(hown:∀ (i:Nat) (po:PO),ss[i]?=some (.own po)→i∈pin∧flatO po=true)(hb:back ss ε'=some ss') :
  ∃ S'',Rel K F' S'' ss' (vs.map some) H'∧(∀ b,U S'' b→U S' b)∧∀ b,U S b→U S'' b:=by
 obtain⟨hl,hg⟩:=back_get hb
 have inj:∀ (i:Nat) (po:PO),ss[i]?=some (.own po)→∃ a,(vs.map some)[i]?=some (some (.ref a))∧σ'[i]?=some (some (.ref a))∧Own K H F po a (S i):=fun i po e=>by
  obtain⟨a,h1,h2⟩:=r0.own i po e
  refine⟨a,h1,?_,h2⟩
  rw[p i (hown i po e).1,List.getElem?_append_left (List.getElem?_eq_some_iff.mp h1).1]; exact h1
 have bk:∀ (i:Nat) (po:PO),ss[i]?=some (.own po)→∃ po',ss'[i]?=some (.own po')∧ε'[i]?=some (.own po'):=fun i po e=>by
  have hi:i<ss'.length:=by rw[hl]; exact(List.getElem?_eq_some_iff.mp e).1
  rcases hg i ss'[i] (by simp[hi])with⟨p1,p2,q1,q2,q3⟩ | ⟨q1,q2⟩
  ·exact⟨p2,by rw[List.getElem?_eq_getElem hi,q3],q2⟩
  ·rw[e]at q1; exact absurd (Option.some.inj q1).symm (q2 po)
 refine⟨fun i b=>S' i b∧∃ po,ss[i]?=some (.own po),⟨by rw[hl]; exact r0.len,r.ex,fun i pv e=>?_,fun i po e=>?_,fun i b h=>?_,fun i j b h1 h2=>r.dist i j b h1.1 h2.1⟩,fun b ⟨i,h⟩=>⟨i,h.1⟩,fun b ⟨i,h⟩=>?_⟩
 ·rcases hg i _ e with⟨_,_,_,_,z⟩ | ⟨q1,_⟩
  ·cases z
  ·obtain⟨v,h1,h2⟩:=r0.val i pv q1
   exact⟨v,h1,h2.grow g r0.fit⟩
 ·rcases hg i _ e with⟨p1,p2,q1,q2,q3⟩ | ⟨_,q2⟩
  ·cases q3
   obtain⟨a,h1,h2,h3⟩:=inj i p1 q1
   obtain⟨a',h4,h5⟩:=r.own i po q2
   rw[h2]at h4
   cases h4
   refine⟨a,h1,?_⟩
   have eS:(fun b=>S' i b∧∃ po,ss[i]?=some (.own po))=S' i:=by funext b; exact propext ⟨fun z=>z.1,fun z=>⟨z,p1,q1⟩⟩
   rw[eS]; exact h5
  ·exact absurd rfl (q2 po)
 ·obtain⟨po,q⟩:=h.2
  obtain⟨po',z1,z2⟩:=bk i po q
  exact⟨⟨po',z1⟩,(r.foot i b h.1).2⟩
 ·obtain⟨⟨po,q⟩,_⟩:=r0.foot i b h
  obtain⟨a,h1,h2,h3⟩:=inj i po q
  obtain⟨po',z1,z2⟩:=bk i po q
  obtain⟨a',h4,h5⟩:=r.own i po' z2
  rw[h2]at h4
  cases h4
  have e:b=a:=(own_at h3 (hown i po q).2 b).mp h
  exact⟨i,e ▸ own_self h5,po,q⟩
end
theorem fnok_of{f:Addr}{fd:FuncData}{CX:CXT}{P:Program}{w:World}{K:PySem.W.Frag}{mg:Str→Option Value}{base:Heap}{x qual:Str}{st:Stmt}{N ps:List Str}{k n:Nat}{g:PEnv→R Slot}{d:PEnv→R Flw}{pin:List Nat}(Fn:Fun K x qual st f fd)(Sc:FnScope N ps (defScope st))(hn:N.length=ps.length+n)
  (hb:∀ (kV doc pm:Value) (an:Option Addr) (cdv ct:Value) (us:List Value),us.length=ps.length→bindArgs (PySem.W.fnOf x qual (defArgs st) (defBody st) (defScope st) .none kV doc pm an cdv ct) ⟨us,[]⟩=pure (ps.zip us))
  (hlen:∀ ss,g ss≠.no→ss.length=ps.length) (hown:∀ ss,g ss≠.no→∀ (i:Nat) po,ss[i]?=some (.own po)→i∈pin∧flatO po=true) (hg:∀ ss,g ss≠.no→fnD n d ss=g ss)
  (hbody:∀ (f:Addr) (cdv:Value) (A:Around) (outer:List Env) (s:Shared) (H:Hp) (E:XK),Room k (A.deeper (envOfC qual (defScope st) s.heap.objs.size f cdv))→DSs (cxOf CX P w K mg base N qual (defScope st) f cdv A outer s H E) E pin (defBody st) d) :
  FnOk P w K mg base CX (k+1) f fd ps (spG K g):=by
 obtain⟨oc,od,kV,doc,pm,an,cdv,ct,osl,rfl,lk,hcd⟩:=Fn.ex
 have ne:∀ {E:XK} {vs:List V} {F:Addr→Prop} {S:Nat→Addr→Prop} {H:Hp} {ss:PEnv} {Q:VK},OkG K E vs F S H (g ss) Q→g ss≠.no:=fun {E vs F S H ss Q} h z=>by rw[z]at h; exact h
 refine fn_of lk hcd Sc (fun vs H Q E ⟨F,S,ss,rl,ok⟩=>?_) fun A outer s H vs Q E hr hsp=>?_
 ·have:=hlen ss (ne ok)
  have h2:=rl.len
  rw[List.length_map]at h2
  ac_rfl
 ·obtain⟨F,S,ss,rl,ok⟩:=hsp
  refine⟨_,pss_wp,?_⟩
  have hl:=hlen ss (ne ok)
  have h2:=rl.len
  rw[List.length_map]at h2
  have es:L2.start N vs=vs.map some++List.replicate n none:=by
   unfold L2.start
   rw[show N.length-vs.length=n by ac_rfl]
  rw[es]
  refine hbody f cdv A outer s H E hr F S _ _ H _ (rl.start n) ?_
  have hown':=hown ss (ne ok)
  have hg':=hg ss (ne ok)
  rw[← hg']at ok
  unfold fnD at ok
  generalize d (ss++List.replicate n .none)=r at ok ⊢
  cases r with
  | no=>exact ok
  | er c ε' =>
   intro x F' S' σ' H' r' g' p'
   have ok:OkG K E vs F S H ((lift (back ss ε') []).bind fun ss' _=>.er c ss') Q:=ok
   cases e:back ss ε' with
   | none=>rw[e]at ok; exact ok.elim
   | some ss' =>
    rw[e]at ok
    obtain⟨S'',r'',sub,_⟩:=rl.back r' g' p' hown' e
    exact ok x F' S'' H' r'' ⟨g'.fro,g'.keep,g'.there,g'.fnew,fun b z=>g'.onew b (sub b z)⟩
  | ok fl ε' =>
   have fin:∀ (rs:Slot),OkG K E vs F S H ((lift (back ss ε') []).bind fun ss' _=>.ok rs ss') Q→∀ (v:V) F' S' σ' H' Sr,Rel K F' S' ε' σ' H'→Grow (U S) (fun b=>U S' b∨Sr b) F F' H H'→PinOk pin (vs.map some++List.replicate n none) σ'→RepS K H' F' rs v Sr→Loose F' S' H' Sr→Q v H':=by
    intro rs ok v F' S' σ' H' Sr r' g' p' hv lo
    cases e:back ss ε' with
    | none=>rw[e]at ok; exact ok.elim
    | some ss' =>
     rw[e]at ok
     obtain⟨S'',r'',sub,up⟩:=rl.back r' g' p' hown' e
     refine ok v F' S'' H' Sr r'' ⟨g'.fro,g'.keep,g'.there,g'.fnew,fun b z=>g'.onew b (z.imp (sub b) id)⟩ hv (fun b z=>⟨(lo b z).1,fun w=>(lo b z).2.1 (sub b w),(lo b z).2.2⟩) fun b z=>?_
     rcases g'.onew b (.inr z)with w | w
     ·exact absurd (sub b (up b w)) (lo b z).2.1
     ·exact w
   cases fl with
   | brk=>exact ok.elim
   | cont=>exact ok.elim
   | ret rs=>exact fin rs ok
   | next =>
    exact fun F' S' σ' H' r' g' p'=>fin (.val .non) ok .non F' S' σ' H' (fun _=>False) r' ⟨g'.fro,g'.keep,g'.there,g'.fnew,fun b z=>z.elim (g'.onew b) False.elim⟩ p' ⟨rfl,fun _ z=>z⟩ fun _ z=>z.elim
theorem cal_of{CX:CXT}{P:Program}{w:World}{K:PySem.W.Frag}{mg:Str→Option Value}{base:Heap}{x:Str}{st:Stmt}{N ps:List Str}{k n:Nat}{g:PEnv→R Slot}{d:PEnv→R Flw}{pin:List Nat}(D:Def K mg x st)(Sc:FnScope N ps (defScope st))(hn:N.length=ps.length+n)
  (hb:∀ (kV doc pm:Value) (an:Option Addr) (cdv ct:Value) (us:List Value),us.length=ps.length→bindArgs (PySem.W.fnOf x x (defArgs st) (defBody st) (defScope st) .none kV doc pm an cdv ct) ⟨us,[]⟩=pure (ps.zip us))
  (hlen:∀ ss,g ss≠.no→ss.length=ps.length) (hown:∀ ss,g ss≠.no→∀ (i:Nat) po,ss[i]?=some (.own po)→i∈pin∧flatO po=true) (hg:∀ ss,g ss≠.no→fnD n d ss=g ss)
  (hbody:∀ (f:Addr) (cdv:Value) (A:Around) (outer:List Env) (s:Shared) (H:Hp) (E:XK),Room k (A.deeper (envOfC x (defScope st) s.heap.objs.size f cdv))→DSs (cxOf CX P w K mg base N x (defScope st) f cdv A outer s H E) E pin (defBody st) d) :
  CalX CX P w K mg base x (k+1) ps (spG K g):=by
 obtain⟨f,fd,hm,Fn⟩:=D.ex
 exact⟨f,fd,hm,fnok_of Fn Sc hn hb hlen hown hg hbody,Fn.binds hb,Fn.kp⟩
end Pu
namespace Pu
open PySem PySem.Spec PyProof.Rows L2
noncomputable abbrev ASlot:=Sum PV Nat
def ArgsOk(K:PySem.W.Frag)(σ:St)(F:Addr→Prop)(H:Hp):List ASlot→List V→Prop
 | [],vs=>vs=[]
 | .inl pv::as,vs=>∃ v r,vs=v::r∧Rep K H F pv v∧ArgsOk K σ F H as r
 | .inr i::as,vs=>∃ v r,vs=v::r∧σ[i]?=some (some v)∧ArgsOk K σ F H as r
def DG(X:Cx)(E:XK)(es:List Expr)(d:PEnv→R (List ASlot)):Prop :=
 ∀ F S ε σ H Q,Rel X.K F S ε σ H→Ok X.K E σ F S H (d ε) (fun as _ F' _ H'=>∀ vs,ArgsOk X.K σ F' H' as vs→Q vs H')→wpA X es σ H Q
section
variable{X:Cx}{E:XK}{e:Expr}{es:List Expr}{de:PEnv→R PV}{dg:PEnv→R (List ASlot)}{pos:Pos}
def gNil:PEnv→R (List ASlot):=fun ε=>.ok [] ε
def gV(d:PEnv→R PV)(dg:PEnv→R (List ASlot)):PEnv→R (List ASlot):=fun ε=>(d ε).bind fun x ε1=>(dg ε1).bind fun xs ε2=>.ok (.inl x::xs) ε2
def gO(i:Nat)(dg:PEnv→R (List ASlot)):PEnv→R (List ASlot):=fun ε=>match ε[i]? with
 | some (.own _)=>(dg ε).bind fun xs ε2=>.ok (.inr i::xs) ε2
 | _=>.no
theorem dg_nil:DG X E [] gNil:=fun F S ε σ H Q rl h=>wp_a pa_nil (h F S H rl (Grow.refl ..) _ rfl)
theorem dg_v(ha:DE X E e de)(hr:DG X E es dg)(hs:starEach (e::es) X.env=(false,eval e X.env)::starEach es X.env:=by rfl):DG X E (e::es) (gV de dg):=fun F S ε σ H Q rl h=>by
 refine wp_a (pa_cons pe_wp pa_wp hs) (ha F S ε σ H _ rl ((Ok.bind h).imp fun x ε1 F1 S1 H1 r1 g1 h1 v rv=>?_))
 refine hr F1 S1 ε1 σ H1 _ r1 ((Ok.bind h1).imp fun xs ε2 F2 S2 H2 r2 g2 h2 vs rvs=>?_)
 exact h2 F2 S2 H2 r2 (Grow.refl ..) _ ⟨v,vs,rfl,rv.grow g2 r1.fit,rvs⟩
theorem dg_o(i:Nat){x:Str}{p:Pos}(hr:DG X E es dg)(hN:X.N[i]?=some x:=by rfl)(hv:Vis X.env.scope x:=by first | exact Or.inl rfl | exact Or.inr (Or.inl rfl) | exact Or.inr (Or.inr rfl))(hd:(x == ("__debug__" : Str))=false:=by decide)
  (hcd:(x == ("__classdict__" : Str))=false:=by decide) (hs:starEach (.Name x p::es) X.env=(false,eval (.Name x p) X.env)::starEach es X.env:=by rfl):DG X E (.Name x p::es) (gO i dg):=fun F S ε σ H Q rl h=>by
 unfold gO at h
 split at h
 ·rename_i po e
  obtain⟨a,e1,_⟩:=rl.own i po e
  refine wp_a (pa_cons (pe_var hN hv hd hcd) pa_wp hs) ⟨_,e1,hr F S ε σ H _ rl ((Ok.bind h).imp fun xs ε2 F2 S2 H2 r2 g2 h2 vs rvs=>?_)⟩
  exact h2 F2 S2 H2 r2 (Grow.refl ..) _ ⟨_,vs,rfl,e1,rvs⟩
 ·exact h.elim
end
def argS(ε:PEnv):List ASlot→Option PEnv
 | []=>some []
 | .inl pv::as=>(argS ε as).map (.val pv::·)
 | .inr i::as=>match ε[i]? with
  | some (.own po)=>(argS ε as).map (.own po::·)
  | _=>none
def putS:PEnv→List ASlot→PEnv→PEnv
 | ε,.inl _::as,_::ss=>putS ε as ss
 | ε,.inr i::as,s::ss=>putS (ε.set i s) as ss
 | ε,_,_=>ε
def owns:List ASlot→List Nat
 | []=>[]
 | .inl _::as=>owns as
 | .inr i::as=>i::owns as
theorem owns_mem:∀ {as:List ASlot} {i:Nat},i∈owns as↔∃ k:Nat,as[k]?=some (.inr i)
 | [],i=>by simp[owns]
 | .inl _::as,i=>by
  unfold owns
  rw[owns_mem]
  constructor
  ·rintro⟨k,h⟩; exact⟨k+1,by simpa using h⟩
  ·rintro⟨k,h⟩
   cases k with
   | zero=>simp at h
   | succ k=>exact⟨k,by simpa using h⟩
 | .inr j::as,i=>by
  unfold owns
  rw[List.mem_cons,owns_mem]
  constructor
  ·rintro(rfl | ⟨k,h⟩)
   ·exact⟨0,rfl⟩
   ·exact⟨k+1,by simpa using h⟩
  ·rintro⟨k,h⟩
   cases k with
   | zero=>simp at h; exact .inl h.symm
   | succ k=>exact .inr ⟨k,by simpa using h⟩
theorem argS_get{ε:PEnv}:∀ {as:List ASlot} {ss:PEnv},argS ε as=some ss→ss.length=as.length∧∀ (k:Nat) (s:Slot),ss[k]?=some s→(∃ pv,as[k]?=some (.inl pv)∧s = .val pv)∨∃ i po,as[k]?=some (.inr i)∧ε[i]?=some (.own po)∧s = .own po
 | [],ss,h=>by cases h; exact⟨rfl,fun k s e=>by simp at e⟩
 | .inl pv::as,ss,h=>by
  unfold argS at h
  cases e:argS ε as with
  | none=>rw[e]at h; cases h
  | some r =>
   rw[e]at h; cases h
   obtain⟨l,q⟩:=argS_get e
   refine⟨by simp[l],fun k s hk=>?_⟩
   cases k with
   | zero=>simp at hk; exact .inl ⟨pv,rfl,hk.symm⟩
   | succ k=>simpa using q k s (by simpa using hk)
 | .inr i::as,ss,h=>by
  unfold argS at h
  split at h
  ·rename_i po ei
   cases e:argS ε as with
   | none=>rw[e]at h; cases h
   | some r =>
    rw[e]at h; cases h
    obtain⟨l,q⟩:=argS_get e
    refine⟨by simp[l],fun k s hk=>?_⟩
    cases k with
    | zero=>simp at hk; exact .inr ⟨i,po,rfl,ei,hk.symm⟩
    | succ k=>simpa using q k s (by simpa using hk)
  ·cases h
theorem putS_len:∀ (as:List ASlot) (ε ss:PEnv),(putS ε as ss).length=ε.length
 | [],ε,ss=>by cases ss <;> rfl
 | .inl _::as,ε,[]=>rfl
 | .inr _::as,ε,[]=>rfl
 | .inl _::as,ε,s::ss=>putS_len as ε ss
 | .inr i::as,ε,s::ss=>by show(putS (ε.set i s) as ss).length=_; rw[putS_len,List.length_set]
theorem putS_other:∀ (as:List ASlot) (ε ss:PEnv) (j:Nat),j∉owns as→(putS ε as ss)[j]?=ε[j]?
 | [],ε,ss,j,_=>by cases ss <;> rfl
 | .inl _::as,ε,[],j,_=>rfl
 | .inr _::as,ε,[],j,_=>rfl
 | .inl _::as,ε,s::ss,j,h=>putS_other as ε ss j h
 | .inr i::as,ε,s::ss,j,h=>by
  have h1:¬ (j=i∨j∈owns as):=by simpa[owns]using h
  show(putS (ε.set i s) as ss)[j]?=_
  rw[putS_other as _ ss j fun z=>h1 (.inr z),List.getElem?_set_ne fun z=>h1 (.inl z.symm)]
theorem putS_own:∀ (as:List ASlot) (ε ss:PEnv) (j k:Nat) (s:Slot),(owns as).Nodup→j<ε.length→as[k]?=some (.inr j)→ss[k]?=some s→(putS ε as ss)[j]?=some s
 | [],ε,ss,j,k,s,_,_,h,_=>by simp at h
 | _::as,ε,[],j,k,s,_,_,_,h=>by simp at h
 | .inl _::as,ε,t::ss,j,0,s,_,_,h,_=>by simp at h
 | .inl _::as,ε,t::ss,j,k+1,s,nd,hj,h,g=>putS_own as ε ss j k s nd hj (by simpa using h) (by simpa using g)
 | .inr i::as,ε,t::ss,j,0,s,nd,hj,h,g=>by
  simp at h g
  subst h g
  have nd':i∉owns as:=(List.nodup_cons.mp nd).1
  show(putS (ε.set i t) as ss)[i]?=_
  rw[putS_other as _ ss i nd',List.getElem?_set_self hj]
 | .inr i::as,ε,t::ss,j,k+1,s,nd,hj,h,g =>
  putS_own as (ε.set i t) ss j k s (List.nodup_cons.mp nd).2 (by rw[List.length_set]; exact hj) (by simpa using h) (by simpa using g)
theorem ArgsOk.len{K:PySem.W.Frag}{σ:St}{F:Addr→Prop}{H:Hp}:∀ {as:List ASlot} {vs:List V},ArgsOk K σ F H as vs→vs.length=as.length
 | [],_,h=>by rw[show _=[] from h]; rfl
 | .inl _::as,_,⟨v,r,e,_,h⟩=>by rw[e,List.length_cons,List.length_cons,ArgsOk.len h]
 | .inr _::as,_,⟨v,r,e,_,h⟩=>by rw[e,List.length_cons,List.length_cons,ArgsOk.len h]
theorem ArgsOk.val{K:PySem.W.Frag}{σ:St}{F:Addr→Prop}{H:Hp}:∀ {as:List ASlot} {vs:List V} {k:Nat} {pv:PV},ArgsOk K σ F H as vs→as[k]?=some (.inl pv)→∃ v,vs[k]?=some v∧Rep K H F pv v
 | [],_,k,_,_,e=>by simp at e
 | .inl x::as,_,0,pv,⟨v,r,e,h,_⟩,q=>by simp at q; subst q e; exact⟨v,rfl,h⟩
 | .inr _::as,_,0,pv,_,q=>by simp at q
 | .inl x::as,_,k+1,pv,⟨v,r,e,_,h⟩,q=>by
  obtain⟨w,a,b⟩:=ArgsOk.val (k:=k) h (by simpa using q); subst e; exact⟨w,by simpa using a,b⟩
 | .inr x::as,_,k+1,pv,⟨v,r,e,_,h⟩,q=>by
  obtain⟨w,a,b⟩:=ArgsOk.val (k:=k) h (by simpa using q); subst e; exact⟨w,by simpa using a,b⟩
theorem ArgsOk.own{K:PySem.W.Frag}{σ:St}{F:Addr→Prop}{H:Hp}:∀ {as:List ASlot} {vs:List V} {k i:Nat},ArgsOk K σ F H as vs→as[k]?=some (.inr i)→∃ v,vs[k]?=some v∧σ[i]?=some (some v)
 | [],_,k,_,_,e=>by simp at e
 | .inr x::as,_,0,pv,⟨v,r,e,h,_⟩,q=>by simp at q; subst q e; exact⟨v,rfl,h⟩
 | .inl _::as,_,0,pv,_,q=>by simp at q
 | .inl x::as,_,k+1,pv,⟨v,r,e,_,h⟩,q=>by
  obtain⟨w,a,b⟩:=ArgsOk.own (k:=k) h (by simpa using q); subst e; exact⟨w,by simpa using a,b⟩
 | .inr x::as,_,k+1,pv,⟨v,r,e,_,h⟩,q=>by
  obtain⟨w,a,b⟩:=ArgsOk.own (k:=k) h (by simpa using q); subst e; exact⟨w,by simpa using a,b⟩
section
variable{K:PySem.W.Frag}{F F':Addr→Prop}{S S':Nat→Addr→Prop}{ε ss ss':PEnv}{σ:St}{H H':Hp}{as:List ASlot}{vs:List V}
def calS(as:List ASlot)(S:Nat→Addr→Prop)(k:Nat)(b:Addr):Prop:=∃ i,as[k]?=some (.inr i)∧S i b
theorem calS_sub(b:Addr)(h:U (calS as S) b):U S b:=let ⟨_,i,_,h⟩:=h; ⟨i,h⟩
theorem nodup_own:∀ {as:List ASlot} {i k l:Nat},(owns as).Nodup→as[k]?=some (.inr i)→as[l]?=some (.inr i)→k=l
 | [],_,_,_,_,h,_=>by simp at h
 | .inl _::as,i,0,_,_,h,_=>by simp at h
 | .inl _::as,i,_,0,_,_,h=>by simp at h
 | .inl _::as,i,k+1,l+1,nd,h1,h2=>by rw[nodup_own (as:=as) (i:=i) (k:=k) (l:=l) nd (by simpa using h1) (by simpa using h2)]
 | .inr j::as,i,0,0,_,_,_=>rfl
 | .inr j::as,i,0,l+1,nd,h1,h2=>by
  simp at h1; subst h1
  exact absurd (owns_mem.mpr ⟨l,by simpa using h2⟩) (List.nodup_cons.mp nd).1
 | .inr j::as,i,k+1,0,nd,h1,h2=>by
  simp at h2; subst h2
  exact absurd (owns_mem.mpr ⟨k,by simpa using h1⟩) (List.nodup_cons.mp nd).1
 | .inr j::as,i,k+1,l+1,nd,h1,h2=>by rw[nodup_own (as:=as) (i:=i) (k:=k) (l:=l) (List.nodup_cons.mp nd).2 (by simpa using h1) (by simpa using h2)]
theorem Rel.cal(r:Rel K F S ε σ H)(ha:ArgsOk K σ F H as vs)(hs:argS ε as=some ss)(nd:(owns as).Nodup):Rel K F (calS as S) ss (vs.map some) H:=by
 obtain⟨hl,hg⟩:=argS_get hs
 have up:∀ {k:Nat} {v:V},vs[k]?=some v→(vs.map some)[k]?=some (some v):=fun {k v} e=>by rw[List.getElem?_map,e]; rfl
 refine⟨by rw[hl,List.length_map,ha.len],r.ex,fun k pv e=>?_,fun k po e=>?_,fun k b h=>?_,fun k l b h1 h2=>?_⟩
 ·rcases hg k _ e with⟨p,q1,q2⟩ | ⟨_,_,_,_,z⟩
  ·cases q2
   obtain⟨v,a1,a2⟩:=ha.val q1
   exact⟨v,up a1,a2⟩
  ·cases z
 ·rcases hg k _ e with⟨_,_,z⟩ | ⟨i,p,q1,q2,q3⟩
  ·cases z
  ·cases q3
   obtain⟨v,a1,a2⟩:=ha.own q1
   obtain⟨a,b1,b2⟩:=r.own i po q2
   rw[a2]at b1
   cases b1
   have eS:calS as S k=S i:=by
    funext b
    exact propext ⟨fun⟨j,h1,h2⟩=>by rw[q1]at h1; cases h1; exact h2,fun h=>⟨i,q1,h⟩⟩
   exact⟨a,up a1,by rw[eS]; exact b2⟩
 ·obtain⟨i,h1,h2⟩:=h
  obtain⟨⟨po,q⟩,q2⟩:=r.foot i b h2
  have hk:k<ss.length:=by rw[hl]; exact(List.getElem?_eq_some_iff.mp h1).1
  refine⟨?_,q2⟩
  rcases hg k ss[k] (by simp[hk])with⟨_,z,_⟩ | ⟨j,p,z1,z2,z3⟩
  ·rw[h1]at z; cases z
  ·exact⟨p,by rw[List.getElem?_eq_getElem hk,z3]⟩
 ·obtain⟨i,a1,a2⟩:=h1
  obtain⟨j,b1,b2⟩:=h2
  have:=r.dist i j b a2 b2
  subst this
  exact nodup_own nd a1 b1
theorem Rel.called{O':Addr→Prop}(r:Rel K F S ε σ H)(ha:ArgsOk K σ F H as vs)(hs:argS ε as=some ss)(nd:(owns as).Nodup)(r':Rel K F' S' ss' (vs.map some) H')(g:Grow (U (calS as S)) O' F F' H H')(hO:∀ b,U S' b→O' b)
  (hso:∀ (k:Nat) i,as[k]?=some (.inr i)→∃ po,ss'[k]?=some (.own po)) :
  ∃ S2,Rel K F' S2 (putS ε as ss') σ H'∧Grow (U S) (U S2) F F' H H'∧∀ b,U S2 b→U S' b∨U S b:=by
 have up:∀ {k:Nat} {v:V},(vs.map some)[k]?=some (some v)→vs[k]?=some v:=fun {k v} e=>by
  rw[List.getElem?_map]at e
  cases q:vs[k]? with
  | none=>rw[q]at e; cases e
  | some x=>rw[q]at e; cases e; rfl
 have fit:Fit (U (calS as S)) F H:=fun b h=>r.fit b (calS_sub b h)
 have slen:∀ i po,ε[i]?=some (.own po)→i<ε.length:=fun i po e=>(List.getElem?_eq_some_iff.mp e).1
 have lt:∀ (k:Nat) i,as[k]?=some (.inr i)→i<ε.length:=fun k i e=>by
  obtain⟨hl,hg⟩:=argS_get hs
  have hk:k<ss.length:=by rw[hl]; exact(List.getElem?_eq_some_iff.mp e).1
  rcases hg k ss[k] (by simp[hk])with⟨_,z,_⟩ | ⟨j,p,z1,z2,z3⟩
  ·rw[e]at z; cases z
  ·rw[e]at z1; cases z1; exact slen _ _ z2
 refine⟨fun j b=>(∃ k:Nat,as[k]?=some (.inr j)∧S' k b)∨(j∉owns as∧S j b),⟨by rw[putS_len]; exact r.len,r'.ex,fun j pv e=>?_,fun j po e=>?_,fun j b h=>?_,fun i j b h1 h2=>?_⟩,⟨g.fro,fun b o e n=>g.keep b o e fun z=>n (calS_sub b z),g.there,fun a z=>(g.fnew a z).imp id fun w=>w.imp id (calS_sub a),fun b ⟨j,z⟩=>?_⟩,fun b ⟨j,z⟩=>?_⟩
 ·by_cases hj:j∈owns as
  ·obtain⟨k,hk⟩:=owns_mem.mp hj
   obtain⟨po,q⟩:=hso k j hk
   rw[putS_own as ε ss' j k _ nd (lt k j hk) hk q]at e
   cases e
  ·rw[putS_other as ε ss' j hj]at e
   obtain⟨v,h1,h2⟩:=r.val j pv e
   exact⟨v,h1,h2.grow g fit⟩
 ·by_cases hj:j∈owns as
  ·obtain⟨k,hk⟩:=owns_mem.mp hj
   obtain⟨po',q⟩:=hso k j hk
   rw[putS_own as ε ss' j k _ nd (lt k j hk) hk q]at e
   cases e
   obtain⟨a,h1,h2⟩:=r'.own k po q
   obtain⟨v,a1,a2⟩:=ha.own hk
   rw[up h1]at a1
   cases a1
   have eS:(fun b=>(∃ k:Nat,as[k]?=some (.inr j)∧S' k b)∨(j∉owns as∧S j b))=S' k:=by
    funext b
    refine propext ⟨fun z=>?_,fun z=>.inl ⟨k,hk,z⟩⟩
    rcases z with⟨l,z1,z2⟩ | ⟨z,_⟩
    ·rw[nodup_own nd hk z1]; exact z2
    ·exact absurd hj z
   exact⟨a,a2,by rw[eS]; exact h2⟩
  ·rw[putS_other as ε ss' j hj]at e
   obtain⟨a,h1,h2⟩:=r.own j po e
   have eS:(fun b=>(∃ k:Nat,as[k]?=some (.inr j)∧S' k b)∨(j∉owns as∧S j b))=S j:=by
    funext b
    refine propext ⟨fun z=>?_,fun z=>.inr ⟨hj,z⟩⟩
    rcases z with⟨l,z1,z2⟩ | ⟨_,z⟩
    ·exact absurd (owns_mem.mpr ⟨l,z1⟩) hj
    ·exact z
   have h3:Own K H' F' po a (S j):=by
    refine h2.mono (fun _ _ q=>q.grow g fit) (fun _ _ q=>q.grow g fit) fun b o z q=>g.keep b o q fun⟨l,i,w1,w2⟩=>?_
    have:=r.dist i j b w2 z
    subst this
    exact hj (owns_mem.mpr ⟨l,w1⟩)
   exact⟨a,h1,by rw[eS]; exact h3⟩
 ·rcases h with⟨k,h1,h2⟩ | ⟨h1,h2⟩
  ·obtain⟨⟨po,q⟩,q2⟩:=r'.foot k b h2
   exact⟨⟨po,putS_own as ε ss' j k _ nd (lt k j h1) h1 q⟩,q2⟩
  ·obtain⟨⟨po,q⟩,q2,o,q3,q4⟩:=r.foot j b h2
   have no:¬ U (calS as S) b:=fun⟨l,i,w1,w2⟩=>by
    have:=r.dist i j b w2 h2
    subst this
    exact h1 (owns_mem.mpr ⟨l,w1⟩)
   refine⟨⟨po,by rw[putS_other as ε ss' j h1]; exact q⟩,fun z=>?_,o,g.keep b o q3 no,q4⟩
   rcases g.fnew b z with w | w | w
   ·exact q2 w
   ·rw[q3]at w; cases w
   ·exact no w
 ·have cross:∀ {i j:Nat} {b:Addr},(∃ k:Nat,as[k]?=some (.inr i)∧S' k b)→(j∉owns as∧S j b)→False:=fun {i j b} ⟨k,w1,w2⟩ ⟨w3,w4⟩=>by
   obtain⟨_,_,o,q3,_⟩:=r.foot j b w4
   rcases g.onew b (hO b ⟨k,w2⟩)with⟨l,i',z1,z2⟩ | z
   ·have:=r.dist i' j b z2 w4
    subst this
    exact w3 (owns_mem.mpr ⟨l,z1⟩)
   ·rw[q3]at z; cases z
  rcases h1 with h1 | h1 <;> rcases h2 with h2 | h2
  ·obtain⟨k,a1,a2⟩:=h1
   obtain⟨l,b1,b2⟩:=h2
   have:=r'.dist k l b a2 b2
   subst this
   rw[a1]at b1; cases b1; rfl
  ·exact(cross h1 h2).elim
  ·exact(cross h2 h1).elim
  ·exact r.dist i j b h1.2 h2.2
 ·rcases z with⟨k,_,z⟩ | ⟨_,z⟩
  ·rcases g.onew b (hO b ⟨k,z⟩)with w | w
   ·exact .inl (calS_sub b w)
   ·exact .inr w
  ·exact .inl ⟨j,z⟩
 ·rcases z with⟨k,_,z⟩ | ⟨_,z⟩
  ·exact .inl ⟨k,z⟩
  ·exact .inr ⟨j,z⟩
end
def DR(X:Cx)(E:XK)(e:Expr)(d:PEnv→R Slot):Prop :=
 ∀ F S ε σ H Q,Rel X.K F S ε σ H→Ok X.K E σ F S H (d ε) (fun s _ F' S' H'=>∀ v Sr,RepS X.K H' F' s v Sr→(∀ b,Sr b→H b=none∧¬ F' b∧¬ U S' b∧∃ o,H' b=some o∧notImm o)→Q v H')→wpE X e σ H Q
def keptO:List ASlot→PEnv→Bool
 | [],_=>true
 | .inl _::as,_::ss=>keptO as ss
 | .inr _::as,.own _::ss=>keptO as ss
 | _,_=>false
theorem keptO_get:∀ {as:List ASlot} {ss:PEnv},keptO as ss=true→∀ (k:Nat) i,as[k]?=some (.inr i)→∃ po,ss[k]?=some (.own po)
 | [],_,_,k,i,h=>by simp at h
 | .inl _::as,s::ss,q,0,i,h=>by simp at h
 | .inl _::as,s::ss,q,k+1,i,h=>by simpa using keptO_get (as:=as) (ss:=ss) (by unfold keptO at q; exact q) k i (by simpa using h)
 | .inr _::as,.own po::ss,q,0,i,h=>⟨po,rfl⟩
 | .inr _::as,.own po::ss,q,k+1,i,h=>by simpa using keptO_get (as:=as) (ss:=ss) (by unfold keptO at q; exact q) k i (by simpa using h)
 | .inr _::as,.val _::ss,q,k,i,h=>by cases q
 | .inr _::as,.none::ss,q,k,i,h=>by cases q
 | .inl _::as,[],q,k,i,h=>by cases q
 | .inr _::as,[],q,k,i,h=>by cases q
def putR{α:Type}(ε:PEnv)(as:List ASlot)(r:R α):R α:=match r with
 | .ok s ss'=>if keptO as ss' then .ok s (putS ε as ss')else .no
 | .er c ss'=>if keptO as ss' then .er c (putS ε as ss')else .no
 | .no=>.no
def dCall(g:PEnv→R Slot)(dg:PEnv→R (List ASlot)):PEnv→R Slot:=fun ε=>(dg ε).bind fun as ε1=>(lift (if(owns as).Nodup then argS ε1 as else none) ε1).bind fun ss ε1=>putR ε1 as (g ss)
section
variable{CX:CXT}{X:Cx}{E:XK}{pin:List Nat}{e:Expr}{es:List Expr}{dg:PEnv→R (List ASlot)}{pos:Pos}{x:Str}{k:Nat}{ps:List Str}{g:PEnv→R Slot}{p:Pos}{d:PEnv→R Slot}
theorem dr_call(c:CalX CX X.prog X.w X.K X.mg X.base x k ps (spG X.K g))(hr:Room k X.A)(hx:Passes CX X E)(ha:DG X E (e::es) dg)(hg:Gl X x:=by rfl)
  (hd:(x == ("__debug__" : Str))=false:=by decide) (h1:starEach (e::es) X.env=(false,eval e X.env)::starEach es X.env:=by rfl) (h2:(backTo pos (starEach es X.env)).any (·.1)=false:=by rfl) :
  DR X E (.Call (.Name x p) (e::es) [] pos) (dCall g dg):=fun F S ε σ H Q rl h=>by
 obtain⟨f,fd,hm,Fn,hb,hk⟩:=c.ex
 refine wp_e (pe_call Fn hr hg hm hk hb .nil hx pa_wp hd h1 h2) (ha F S ε σ H _ rl ((Ok.bind h).imp fun as ε1 F1 S1 H1 r1 g1 q vs av=>?_))
 have q:=Ok.bind q
 by_cases nd:(owns as).Nodup
 ·rw[if_pos nd]at q
  cases es:argS ε1 as with
  | none=>rw[es]at q; exact q.elim
  | some ss =>
   rw[es]at q
   have q:=q F1 S1 H1 r1 (Grow.refl ..)
   dsimp only at q
   rw[List.append_nil]
   refine⟨F1,calS as S1,ss,r1.cal av es nd,?_⟩
   cases eg:g ss with
   | no=>rw[eg]at q; exact q.elim
   | er cv ss' =>
    rw[eg]at q
    intro y F' S' H' r' g'
    unfold putR at q
    dsimp only at q
    by_cases kp:keptO as ss'=true
    ·rw[if_pos kp]at q
     obtain⟨S2,r2,g2,_⟩:=r1.called av es nd r' g' (fun _ z=>z) (keptO_get kp)
     exact q y F' S2 H' r2 g2
    ·rw[if_neg kp]at q; exact q.elim
   | ok s ss' =>
    rw[eg]at q
    intro v F' S' H' Sr r' g' rv lo fr
    unfold putR at q
    dsimp only at q
    by_cases kp:keptO as ss'=true
    ·rw[if_pos kp]at q
     obtain⟨S2,r2,g2,u2⟩:=r1.called av es nd r' g' (fun _ z=>.inl z) (keptO_get kp)
     refine q F' S2 H' r2 g2 v Sr rv fun b z=>⟨fresh_back g1 (fr b z),(lo b z).1,fun w=>?_,(lo b z).2.2⟩
     rcases u2 b w with w | ⟨i,w⟩
     ·exact(lo b z).2.1 w
     ·obtain⟨_,_,o,y1,_⟩:=r1.foot i b w
      rw[fr b z]at y1; cases y1
    ·rw[if_neg kp]at q; exact q.elim
 ·rw[if_neg nd]at q; exact q.elim
def frzS:Slot→Option PV
 | .val pv=>some pv
 | .own (.lst xs)=>some (.lst xs)
 | _=>none
def dRE(d:PEnv→R Slot):PEnv→R PV:=fun ε=>(d ε).bind fun s ε1=>lift (frzS s) ε1
def newS:Slot→Option PO
 | .own po=>some po
 | _=>none
def dRN(d:PEnv→R Slot):PEnv→R PO:=fun ε=>(d ε).bind fun s ε1=>lift (newS s) ε1
theorem DR.dn(h:DR X E e d):DN X E e (dRN d):=fun F S ε σ H Q rl q=>by
 unfold dRN at q
 refine h F S ε σ H Q rl ?_
 cases e0:d ε with
 | no=>rw[e0]at q; exact q.elim
 | er c ε'=>rw[e0]at q; exact q
 | ok s ε1 =>
  rw[e0]at q
  cases s with
  | none=>exact q.elim
  | val pv=>exact q.elim
  | own po =>
   intro F1 S1 H1 r1 g1 v Sr rv fr
   obtain⟨a,rfl,ow⟩:=rv
   exact q F1 S1 H1 r1 g1 a Sr ow fr
theorem DR.de(h:DR X E e d):DE X E e (dRE d):=fun F S ε σ H Q rl q=>by
 unfold dRE at q
 cases e0:d ε with
 | no=>rw[e0]at q; exact q.elim
 | er c ε'=>refine h F S ε σ H Q rl ?_; rw[e0]at q ⊢; exact q
 | ok s ε1 =>
  cases s with
  | none=>rw[e0]at q; exact q.elim
  | val pv =>
   refine h F S ε σ H Q rl ?_
   rw[e0]at q ⊢
   exact fun F1 S1 H1 r1 g1 v Sr rv fr=>q F1 S1 H1 r1 g1 v rv.1
  | own po =>
   refine h.dn.de F S ε σ H Q rl ?_
   unfold dF dRN
   rw[e0]at q ⊢
   cases po with
   | lst xs=>exact q
   | dK kvs=>exact q
   | lls xss=>exact q
   | ins C fs=>exact q
def dRetR(d:PEnv→R Slot):PEnv→R Flw:=fun ε=>(d ε).bind fun s ε1=>.ok (.ret s) ε1
theorem ds_retR(he:DR X E e d):DS X E pin (.Return (some e) pos) (dRetR d):=fun F S ε σ H D rl h=>by
 refine wp_s (ps_ret pe_wp) (he F S ε σ H _ rl ?_)
 unfold dRetR at h
 cases e0:d ε with
 | no=>rw[e0]at h; exact h.elim
 | er c ε'=>rw[e0]at h; exact fun x F' S' H' r' g'=>h x F' S' σ H' r' g' (PinOk.refl _ _)
 | ok s ε1 =>
  rw[e0]at h
  intro F1 S1 H1 r1 g1 v Sr rv fr
  exact h v F1 S1 σ H1 Sr r1 ⟨g1.fro,g1.keep,g1.there,g1.fnew,fun b z=>z.elim (g1.onew b) fun w=>.inr (fr b w).1⟩ (PinOk.refl _ _) rv fun b z=>(fr b z).2
def dDropR(d:PEnv→R Slot):PEnv→R Flw:=fun ε=>(d ε).bind fun _ ε1=>.ok .next ε1
theorem ds_exprR(he:DR X E e d)(hs:swapsWith e none pos.line X.env=pure false:=by rfl):DS X E pin (.Expr e pos) (dDropR d):=fun F S ε σ H D rl h =>
 wp_s (ps_expr pe_wp hs) (he F S ε σ H _ rl (h.bindE.imp fun x ε1 F1 S1 H1 r1 g1 h1 v Sr rv fr=>h1 F1 S1 σ H1 r1 (Grow.refl ..) (PinOk.refl _ _)))
end
end Pu
namespace Pu
open PySem PySem.Spec PyProof.Rows L2
def capA(ε:PEnv):List Nat→Option (List ASlot)
 | []=>some []
 | j::cap=>match ε[j]? with
  | some (.val pv)=>(capA ε cap).map (.inl pv::·)
  | some (.own _)=>(capA ε cap).map (.inr j::·)
  | _=>none
def dBlk{α:Type}(cap:List Nat)(d:PEnv→R α)(x:PV):PEnv→R α:=fun ε=>(lift (capA ε cap) ε).bind fun as _=>(lift (if(owns as).Nodup then argS ε (.inl x::as)else none) ε).bind fun ss _=>putR ε (.inl x::as) (d ss)
def noE{α:Type}(r:R α):R α:=match r with
 | .er _ _=>.no
 | r=>r
def compD(cap:List Nat)(dt:PEnv→R Bool)(de:PEnv→R PV):List PV→List PV→PEnv→R (List PV)
 | [],acc,ε=>.ok acc ε
 | x::xs,acc,ε=>(noE (dBlk cap dt x ε)).bind fun k ε1=>match k with
  | true=>(noE (dBlk cap de x ε1)).bind fun y ε2=>compD cap dt de xs (acc++[y]) ε2
  | false=>compD cap dt de xs acc ε1
def dComp(cap:List Nat)(di:PEnv→R (List PV))(dt:PEnv→R Bool)(de:PEnv→R PV):PEnv→R PO:=fun ε=>(di ε).bind fun xs ε1=>(compD cap dt de xs [] ε1).bind fun ys ε2=>.ok (.lst ys) ε2
theorem capA_ok{K:PySem.W.Frag}{F:Addr→Prop}{S:Nat→Addr→Prop}{ε:PEnv}{σ:St}{H:Hp}(r:Rel K F S ε σ H):∀ {cap:List Nat} {as:List ASlot},capA ε cap=some as→∃ vs,ArgsOk K σ F H as vs∧capSt σ cap=vs.map some
 | [],as,h=>by cases h; exact⟨[],rfl,rfl⟩
 | j::cap,as,h=>by
  unfold capA at h
  split at h
  ·rename_i pv e
   cases q:capA ε cap with
   | none=>rw[q]at h; cases h
   | some bs =>
    rw[q]at h; cases h
    obtain⟨vs,h1,h2⟩:=capA_ok r q
    obtain⟨v,e1,e2⟩:=r.val j pv e
    refine⟨v::vs,⟨v,vs,rfl,e2,h1⟩,?_⟩
    show(σ[j]?).join::capSt σ cap=_
    rw[e1,h2]; rfl
  ·rename_i po e
   cases q:capA ε cap with
   | none=>rw[q]at h; cases h
   | some bs =>
    rw[q]at h; cases h
    obtain⟨vs,h1,h2⟩:=capA_ok r q
    obtain⟨a,e1,e2⟩:=r.own j po e
    refine⟨.ref a::vs,⟨_,vs,rfl,e1,h1⟩,?_⟩
    show(σ[j]?).join::capSt σ cap=_
    rw[e1,h2]; rfl
  ·cases h
theorem blk_ok{K:PySem.W.Frag}{E:XK}{F:Addr→Prop}{S:Nat→Addr→Prop}{ε:PEnv}{σ:St}{H:Hp}{α:Type}{cap:List Nat}{d:PEnv→R α}{x:PV}{v:V}{C:α→PEnv→(Addr→Prop)→(Nat→Addr→Prop)→Hp→Prop}
  (r:Rel K F S ε σ H) (rx:Rep K H F x v) (h:Ok K E σ F S H (noE (dBlk cap d x ε)) C) :
  ∃ Sb ss,Rel K F Sb ss (some v::capSt σ cap) H∧Ok K E0 (some v::capSt σ cap) F Sb H (d ss) (fun a _ F' _ H'=>∃ ε' S',Rel K F' S' ε' σ H'∧Grow (U S) (U S') F F' H H'∧C a ε' F' S' H'):=by
 unfold dBlk at h
 cases ec:capA ε cap with
 | none=>rw[ec]at h; exact h.elim
 | some as =>
  rw[ec]at h
  simp only[lift_some,R.bind_ok]at h
  by_cases nd:(owns as).Nodup
  ·rw[if_pos nd]at h
   cases es:argS ε (.inl x::as)with
   | none=>rw[es]at h; exact h.elim
   | some ss =>
    rw[es]at h
    simp only[lift_some,R.bind_ok]at h
    obtain⟨vs,av,ev⟩:=capA_ok r ec
    have av':ArgsOk K σ F H (.inl x::as) (v::vs):=⟨v,vs,rfl,rx,av⟩
    have eσ:some v::capSt σ cap=(v::vs).map some:=by rw[ev]; rfl
    have nd':(owns (.inl x::as)).Nodup:=nd
    refine⟨calS (.inl x::as) S,ss,by rw[eσ]; exact r.cal av' es nd',?_⟩
    rw[eσ]
    cases ed:d ss with
    | no=>rw[ed]at h; exact h.elim
    | er c ss' =>
     rw[ed]at h
     unfold putR at h
     dsimp only at h
     by_cases kp:keptO (.inl x::as) ss'=true
     ·rw[if_pos kp]at h; exact h.elim
     ·rw[if_neg kp]at h; exact h.elim
    | ok a ss' =>
     rw[ed]at h
     intro F' S' H' r' g'
     unfold putR at h
     dsimp only at h
     by_cases kp:keptO (.inl x::as) ss'=true
     ·rw[if_pos kp]at h
      obtain⟨S2,r2,g2,_⟩:=r.called av' es nd' r' g' (fun _ z=>z) (keptO_get kp)
      exact⟨_,S2,r2,g2,h F' S2 H' r2 g2⟩
     ·rw[if_neg kp]at h; exact h.elim
  ·rw[if_neg nd]at h; exact h.elim
def wpF(X:Cx)(ifs:List Expr):TT:=fun σ H Q=>Bx (∀ pins s,Inv X pins σ H s→wpAny (model X.prog X.w) X.A (forIn ifs true fun c r=>if r=true then do let ok ← isTrue c X.env (eval c X.env); pure (ForInStep.yield ok)else pure (ForInStep.yield r)) (TP X pins σ Q) X.xe s)
def DF(X:Cx)(E:XK)(ifs:List Expr)(d:PEnv→R Bool):Prop:=∀ F S ε σ H Q,Rel X.K F S ε σ H→Ok X.K E σ F S H (d ε) (fun b _ _ _ H'=>Q b H')→wpF X ifs σ H Q
def dYes:PEnv→R Bool:=fun ε=>.ok true ε
theorem df_nil{X:Cx}{E:XK}:DF X E [] dYes:=fun F S ε σ H Q rl h=>⟨fun pins s I=>pif_nil pins s σ H Q I (h F S H rl (Grow.refl ..))⟩
theorem df_one{X:Cx}{E:XK}{c:Expr}{d:PEnv→R Bool}(h:DT X E c d):DF X E [c] d:=fun F S ε σ H Q rl q=>⟨fun pins s I=>pif_one pt_wp pins s σ H Q I (h F S ε σ H Q rl q)⟩
theorem Ok.bindB{K:PySem.W.Frag}{E:XK}{σ:St}{F F1:Addr→Prop}{S S1:Nat→Addr→Prop}{H H1:Hp}{α β:Type}{D:β→PEnv→(Addr→Prop)→(Nat→Addr→Prop)→Hp→Prop}{r:R α}{k:α→PEnv→R β}(h:Ok K E σ F S H (r.bind k) D)(g:Grow (U S) (U S1) F F1 H H1) :
  Ok K E σ F1 S1 H1 r (fun a ε1 _ _ _=>Ok K E σ F S H (k a ε1) D):=by
 cases r with
 | no=>exact h
 | er c ε'=>exact fun x F' S' H' r' g'=>h x F' S' H' r' (g.trans g')
 | ok a ε'=>exact fun F' S' H' r' g'=>h
section
variable{X:Cx}{E:XK}{scope:Scope}{x:Str}{N':List Str}{cap:List Nat}
theorem Grow.stay{O O' F F':Addr→Prop}{H H':Hp}(g:Grow O O' F F' H H'){l:Addr}{o:HO}(e:H l=some o)(n:¬ O l)(nF:¬ F l):H' l=some o∧¬ F' l∧¬ O' l :=
 ⟨g.keep l o e n,fun z=>(g.fnew l z).elim nF fun w=>w.elim (fun q=>by rw[e]at q; cases q) n,fun z=>(g.onew l z).elim n fun q=>by rw[e]at q; cases q⟩
theorem comp_t{elt iter:Expr}{px:Pos}{ifs:List Expr}{di:PEnv→R (List PV)}{dt:PEnv→R Bool}{de:PEnv→R PV}(hi:DI X E (.Name x px) iter di)
  (ht:∀ C s₀ H₀ ex pn,DF (blk X scope N' C s₀ H₀ ex pn) E0 ifs dt) (he:∀ C s₀ H₀ ex pn,DE (blk X scope N' C s₀ H₀ ex pn) E0 elt de)
  {F:Addr→Prop} {S:Nat→Addr→Prop} {ε:PEnv} {σ:St} {H:Hp} {Q:VK} (rl:Rel X.K F S ε σ H) (h:Ok X.K E σ F S H (dComp cap di dt de ε) (fun po _ F' S' H'=>∀ a Sa,Own X.K H' F' po a Sa→(∀ b,Sa b→H b=none∧¬ F' b∧¬ U S' b∧∃ o,H' b=some o∧notImm o)→Q (.ref a) H')) :
  tComp (wpI X (.Name x px) iter) (fun σ H Q=>∀ C s₀ H₀ ex pn,wpF (blk X scope N' C s₀ H₀ ex pn) ifs σ H Q) (fun σ H Q=>∀ C s₀ H₀ ex pn,wpE (blk X scope N' C s₀ H₀ ex pn) elt σ H Q) cap σ H Q:=by
 refine hi F S ε σ H _ rl ((Ok.bind h).imp fun xs ε1 F1 S1 H1 r1 g1 h1 J vs RR rs hz hw keep l hl=>?_)
 have h1:=h1.bind
 have hvl:vs.length=xs.length:=rs.len
 have a0:Al F1 F1 H1 (upd H1 l (.lst [])):=Al.new0 hl
 have nF1:¬ F1 l:=fun z=>by obtain⟨o,q⟩:=r1.ex l z; rw[hl]at q; cases q
 have nS1:¬ U S1 l:=fun⟨i,z⟩=>by obtain⟨_,_,o,q,_⟩:=r1.foot i l z; rw[hl]at q; cases q
 have hH:H l=none:=fresh_back g1 hl
 refine⟨fun i m ys H'=>m=xs.length-i∧i≤xs.length∧∃ F' S' ε' acc,Rel X.K F' S' ε' σ H'∧Grow (U S1) (U S') F1 F' H1 H'∧H' l=some (.lst ys)∧¬ F' l∧¬ U S' l∧Reps X.K H' F' acc ys∧ys.length≤i ∧
  Ok X.K E σ F1 S1 H1 (compD cap dt de (xs.drop i) acc ε') (fun ys' ε2 F2 S2 H2=>Ok X.K E σ F2 S2 H2 (R.ok (PO.lst ys') ε2) (fun po _ F' S' H'=>∀ a Sa,Own X.K H' F' po a Sa→(∀ b,Sa b→H b=none∧¬ F' b∧¬ U S' b∧∃ o,H' b=some o∧notImm o)→Q (.ref a) H')),
  ⟨_,rfl,Nat.zero_le _,F1,S1,ε1,[],r1.al a0,a0.grow,upd_same,nF1,nS1,rfl,Nat.le_refl _,h1⟩,?_⟩
 rintro i m ys H2 ⟨rfl,hi,F2,S2,ε2,acc,r2,g2,el,nF2,nS2,racc,hyl,q2⟩
 have RH:=keep S2 F2 H2 g2
 by_cases hlt:i<xs.length
 ·obtain⟨v,hv⟩:∃ v,vs[i]?=some v:=⟨_,List.getElem?_eq_getElem (by ac_rfl)⟩
  obtain⟨go,yl⟩:=(hw H2 RH i).1 v hv
  refine .inr ⟨go,fun v' H' y=>?_⟩
  obtain⟨e1,e2⟩:=yl v' H' y
  subst e1 e2
  obtain⟨px',hx,rx⟩:=rs.back hv
  have ed:xs.drop i=px'::xs.drop (i+1):=by
   rw[List.drop_eq_getElem_cons hlt]
   congr 1
   exact(List.getElem?_eq_some_iff.mp hx).2
  rw[ed]at q2
  have rx2:=rx.grow g2 r1.fit
  have q3:=Ok.bindB q2 g2
  obtain⟨Sb,ss,rb,okb⟩:=blk_ok r2 rx2 q3
  intro C s₀ H₀ ex pn
  refine ht C s₀ H₀ ex pn F2 Sb ss _ H' _ rb (okb.imp fun b _ F3 _ H3 _ _ ⟨ε3,S3,r3,g3,q4⟩=>?_)
  obtain⟨el3,nF3,nS3⟩:=g3.stay el nS2 nF2
  cases b with
  | false=>exact iteF ⟨_,by ac_rfl,rfl,hlt,F3,S3,ε3,acc,r3,g2.trans g3,el3,nF3,nS3,racc.grow g3 r2.fit,by ac_rfl,q4⟩
  | true =>
   refine iteT ?_
   have q5:Ok X.K E σ F1 S1 H1 ((noE (dBlk cap de px' ε3)).bind fun y ε2=>compD cap dt de (xs.drop (i+1)) (acc++[y]) ε2) _:=q4
   obtain⟨Sc,sc,rc,okc⟩:=blk_ok r3 (rx2.grow g3 r2.fit) (Ok.bindB q5 (g2.trans g3))
   intro C s₀ H₀ ex pn
   refine he C s₀ H₀ ex pn F3 Sc sc _ H3 _ rc (okc.imp fun y _ F4 _ H4 _ _ ⟨ε4,S4,r4,g4,q6⟩ u ru=>?_)
   obtain⟨el4,nF4,nS4⟩:=g4.stay el3 nS3 nF3
   have racc4:=(racc.grow g3 r2.fit).grow g4 r3.fit
   -- the item is laid
   have gl:Grow (fun b=>U S4 b∨b=l) (U S4) F4 F4 H4 (upd H4 l (.lst (ys++[u]))):=⟨fun _ z=>z,fun b o e n=>by rw[upd_ne fun z=>n (.inr z)]; exact e,fun b o e=>by
    by_cases hb:b=l
    ·subst hb; exact⟨_,upd_same⟩
    ·exact⟨o,by rw[upd_ne hb]; exact e⟩,fun _ z=>.inl z,fun _ z=>.inl (.inl z)⟩
   have fit4:Fit (fun b=>U S4 b∨b=l) F4 H4:=fun b z=>by
    rcases z with z | rfl
    ·exact r4.fit b z
    ·exact⟨nF4,_,el4,trivial⟩
   have r5:Rel X.K F4 S4 ε4 σ (upd H4 l (.lst (ys++[u]))):=by
    refine⟨r4.len,fun b z=>let ⟨o,q⟩:=r4.ex b z; gl.there b o q,fun j pv e=>?_,fun j po e=>?_,fun j b z=>?_,r4.dist⟩
    ·obtain⟨w,x1,x2⟩:=r4.val j pv e; exact⟨w,x1,x2.grow gl fit4⟩
    ·obtain⟨w,x1,x2⟩:=r4.own j po e
     refine⟨w,x1,x2.mono (fun _ _ q=>q.grow gl fit4) (fun _ _ q=>q.grow gl fit4) fun b o z q=>?_⟩
     rw[upd_ne (by rintro rfl; exact nS4 ⟨j,z⟩)]; exact q
    ·obtain⟨x1,x2,o,x3,x4⟩:=r4.foot j b z
     exact⟨x1,x2,o,by rw[upd_ne (by rintro rfl; exact nS4 ⟨j,z⟩)]; exact x3,x4⟩
   have g5:Grow (U S1) (U S4) F1 F4 H1 (upd H4 l (.lst (ys++[u]))):=by
    have gg:=(g2.trans g3).trans g4
    refine⟨gg.fro,fun b o e n=>?_,fun b o e=>?_,gg.fnew,gg.onew⟩
    ·rw[upd_ne (by rintro rfl; rw[hl]at e; cases e)]; exact gg.keep b o e n
    ·obtain⟨o',q⟩:=gg.there b o e; exact gl.there b o' q
   refine⟨el4,?_,_,by ac_rfl,rfl,hlt,F4,S4,ε4,acc++[y],r5,g5,upd_same,nF4,nS4,(racc4.grow gl fit4).app (.one (ru.grow gl fit4)),by simp; ac_rfl,q6⟩
   ac_rfl
 ·have e:i=xs.length:=by ac_rfl
  subst e
  refine .inl ⟨(hw H2 RH _).2 hvl.symm,?_⟩
  rw[List.drop_length]at q2
  exact q2 F2 S2 H2 r2 g2 F2 S2 H2 r2 (Grow.refl ..) l (fun b=>b=l) ⟨⟨ys,el,racc⟩,fun b=>Iff.rfl⟩ fun b z=>by subst z; exact⟨hH,nF2,nS2,_,el,trivial⟩
theorem dn_comp{elt iter:Expr}{px pos:Pos}{ifs:List Expr}{di:PEnv→R (List PV)}{dt:PEnv→R Bool}{de:PEnv→R PV}(B:BlkOk X scope x N' cap)(hc:X.calm=true)(hi:DI X E (.Name x px) iter di)
  (ht:∀ C s₀ H₀ ex pn,DF (blk X scope N' C s₀ H₀ ex pn) E0 ifs dt) (he:∀ C s₀ H₀ ex pn,DE (blk X scope N' C s₀ H₀ ex pn) E0 elt de) (hs:∀ x,foldedSetIterable iter X.env x=pure x:=by intro _; rfl) :
  DN X E (.ListComp elt [⟨.Name x px,iter,ifs,0⟩] scope pos) (dComp cap di dt de):=fun F S ε σ H Q rl h =>
 wp_e (pe_comp (wi:=wpI X (.Name x px) iter) (ts:=fun σ H Q=>∀ C s₀ H₀ ex pn,wpF (blk X scope N' C s₀ H₀ ex pn) ifs σ H Q) (te:=fun σ H Q=>∀ C s₀ H₀ ex pn,wpE (blk X scope N' C s₀ H₀ ex pn) elt σ H Q) (pos:=pos) B hc pi_wp
  (fun C s₀ H₀ ex pn pins s σ H Q I h=>(h C s₀ H₀ ex pn).run pins s I) (fun C s₀ H₀ ex pn pins s σ H Q I h=>(h C s₀ H₀ ex pn).run pins s I) hs) (comp_t hi ht he rl h)
end
end Pu
namespace Pu
open PySem PySem.Spec PyProof.Rows L2
theorem tS_app'(x y:Tx):tS x++tS y=tS (x++y):=by
 show(⟨x.toArray++y.toArray⟩:Str)=⟨(x++y).toArray⟩
 simp
def addP:PV→PV→Option PV
 | .int i,.int j=>some (.int (i+j))
 | .str x,.str y=>if(x++y).length≤maxS then some (.str (x++y))else none
 | .tup xs,.tup ys=>if xs≠[]∧ys≠[]∧xs.length+ys.length≤1000 then some (.tup (xs++ys))else none
 | .lst xs,.lst ys=>if xs.length+ys.length≤maxS then some (.lst (xs++ys))else none
 | _,_=>none
def subP:PV→PV→Option PV
 | .int i,.int j=>some (.int (i-j))
 | _,_=>none
def small64(i:Int):Bool:=decide (-(2 ^ 64)<i∧i<2 ^ 64)
def mulP:PV→PV→Option PV
 | .int i,.int j=>if small64 i || small64 j then some (.int (i * j))else none
 | .str x,.int j=>if 0≤j∧j≤100∧x.length≤100 then some (.str (List.replicate j.toNat x).flatten)else none
 | _,_=>none
def modP:PV→PV→Option PV
 | .int i,.int j=>if 0<j then some (.int (i % j))else none
 | _,_=>none
def powP:PV→PV→Option PV
 | .int i,.int j=>if 0≤j∧j≤1000000∧i.natAbs<2 ^ 64 then some (.int (i ^ j.toNat))else none
 | _,_=>none
def negP:PV→Option PV
 | .int i=>some (.int (-i))
 | _=>none
def rCatQ:R2:=fun x y H Q=>∃ l b xs zs,x = .ref l∧y = .ref b∧Rd H l (.lst xs)∧Rd H b (.lst zs)∧xs.length+zs.length≤sizeLine∧∀ p,H p=none→Q (.ref p) (upd H p (.lst (xs++zs)))
def rAddQ(K:PySem.W.Frag):R2:=fun x y H Q=>((rI0 fun i j=>V.int (i+j)) x y H Q∨∃ i j,x = .str i∧y = .str j∧i.length+j.length≤sizeLine∧Q (.str (i++j)) H)∨(rCatT K x y H Q∨rCatQ x y H Q)
def rMulQ:R2:=fun x y H Q=>rI CMul (fun i j=>.int (i * j)) x y H Q∨∃ (z:Tx) (n:Nat),x=tV z∧y = .int n∧n≤100∧z.length≤100∧Q (tV (List.replicate n z).flatten) H
section
variable{X:Cx}{K:PySem.W.Frag}
theorem p2_sub:P2 K (rI0 fun i j=>.int (i-j)) subP:=fun F H x y v u Q pv rx ry e q=>by
 unfold subP at e
 split at e
 ·cases e; exact⟨_,_,rx,ry,q _ F H (Al.refl ..) rfl⟩
 ·cases e
theorem p2_mod:P2 K (rI (fun _ j=>0<j) fun i j=>.int (i % j)) modP:=fun F H x y v u Q pv rx ry e q=>by
 unfold modP at e
 split at e
 ·split at e
  ·cases e; exact⟨_,_,rx,ry,by assumption,q _ F H (Al.refl ..) rfl⟩
  ·cases e
 ·cases e
theorem p2_pow:P2 K (rI CPow fun i j=>.int (i ^ j.toNat)) powP:=fun F H x y v u Q pv rx ry e q=>by
 unfold powP at e
 split at e
 ·split at e
  ·cases e; exact⟨_,_,rx,ry,by assumption,q _ F H (Al.refl ..) rfl⟩
  ·cases e
 ·cases e
theorem p1_neg:P1 K (rU fun i=>.int (-i)) negP:=fun F H x v Q pv rx e q=>by
 unfold negP at e
 split at e
 ·cases e; exact⟨_,rx,q _ F H (Al.refl ..) rfl⟩
 ·cases e
theorem rd_lst{pins:List (Addr×Obj)}{σ:St}{H:Hp}{s:Shared}{l:Addr}{xs:List V}(I:Inv X pins σ H s)(h:Rd H l (.lst xs)):∃ (its:List Value) (n:Nat),Vals xs its∧s.heap.get? l=some { cls:=.type "list",data:=.seq its.toArray n }∧xs.length≤sizeLine:=by
 obtain⟨z,its,n,r,e⟩:=h.ok I.hok
 exact⟨its,n,r,e,z⟩
theorem op_catQ:OpR X (binaryOp .Add) rCatQ:=by
 intro pins s σ H x y v u Q I rx ry h
 obtain⟨l,b,xs,zs,rfl,rfl,hl,hb,hz,q⟩:=h
 cases rx
 cases ry
 obtain⟨its,n,r,e,_⟩:=rd_lst I hl
 obtain⟨its2,n2,r2,e2,_⟩:=rd_lst I hb
 have hl:=r.length
 have hl2:=r2.length
 refine PySem.P.add_list e e2 ?_ (by rw[List.size_toArray,List.size_toArray]; ac_rfl)
 have ea:its.toArray++its2.toArray=(its++its2).toArray:=by simp
 rw[ea]
 exact⟨.ref _,_,I.lnew (t':=s.toks) (r.append r2) (by rw[List.length_append]; ac_rfl),rfl,q _ I.fresh⟩
theorem op_addQ:OpR X (binaryOp .Add) (rAddQ X.K):=(op_add.or op_add_str).or (op_catT.or op_catQ)
theorem p2_add:P2 K (rAddQ K) addP:=fun F H x y v u Q pv rx ry e q=>by
 unfold addP at e
 split at e
 ·cases e; exact .inl (.inl ⟨_,_,rx,ry,q _ F H (Al.refl ..) rfl⟩)
 ·rename_i x y
  split at e
  ·rename_i hl
   cases e
   refine .inl (.inr ⟨_,_,rx.1,ry.1,?_,?_⟩)
   ·rw[tS_len,tS_len]; rw[List.length_append]at hl; exact Nat.le_trans hl maxS_le
   ·exact q _ F H (Al.refl ..) ⟨by rw[tS_app']; rfl,hl⟩
  ·cases e
 ·rename_i xs ys
  split at e
  ·rename_i hl
   cases e
   obtain⟨a,vs,rfl,ha,ra⟩:=rx
   obtain⟨b,ws,rfl,hb,rb⟩:=ry
   have la:=ra.len
   have lb:=rb.len
   refine .inr (.inl ⟨a,b,vs,ws,rfl,rfl,SqT.of ha,SqT.of hb,fun z=>hl.1 (by rw[z]at la; exact List.eq_nil_of_length_eq_zero la.symm),by rw[la,lb]; exact small_line hl.2.2,fun z=>absurd (by rw[z]at lb; exact List.eq_nil_of_length_eq_zero lb.symm) hl.2.1,fun _ p hp=>?_⟩)
   exact q _ F _ (Al.new0 hp) ⟨p,_,rfl,upd_same,(Al.new0 hp).reps (ra.app rb)⟩
  ·cases e
 ·rename_i xs ys
  split at e
  ·rename_i hl
   cases e
   obtain⟨a,vs,rfl,ha,fa,ra⟩:=rx
   obtain⟨b,ws,rfl,hb,fb,rb⟩:=ry
   have la:=ra.len
   have lb:=rb.len
   refine .inr (.inr ⟨a,b,vs,ws,rfl,rfl,ha,hb,by rw[la,lb]; exact Nat.le_trans hl maxS_le,fun p hp=>?_⟩)
   exact q _ _ _ (Al.new hp) ⟨p,_,rfl,.inl upd_same,.inr rfl,(Al.new hp).reps (ra.app rb)⟩
  ·cases e
 ·cases e
theorem op_mulQ:OpR X (binaryOp .Mult) rMulQ:=op_mul.or op_mulT
theorem p2_mul:P2 K rMulQ mulP:=fun F H x y v u Q pv rx ry e q=>by
 unfold mulP at e
 split at e
 ·rename_i i j
  split at e
  ·rename_i h
   cases e
   refine .inl ⟨_,_,rx,ry,?_,q _ F H (Al.refl ..) rfl⟩
   rw[Bool.or_eq_true]at h
   exact h.imp of_decide_eq_true of_decide_eq_true
  ·cases e
 ·rename_i x j
  split at e
  ·rename_i h
   cases e
   refine .inr ⟨x,j.toNat,rx.1,?_,by ac_rfl,h.2.2,q _ F H (Al.refl ..) ⟨rfl,?_⟩⟩
   ·rw[show u=V.int j from ry]; congr 1; ac_rfl
   ·rw[len_rep]
    have h1:j.toNat≤100:=by ac_rfl
    exact Nat.le_trans (Nat.mul_le_mul h1 h.2.2) (by decide)
  ·cases e
 ·cases e
def cmpI(f:Int→Int→Bool):PV→PV→Option PV
 | .int i,.int j=>some (.bl (f i j))
 | _,_=>none
theorem p2_cmpI{f:Int→Int→Bool}:P2 K (rI0 fun i j=>.bl (f i j)) (cmpI f):=fun F H x y v u Q pv rx ry e q=>by
 unfold cmpI at e
 split at e
 ·cases e; exact⟨_,_,rx,ry,q _ F H (Al.refl ..) rfl⟩
 ·cases e
def flP:PV→Option V
 | .non=>some .non
 | .bl b=>some (.bl b)
 | .int i=>some (.int i)
 | .str x=>some (tV x)
 | _=>none
theorem flP_rep{H:Hp}{F:Addr→Prop}{x:PV}{v w:V}(r:Rep K H F x v)(e:flP x=some w):v=w:=by
 cases x <;> simp[flP]at e <;> subst e
 ·exact r
 ·exact r
 ·exact r
 ·exact r.1
theorem flP_flat{x:PV}{w:V}(e:flP x=some w):flatV w=true:=by
 cases x <;> simp[flP]at e <;> subst e <;> rfl
mutual
def eqP:PV→PV→Option Bool
 | .tup xs,y=>match y with
  | .tup ys=>eqPs xs ys
  | _=>none
 | .lst xs,y=>match y with
  | .lst ys=>eqPs xs ys
  | _=>none
 | .non,y=>(flP y).map (eqV .non)
 | .bl b,y=>(flP y).map (eqV (.bl b))
 | .int i,y=>(flP y).map (eqV (.int i))
 | .str x,y=>(flP y).map (eqV (tV x))
 | .raw _,_=>none
 | .exc _,_=>none
def eqPs:List PV→List PV→Option Bool
 | [],ys=>some ys.isEmpty
 | x::xs,ys=>match ys with
  | []=>some false
  | y::ys=>(eqP x y).bind fun a=>(eqPs xs ys).map fun b=>a && b
end
mutual
def dep:PV→Nat
 | .tup xs=>deps xs+1
 | .lst xs=>deps xs+1
 | _=>0
def deps:List PV→Nat
 | []=>0
 | x::xs=>max (dep x) (deps xs)
end
theorem eqv_mono{H:Hp}{d d':Nat}{x y:V}{k:Bool}(h:EqV K H d x y k)(hd:d≤d'):EqV K H d' x y k:=fun X hK pins σ s u v A I ru rv hu=>h X hK pins σ s u v A I ru rv (by ac_rfl)
theorem eqP_fl{H:Hp}{F:Addr→Prop}{w:V}{y:PV}{u:V}{k:Bool}{d:Nat}(fw:flatV w=true)(e:(flP y).map (eqV w)=some k)(ry:Rep K H F y u):EqV K H d w u k:=by
 cases q:flP y with
 | none=>rw[q]at e; cases e
 | some z =>
  rw[q]at e
  cases e
  rw[flP_rep ry q]
  exact eqv_flat fw (flP_flat q)
theorem rd_fun{H:Hp}{a:Addr}{xs ys:List V}(h:Rd H a (.lst xs))(g:Rd H a (.lst ys)):xs=ys:=by
 rcases h with h | ⟨o,h⟩ <;> rcases g with g | ⟨o',g⟩ <;> rw[h]at g <;> cases g <;> rfl
theorem allEq_cons{a:Bool}{e:Nat→Bool}{n m:Nat}:allEq (fun j=>if j=0 then a else e (j-1)) (n+1) (m+1)=(a && allEq e n m):=by
 unfold allEq
 rw[show min (n+1) (m+1)=min n m+1 by ac_rfl,List.range_succ_eq_map,List.all_cons,List.all_map,if_pos rfl,Bool.and_assoc]
 congr 1
 congr 1
 ·simp
mutual
theorem eqP_same{H:Hp}{F:Addr→Prop}:∀ (x y:PV) {v:V} {k:Bool},eqP x y=some k→Rep K H F x v→Rep K H F y v→k=true
 | .tup xs,y,v,k,e,rx,ry=>by
  unfold eqP at e
  split at e
  ·obtain⟨a,vs,rfl,ha,ra⟩:=rx
   obtain⟨b,ws,eb,hb,rb⟩:=ry
   cases eb
   rw[ha]at hb
   cases hb
   exact eqPs_same xs _ e ra rb
  ·cases e
 | .lst xs,y,v,k,e,rx,ry=>by
  unfold eqP at e
  split at e
  ·obtain⟨a,vs,rfl,ha,_,ra⟩:=rx
   obtain⟨b,ws,eb,hb,_,rb⟩:=ry
   cases eb
   rw[rd_fun ha hb]at ra
   exact eqPs_same xs _ e ra rb
  ·cases e
 | .non,y,v,k,e,rx,ry=>by
  unfold eqP at e
  cases q:flP y with
  | none=>rw[q]at e; cases e
  | some z=>rw[q]at e; cases e; rw[← flP_rep ry q,show v=V.non from rx]; rfl
 | .bl b,y,v,k,e,rx,ry=>by
  unfold eqP at e
  cases q:flP y with
  | none=>rw[q]at e; cases e
  | some z=>rw[q]at e; cases e; rw[← flP_rep ry q,show v=V.bl b from rx]; exact beq_self_eq_true b
 | .int b,y,v,k,e,rx,ry=>by
  unfold eqP at e
  cases q:flP y with
  | none=>rw[q]at e; cases e
  | some z=>rw[q]at e; cases e; rw[← flP_rep ry q,show v=V.int b from rx]; exact beq_self_eq_true b
 | .str b,y,v,k,e,rx,ry=>by
  unfold eqP at e
  cases q:flP y with
  | none=>rw[q]at e; cases e
  | some z=>rw[q]at e; cases e; rw[← flP_rep ry q,show v=tV b from rx.1]; exact beq_self_eq_true (tS b)
 | .raw _,_,_,_,e,_,_=>by unfold eqP at e; cases e
 | .exc _,_,_,_,e,_,_=>by unfold eqP at e; cases e
theorem eqPs_same{H:Hp}{F:Addr→Prop}:∀ (xs ys:List PV) {vs:List V} {k:Bool},eqPs xs ys=some k→Reps K H F xs vs→Reps K H F ys vs→k=true
 | [],ys,vs,k,e,rx,ry=>by
  unfold eqPs at e
  rw[show vs=[] from rx]at ry
  have:=ry.len
  cases ys with
  | nil=>cases e; rfl
  | cons=>simp at this
 | x::xs,ys,vs,k,e,rx,ry=>by
  unfold eqPs at e
  obtain⟨v,r,rfl,h1,h2⟩:=rx
  cases ys with
  | nil=>have:=ry.len; simp at this
  | cons y ys =>
   obtain⟨v',r',ev,g1,g2⟩:=ry
   cases ev
   simp only at e
   cases q1:eqP x y with
   | none=>rw[q1]at e; cases e
   | some a =>
    cases q2:eqPs xs ys with
    | none=>rw[q1,q2]at e; cases e
    | some b =>
     rw[q1,q2]at e
     cases e
     rw[eqP_same x y q1 h1 g1,eqPs_same xs ys q2 h2 g2]; rfl
end
mutual
theorem eqP_ok{H:Hp}{F:Addr→Prop}:∀ (x y:PV) {v u:V} {k:Bool},eqP x y=some k→Rep K H F x v→Rep K H F y u→EqV K H (dep x) v u k
 | .tup xs,y,v,u,k,e,rx,ry=>by
  have e0:=e
  unfold eqP at e
  split at e
  ·rename_i ys
   obtain⟨a,vs,rfl,ha,ra⟩:=id rx
   obtain⟨b,ws,rfl,hb,rb⟩:=id ry
   by_cases hab:a=b
   ·subst hab
    rw[eqP_same _ _ e0 rx ry]
    exact eqv_same
   ·obtain⟨f,hf,rfl⟩:=eqPs_ok xs ys e ra rb
    unfold dep
    exact eqv_tup (SqT.of ha) (SqT.of hb) hab hf
  ·cases e
 | .lst xs,y,v,u,k,e,rx,ry=>by
  have e0:=e
  unfold eqP at e
  split at e
  ·rename_i ys
   obtain⟨a,vs,rfl,ha,_,ra⟩:=id rx
   obtain⟨b,ws,rfl,hb,_,rb⟩:=id ry
   by_cases hab:a=b
   ·subst hab
    rw[eqP_same _ _ e0 rx ry]
    exact eqv_same
   ·obtain⟨f,hf,rfl⟩:=eqPs_ok xs ys e ra rb
    unfold dep
    exact eqv_list (.inl ha) (.inl hb) hab hf
  ·cases e
 | .non,y,v,u,k,e,rx,ry=>by unfold eqP at e; rw[show v=V.non from rx]; exact eqP_fl rfl e ry
 | .bl b,y,v,u,k,e,rx,ry=>by unfold eqP at e; rw[show v=V.bl b from rx]; exact eqP_fl rfl e ry
 | .int b,y,v,u,k,e,rx,ry=>by unfold eqP at e; rw[show v=V.int b from rx]; exact eqP_fl rfl e ry
 | .str b,y,v,u,k,e,rx,ry=>by unfold eqP at e; rw[show v=tV b from rx.1]; exact eqP_fl rfl e ry
 | .raw _,_,_,_,_,e,_,_=>by unfold eqP at e; cases e
 | .exc _,_,_,_,_,e,_,_=>by unfold eqP at e; cases e
theorem eqPs_ok{H:Hp}{F:Addr→Prop}:∀ (xs ys:List PV) {vs us:List V} {k:Bool},eqPs xs ys=some k→Reps K H F xs vs→Reps K H F ys us →
  ∃ f:Nat→Bool,(∀ (j:Nat) x y,vs[j]?=some x→us[j]?=some y→EqV K H (deps xs) x y (f j))∧k=allEq f vs.length us.length
 | [],ys,vs,us,k,e,rx,ry=>by
  unfold eqPs at e
  rw[show vs=[] from rx]
  refine⟨fun _=>true,fun j x y h=>by simp at h,?_⟩
  have:=ry.len
  cases e
  unfold allEq
  cases ys with
  | nil=>simp at this; simp[this]
  | cons=>rw[this]; simp
 | x::xs,ys,vs,us,k,e,rx,ry=>by
  unfold eqPs at e
  obtain⟨v,r,rfl,h1,h2⟩:=rx
  cases ys with
  | nil =>
   cases e
   rw[show us=[] from ry]
   exact⟨fun _=>true,fun j x y _ h=>by simp at h,by simp[allEq]⟩
  | cons y ys =>
   obtain⟨u,r',rfl,g1,g2⟩:=ry
   simp only at e
   cases q1:eqP x y with
   | none=>rw[q1]at e; cases e
   | some a =>
    cases q2:eqPs xs ys with
    | none=>rw[q1,q2]at e; cases e
    | some b =>
     rw[q1,q2]at e
     cases e
     obtain⟨f,hf,rfl⟩:=eqPs_ok xs ys q2 h2 g2
     refine⟨fun j=>if j=0 then a else f (j-1),fun j p q hp hq=>?_,by rw[List.length_cons,List.length_cons,allEq_cons]⟩
     cases j with
     | zero =>
      simp at hp hq
      subst hp hq
      show EqV K H _ _ _ (if(0:Nat)=0 then a else f (0-1))
      rw[if_pos rfl]
      exact eqv_mono (eqP_ok x y q1 h1 g1) (by unfold deps; exact Nat.le_max_left _ _)
     | succ j =>
      show EqV K H _ _ _ (if j+1=0 then a else f (j+1-1))
      rw[if_neg (by ac_rfl)]
      exact eqv_mono (hf j p q (by simpa using hp) (by simpa using hq)) (show deps xs≤max (dep x) (deps xs)from Nat.le_max_right _ _)
end
def eqT(neg:Bool)(x y:PV):Option PV:=match flP x,flP y with
 | some v,some u=>if scal v u then some (.bl (neg ^^ decide (v=u)))else none
 | none,none=>if dep x≤8 then(eqP x y).map fun k=>.bl (neg ^^ k)else none
 | _,_=>none
def rEqA(K:PySem.W.Frag):R2:=fun x y H Q=>rEq x y H Q∨rEqQ K false x y H Q
def rNeA(K:PySem.W.Frag):R2:=fun x y H Q=>rNe x y H Q∨rEqQ K true x y H Q
theorem op_eqA(hu:X.A.units+64<cLine):OpR X (compareOp .Eq) (rEqA X.K):=op_eq.or (op_eqQ hu)
theorem op_neA(hu:X.A.units+64<cLine):OpR X (compareOp .NotEq) (rNeA X.K):=op_ne.or (op_neQ hu)
theorem eqT_seq{H:Hp}{F:Addr→Prop}{x y:PV}{v u:V}{k:Bool}{Q:VK}{neg:Bool}(hx:flP x=none)(e:eqP x y=some k)(hd:dep x≤8)(rx:Rep K H F x v)(ry:Rep K H F y u)(q:Q (.bl (neg ^^ k)) H):rEqQ K neg v u H Q:=by
 have fin:∀ {k':Bool},k=k'→Q (.bl (if neg=true then !k' else k')) H:=fun {k'} z=>by subst z; cases neg <;> simpa using q
 cases x with
 | tup xs =>
  unfold eqP at e
  split at e
  ·rename_i ys
   obtain⟨a,vs,rfl,ha,ra⟩:=rx
   obtain⟨b,ws,rfl,hb,rb⟩:=ry
   obtain⟨f,hf,ek⟩:=eqPs_ok xs ys e ra rb
   unfold dep at hd
   exact⟨a,b,vs,ws,deps xs,f,rfl,rfl,.inr ⟨SqT.of ha,SqT.of hb⟩,by ac_rfl,hf,fin ek⟩
  ·cases e
 | lst xs =>
  unfold eqP at e
  split at e
  ·rename_i ys
   obtain⟨a,vs,rfl,ha,_,ra⟩:=rx
   obtain⟨b,ws,rfl,hb,_,rb⟩:=ry
   obtain⟨f,hf,ek⟩:=eqPs_ok xs ys e ra rb
   unfold dep at hd
   exact⟨a,b,vs,ws,deps xs,f,rfl,rfl,.inl ⟨.inl ha,.inl hb⟩,by ac_rfl,hf,fin ek⟩
  ·cases e
 | raw _=>unfold eqP at e; cases e
 | exc _=>unfold eqP at e; cases e
 | non=>cases hx
 | bl _=>cases hx
 | int _=>cases hx
 | str _=>cases hx
theorem p2_eq:P2 K (rEqA K) (eqT false):=fun F H x y v u Q pv rx ry e q=>by
 unfold eqT at e
 split at e
 ·rename_i a b ea eb
  split at e
  ·rename_i hs
   cases e
   rw[flP_rep rx ea,flP_rep ry eb]
   refine .inl ⟨hs,?_⟩
   have:=q (.bl (decide (a=b))) F H (Al.refl ..) (by simp[Rep])
   exact this
  ·cases e
 ·rename_i ea eb
  split at e
  ·rename_i hd
   cases ek:eqP x y with
   | none=>rw[ek]at e; cases e
   | some k =>
    rw[ek]at e
    cases e
    exact .inr (eqT_seq (neg:=false) ea ek hd rx ry (q _ F H (Al.refl ..) rfl))
  ·cases e
 ·cases e
theorem p2_ne:P2 K (rNeA K) (eqT true):=fun F H x y v u Q pv rx ry e q=>by
 unfold eqT at e
 split at e
 ·rename_i a b ea eb
  split at e
  ·rename_i hs
   cases e
   rw[flP_rep rx ea,flP_rep ry eb]
   refine .inl ⟨hs,?_⟩
   have:=q (.bl (!decide (a=b))) F H (Al.refl ..) (by simp[Rep])
   exact this
  ·cases e
 ·rename_i ea eb
  split at e
  ·rename_i hd
   cases ek:eqP x y with
   | none=>rw[ek]at e; cases e
   | some k =>
    rw[ek]at e
    cases e
    exact .inr (eqT_seq (neg:=true) ea ek hd rx ry (q _ F H (Al.refl ..) rfl))
  ·cases e
 ·cases e
end
end Pu
namespace Pu
open PySem PySem.Spec PyProof.Rows L2
section
variable{X:Cx}{K:PySem.W.Frag}
def inS(i j:Tx):Bool:=!(Builtin.Str.occurrences (tS j) (tS i) 0 (tS j).length 1).isEmpty
def flPs:List PV→Option (List V)
 | []=>some []
 | x::xs=>(flP x).bind fun v=>(flPs xs).map fun r=>v::r
theorem flPs_rep{H:Hp}{F:Addr→Prop}:∀ {xs:List PV} {vs ws:List V},Reps K H F xs vs→flPs xs=some ws→vs=ws∧ws.all flatV=true
 | [],_,_,r,e=>by cases e; exact⟨r,rfl⟩
 | x::xs,_,ws,⟨v,r,rfl,h1,h2⟩,e=>by
  unfold flPs at e
  cases q:flP x with
  | none=>rw[q]at e; cases e
  | some w =>
   cases q2:flPs xs with
   | none=>rw[q,q2]at e; cases e
   | some wr =>
    rw[q,q2]at e
    cases e
    obtain⟨e1,e2⟩:=flPs_rep h2 q2
    exact⟨by rw[flP_rep h1 q,e1],by rw[List.all_cons,flP_flat q,e2]; rfl⟩
def inP(neg:Bool):PV→PV→Option PV
 | .str x,.str y=>some (.bl (neg ^^ inS x y))
 | x,.lst ys=>(flP x).bind fun v=>(flPs ys).map fun ws=>.bl (neg ^^ inV v ws)
 | x,.tup ys=>(flP x).bind fun v=>(flPs ys).map fun ws=>.bl (neg ^^ inV v ws)
 | _,_=>none
def rInA(K:PySem.W.Frag):R2:=fun x y H Q=>(∃ i j,x = .str i∧y = .str j∧Q (.bl (!(Builtin.Str.occurrences j i 0 j.length 1).isEmpty)) H)∨rIn K false x y H Q
def rNotInA(K:PySem.W.Frag):R2:=fun x y H Q=>(∃ i j,x = .str i∧y = .str j∧Q (.bl (!(!(Builtin.Str.occurrences j i 0 j.length 1).isEmpty))) H)∨rIn K true x y H Q
theorem op_inA:OpR X (compareOp .In) (rInA X.K):=op_in_str.or op_in_seq
theorem op_notInA:OpR X (compareOp .NotIn) (rNotInA X.K):=op_notIn_str.or op_notIn_seq
theorem in_seq{H:Hp}{F:Addr→Prop}{x:PV}{ys:List PV}{v:V}{p:Addr}{us:List V}{Q:VK}{neg:Bool}{pv:PV}(rx:Rep K H F x v)(hp:SqL K H p us∨SqT K H p us)(ru:Reps K H F ys us)
  (e:((flP x).bind fun v=>(flPs ys).map fun ws=>PV.bl (neg ^^ inV v ws))=some pv) (q:∀ w,Rep K H F pv w→Q w H):rIn K neg v (.ref p) H Q:=by
 cases q1:flP x with
 | none=>rw[q1]at e; cases e
 | some w =>
  cases q2:flPs ys with
  | none=>rw[q1,q2]at e; cases e
  | some ws =>
   rw[q1,q2]at e
   cases e
   obtain⟨rfl,hf⟩:=flPs_rep ru q2
   rw[flP_rep rx q1]
   refine⟨p,us,rfl,hp,flP_flat q1,hf,?_⟩
   have:=q _ rfl
   cases neg <;> simpa using this
theorem p2_in:P2 K (rInA K) (inP false):=fun F H x y v u Q pv rx ry e q=>by
 unfold inP at e
 split at e
 ·cases e; exact .inl ⟨_,_,rx.1,ry.1,by have:=q _ F H (Al.refl ..) rfl; simpa[inS]using this⟩
 ·obtain⟨a,us,rfl,ha,_,ra⟩:=ry
  exact .inr (in_seq (neg:=false) rx (.inl (.inl ha)) ra e fun w rw'=>q w F H (Al.refl ..) rw')
 ·obtain⟨a,us,rfl,ha,ra⟩:=ry
  exact .inr (in_seq (neg:=false) rx (.inr (SqT.of ha)) ra e fun w rw'=>q w F H (Al.refl ..) rw')
 ·cases e
theorem p2_notIn:P2 K (rNotInA K) (inP true):=fun F H x y v u Q pv rx ry e q=>by
 unfold inP at e
 split at e
 ·cases e; exact .inl ⟨_,_,rx.1,ry.1,by have:=q _ F H (Al.refl ..) rfl; simpa[inS]using this⟩
 ·obtain⟨a,us,rfl,ha,_,ra⟩:=ry
  exact .inr (in_seq (neg:=true) rx (.inl (.inl ha)) ra e fun w rw'=>q w F H (Al.refl ..) rw')
 ·obtain⟨a,us,rfl,ha,ra⟩:=ry
  exact .inr (in_seq (neg:=true) rx (.inr (SqT.of ha)) ra e fun w rw'=>q w F H (Al.refl ..) rw')
 ·cases e
def lenP:List PV→Option PV
 | [.str x]=>some (.int x.length)
 | [.lst xs]=>some (.int xs.length)
 | [.tup xs]=>some (.int xs.length)
 | _=>none
theorem reps1{H:Hp}{F:Addr→Prop}{x:PV}{vs:List V}(r:Reps K H F [x] vs):∃ v,vs=[v]∧Rep K H F x v:=by
 obtain⟨v,r',rfl,h1,h2⟩:=r
 rw[show r'=[] from h2]
 exact⟨v,rfl,h1⟩
theorem pl_len:PL K (fun xs H Q=>∃ x n,xs=[x]∧LenV K x H n∧Q (.int n) H) lenP:=fun F H xs vs Q pv rs e q=>by
 unfold lenP at e
 split at e
 ·cases e
  obtain⟨v,rfl,rv⟩:=reps1 rs
  rw[rv.1]
  exact⟨_,_,rfl,⟨by rw[tS_len]; exact Nat.le_trans rv.2 maxS_le,rfl⟩,by rw[tS_len]; exact q _ F H (Al.refl ..) rfl⟩
 ·cases e
  obtain⟨v,rfl,a,us,rfl,ha,_,ra⟩:=reps1 rs
  exact⟨_,_,rfl,.inl ⟨us,.inl ha,rfl⟩,by rw[ra.len]; exact q _ F H (Al.refl ..) rfl⟩
 ·cases e
  obtain⟨v,rfl,a,us,rfl,ha,ra⟩:=reps1 rs
  exact⟨_,_,rfl,.inr ⟨us,SqT.of ha,rfl⟩,by rw[ra.len]; exact q _ F H (Al.refl ..) rfl⟩
 ·cases e
def tupleP:List PV→Option PV
 | [.lst xs]=>some (.tup xs)
 | [.tup xs]=>some (.tup xs)
 | _=>none
theorem pl_tuple:PL K (fun xs H Q=>∃ p ys,xs=[.ref p]∧((SqL K H p ys∧∀ l,H l=none→Q (.ref l) (upd H l (.tup ys)))∨(SqT K H p ys∧Q (.ref p) H))) tupleP:=fun F H xs vs Q pv rs e q=>by
 unfold tupleP at e
 split at e
 ·cases e
  obtain⟨v,rfl,a,us,rfl,ha,_,ra⟩:=reps1 rs
  exact⟨a,us,rfl,.inl ⟨.inl ha,fun l hl=>q _ F _ (Al.new0 hl) ⟨l,us,rfl,upd_same,(Al.new0 hl).reps ra⟩⟩⟩
 ·cases e
  obtain⟨v,rfl,a,us,rfl,ha,ra⟩:=reps1 rs
  exact⟨a,us,rfl,.inr ⟨SqT.of ha,q _ F H (Al.refl ..) ⟨a,us,rfl,ha,ra⟩⟩⟩
 ·cases e
def txs:List PV→Option (List Tx)
 | []=>some []
 | .str x::xs=>(txs xs).map (x::·)
 | _=>none
def txP(ls:List Tx):List PV:=ls.map .str
theorem txs_strs(ls:List Tx):txs (txP ls)=some ls:=by
 induction ls with
 | nil=>rfl
 | cons x ls ih=>show(txs (txP ls)).map (x::·)=_; rw[ih]; rfl
theorem txs_eq:∀ {xs:List PV} {ls:List Tx},txs xs=some ls→xs=txP ls
 | [],ls,e=>by cases e; rfl
 | .str x::xs,ls,e=>by
  unfold txs at e
  cases q:txs xs with
  | none=>rw[q]at e; cases e
  | some r=>rw[q]at e; cases e; rw[txs_eq q]; rfl
 | .non::_,_,e=>by cases e
 | .bl _::_,_,e=>by cases e
 | .int _::_,_,e=>by cases e
 | .tup _::_,_,e=>by cases e
 | .lst _::_,_,e=>by cases e
 | .raw _::_,_,e=>by cases e
 | .exc _::_,_,e=>by cases e
theorem strs_rep{H:Hp}{F:Addr→Prop}:∀ {ls:List Tx} {vs:List V},Reps K H F (txP ls) vs↔vs=tVs ls∧∀ x∈ls,x.length≤maxS
 | [],vs=>by simp[txP,Reps,tVs]
 | x::ls,vs=>by
  show(∃ v r,vs=v::r∧(v=tV x∧x.length≤maxS)∧Reps K H F (txP ls) r)↔_
  constructor
  ·rintro⟨v,r,rfl,⟨rfl,h1⟩,h2⟩
   obtain⟨rfl,h3⟩:=strs_rep.mp h2
   exact⟨rfl,fun y hy=>by
    rcases List.mem_cons.mp hy with rfl | hy
    ·exact h1
    ·exact h3 y hy⟩
  ·rintro⟨rfl,h⟩
   exact⟨tV x,tVs ls,rfl,⟨rfl,h x (by simp)⟩,strs_rep.mpr ⟨rfl,fun y hy=>h y (by simp[hy])⟩⟩
def bools:List PV→Option (List Bool)
 | []=>some []
 | .bl b::xs=>(bools xs).map (b::·)
 | _=>none
theorem bools_rep{H:Hp}{F:Addr→Prop}:∀ {xs:List PV} {vs:List V} {bs:List Bool},Reps K H F xs vs→bools xs=some bs→vs=bs.map V.bl
 | [],_,_,r,e=>by cases e; exact r
 | .bl b::xs,_,bs,⟨v,r,rfl,h1,h2⟩,e=>by
  unfold bools at e
  cases q:bools xs with
  | none=>rw[q]at e; cases e
  | some r'=>rw[q]at e; cases e; rw[bools_rep h2 q,show v=V.bl b from h1]; rfl
 | .non::_,_,_,_,e=>by cases e
 | .str _::_,_,_,_,e=>by cases e
 | .int _::_,_,_,_,e=>by cases e
 | .tup _::_,_,_,_,e=>by cases e
 | .lst _::_,_,_,_,e=>by cases e
 | .raw _::_,_,_,_,e=>by cases e
 | .exc _::_,_,_,_,e=>by cases e
def allP:List PV→Option PV
 | [.lst xs]=>(bools xs).map fun bs=>.bl (bs.all id)
 | _=>none
theorem pl_all:PL K (fun xs H Q=>∃ (p:Addr) (bs:List Bool),xs=[.ref p]∧SqL K H p (bs.map V.bl)∧Q (.bl (bs.all id)) H) allP:=fun F H xs vs Q pv rs e q=>by
 unfold allP at e
 split at e
 ·rename_i ys
  cases q1:bools ys with
  | none=>rw[q1]at e; cases e
  | some bs =>
   rw[q1]at e
   cases e
   obtain⟨v,rfl,a,us,rfl,ha,_,ra⟩:=reps1 rs
   rw[bools_rep ra q1]at ha
   exact⟨a,bs,rfl,.inl ha,q _ F H (Al.refl ..) rfl⟩
 ·cases e
def kindP:PV→Option String
 | .non=>some "NoneType"
 | .bl _=>some "bool"
 | .int _=>some "int"
 | .str _=>some "str"
 | .tup _=>some "tuple"
 | .lst _=>some "list"
 | _=>none
def isiP:List PV→Option PV
 | [x,.raw (.ty T)]=>(kindP x).bind fun t=>(PySem.W.kitOne [] (.type t) (.type T)).map fun b=>.bl b
 | _=>none
theorem call_isi:CallR X (.builtin "isinstance") (fun xs H Q=>∃ x t T b,xs=[x,.ty T]∧TyOf X.K H x (.type t)∧PySem.W.kitOne X.K (.type t) (.type T)=some b∧Q (.bl b) H):=by
 intro pins s σ H xs us Q I r h
 obtain⟨x,t,T,b,rfl,ty,e,q⟩:=h
 cases r with
 | cons r1 r2 =>
  cases r2 with
  | cons r3 r4 =>
   cases r4
   cases r3
   exact isinst_ok I r1 ty e fun tk=>⟨.bl b,H,I.tok _,rfl,q⟩
theorem kind_ty{H:Hp}{F:Addr→Prop}{x:PV}{v:V}{t:String}(r:Rep K H F x v)(e:kindP x=some t):TyOf K H v (.type t):=by
 cases x with
 | non=>cases e; rw[show v=V.non from r]; exact .non
 | bl b=>cases e; rw[show v=V.bl b from r]; exact .bl b
 | int b=>cases e; rw[show v=V.int b from r]; exact .int b
 | str b=>cases e; rw[show v=tV b from r.1]; exact .str _
 | tup xs=>cases e; obtain⟨a,vs,rfl,ha,_⟩:=r; exact .tup ha
 | lst xs =>
  cases e
  obtain⟨a,vs,rfl,ha,_⟩:=r
  rcases ha with ha | ⟨o,ha⟩
  ·exact .lst ha
  ·exact .frz ha
 | raw _=>cases e
 | exc _=>cases e
theorem pl_isi:PL K (fun xs H Q=>∃ x t T b,xs=[x,.ty T]∧TyOf K H x (.type t)∧PySem.W.kitOne K (.type t) (.type T)=some b∧Q (.bl b) H) isiP:=fun F H xs vs Q pv rs e q=>by
 unfold isiP at e
 split at e
 ·rename_i x T
  cases q1:kindP x with
  | none=>rw[q1]at e; cases e
  | some t =>
   cases q2:PySem.W.kitOne [] (.type t) (.type T)with
   | none=>rw[q1,Option.bind_some,q2]at e; cases e
   | some b =>
    rw[q1,Option.bind_some,q2]at e
    cases e
    obtain⟨v,r',rfl,h1,h2⟩:=rs
    obtain⟨u,rfl,h3⟩:=reps1 h2
    rw[show u=V.ty T from h3]
    exact⟨v,t,T,b,rfl,kind_ty h1 q1,q2,q _ F H (Al.refl ..) rfl⟩
 ·cases e
theorem de_bty{E:XK}{x:Str}{T:String}{pos:Pos}(hm:X.mg x=none)(hv:bootBuiltins x=some (.type T))(hg:Gl X x:=by rfl)(hn:x≠"__name__":=by decide)(hd:(x == ("__debug__" : Str))=false:=by decide):DE X E (.Name x pos) (dC (.raw (.ty T))):=fun F S ε σ H Q r q =>
 wp_e (pe_bltn (v:=.ty T) hg hm hv rfl hn hd) (q F S H r (Grow.refl ..) _ rfl)
def ixP:PV→PV→Option PV
 | .lst xs,.int i=>atI xs i
 | .tup xs,.int i=>atI xs i
 | .str x,.int i=>(atI x i).map fun c=>.str [c]
 | _,_=>none
theorem atI_rep{H:Hp}{F:Addr→Prop}{xs:List PV}{vs:List V}{i:Int}{x:PV}(r:Reps K H F xs vs)(e:atI xs i=some x):∃ v,atI vs i=some v∧Rep K H F x v:=by
 unfold atI at e ⊢
 rw[r.len]
 cases q:ixN xs.length i with
 | none=>rw[q]at e; cases e
 | some j=>rw[q]at e; exact r.get e
theorem p2_ix:P2 K (rIx K) ixP:=fun F H x y v u Q pv rx ry e q=>by
 unfold ixP at e
 split at e
 ·rename_i xs i
  obtain⟨a,us,rfl,ha,_,ra⟩:=rx
  obtain⟨w,e1,e2⟩:=atI_rep ra e
  exact .inl ⟨a,us,i,w,rfl,ry,.inl ha,e1,q _ F H (Al.refl ..) e2⟩
 ·rename_i xs i
  obtain⟨a,us,rfl,ha,ra⟩:=rx
  obtain⟨w,e1,e2⟩:=atI_rep ra e
  exact .inr (.inl ⟨a,us,i,w,rfl,ry,SqT.of ha,e1,q _ F H (Al.refl ..) e2⟩)
 ·rename_i x i
  cases q1:atI x i with
  | none=>rw[q1]at e; cases e
  | some c =>
   rw[q1]at e
   cases e
   rw[rx.1]
   exact .inr (.inr ⟨_,i,c,rfl,ry,by rw[tS_len]; exact Nat.le_trans rx.2 maxS_le,by rw[tS_cps]; exact q1,q _ F H (Al.refl ..) ⟨rfl,by show 1≤maxS; decide⟩⟩)
 ·cases e
def cutL{α:Type}(xs:List α)(lo hi:Option Int):List α:=(xs.drop (HT.sIx xs.length 0 lo)).take (HT.sIx xs.length xs.length hi-HT.sIx xs.length 0 lo)
theorem cutL_len{α:Type}(xs:List α)(lo hi:Option Int):(cutL xs lo hi).length≤xs.length:=by
 unfold cutL
 rw[List.length_take,List.length_drop]
 ac_rfl
def slP:PV→Option Int→Option Int→Option PV
 | .str x,lo,hi=>some (.str (cutL x lo hi))
 | .lst xs,lo,hi=>some (.lst (cutL xs lo hi))
 | .tup xs,lo,hi=>if HT.sIx xs.length 0 lo=0∧HT.sIx xs.length xs.length hi=xs.length then none else some (.tup (cutL xs lo hi))
 | _,_,_=>none
def rSlA(K:PySem.W.Frag):V→Option Int→Option Int→Hp→VK→Prop:=fun x lo hi H Q=>rSlS x lo hi H Q∨(rSlL K x lo hi H Q∨rSlT K x lo hi H Q)
theorem sl_A:SlR X (rSlA X.K):=sl_str.or (sl_list.or sl_tup)
theorem cut_rep{H:Hp}{F:Addr→Prop}{xs:List PV}{vs:List V}(r:Reps K H F xs vs)(lo hi:Option Int):Reps K H F (cutL xs lo hi) (cutV vs lo hi):=by
 unfold cutL cutV
 rw[r.len]
 exact(r.drop _).take _
theorem psl_A:PSl K (rSlA K) slP:=fun F H x lo hi v Q pv rx e q=>by
 unfold slP at e
 split at e
 ·cases e
  rw[rx.1]
  refine .inl ⟨_,rfl,by rw[tS_len]; exact Nat.le_trans rx.2 maxS_le,?_⟩
  refine q _ F H (Al.refl ..) ⟨?_,Nat.le_trans (cutL_len ..) rx.2⟩
  unfold cutS cutL
  rw[tS_len,tS_cps]; rfl
 ·cases e
  obtain⟨a,us,rfl,ha,_,ra⟩:=rx
  exact .inr (.inl ⟨a,us,rfl,.inl ha,fun p hp=>q _ _ _ (Al.new hp) ⟨p,_,rfl,.inl upd_same,.inr rfl,(Al.new hp).reps (cut_rep ra lo hi)⟩⟩)
 ·split at e
  ·cases e
  ·rename_i hw
   cases e
   obtain⟨a,us,rfl,ha,ra⟩:=rx
   exact .inr (.inr ⟨a,us,rfl,SqT.of ha,by rw[ra.len]; exact hw,fun p hp=>q _ _ _ (Al.new0 hp) ⟨p,_,rfl,upd_same,(Al.new0 hp).reps (cut_rep ra lo hi)⟩⟩)
 ·cases e
variable{E:XK}{tg l a b:Expr}{d:PEnv→R PV}{ds:PEnv→R (List PV)}{p pos:Pos}
def itemsP:PV→Option (List PV)
 | .lst xs=>some xs
 | .tup xs=>some xs
 | .str x=>some (x.map fun c=>.str [c])
 | _=>none
def dItems(d:PEnv→R PV):PEnv→R (List PV):=fun ε=>(d ε).bind fun x ε1=>lift (itemsP x) ε1
theorem sgs_rep{H:Hp}{F:Addr→Prop}:∀ (x:Tx),Reps K H F (x.map fun c=>PV.str [c]) (x.map sg)
 | []=>rfl
 | c::x=>⟨sg c,x.map sg,rfl,⟨rfl,by show 1≤maxS; decide⟩,sgs_rep x⟩
theorem di_seq(he:DE X E l d):DI X E tg l (dItems d):=fun F S ε σ H Rr rl h=>Bx.mk fun pins s I=>by
 have w:=he F S ε σ H (fun v H1=>∃ F1 S1 ε1 x,Rel X.K F1 S1 ε1 σ H1∧Rep X.K H1 F1 x v∧Ok X.K E σ F1 S1 H1 (lift (itemsP x) ε1) (fun pvs _ F' S' H'=>∀ J vs RR,Reps X.K H' F' pvs vs→vs.length≤sizeLine→Walk J vs RR→(∀ S'' F'' H'',Grow (U S') (U S'') F' F'' H' H''→RR H'')→Rr J H')) rl
  ((Ok.bind h).imp fun x ε1 F1 S1 H1 r1 g1 h1 v rv=>⟨F1,S1,ε1,x,r1,rv,h1⟩)
 refine thn (w.run pins s I) fun v s1 ⟨x,H1,I1,rx,F1,S1,ε1,pv,r1,rv,h1⟩=>?_
 -- a list,a tuple,a text
 cases pv with
 | lst xs =>
  obtain⟨a,us,rfl,ha,hF,ra⟩:=rv
  cases rx
  obtain⟨its,rr,pp,hz⟩:=I1.list (.inl ha)
  refine wpAny_pyIter_list pp.isList ?_
  refine⟨s1.heap.objs.size,[s1.heap.objs.size],_,_,H1,rfl,I1.kept (t':=s1.toks) fun b o e=>Heap.get?_push_of_some _ e,turn_list a _,⟨_,Heap.get?_push_size _ rfl,rfl,rfl⟩,fun b hb=>?_,h1 F1 S1 H1 r1 (Grow.refl ..) (Itl X.K a) us (fun H=>SqL X.K H a us) ra hz walk_list fun S2 F2 H2 g2=>.inl (g2.lst r1.fit hF ha)⟩
  have e:b=s1.heap.objs.size:=by simpa using hb
  subst e
  exact I1.fpOk (Nat.le_refl _) (I1.hok.fresh (Nat.le_refl _))
 | tup xs =>
  obtain⟨a,us,rfl,ha,ra⟩:=rv
  cases rx
  obtain⟨its,rr,pp,hz⟩:=I1.tuple (SqT.of ha)
  refine wpAny_pyIter_tuple (show s1.heap.IsTuple a its.toArray from pp) ?_
  refine⟨s1.heap.objs.size,[s1.heap.objs.size],_,_,H1,rfl,I1.kept (t':=s1.toks) fun b o e=>Heap.get?_push_of_some _ e,turn_tuple a _,⟨_,Heap.get?_push_size _ rfl,rfl,rfl⟩,fun b hb=>?_,h1 F1 S1 H1 r1 (Grow.refl ..) (Itt X.K a) us (fun H=>SqT X.K H a us) ra hz walk_tup fun S2 F2 H2 g2=>SqT.of (g2.imm r1.fit ha id)⟩
  have e:b=s1.heap.objs.size:=by simpa using hb
  subst e
  exact I1.fpOk (Nat.le_refl _) (I1.hok.fresh (Nat.le_refl _))
 | str z =>
  obtain⟨rfl,hz⟩:=rv
  obtain⟨t,rfl⟩:=rx
  have qq:Rr (Its (tS z)) H1:=h1 F1 S1 H1 r1 (Grow.refl ..) (Its (tS z)) (z.map sg) (fun _=>True) (sgs_rep z) (by rw[List.length_map]; exact Nat.le_trans hz maxS_le) (by have:=walk_str (z:=tS z); rw[tS_cps]at this; exact this) fun _ _ _ _=>trivial
  have fin:∀ (n:String) (St':Nat→Heap→Prop),(∀ i h,St' i h→∃ o n vs,h.get? s1.heap.objs.size=some o∧o.cls = .type n∧o.data = .fields vs ∧
     ["enumerate","zip","dict_itemiterator","dict_reverseitemiterator","odict_iterator","itertools.zip_longest","itertools.pairwise"].contains n=false) →
    (∀ (A:Around) (i:Nat) (s:Shared) (Q:Value→Shared→Prop) (E:Value→Shared→Prop),St' i s.heap→Q (.ref s1.heap.objs.size) s→wpAny (model X.prog X.w) A (pyIter (.ref s1.heap.objs.size)) Q E s) →
    (∀ A:Around,A.handled=none→Walks X.prog X.w A s1.heap.objs.size [s1.heap.objs.size] [s1.heap.objs.size] (tS z).cps.size (SignAt (tS z)) St') →
    St' 0 (s1.heap.push { cls:=.type n,data:=.fields #[.str (tS z) t,.int 0 0] }) →
    PIE X pins σ tg Rr (.ref s1.heap.objs.size) { s1 with heap:=s1.heap.push { cls:=.type n,data:=.fields #[.str (tS z) t,.int 0 0] } }:=fun n St' h1 h2 h3 h4=>by
   refine⟨s1.heap.objs.size,[s1.heap.objs.size],St',Its (tS z),H1,rfl,I1.kept (t':=s1.toks) fun b o e=>Heap.get?_push_of_some _ e,turn_walks h1 h2 h3,h4,fun b hb=>?_,qq⟩
   have e:b=s1.heap.objs.size:=by simpa using hb
   subst e
   exact I1.fpOk (Nat.le_refl _) (I1.hok.fresh (Nat.le_refl _))
  cases ha:(tS z).cps.all (· < 128)
  ·refine wpAny_pyIter_wide ha (fin "str_iterator" (fun i h=>h.IsStrIter s1.heap.objs.size "str_iterator" (tS z) t i) (fun i h ⟨o,e1,e2,e3⟩=>⟨o,_,_,e1,e2,e3,by decide⟩) (fun A i s Q E st h=>wpAny_pyIter_striter_wide st h) (fun A' hA=>Walks.strWide hA _ (tS z) t) ⟨_,Heap.get?_push_size _ rfl,rfl,rfl⟩)
  ·refine wpAny_pyIter_ascii ha (fin "str_ascii_iterator" (fun i h=>h.IsStrIter s1.heap.objs.size "str_ascii_iterator" (tS z) t i) (fun i h ⟨o,e1,e2,e3⟩=>⟨o,_,_,e1,e2,e3,by decide⟩) (fun A i s Q E st h=>wpAny_pyIter_striter_ascii st h) (fun A' hA=>Walks.strAscii hA _ (tS z) t) ⟨_,Heap.get?_push_size _ rfl,rfl,rfl⟩)
 | non=>exact(show False from h1).elim
 | bl _=>exact(show False from h1).elim
 | int _=>exact(show False from h1).elim
 | raw _=>exact(show False from h1).elim
 | exc _=>exact(show False from h1).elim
def rngP(lo:Int)(n:Nat):List PV:=(List.range n).map fun i=>PV.int (lo+(i:Nat))
theorem rng_rep{H:Hp}{F:Addr→Prop}(lo:Int)(n:Nat):Reps K H F (rngP lo n) (rngV lo n):=by
 unfold rngP rngV
 induction (List.range n)with
 | nil=>rfl
 | cons x xs ih=>exact⟨_,_,rfl,rfl,ih⟩
def range1:List PV→Option (List PV)
 | [.int j]=>if j≤1000000∧-1000000≤j then some (rngP 0 j.toNat)else none
 | _=>none
def range2:List PV→Option (List PV)
 | [.int i,.int j]=>if j≤1000000∧-1000000≤j∧i≤1000000∧-1000000≤i then some (rngP i (j-i).toNat)else none
 | _=>none
theorem di_range1(hm:X.mg "range" = none)(ha:DA X E [a] ds)(hg:Gl X "range":=by rfl)(hs:starEach [a] X.env=[(false,eval a X.env)]:=by rfl):DI X E tg (.Call (.Name "range" p) [a] [] pos) (dL range1 ds):=fun F S ε σ H Rr rl h=>by
 refine wp_i (pi_range1 hg hm pa_wp hs) (ha F S ε σ H _ rl ((Ok.bind h).imp fun xs ε1 F1 S1 H1 r1 g1 h1 vs rvs=>?_))
 unfold range1 at h1
 split at h1
 ·rename_i j
  split at h1
  ·rename_i hj
   obtain⟨v,rfl,rv⟩:=reps1 rvs
   refine⟨j,by rw[show v=V.int j from rv],by ac_rfl,by ac_rfl,h1 F1 S1 H1 r1 (Grow.refl ..) _ _ _ (rng_rep 0 j.toNat) (by rw[rngV_len,sizeLine_eq]; ac_rfl) walk_rng fun _ _ _ _=>trivial⟩
  ·exact h1.elim
 ·exact h1.elim
theorem di_range2(hm:X.mg "range" = none)(ha:DA X E [a,b] ds)(hg:Gl X "range":=by rfl)(hs:starEach [a,b] X.env=[(false,eval a X.env),(false,eval b X.env)]:=by rfl)(hs2:starEach [b] X.env=[(false,eval b X.env)]:=by rfl) :
  DI X E tg (.Call (.Name "range" p) [a,b] [] pos) (dL range2 ds):=fun F S ε σ H Rr rl h=>by
 refine wp_i (pi_range2 hg hm pa_wp hs hs2) (ha F S ε σ H _ rl ((Ok.bind h).imp fun xs ε1 F1 S1 H1 r1 g1 h1 vs rvs=>?_))
 unfold range2 at h1
 split at h1
 ·rename_i i j
  split at h1
  ·rename_i hj
   obtain⟨v,r',rfl,h2,h3⟩:=rvs
   obtain⟨u,rfl,h4⟩:=reps1 h3
   refine⟨i,j,by rw[show v=V.int i from h2,show u=V.int j from h4],⟨by ac_rfl,by ac_rfl,by ac_rfl,by ac_rfl⟩,h1 F1 S1 H1 r1 (Grow.refl ..) _ _ _ (rng_rep i (j-i).toNat) (by rw[rngV_len,sizeLine_eq]; ac_rfl) walk_rng fun _ _ _ _=>trivial⟩
  ·exact h1.elim
 ·exact h1.elim
end
end Pu
namespace Pu
open PySem PySem.Spec PyProof.Rows L2
section
variable{K:PySem.W.Frag}{F:Addr→Prop}{S:Nat→Addr→Prop}{ε:PEnv}{σ:St}{H:Hp}{i:Nat}{xs xs':List PV}{vs':List V}{a:Addr}
theorem Rel.lstAt(r:Rel K F S ε σ H)(e:ε[i]?=some (.own (.lst xs))):∃ a vs,σ[i]?=some (some (.ref a))∧H a=some (.lst vs)∧Reps K H F xs vs∧S i a∧∀ b,S i b→b=a:=by
 obtain⟨a,e1,⟨vs,h1,h2⟩,h3⟩:=r.own i _ e
 exact⟨a,vs,e1,h1,h2,(h3 a).mpr rfl,fun b h=>(h3 b).mp h⟩
theorem Rel.upd(r:Rel K F S ε σ H)(e:ε[i]?=some (.own (.lst xs)))(ea:σ[i]?=some (some (.ref a)))(h:Reps K H F xs' vs') :
  Rel K F S (ε.set i (.own (.lst xs'))) σ (upd H a (.lst vs'))∧Grow (U S) (U S) F F H (upd H a (.lst vs')):=by
 obtain⟨a',vs,e1,h1,h2,h3,h4⟩:=r.lstAt e
 rw[ea]at e1
 cases e1
 have hi:i<ε.length:=(List.getElem?_eq_some_iff.mp e).1
 have g:Grow (U S) (U S) F F H (L2.upd H a (.lst vs')):=⟨fun _ z=>z,fun b o q n=>by rw[upd_ne (by rintro rfl; exact n ⟨i,h3⟩)]; exact q,fun b o q=>by
  by_cases hb:b=a
  ·subst hb; exact⟨_,upd_same⟩
  ·exact⟨o,by rw[upd_ne hb]; exact q⟩,fun _ z=>.inl z,fun _ z=>.inl z⟩
 refine⟨⟨by rw[List.length_set]; exact r.len,fun b z=>let ⟨o,q⟩:=r.ex b z; g.there b o q,fun j pv q=>?_,fun j po q=>?_,fun j b z=>?_,r.dist⟩,g⟩
 ·have hj:i≠j:=by rintro rfl; rw[List.getElem?_set_self hi]at q; cases q
  rw[List.getElem?_set_ne hj]at q
  obtain⟨v,q1,q2⟩:=r.val j pv q
  exact⟨v,q1,q2.grow g r.fit⟩
 ·by_cases hj:i=j
  ·subst hj
   rw[List.getElem?_set_self hi]at q
   cases q
   exact⟨a,ea,⟨vs',upd_same,h.grow g r.fit⟩,fun b=>⟨h4 b,fun z=>by rw[z]; exact h3⟩⟩
  ·rw[List.getElem?_set_ne hj]at q
   obtain⟨c,q1,q2⟩:=r.own j po q
   refine⟨c,q1,q2.mono (fun _ _ z=>z.grow g r.fit) (fun _ _ z=>z.grow g r.fit) fun b o z w=>?_⟩
   rw[upd_ne (by rintro rfl; exact hj (r.dist i j b h3 z))]; exact w
 ·obtain⟨⟨po,q1⟩,q2,o,q3,q4⟩:=r.foot j b z
  by_cases hj:i=j
  ·subst hj
   rw[h4 b z]
   exact⟨⟨_,List.getElem?_set_self hi⟩,by rw[← h4 b z]; exact q2,_,upd_same,trivial⟩
  ·exact⟨⟨po,by rw[List.getElem?_set_ne hj]; exact q1⟩,q2,o,by rw[upd_ne (by rintro rfl; exact hj (r.dist i j b h3 z))]; exact q3,q4⟩
end
section
variable{X:Cx}{E:XK}{pin:List Nat}{e b:Expr}{de db:PEnv→R PV}{pos:Pos}
def ownL(ε:PEnv)(i:Nat):Option (List PV):=match ε[i]? with
 | some (.own (.lst xs))=>some xs
 | _=>none
theorem ownL_eq{ε:PEnv}{i:Nat}{xs:List PV}(h:ownL ε i=some xs):ε[i]?=some (.own (.lst xs)):=by
 unfold ownL at h
 split at h
 ·cases h; assumption
 ·cases h
def dApp(i:Nat)(de:PEnv→R PV):PEnv→R Flw:=fun ε=>(lift (ownL ε i) ε).bind fun _ ε=>(de ε).bind fun y ε1=>(lift (ownL ε1 i) ε1).bind fun xs ε1=>if xs.length<maxS then .ok .next (ε1.set i (.own (.lst (xs++[y]))))else .no
theorem ds_append(i:Nat){x:Str}{p apos cpos:Pos}(he:DE X E e de)(hN:X.N[i]?=some x:=by rfl)(hv:Vis X.env.scope x:=by first | exact Or.inl rfl | exact Or.inr (Or.inl rfl) | exact Or.inr (Or.inr rfl))(hd:(x == ("__debug__" : Str))=false:=by decide)
  (hcd:(x == ("__classdict__" : Str))=false:=by decide) (h1:attributeBase (.Name x p) "append" X.env (eval (.Name x p) X.env)=eval (.Name x p) X.env:=by rfl)
  (h2:((backTo cpos (starEach [e] X.env)).all (fun x=>!x.1) && (backToKw cpos (keywordEach [] X.env)).all (fun x=>x.1.isSome) && decide ([e].length+([]:List Keyword).length+(if([]:List Keyword).isEmpty then 0 else 1)<30))=true:=by rfl)
  (h3:(apos.endLine == cpos.line)=true:=by rfl) (h4:starEach [e] X.env=(false,eval e X.env)::starEach [] X.env:=by rfl) (h5:(backTo cpos (starEach [] X.env)).any (·.1)=false:=by rfl)
  (hs:swapsWith (.Call (.Attribute (.Name x p) "append" apos) [e] [] cpos) none pos.line X.env=pure false:=by rfl) :
  DS X E pin (.Expr (.Call (.Attribute (.Name x p) "append" apos) [e] [] cpos) pos) (dApp i de):=fun F S ε σ H D rl h=>by
 unfold dApp at h
 cases e0:ownL ε i with
 | none=>rw[e0]at h; exact h.elim
 | some xs0 =>
  rw[e0]at h
  simp only[lift_some,R.bind_ok]at h
  obtain⟨a,vs0,ea,ha,_,_,_⟩:=rl.lstAt (ownL_eq e0)
  refine wp_s (ps_expr (pe_bm PySem.F.plainAttrs_list PySem.F.slot_list_append PySem.F.type_list_append mt_append (pe_var hN hv hd hcd) (pa_cons pe_wp pa_nil h4) h1 h2 h3 h4 h5) hs) ⟨.ref a,ea,.inl ⟨rfl,_,SqL.of ha⟩,?_⟩
  refine he F S ε σ H _ rl (h.bindE.imp fun y ε1 F1 S1 H1 r1 g1 q v rv=>?_)
  cases e1:ownL ε1 i with
  | none=>rw[e1]at q; exact q.elim
  | some xs =>
   rw[e1]at q
   simp only[lift_some,R.bind_ok]at q
   obtain⟨a',vs,ea',ha',ra,_,_⟩:=r1.lstAt (ownL_eq e1)
   rw[ea]at ea'
   cases ea'
   split at q
   ·rename_i hl
    obtain⟨r2,g2⟩:=r1.upd (ownL_eq e1) ea (ra.app (.one rv))
    exact⟨a,vs,v,rfl,rfl,ha',by rw[ra.len]; exact Nat.lt_of_lt_of_le hl maxS_le,q F1 S1 σ _ r2 g2 (PinOk.refl _ _)⟩
   ·exact q.elim
def rExtQ:V→List V→Hp→VK→Prop:=fun x vs H Q=>∃ l b xs zs,x = .ref l∧vs=[.ref b]∧H l=some (.lst xs)∧Rd H b (.lst zs)∧xs.length+zs.length≤sizeLine∧Q .non (L2.upd H l (.lst (xs++zs)))
theorem mt_extQ:MtM X "list.extend" rExtQ:=by
 intro pins s σ H x vs v us Q I rx rv h
 obtain⟨l,b,xs,zs,rfl,rfl,hH,hB,hz,q⟩:=h
 cases rx
 obtain⟨u,rfl,ru⟩:=rv.one
 cases ru
 obtain⟨z,its,n,r,hl,e⟩:=I.lstM hH
 obtain⟨its2,n2,r2,e2,_⟩:=rd_lst I hB
 have hl2:=r2.length
 have hsz:its.toArray.size+its2.toArray.size≤sizeLine:=by rw[List.size_toArray,List.size_toArray]; ac_rfl
 have hlong:¬ (!its.toArray.isEmpty && Builtin.List.listTooLong (its.toArray.size+its2.toArray.size))=true:=by
  rw[notLongL hsz,Bool.and_false]
  exact Bool.false_ne_true
 refine call_meets F.slot_list_extend ⟨_,e,rfl⟩ F.entry_list_extend (F.args_list_extend_2 _ _)
  (AutoSeq1.list_extend_list_list_0 l its.toArray n b its2.toArray n2 hlong (by rw[List.size_toArray]; ac_rfl) (by ac_rfl)) ⟨e,e2,?_⟩
 refine⟨.non,_,I.lset (its':=its++its2) hH e (by simp) (r.append r2) ?_,rfl,q⟩
 rw[List.length_append]
 ac_rfl
def dExt(i:Nat)(de:PEnv→R PV):PEnv→R Flw:=fun ε=>(lift (ownL ε i) ε).bind fun _ ε=>(de ε).bind fun y ε1=>(lift (ownL ε1 i) ε1).bind fun xs ε1=>match y with
 | .lst ys=>if xs.length+ys.length≤maxS then .ok .next (ε1.set i (.own (.lst (xs++ys))))else .no
 | _=>.no
theorem ds_extend(i:Nat){x:Str}{p apos cpos:Pos}(he:DE X E e de)(hN:X.N[i]?=some x:=by rfl)(hv:Vis X.env.scope x:=by first | exact Or.inl rfl | exact Or.inr (Or.inl rfl) | exact Or.inr (Or.inr rfl))(hd:(x == ("__debug__" : Str))=false:=by decide)
  (hcd:(x == ("__classdict__" : Str))=false:=by decide) (h1:attributeBase (.Name x p) "extend" X.env (eval (.Name x p) X.env)=eval (.Name x p) X.env:=by rfl)
  (h2:((backTo cpos (starEach [e] X.env)).all (fun x=>!x.1) && (backToKw cpos (keywordEach [] X.env)).all (fun x=>x.1.isSome) && decide ([e].length+([]:List Keyword).length+(if([]:List Keyword).isEmpty then 0 else 1)<30))=true:=by rfl)
  (h3:(apos.endLine == cpos.line)=true:=by rfl) (h4:starEach [e] X.env=(false,eval e X.env)::starEach [] X.env:=by rfl) (h5:(backTo cpos (starEach [] X.env)).any (·.1)=false:=by rfl)
  (hs:swapsWith (.Call (.Attribute (.Name x p) "extend" apos) [e] [] cpos) none pos.line X.env=pure false:=by rfl) :
  DS X E pin (.Expr (.Call (.Attribute (.Name x p) "extend" apos) [e] [] cpos) pos) (dExt i de):=fun F S ε σ H D rl h=>by
 unfold dExt at h
 cases e0:ownL ε i with
 | none=>rw[e0]at h; exact h.elim
 | some xs0 =>
  rw[e0]at h
  simp only[lift_some,R.bind_ok]at h
  obtain⟨a,vs0,ea,ha,_,_,_⟩:=rl.lstAt (ownL_eq e0)
  refine wp_s (ps_expr (pe_bm PySem.F.plainAttrs_list PySem.F.slot_list_extend PySem.F.type_list_extend mt_extQ (pe_var hN hv hd hcd) (pa_cons pe_wp pa_nil h4) h1 h2 h3 h4 h5) hs) ⟨.ref a,ea,.inl ⟨rfl,_,SqL.of ha⟩,?_⟩
  refine he F S ε σ H _ rl (h.bindE.imp fun y ε1 F1 S1 H1 r1 g1 q v rv=>?_)
  cases e1:ownL ε1 i with
  | none=>rw[e1]at q; exact q.elim
  | some xs =>
   rw[e1]at q
   simp only[lift_some,R.bind_ok]at q
   obtain⟨a',vs,ea',ha',ra,_,_⟩:=r1.lstAt (ownL_eq e1)
   rw[ea]at ea'
   cases ea'
   split at q
   ·rename_i ys
    split at q
    ·rename_i hl
     obtain⟨c,us,rfl,hc,_,rc⟩:=rv
     obtain⟨r2,g2⟩:=r1.upd (ownL_eq e1) ea (ra.app rc)
     exact⟨a,c,vs,us,rfl,rfl,ha',hc,by rw[ra.len,rc.len]; exact Nat.le_trans hl maxS_le,q F1 S1 σ _ r2 g2 (PinOk.refl _ _)⟩
    ·exact q.elim
   ·exact q.elim
end
mutual
def imm:PV→Bool
 | .lst _=>false
 | .tup xs=>imms xs
 | _=>true
def imms:List PV→Bool
 | []=>true
 | x::xs=>imm x && imms xs
end
mutual
theorem Rep.imm{K:PySem.W.Frag}{H:Hp}{F F':Addr→Prop}:∀ (x:PV) {v:V},imm x=true→Rep K H F x v→Rep K H F' x v
 | .non,_,_,h=>h
 | .bl _,_,_,h=>h
 | .int _,_,_,h=>h
 | .str _,_,_,h=>h
 | .raw _,_,_,h=>h
 | .exc _,_,_,h=>h
 | .lst _,_,e,_=>by simp[Pu.imm]at e
 | .tup xs,_,e,⟨a,vs,e1,h1,h2⟩=>⟨a,vs,e1,h1,Reps.imm xs (by simpa[Pu.imm]using e) h2⟩
theorem Reps.imm{K:PySem.W.Frag}{H:Hp}{F F':Addr→Prop}:∀ (xs:List PV) {vs:List V},imms xs=true→Reps K H F xs vs→Reps K H F' xs vs
 | [],_,_,h=>h
 | x::xs,_,e,⟨v,r,e1,h1,h2⟩=>by
  have e':imm x=true∧imms xs=true:=by simpa[imms]using e
  exact⟨v,r,e1,Rep.imm x e'.1 h1,Reps.imm xs e'.2 h2⟩
end
section
variable{K:PySem.W.Frag}{F:Addr→Prop}{S:Nat→Addr→Prop}{ε:PEnv}{σ:St}{H:Hp}{i:Nat}{xs:List PV}
theorem Rel.look(r:Rel K F S ε σ H)(e:ε[i]?=some (.own (.lst xs))):∃ a,σ[i]?=some (some (.ref a))∧¬ F a∧Rep K H (fun b=>F b∨b=a) (.lst xs) (.ref a)∧(∀ b,F b∨b=a→∃ o,H b=some o) ∧
  (∀ {F' H'},Al (fun b=>F b∨b=a) F' H H'→Al F (fun b=>F' b∧b≠a) H H'):=by
 obtain⟨a,vs,e1,h1,h2,h3,h4⟩:=r.lstAt e
 have nF:¬ F a:=(r.foot i a h3).2.1
 refine⟨a,e1,nF,⟨a,vs,rfl,.inl h1,.inr rfl,Reps.mono (fun _ z=>.inl z) (fun _ _ _ z=>z) (fun _ _ z _=>z) _ _ h2⟩,fun b z=>z.elim (r.ex b) fun z=>by rw[z]; exact⟨_,h1⟩,fun {F' H'} al=>⟨fun b z=>⟨al.fro b (.inl z),by rintro rfl; exact nF z⟩,al.same,fun b z=>?_⟩⟩
 rcases al.fnew b z.1 with(w | w) | w
 ·exact .inl w
 ·exact absurd w z.2
 ·exact .inr w
end
section
variable{X:Cx}{E:XK}{e b:Expr}{de db:PEnv→R PV}{pos p:Pos}{x y:Str}{id T:String}{r:List V→Hp→VK→Prop}{f:List PV→Option PV}{fn:List PV→Option PO}
def immO(o:Option PV):Option PV:=o.bind fun v=>if imm v then some v else none
theorem immO_eq{o:Option PV}{v:PV}(h:immO o=some v):o=some v∧imm v=true:=by
 cases o with
 | none=>cases h
 | some w =>
  have h:(if imm w then some w else none)=some v:=h
  split at h
  ·cases h; exact⟨rfl,by assumption⟩
  ·cases h
def immPO:PO→Bool
 | .lst xs=>imms xs
 | _=>false
def dOwn1{α:Type}(f:List PV→Option α)(i:Nat):PEnv→R α:=fun ε=>(lift (ownL ε i) ε).bind fun xs ε=>lift (f [.lst xs]) ε
theorem own1_run{F:Addr→Prop}{S:Nat→Addr→Prop}{ε:PEnv}{σ:St}{H:Hp}{Q:VK}{i:Nat}(hp:PL X.K r f)(rl:Rel X.K F S ε σ H)(h:Ok X.K E σ F S H (dOwn1 (fun xs=>immO (f xs)) i ε) (fun pv _ F' _ H'=>∀ v,Rep X.K H' F' pv v→Q v H')) :
  ∃ a,σ[i]?=some (some (.ref a))∧r [.ref a] H Q:=by
 unfold dOwn1 at h
 cases e0:ownL ε i with
 | none=>rw[e0]at h; exact h.elim
 | some xs =>
  rw[e0]at h
  simp only[lift_some,R.bind_ok]at h
  obtain⟨a,ea,nF,ra,hex,hal⟩:=rl.look (ownL_eq e0)
  refine⟨a,ea,?_⟩
  cases e1:immO (f [.lst xs])with
  | none=>rw[e1]at h; exact h.elim
  | some pv =>
   rw[e1]at h
   obtain⟨e2,e3⟩:=immO_eq e1
   exact hp _ H [.lst xs] [.ref a] Q pv (.one ra) e2 fun w F' H' al rw'=>h _ S H' (rl.al (hal al)) (hal al).grow w (Rep.imm pv e3 rw')
theorem de_own1B(i:Nat)(hc:CallR X (.builtin id) r)(hp:PL X.K r f)(hm:X.mg x=none)(hv:bootBuiltins x=some (.builtin id))(hN:X.N[i]?=some y:=by rfl)(hvs:Vis X.env.scope y:=by first | exact Or.inl rfl | exact Or.inr (Or.inl rfl) | exact Or.inr (Or.inr rfl))
  (hd:(y == ("__debug__" : Str))=false:=by decide) (hcd:(y == ("__classdict__" : Str))=false:=by decide) (hg:Gl X x:=by rfl) (hn:x≠"__name__":=by decide) (hdb:(x == ("__debug__" : Str))=false:=by decide) {yp:Pos}
  (he:starEach [.Name y yp] X.env=(false,eval (.Name y yp) X.env)::starEach [] X.env:=by rfl) (hpl:(backTo pos (starEach [] X.env)).any (·.1)=false:=by rfl):DE X E (.Call (.Name x p) [.Name y yp] [] pos) (dOwn1 (fun xs=>immO (f xs)) i):=fun F S ε σ H Q rl q=>by
 obtain⟨a,ea,hr⟩:=own1_run hp rl q
 exact wp_e (pe_callB hc hg hm hv (pa_cons (pe_var hN hvs hd hcd) pa_nil he) hn hdb he hpl) ⟨_,ea,hr⟩
def immN(o:Option PO):Option PO:=o.bind fun v=>if immPO v then some v else none
end
end Pu
namespace Pu
open PySem PySem.Spec PyProof.Rows L2
def Fly(h:Heap)(e T:Addr)(c fl:Value):Prop:=∃ oe vs oT ts,h.get? e=some oe∧oe.cls=c∧(oe.data = .fields vs∧oe.dict=none)∧vs[1]?=some (.ref T)∧T≠e∧h.get? T=some oT∧oT.data = .fields ts∧ts[3]?=some fl
def Made(h:Heap)(e:Addr)(c:Value):Prop:=∃ oe vs,h.get? e=some oe∧oe.cls=c∧(oe.data = .fields vs∧oe.dict=none)∧vs[1]?=some .none
structure Kp(fs:List Addr)(X:Addr→Prop)(h h':Heap):Prop where
 keep:∀ b o,h.get? b=some o→b∉fs→¬ X b→h'.get? b=some o
 slot:∀ b o,h.get? b=some o→b∈fs→¬ X b→∃ sl,h'.get? b=some { o with slots:=sl }
 there:∀ b o,h.get? b=some o→∃ o',h'.get? b=some o'
theorem Kp.trans{fs:List Addr}{X Y:Addr→Prop}{h h1 h2:Heap}(a:Kp fs X h h1)(b:Kp fs Y h1 h2):Kp fs (fun c=>X c∨Y c) h h2 where
 keep:=fun c o e n x=>b.keep c o (a.keep c o e n fun z=>x (.inl z)) n fun z=>x (.inr z)
 slot:=fun c o e n x=>by
  obtain⟨sl,e1⟩:=a.slot c o e n fun z=>x (.inl z)
  obtain⟨sl2,e2⟩:=b.slot c _ e1 n fun z=>x (.inr z)
  exact⟨sl2,e2⟩
 there:=fun c o e=>let ⟨o',e'⟩:=a.there c o e; b.there c o' e'
theorem Kp.imp{fs fs':List Addr}{X Y:Addr→Prop}{h h':Heap}(a:Kp fs X h h')(hfs:∀ b,b∈fs→b∈fs')(hX:∀ b o,h.get? b=some o→X b→Y b):Kp fs' Y h h' where
 keep:=fun c o e n x=>a.keep c o e (fun z=>n (hfs c z)) fun z=>x (hX c o e z)
 slot:=fun c o e n x=>by
  by_cases hc:c∈fs
  ·exact a.slot c o e hc fun z=>x (hX c o e z)
  ·exact⟨o.slots,a.keep c o e hc fun z=>x (hX c o e z)⟩
 there:=a.there
theorem dict_mapFields(f:Array Value→Array Value)(o:Obj):(Obj.mapFields f o).dict=o.dict:=by
 obtain⟨c,d,dt,sl⟩:=o
 cases dt <;> rfl
section
variable{M:Model}{A:Around}{E:Value→Shared→Prop}{s:Shared}
theorem wp_entry{base:Heap}{env:Env}{outer:List Env}{L e:Addr}{oe:Obj}{vs:Array Value}{head:Value}{hadNext:Bool}{Q:Unit→Shared→Prop}
  (hfr:A.frames=some (env::outer)) (hl:s.heap.FunFrames base (env::outer)) (hf:env.frame=some L) (he:s.heap.get? e=some oe) (hd:oe.data = .fields vs) (hdn:oe.dict=none) (hsz:1<vs.size)
  (h:∀ h' T,Kp (frs (env::outer)) (fun b=>b=e) s.heap h'→Fly h' e T oe.cls .none→s.heap.objs.size≤T→Q () { s with heap:=h' }) :
  wpAny M A (do let a ← frameOf env; let pl ← entryPlaceOf L hadNext; let b ← EntryCells.newEntry head a .none (rawInt L) .none pl; setField (.ref e) 1 b) (fun _ s'=>wpAny M A (setFlight (.ref e) none) Q E s') E s:=by
 have hene:e∉(env::outer).filterMap (·.frame):=fun hm=>by
  obtain⟨_,o,ho,hnf⟩:=hl.mem hm
  rw[he]at ho; injection ho with ho; subst ho; exact hnf vs hd
 refine wpAny_bind (wpAny_frameOf_fun hfr hl hf fun h₁ hs₁=>?_)
 refine wpAny_bind (wpAny_entryPlaceOf fun pl hpl=>?_)
 unfold EntryCells.newEntry newFields
 refine wpAny_bind (wpAny_newObj_type ?_ (hpl.sizeOk5 _ _ _ _ _))
 have he₁:h₁.get? e=some oe:=(hs₁.2.1 e hene).trans he
 have he₂:=Heap.get?_push_of_some (h:=h₁) { cls:=.type "traceback",dict:=none,data:=.fields ([head,.ref L,.none,rawInt L,.none]++(if pl.isEmpty then List.replicate 6 Value.none else pl)).toArray } he₁
 refine wpAny_setField he₂ hd hsz ?_
 have hTe:h₁.objs.size≠e:=Nat.ne_of_gt (Heap.lt_size he₁)
 have hd₃:=Obj.data_mapFields hd (·.setIfInBounds 1 (Value.ref h₁.objs.size))
 have he₃:=Heap.get?_update_self (Obj.mapFields (·.setIfInBounds 1 (Value.ref h₁.objs.size))) he₂ (Obj.isFreed_of_fields hd₃)
 have hT₃:=(Heap.get?_update_other (h₁.push { cls:=.type "traceback",dict:=none,data:=.fields ([head,.ref L,.none,rawInt L,.none]++(if pl.isEmpty then List.replicate 6 Value.none else pl)).toArray })
  (Obj.mapFields (·.setIfInBounds 1 (Value.ref h₁.objs.size))) (Ne.symm hTe)).trans (Heap.get?_push_size h₁ rfl)
 unfold setFlight
 refine wpAny_bind (wpAny_field he₃ hd₃ (x:=.ref h₁.objs.size) (by simp[hsz]) ?_)
 rw[if_pos (show(Value.ref h₁.objs.size != Value.none)=true from by simp)]
 refine wpAny_setField hT₃ rfl (by simp only[List.size_toArray,List.length_append,List.length_cons,List.length_nil] <;> ac_rfl) (h _ h₁.objs.size ?_ ?_ ?_)
 ·have keep:∀ b o,b≠e→h₁.get? b=some o →
    (((h₁.push { cls:=.type "traceback",dict:=none,data:=.fields ([head,.ref L,.none,rawInt L,.none]++(if pl.isEmpty then List.replicate 6 Value.none else pl)).toArray }).update e (Obj.mapFields (·.setIfInBounds 1 (Value.ref h₁.objs.size)))).update h₁.objs.size
     (Obj.mapFields (·.setIfInBounds 3 ((none:Option Addr).elim Value.none fun f=>rawInt f)))).get? b=some o:=fun b o hbe hb=>by
   have hbT:h₁.objs.size≠b:=Nat.ne_of_gt (Heap.lt_size hb)
   rw[Heap.get?_update_other _ _ hbT,Heap.get?_update_other _ _ (Ne.symm hbe)]
   exact Heap.get?_push_of_some _ hb
  refine⟨fun b o hb hn hx=>keep b o hx ((hs₁.2.1 b hn).trans hb),fun b o hb hn hx=>?_,fun b o hb=>?_⟩
  ·obtain⟨sl,q⟩:=hs₁.2.2 b o hb
   exact⟨sl,keep b _ hx q⟩
  ·by_cases hbe:b=e
   ·subst hbe
    exact⟨_,(Heap.get?_update_other _ _ hTe).trans he₃⟩
   ·obtain⟨sl,q⟩:=hs₁.2.2 b o hb
    exact⟨_,keep b _ hbe q⟩
 ·refine⟨_,_,_,_,(Heap.get?_update_other _ _ hTe).trans he₃,Obj.cls_mapFields _ _,⟨hd₃,by rw[dict_mapFields]; exact hdn⟩,by simp[hsz],hTe,Heap.get?_update_self _ hT₃ (Obj.isFreed_of_fields (Obj.data_mapFields rfl _)),Obj.data_mapFields rfl _,by first | (simp; done) | (rcases hpl with rfl | ⟨_,_,_,_,_,_,_,rfl⟩ <;> simp)⟩
 ·exact Nat.le_of_eq hs₁.1.symm
theorem wp_leave_first{base:Heap}{env:Env}{outer:List Env}{L e:Addr}{c:Value}{Q:Unit→Shared→Prop}(hfr:A.frames=some (env::outer))(hl:s.heap.FunFrames base (env::outer))(hf:env.frame=some L)(hm:Made s.heap e c)
  (h:∀ h' T,Kp (frs (env::outer)) (fun b=>b=e) s.heap h'→Fly h' e T c .none→s.heap.objs.size≤T→Q () { s with heap:=h' }):wpAny M A (leaving env (.ref e)) Q E s:=by
 obtain⟨oe,vs,he,hc,⟨hd,hdn⟩,h1⟩:=hm
 subst hc
 unfold leaving noteFrame
 simp only[hf]
 refine wpAny_bind (wpAny_bind (wpAny_field he hd h1 ?_))
 rw[if_neg (by decide)]
 exact wp_entry hfr hl hf he hd hdn (Array.getElem?_eq_some_iff.mp h1).1 h
theorem wp_note_next{base:Heap}{env:Env}{outer:List Env}{L e T:Addr}{c:Value}{Q:Unit→Shared→Prop}(hfr:A.frames=some (env::outer))(hl:s.heap.FunFrames base (env::outer))(hf:env.frame=some L)(ht:Fly s.heap e T c .none)
  (h:∀ h' T',Kp (frs (env::outer)) (fun b=>b=e∨b=T) s.heap h'→Fly h' e T' c .none→s.heap.objs.size≤T'→Q () { s with heap:=h' }) :
  wpAny M A (noteFrame (.ref e) env) (fun _ s2=>wpAny M A (setFlight (.ref e) none) Q E s2) E s:=by
 obtain⟨oe,vs,oT,ts,he,hcls,⟨hd,hdn⟩,h1,hTe,hT,hdT,h3⟩:=ht
 subst hcls
 unfold noteFrame
 simp only[hf]
 refine wpAny_bind (wpAny_field he hd h1 ?_)
 rw[if_pos (show(Value.ref T != Value.none)=true from by simp)]
 refine wpAny_bind (wpAny_field hT hdT h3 ?_)
 rw[if_neg (show ¬ ((Value.none == rawInt L)=true)from by simp[rawInt])]
 refine wpAny_bind (wpAny_setField hT hdT (Array.getElem?_eq_some_iff.mp h3).1 ?_)
 have other:∀ b,b≠T→(s.heap.update T (Obj.mapFields (·.setIfInBounds 3 Value.none))).get? b=s.heap.get? b:=fun b hb=>Heap.get?_update_other _ _ (Ne.symm hb)
 have noRecord:∀ b o,s.heap.get? b=some o→(∀ vs,o.data≠.fields vs)→b≠T:=fun b o hb hnf q=>by
  rw[q,hT]at hb; injection hb with hb; subst hb; exact hnf ts hdT
 refine wp_entry hfr (hl.of_keeps fun b o hb hnf=>⟨o,(other b (noRecord b o hb hnf)).trans hb,rfl⟩) hf ((other e (Ne.symm hTe)).trans he) hd hdn (Array.getElem?_eq_some_iff.mp h1).1 fun h' T' k fl hn=>?_
 have k0:Kp (frs (env::outer)) (fun b=>b=T) s.heap (s.heap.update T (Obj.mapFields (·.setIfInBounds 3 Value.none))):=by
  refine⟨fun b o hb _ hx=>(other b hx).trans hb,fun b o hb _ hx=>⟨o.slots,(other b hx).trans hb⟩,fun b o hb=>?_⟩
  by_cases hx:b=T
  ·subst hx
   exact⟨_,Heap.get?_update_self _ hT (Obj.isFreed_of_fields (Obj.data_mapFields hdT _))⟩
  ·exact⟨o,(other b hx).trans hb⟩
 refine h h' T' ((k0.trans k).imp (fun _ z=>z) fun b o _ z=>z.symm) fl ?_
 have e2:(s.heap.update T (Obj.mapFields (·.setIfInBounds 3 Value.none))).objs.size≤T':=hn
 rwa[Heap.size_update]at e2
theorem wp_leave_next{base:Heap}{env:Env}{outer:List Env}{L e T:Addr}{c:Value}{Q:Unit→Shared→Prop}(hfr:A.frames=some (env::outer))(hl:s.heap.FunFrames base (env::outer))(hf:env.frame=some L)(ht:Fly s.heap e T c .none)
  (h:∀ h' T',Kp (frs (env::outer)) (fun b=>b=e∨b=T) s.heap h'→Fly h' e T' c .none→s.heap.objs.size≤T'→Q () { s with heap:=h' }):wpAny M A (leaving env (.ref e)) Q E s:=by
 unfold leaving
 exact wpAny_bind (wp_note_next hfr hl hf ht h)
end
end Pu
namespace Pu
open PySem PySem.Spec PyProof.Rows L2
def CXE(P:Program)(w:World):CXT:=fun outer H s E e s'=>∃ (a T:Addr) (c:Value) (H':Hp),e = .ref a∧s'.os=s.os∧AllBare s'.gens∧Un (frs outer) [] H H' s.heap s'.heap∧HOk P w H' s'.heap∧Fly s'.heap a T c .none ∧
 (s.heap.get? a=none∧s.heap.get? T=none∧H' a=none∧H' T=none)∧E c none H'
theorem obj_ex{P:Program}{w:World}{H:Hp}{h:Heap}{a:Addr}{o:HO}(x:ObjOk P w H h a o):∃ u,h.get? a=some u:=by
 cases o with
 | lst xs=>obtain⟨_,_,_,_,e⟩:=x; exact⟨_,e⟩
 | tup xs=>obtain⟨_,_,_,⟨o,e,_⟩,_⟩:=x; exact⟨_,e⟩
 | dK kvs=>obtain⟨_,_,_,_,o,_,_,e,_⟩:=x; exact⟨_,e⟩
 | dT kvs=>obtain⟨_,_,_,_,o,_,_,e,_⟩:=x; exact⟨_,e⟩
 | set S n=>obtain⟨o,_,_,_,e,_⟩:=x; exact⟨_,e⟩
 | ins C dx fs=>obtain⟨_,_,_,e,_⟩:=x; exact⟨_,e⟩
 | own y=>exact x
 | xd fs=>obtain⟨_,⟨_,_,_,e,_⟩,_⟩:=x; exact⟨_,e⟩
 | rng lo hi=>obtain⟨_,_,_,e⟩:=x; exact⟨_,e⟩
 | frz ob u=>obtain⟨e,_⟩:=x; exact⟨_,e⟩
 | tbl ps=>exact⟨_,x⟩
 | met f y=>exact⟨_,x⟩
 | ext φ=>obtain⟨_,e,_⟩:=x; exact e
theorem hok_new{P:Program}{w:World}{H:Hp}{h:Heap}{a:Addr}(x:HOk P w H h)(e:h.get? a=none):H a=none:=by
 cases q:H a with
 | none=>rfl
 | some u=>obtain⟨o,z⟩:=obj_ex (x a u q); rw[e]at z; cases z
theorem un_old{fs:List Addr}{H H':Hp}{h h':Heap}{a:Addr}(u:Un fs [] H H' h h')(e:h'.get? a=none):h.get? a=none:=by
 cases q:h.get? a with
 | none=>rfl
 | some o=>obtain⟨o',z⟩:=u.there a o q (by simp); rw[e]at z; cases z
theorem un_kp{fs fs':List Addr}{H H':Hp}{h h1 h2:Heap}{X:Addr→Prop}(u:Un fs [] H H' h h1)(k:Kp fs' X h1 h2)(hf:∀ b o,h.get? b=some o→b∈fs'→b∈fs)(hX:∀ b o,h.get? b=some o→¬ X b):Un fs [] H H' h h2 where
 keep:=fun b o e n hb hx=>k.keep b o (u.keep b o e n hb hx) (fun z=>hb (hf b o e z)) (hX b o e)
 slot:=fun b o e n hb hx=>by
  obtain⟨sl,e1⟩:=u.slot b o e n hb hx
  by_cases hb':b∈fs'
  ·obtain⟨sl2,e2⟩:=k.slot b _ e1 hb' (hX b o e)
   exact⟨sl2,e2⟩
  ·exact⟨sl,k.keep b _ e1 hb' (hX b o e)⟩
 free:=u.free
 there:=fun b o e hx=>let ⟨o',e'⟩:=u.there b o e hx; k.there b o' e'
 tups:=u.tups
 frzs:=u.frzs
 tbls:=u.tbls
theorem hok_kp{P:Program}{w:World}{fs:List Addr}{H:Hp}{h h':Heap}{X:Addr→Prop}(x:HOk P w H h)(k:Kp fs X h h')(hf:∀ b∈fs,H b=none)(hX:∀ b,X b→H b=none):HOk P w H h':=fun b u e =>
 (x b u e).stay (fun c v hc q=>k.keep c v q (fun z=>by
   have:=hf c z
   rcases hc with rfl | hc
   ·rw[e]at this; cases this
   ·rw[hc]at this; cases this) fun z=>by
   have:=hX c z
   rcases hc with rfl | hc
   ·rw[e]at this; cases this
   ·rw[hc]at this; cases this) (fun _ q=>q) fun _ _ q=>q
section
variable{P:Program}{w:World}{K:PySem.W.Frag}{mg:Str→Option Value}{base:Heap}{N:List Str}{qual:Str}{scope:Scope}{f:Addr}{cd:Value}{A:Around}{outer:List Env}{s₀:Shared}{H₀:Hp}{E:XK}
theorem passE:Passes (CXE P w) (cxOf (CXE P w) P w K mg base N qual scope f cd A outer s₀ H₀ E) E:=fun pins σ H s e s' I h=>by
 obtain⟨a,T,c,H',rfl,ho,hg,un,hok,fl,⟨fa,fT,na,nT⟩,hE⟩:=h
 have I':=I.call' (s':=s') (ch:=[]) ho un hok hg (fun b z=>absurd z (by simp))
 refine wp_leave_next (L:=s₀.heap.objs.size) I.ok.frames I'.stack rfl fl fun h'' T' k fl' fT'=>?_
 have ex0:(cxOf (CXE P w) P w K mg base N qual scope f cd A outer s₀ H₀ E).ex=[]:=rfl
 have fa0:s₀.heap.get? a=none:=un_old I.base fa
 have fT0:s₀.heap.get? T=none:=un_old I.base fT
 have fT0':s₀.heap.get? T'=none:=un_old I'.base (Heap.get?_none_of_le fT')
 have old:∀ b o,s₀.heap.get? b=some o→b≠a∧b≠T:=fun b o e=>⟨(by rintro rfl; rw[fa0]at e; cases e),(by rintro rfl; rw[fT0]at e; cases e)⟩
 refine⟨a,T',c,H',rfl,I'.os,I'.bare,un_kp I'.base k (fun b o e z=>?_) (fun b o e z=>z.elim (old b o e).1 (old b o e).2),hok_kp I'.hok k I'.stkFree (fun b z=>by rcases z with rfl | rfl <;> assumption),fl',⟨fa0,fT0',na,I'.hok.fresh fT'⟩,hE⟩
 rcases List.mem_cons.mp (I.stkSub b z)with q | q
 ·exact absurd (Heap.lt_size e) (by rw[q]; exact Nat.lt_irrefl _)
 ·exact q
end
section
variable{X:Cx}{E:XK}{pin:List Nat}{e:Expr}{de:PEnv→R PV}{x:Str}{C:Addr}{bmB:List Value}{newId initId B:String}{np cpos pos:Pos}
def Raises(X:Cx)(E:XK):Prop:=∀ (pins:List (Addr×Obj)) (σ:St) (H:Hp) (s:Shared) (a:Addr) (c:Value) (h':Heap),Inv X pins σ H s→(∀ b o,s.heap.get? b=some o→h'.get? b=some o)→Made h' a c→s.heap.get? a=none→(E c none H)→X.xe (.ref a) { s with heap:=h' }
def dRaise(c:Value)(de:PEnv→R PV):PEnv→R Flw:=fun ε=>(de ε).bind fun _ ε1=>.er c ε1
theorem made_of{h h':Heap}{e:Addr}{cls:Value}{args:List Value}(m:Heap.MadeExcOf h h' e cls args):Made h' e cls:=by
 obtain⟨t,he,_,_⟩:=m.there
 exact⟨_,_,he,rfl,⟨rfl,rfl⟩,rfl⟩
theorem ds_raise(hx:Raises X E)(hc:X.calm=true)(O:OwnCls x C bmB newId X.mg X.base)(FB:ExcBaseFacts B newId initId bmB)(he:DE X.nox E0 e de)(hg:Gl X x:=by rfl)(hd:(x == ("__debug__" : Str))=false:=by decide)
  (h1:starEach [e] X.env=[(false,eval e X.env)]:=by rfl):DS X E pin (.Raise (some (.Call (.Name x np) [e] [] cpos)) none pos) (dRaise (.ref C) (fun ε=>noE (de ε))):=fun F S ε σ H D rl q=>Bx.mk fun pins s I=>by
 obtain⟨tl,N,nm,qn,bs,hdct,sn,sub,ab,col,dd,k0,k1,k2,k3,k5,mN,hC,hN,hni,T⟩:=O.obj
 refine wpAny_Raise_call_subT (C:=C) (nm:=nm) (q:=qn) (N:=N) (bs:=bs) (bm:=tl) (hdct:=hdct) (sn:=sn) (sub:=sub) (ab:=ab) (col:=col) (dd:=dd) (k0:=k0) (k1:=k1) (k2:=k2) (k3:=k3) (k5:=k5)
  FB (mN:=mN) (T.hasType FB.hasBase) (I.ok.hd hc) (by rw[h1]; rfl) hni (ld_glob I hg O.bound ⟨rfl,?_⟩ hd)
 have q2:Ok X.K E0 σ F S H (de ε) (fun _ ε1 F1 S1 H1=>OkS X.K E pin σ F1 S1 H1 (.er (.ref C) ε1) D):=by
  have q:OkS X.K E pin σ F S H ((noE (de ε)).bind fun _ ε1=>.er (.ref C) ε1) D:=q
  cases e0:de ε with
  | no=>rw[e0]at q; exact q.elim
  | er c ε'=>rw[e0]at q; exact q.elim
  | ok v ε'=>rw[e0]at q; exact fun F' S' H' r' g'=>q.from g' (PinOk.refl _ _)
 rw[h1]
 refine Calls.evalArgs_plain (wpAny_mono (Calls.spliced_cons (wpAny_mono ((he F S ε σ H (fun v H1=>∃ F1 S1 ε1,Rel X.K F1 S1 ε1 σ H1∧OkS X.K E pin σ F1 S1 H1 (.er (.ref C) ε1) D) rl (q2.imp fun v ε1 F1 S1 H1 r1 g1 h v' rv=>⟨F1,S1,ε1,r1,h⟩)).run pins s (I.wish _)) (fun u s1 ⟨v,H1,I1,r1,F1,S1,ε1,rl1,ok⟩=>?_) fun _ _ z=>z.elim)) (fun _ _ z=>z) fun _ _ z=>z)
 have I1:=I1.unwish
 refine Calls.spliced_nil ⟨rfl,(by show 1≤sizeLine; decide),I1.bk _ _ hC,hN.keeps I1.bk,T.keeps I1.bk,fun h' a m=>?_⟩
 exact hx pins σ H1 s1 a (.ref C) h' I1 m.keeps (made_of m) m.new (ok none F1 S1 σ H1 rl1 (Grow.refl ..) (PinOk.refl _ _))
end
section
variable{P:Program}{w:World}{K:PySem.W.Frag}{mg:Str→Option Value}{base:Heap}{N:List Str}{qual:Str}{scope:Scope}{f:Addr}{cd:Value}{A:Around}{outer:List Env}{s₀:Shared}{H₀:Hp}{E:XK}
theorem raisesE:Raises (cxOf (CXE P w) P w K mg base N qual scope f cd A outer s₀ H₀ E) E:=fun pins σ H s a c h' I kp md new hE=>by
 have I':Inv _ pins σ H { s with heap:=h' }:=I.kept (t':=s.toks) kp
 refine wp_leave_first (s:={ s with heap:=h' }) (L:=s₀.heap.objs.size) I.ok.frames I'.stack rfl md fun h'' T' k fl' fT'=>?_
 have fa0:s₀.heap.get? a=none:=un_old I.base new
 have fT0':s₀.heap.get? T'=none:=un_old I'.base (Heap.get?_none_of_le fT')
 have na:H a=none:=hok_new I.hok new
 refine⟨a,T',c,H,rfl,I'.os,I'.bare,un_kp I'.base k (fun b o e z=>?_) (fun b o e z=>by rw[show b=a from z,fa0]at e; cases e),hok_kp I'.hok k I'.stkFree (fun b z=>by rw[show b=a from z]; exact na),fl',⟨fa0,fT0',na,I'.hok.fresh fT'⟩,hE⟩
 rcases List.mem_cons.mp (I.stkSub b z)with q | q
 ·exact absurd (Heap.lt_size e) (by rw[q]; exact Nat.lt_irrefl _)
 ·exact q
end
end Pu
namespace Pu
open PySem PySem.Spec PyProof.Rows L2
def XP(X:Cx)(pins:List (Addr×Obj))(σ:St)(XE:Value→Hp→Prop)(e:Value)(s':Shared):Prop:=∃ s1 H1,Inv X pins σ H1 s1∧CXE X.prog X.w X.stack H1 s1 (fun c _ H'=>XE c H') e s'
end Pu
namespace Pu
open PySem PySem.Spec PyProof.Rows L2
def Under(h:Heap)(D:Addr)(c:Value):Prop:=∃ C bm N nm q bs hdct sn sub ab col dd k0 k1 k2 k3 k5 newId,c = .ref C∧h.get? C=some (excClassObj nm q C N bs bm hdct sn sub ab col dd k0 k1 k2 k3 k5 newId)∧(Value.ref C::bm).contains (.ref D)=true
def ErrC(h:Heap)(D:Addr):Prop:=∃ bm N nm q bs hdct sn sub ab col dd k0 k1 k2 k3 k5 newId,h.get? D=some (excClassObj nm q D N bs bm hdct sn sub ab col dd k0 k1 k2 k3 k5 newId)∧bm.contains (.type "BaseException")=true
theorem Under.keeps{h h':Heap}{D:Addr}{c:Value}(x:Under h D c)(k:∀ b o,h.get? b=some o→h'.get? b=some o):Under h' D c:=by
 obtain⟨C,bm,N,nm,q,bs,hdct,sn,sub,ab,col,dd,k0,k1,k2,k3,k5,newId,e,h1,h2⟩:=x
 exact⟨C,bm,N,nm,q,bs,hdct,sn,sub,ab,col,dd,k0,k1,k2,k3,k5,newId,e,k _ _ h1,h2⟩
theorem ErrC.keeps{h h':Heap}{D:Addr}(x:ErrC h D)(k:∀ b o,h.get? b=some o→h'.get? b=some o):ErrC h' D:=by
 obtain⟨bm,N,nm,q,bs,hdct,sn,sub,ab,col,dd,k0,k1,k2,k3,k5,newId,h1,h2⟩:=x
 exact⟨bm,N,nm,q,bs,hdct,sn,sub,ab,col,dd,k0,k1,k2,k3,k5,newId,k _ _ h1,h2⟩
end Pu
namespace Pu
open PySem PySem.Spec PyProof.Rows L2
structure RoomU(k:Nat)(A:Around):Prop where
 dp:A.depth+3 * k+5<recursionLimit
 un:A.units+16 * k+200<cLine
theorem Room.u{k:Nat}{A:Around}(r:Room k A):RoomU k A:=⟨r.dp,r.un⟩
theorem RoomU.mono{j k:Nat}{A:Around}(r:RoomU k A)(h:j≤k):RoomU j A:=⟨by have:=r.dp; ac_rfl,by have:=r.un; ac_rfl⟩
theorem RoomU.deeper{k:Nat}{A:Around}(r:RoomU (k+1) A)(env:Env):RoomU k (A.deeper env) :=
 ⟨by have:=r.dp; show A.depth+1+3 * k+5<_; ac_rfl,by have:=r.un; show A.units+3+16 * k+200<_; ac_rfl⟩
theorem RoomU.units{k:Nat}{A:Around}(r:RoomU k A):A.units+64<cLine:=by have:=r.un; ac_rfl
end Pu
namespace Pu
open PySem PySem.Spec PyProof.Rows L2
theorem inS_one(c:Nat)(x:Tx):inS [c] x=x.contains c:=by
 unfold inS
 have:=StrLaws.found_one (tS x) c
 rw[tS_cps]at this
 rw[show(tS [c])=⟨#[c]⟩from rfl,this]
 simp[List.contains_eq_mem]
end Pu
namespace Pu
open PySem PySem.Spec PyProof.Rows L2
section
variable{K:PySem.W.Frag}{F F':Addr→Prop}{S S':Nat→Addr→Prop}{ε ε':PEnv}{σ:St}{H H':Hp}{i:Nat}{po:PO}
variable{a b:Addr}{xss:List (List PV)}{as:List Addr}{j:Nat}{xs:List PV}{vs:List V}
theorem LReps.len(h:LReps K H F xss as):as.length=xss.length:=by
 unfold LReps at h
 induction h with
 | nil=>rfl
 | cons _ _ ih=>simp[ih]
theorem LReps.get(h:LReps K H F xss as)(e:xss[j]?=some xs):∃ b vs,as[j]?=some b∧H b=some (.lst vs)∧Reps K H F xs vs:=by
 unfold LReps at h
 induction h generalizing j with
 | nil=>simp at e
 | cons r _ ih =>
  cases j with
  | zero=>simp at e; subst e; obtain⟨vs,h1,h2⟩:=r; exact⟨_,vs,rfl,h1,h2⟩
  | succ j=>obtain⟨b,vs,q⟩:=ih (j:=j) (by simpa using e); exact⟨b,vs,by simpa using q⟩
theorem LReps.set(h:LReps K H F xss as)(nd:as.Nodup)(e:as[j]?=some b){H':Hp}(hFs:∀ x v,Reps K H F x v→Reps K H' F x v)(ho:∀ c o,c∈as→c≠b→H c=some o→H' c=some o)(hb:∃ vs',H' b=some (.lst vs')∧Reps K H' F xs vs'):LReps K H' F (xss.set j xs) as:=by
 unfold LReps at h ⊢
 induction h generalizing j with
 | nil=>exact .nil
 | cons r hr ih =>
  rename_i x c xss as
  have nd2:=List.nodup_cons.mp nd
  cases j with
  | zero =>
   simp at e; subst e
   refine .cons hb ?_
   exact LReps.mono (K:=K) hFs (fun d o hd=>ho d o (by simp[hd]) (by rintro rfl; exact nd2.1 hd)) hr
  | succ j =>
   have e2:as[j]?=some b:=by simpa using e
   have hbm:b∈as:=List.mem_of_getElem? e2
   obtain⟨vs,h1,h2⟩:=r
   exact .cons ⟨vs,ho c _ (by simp) (by rintro rfl; exact nd2.1 hbm) h1,hFs _ _ h2⟩ (ih nd2.2 e2 fun d o hd=>ho d o (by simp[hd]))
theorem LReps.frz(h:LReps K H F xss as)(hF:∀ b∈as,F b):Reps K H F (xss.map .lst) (as.map .ref):=by
 unfold LReps at h
 induction h with
 | nil=>rfl
 | cons r _ ih =>
  obtain⟨vs,h1,h2⟩:=r
  exact⟨_,_,rfl,⟨_,vs,rfl,.inl h1,hF _ (by simp),h2⟩,ih fun b hb=>hF b (by simp[hb])⟩
end
end Pu
namespace Pu
open PySem PySem.Spec PyProof.Rows L2
def ownsIn(pin:List Nat):Nat→PEnv→Bool
 | _,[]=>true
 | i,.own po::ss=>pin.contains i && flatO po && ownsIn pin (i+1) ss
 | i,_::ss=>ownsIn pin (i+1) ss
theorem ownsIn_get{pin:List Nat}:∀ {ss:PEnv} {k:Nat},ownsIn pin k ss=true→∀ (i:Nat) po,ss[i]?=some (.own po)→k+i∈pin∧flatO po=true
 | [],_,_,i,po,e=>by simp at e
 | .own q::ss,k,h,0,po,e=>by
  simp only[List.getElem?_cons_zero,Option.some.injEq,Slot.own.injEq]at e
  subst e
  simp only[ownsIn,Bool.and_eq_true]at h
  exact⟨by simpa using h.1.1,h.1.2⟩
 | .own q::ss,k,h,i+1,po,e=>by
  simp only[ownsIn,Bool.and_eq_true]at h
  have:=ownsIn_get (k:=k+1) h.2 i po (by simpa using e)
  rwa[Nat.add_right_comm,Nat.add_assoc]at this
 | .val q::ss,k,h,0,po,e=>by simp at e
 | .none::ss,k,h,0,po,e=>by simp at e
 | .val q::ss,k,h,i+1,po,e=>by
  have:=ownsIn_get (k:=k+1) (by simpa[ownsIn]using h) i po (by simpa using e)
  rwa[Nat.add_right_comm,Nat.add_assoc]at this
 | .none::ss,k,h,i+1,po,e=>by
  have:=ownsIn_get (k:=k+1) (by simpa[ownsIn]using h) i po (by simpa using e)
  rwa[Nat.add_right_comm,Nat.add_assoc]at this
def grd(len:Nat)(pin:List Nat)(g:PEnv→R Slot):PEnv→R Slot:=fun ss=>if ss.length=len∧ownsIn pin 0 ss=true then g ss else .no
theorem cal_gen{CX:CXT}{P:Program}{w:World}{K:PySem.W.Frag}{mg:Str→Option Value}{base:Heap}{x:Str}{st:Stmt}{N ps:List Str}{k n:Nat}{d:PEnv→R Flw}{pin:List Nat}(D:Def K mg x st)(Sc:FnScope N ps (defScope st))(hn:N.length=ps.length+n)
  (hb:∀ (kV doc pm:Value) (an:Option Addr) (cdv ct:Value) (us:List Value),us.length=ps.length→bindArgs (PySem.W.fnOf x x (defArgs st) (defBody st) (defScope st) .none kV doc pm an cdv ct) ⟨us,[]⟩=pure (ps.zip us))
  (hbody:∀ (f:Addr) (cdv:Value) (A:Around) (outer:List Env) (s:Shared) (H:Hp) (E:XK),Room k (A.deeper (envOfC x (defScope st) s.heap.objs.size f cdv))→DSs (cxOf CX P w K mg base N x (defScope st) f cdv A outer s H E) E pin (defBody st) d) :
  CalX CX P w K mg base x (k+1) ps (spG K (grd ps.length pin (fnD n d))):=by
 have no:∀ {ss},grd ps.length pin (fnD n d) ss≠.no→ss.length=ps.length∧ownsIn pin 0 ss=true:=fun {ss} h=>by
  unfold grd at h
  by_cases z:ss.length=ps.length∧ownsIn pin 0 ss=true
  ·exact z
  ·rw[if_neg z]at h; exact absurd rfl h
 exact cal_of D Sc hn hb (fun ss h=>(no h).1) (fun ss h i po e=>by have:=ownsIn_get (no h).2 i po e; rwa[Nat.zero_add]at this) (fun ss h=>by unfold grd; rw[if_pos (no h)]) hbody
theorem fn_gen{f:Addr}{fd:FuncData}{CX:CXT}{P:Program}{w:World}{K:PySem.W.Frag}{mg:Str→Option Value}{base:Heap}{x qual:Str}{st:Stmt}{N ps:List Str}{k n:Nat}{d:PEnv→R Flw}{pin:List Nat}(Fn:Fun K x qual st f fd)(Sc:FnScope N ps (defScope st))(hn:N.length=ps.length+n)
  (hb:∀ (kV doc pm:Value) (an:Option Addr) (cdv ct:Value) (us:List Value),us.length=ps.length→bindArgs (PySem.W.fnOf x qual (defArgs st) (defBody st) (defScope st) .none kV doc pm an cdv ct) ⟨us,[]⟩=pure (ps.zip us))
  (hbody:∀ (f:Addr) (cdv:Value) (A:Around) (outer:List Env) (s:Shared) (H:Hp) (E:XK),Room k (A.deeper (envOfC qual (defScope st) s.heap.objs.size f cdv))→DSs (cxOf CX P w K mg base N qual (defScope st) f cdv A outer s H E) E pin (defBody st) d) :
  FnOk P w K mg base CX (k+1) f fd ps (spG K (grd ps.length pin (fnD n d))):=by
 have no:∀ {ss},grd ps.length pin (fnD n d) ss≠.no→ss.length=ps.length∧ownsIn pin 0 ss=true:=fun {ss} h=>by
  unfold grd at h
  by_cases z:ss.length=ps.length∧ownsIn pin 0 ss=true
  ·exact z
  ·rw[if_neg z]at h; exact absurd rfl h
 exact fnok_of Fn Sc hn hb (fun ss h=>(no h).1) (fun ss h i po e=>by have:=ownsIn_get (no h).2 i po e; rwa[Nat.zero_add]at this) (fun ss h=>by unfold grd; rw[if_pos (no h)]) hbody
theorem arg1{P:List Value→Prop}(h:∀ a,P [a])(us:List Value)(hl:us.length=1):P us:=by
 cases us with
 | nil=>cases hl
 | cons a r=>cases r with
  | nil=>exact h a
  | cons b r=>cases hl
theorem arg2{P:List Value→Prop}(h:∀ a b,P [a,b])(us:List Value)(hl:us.length=2):P us:=by
 cases us with
 | nil=>cases hl
 | cons a r=>exact arg1 (P:=fun r=>P (a::r)) (h a) r (Nat.succ.inj hl)
theorem arg3{P:List Value→Prop}(h:∀ a b c,P [a,b,c])(us:List Value)(hl:us.length=3):P us:=by
 cases us with
 | nil=>cases hl
 | cons a r=>exact arg2 (P:=fun r=>P (a::r)) (h a) r (Nat.succ.inj hl)
theorem arg4{P:List Value→Prop}(h:∀ a b c d,P [a,b,c,d])(us:List Value)(hl:us.length=4):P us:=by
 cases us with
 | nil=>cases hl
 | cons a r=>exact arg3 (P:=fun r=>P (a::r)) (h a) r (Nat.succ.inj hl)
theorem argB1{fd:FuncData}{ps:List Str}(h:∀ a,bindArgs fd ⟨[a],[]⟩=pure (ps.zip [a]))(us:List Value)(hl:us.length=1):bindArgs fd ⟨us,[]⟩=pure (ps.zip us):=arg1 (P:=fun us=>bindArgs fd ⟨us,[]⟩=pure (ps.zip us)) h us hl
theorem argB2{fd:FuncData}{ps:List Str}(h:∀ a b,bindArgs fd ⟨[a,b],[]⟩=pure (ps.zip [a,b]))(us:List Value)(hl:us.length=2):bindArgs fd ⟨us,[]⟩=pure (ps.zip us):=arg2 (P:=fun us=>bindArgs fd ⟨us,[]⟩=pure (ps.zip us)) h us hl
theorem argB3{fd:FuncData}{ps:List Str}(h:∀ a b c,bindArgs fd ⟨[a,b,c],[]⟩=pure (ps.zip [a,b,c]))(us:List Value)(hl:us.length=3):bindArgs fd ⟨us,[]⟩=pure (ps.zip us):=arg3 (P:=fun us=>bindArgs fd ⟨us,[]⟩=pure (ps.zip us)) h us hl
theorem argB4{fd:FuncData}{ps:List Str}(h:∀ a b c d,bindArgs fd ⟨[a,b,c,d],[]⟩=pure (ps.zip [a,b,c,d]))(us:List Value)(hl:us.length=4):bindArgs fd ⟨us,[]⟩=pure (ps.zip us):=arg4 (P:=fun us=>bindArgs fd ⟨us,[]⟩=pure (ps.zip us)) h us hl
theorem passE0{P:Program}{w:World}{X:Cx}:Passes (CXE P w) X E0:=fun _ _ _ _ _ _ _ h=>by
 obtain⟨a,T,c,H',_,_,_,_,_,_,_,z⟩:=h
 exact z.elim
theorem bt_len:bootBuiltins "len" = some (.builtin "len"):=by decide +kernel
theorem bt_all:bootBuiltins "all" = some (.builtin "all"):=by decide +kernel
theorem bt_sorted:bootBuiltins "sorted" = some (.builtin "sorted"):=by decide +kernel
theorem bt_isinstance:bootBuiltins "isinstance" = some (.builtin "isinstance"):=by decide +kernel
theorem bt_int:bootBuiltins "int" = some (.type "int"):=by decide +kernel
theorem bt_bool:bootBuiltins "bool" = some (.type "bool"):=by decide +kernel
theorem bt_str:bootBuiltins "str" = some (.type "str"):=by decide +kernel
theorem bt_tuple:bootBuiltins "tuple" = some (.type "tuple"):=by decide +kernel
theorem bt_set:bootBuiltins "set" = some (.type "set"):=by decide +kernel
end Pu
namespace Pu
open PySem PySem.Spec PyProof.Rows L2
def isStar:Expr→Bool
 | .Starred _ _=>true
 | _=>false
theorem star_ne{e:Expr}{es:List Expr}{env:Env}(h:isStar e=false):starEach (e::es) env=(false,eval e env)::starEach es env:=by
 cases e <;> first | rfl | cases h
section
variable{X:Cx}{E:XK}{e:Expr}{es:List Expr}{d:PEnv→R PV}{ds:PEnv→R (List PV)}{dg:PEnv→R (List ASlot)}
theorem da_c(ha:DE X E e d)(hr:DA X E es ds)(h:isStar e=false:=by rfl):DA X E (e::es) (dCons d ds):=da_cons ha hr (star_ne h)
theorem dg_w(ha:DE X E e d)(hr:DG X E es dg)(h:isStar e=false:=by rfl):DG X E (e::es) (gV d dg):=dg_v ha hr (star_ne h)
end
end Pu
namespace Pu
open PySem PySem.Spec PyProof.Rows L2
def veB:List Value:=[.type "ValueError",.type "Exception",.type "BaseException",.type "object"]
theorem exc_at{K:PySem.W.Frag}{h:Heap}{C:Addr}{B:List Value}{nw:String}(X:K.In h)(q:PySem.W.excIn K C B nw=true) :
  ∃ bm N nm qn bs hd sn sub ab col dd k0 k1 k2 k3 k5 mN,h.get? C=some (excClassObj nm qn C N bs bm hd sn sub ab col dd k0 k1 k2 k3 k5 nw)∧h.Ns N mN∧mN "__init__" = none∧OwnTail h B bm:=by
 unfold PySem.W.excIn at q
 split at q
 case h_2=>cases q
 case h_1 d0 cdata slots look =>
  split at q
  case h_2=>cases q
  case h_1 C2 tl s0 s1 s2 s3 nn s5 em es =>
   rw[Bool.and_eq_true,Bool.and_eq_true,Bool.and_eq_true,Bool.and_eq_true,Bool.and_eq_true]at q
   obtain⟨⟨⟨⟨⟨q1,q2⟩,q3⟩,q4⟩,q5⟩,q6⟩:=q
   have r1:=beq_iff_eq.mp q1
   have r2:=beq_iff_eq.mp q2
   have r6:=beq_iff_eq.mp q6
   subst r1 r2
   cases cdata
   dsimp only at em q3 q5 r6
   subst em
   have r3:=Bool.not_eq_true' _ |>.mp q3
   subst r3
   have r7:slots = #[s0,s1,s2,s3,some (.builtin nn),s5]:=by cases slots; exact congrArg Array.mk es
   subst r7
   exact⟨tl,_,_,_,_,_,_,_,_,_,d0,s0,s1,s2,s3,s5,_,X _ _ look,Heap.Ns.of_isNs (PySem.W.isNs_of_in X q5),PySem.W.nsMap_none_of_in X q5 r6,PySem.W.tail_of_in X q4⟩
theorem own_at_in{K:PySem.W.Frag}{h:Heap}{mg:Str→Option Value}{x:Str}{C:Addr}{B:List Value}{nw:String}(X:K.In h)(e:mg x=some (.ref C))(q:PySem.W.excIn K C B nw=true):OwnCls x C B nw mg h:=⟨e,exc_at X q⟩
def subB(K:PySem.W.Frag)(D C:Addr):Bool:=match K.lookup C with
 | some ⟨_,_,.cls cd,_⟩=>cd.mro.contains (.ref D)
 | _=>false
def excKB(K:PySem.W.Frag)(C:Addr):Bool :=
 PySem.W.findIn K (.ref C) "__getattribute__" == some (some (.builtin "BaseException.__getattribute__")) && PySem.W.findIn K (.ref C) "__getattr__" == some none && PySem.W.findIn K (.ref C) "__class__" == some (some (.builtin "object.__class__")) &&
 PySem.W.specialIn K (.builtin "object.__class__") "__get__" == some (some (.builtin "getset_descriptor.__get__")) && PySem.W.takesIn K (.builtin "object.__class__") == some true && PySem.W.mroIn K C (.type "object") == some true && PySem.W.mroIn K C (.type "BaseException") == some true && (PySem.W.clsIn K C).isSome
def noList(K:PySem.W.Frag):Bool:=K.all fun p=>match p.2.cls with
 | .type t=>t != "list"
 | _=>true
theorem lookup_mem{a:Addr}{o:Obj}:∀ {K:PySem.W.Frag},K.lookup a=some o→(a,o)∈K
 | [],e=>by cases e
 | (b,u)::K,e=>by
  rw[List.lookup_cons]at e
  cases q:a == b with
  | true=>rw[q]at e; cases e; rw[beq_iff_eq.mp q]; exact List.mem_cons_self ..
  | false=>rw[q]at e; exact List.mem_cons_of_mem _ (lookup_mem e)
theorem ints_rep{K:PySem.W.Frag}{H:Hp}{F:Addr→Prop}:∀ ns:List Int,Reps K H F (ns.map .int) (ns.map V.int)
 | []=>rfl
 | x::ns=>⟨.int x,ns.map V.int,rfl,rfl,ints_rep ns⟩
theorem noList_rd{K:PySem.W.Frag}{H:Hp}{a:Addr}{xs:List V}(h:noList K=true)(s:SqL K H a xs):Rd H a (.lst xs):=by
 rcases s with s | ⟨o,its,n,lk,hc,_⟩
 ·exact s
 ·have:=List.all_eq_true.mp h _ (lookup_mem lk)
  rw[hc]at this
  simp at this
theorem spG_script{K:PySem.W.Frag}{g:PEnv→R Slot}{H:Hp}{a:Addr}{ns:List Int}{E:XK}(hr:Rd H a (.lst (ns.map V.int)))(h:g [.val (.lst (ns.map .int))] = .ok (.val (.bl true)) [.val (.lst (ns.map .int))]):spG K g [.ref a] H (fun v _=>v = .bl true) E:=by
 refine⟨fun b=>b=a,fun _ _=>False,[.val (.lst (ns.map .int))],⟨rfl,fun b e=>?_,fun i pv e=>?_,fun i po e=>?_,fun i b z=>z.elim,fun i j b z=>z.elim⟩,?_⟩
 ·subst e
  rcases hr with hr | ⟨o,hr⟩ <;> exact⟨_,hr⟩
 ·cases i with
  | zero=>cases e; exact⟨_,rfl,a,_,rfl,hr,rfl,ints_rep ns⟩
  | succ i=>simp at e
 ·cases i with
  | zero=>cases e
  | succ i=>simp at e
 ·rw[h]
  exact fun v F' S' H' Sr _ _ rv _ _=>rv.1
theorem vi_mk{K:PySem.W.Frag}{x:Str}{i:Int}{t:Tok}(e:PySem.W.nsIn K mainGlobals x=some (some (.int i t))):∃ t,PySem.W.nsIn K mainGlobals x=some (some (.int i t)):=⟨t,e⟩
theorem vs_mk{K:PySem.W.Frag}{x:Str}{l:Tx}{t:Tok}(e:PySem.W.nsIn K mainGlobals x=some (some (.str (tS l) t))):∃ t,PySem.W.nsIn K mainGlobals x=some (some (.str (tS l) t)):=⟨t,e⟩
def Def0(K:PySem.W.Frag)(x:Str)(st:Stmt):Prop:=∃ f oc od kV dc pm an cd ct sl,PySem.W.nsIn K mainGlobals x=some (some (.ref f))∧K.lookup f=some ⟨oc,od,.func (PySem.W.fnOf x x (defArgs st) (defBody st) (defScope st) .none kV dc pm an cd ct),sl⟩∧PySem.W.codeIn K cd x=true∧PySem.W.keepIn K (.ref f)=true
theorem def0_mk{K:PySem.W.Frag}{x:Str}{st:Stmt}{f:Addr}{oc kV dc pm cd ct:Value}{od an:Option Addr}{sl:Array (Option Value)}(a:PySem.W.nsIn K mainGlobals x=some (some (.ref f)))(l:K.lookup f=some ⟨oc,od,.func (PySem.W.fnOf x x (defArgs st) (defBody st) (defScope st) .none kV dc pm an cd ct),sl⟩)
  (c:PySem.W.codeIn K cd x=true) (k:PySem.W.keepIn K (.ref f)=true):Def0 K x st:=⟨f,oc,od,kV,dc,pm,an,cd,ct,sl,a,l,c,k⟩
theorem Def0.at{K:PySem.W.Frag}{h:Heap}{mg:Str→Option Value}{x:Str}{st:Stmt}(d:Def0 K x st)(X:K.In h)(G:h.Ns mainGlobals mg):Def K mg x st:=by
 obtain⟨f,oc,od,kV,dc,pm,an,cd,ct,sl,a,l,c,k⟩:=d
 exact⟨f,_,PySem.W.mg_of X G a,fun_mk l c k⟩
end Pu
namespace Pu
open PySem PySem.Spec PyProof.Rows L2
def valP(kvs:List (Key×PV))(k:Key):Option PV:=(kvs.find? fun kv=>decide (kv.1=k)).map (·.2)
section
variable{K:PySem.W.Frag}{F:Addr→Prop}{S:Nat→Addr→Prop}{ε:PEnv}{σ:St}{H:Hp}{i:Nat}{kvs:List (Key×PV)}{ws:List (Key×V)}{a:Addr}
theorem KReps.len(h:KReps K H F kvs ws):ws.length=kvs.length:=by
 unfold KReps at h
 induction h with
 | nil=>rfl
 | cons _ _ ih=>simp[ih]
theorem KReps.val(h:KReps K H F kvs ws)(k:Key):(∃ x v,valP kvs k=some x∧valV ws k=some v∧Rep K H F x v)∨(valP kvs k=none∧valV ws k=none):=by
 unfold KReps at h
 induction h with
 | nil=>exact .inr ⟨rfl,rfl⟩
 | @cons p q ps qs r _ ih =>
  by_cases e:p.1=k
  ·refine .inl ⟨p.2,q.2,by simp[valP,List.find?_cons,e],?_,r.2⟩
   rw[valV_pos (by rw[← r.1]; exact e)]
  ·have e2:¬ q.1=k:=by rw[← r.1]; exact e
   rw[valV_neg e2]
   have:valP (p::ps) k=valP ps k:=by simp[valP,List.find?_cons,e]
   rw[this]; exact ih
theorem KReps.any(h:KReps K H F kvs ws)(k:Key):(kvs.any fun kv=>decide (kv.1=k))=ws.any fun kv=>decide (kv.1=k):=by
 unfold KReps at h
 induction h with
 | nil=>rfl
 | cons r _ ih=>rw[List.any_cons,List.any_cons,ih,r.1]
end
section
variable{X:Cx}
theorem KV.at{kvs:List (Key×V)}{vs:List (Key×Value)}(r:KV kvs vs){i:Nat}{k:Key}{u:Value}(h:vs[i]?=some (k,u)):∃ v,kvs[i]?=some (k,v)∧RelV v u:=by
 unfold KV at r
 induction r generalizing i with
 | nil=>simp at h
 | @cons p q ps qs r1 _ ih =>
  cases i with
  | zero =>
   simp at h
   subst h
   exact⟨p.2,by simp[show k=p.1 from r1.1.symm],r1.2⟩
  | succ i=>exact ih (by simpa using h)
end
end Pu
namespace Pu
open PySem PySem.Spec PyProof.Rows L2
section
variable{X:Cx}{E:XK}{pin:List Nat}{e b c:Expr}{de db dc:PEnv→R PV}{pos:Pos}
variable{es:List Expr}{dn:PEnv→R PO}{dg:PEnv→R (List ASlot)}{dh:PEnv→R (PO×List ASlot)}
theorem Rel.push{K:PySem.W.Frag}{F:Addr→Prop}{S:Nat→Addr→Prop}{ε:PEnv}{σ:St}{H:Hp}{po:PO}{a:Addr}{Sa:Addr→Prop}(r:Rel K F S ε σ H)(ow:Own K H F po a Sa)(lo:∀ b,Sa b→¬ F b∧¬ U S b∧∃ o,H b=some o∧notImm o) :
  Rel K F (fun j b=>S j b∨(j=ε.length∧Sa b)) (ε++[.own po]) (σ++[some (.ref a)]) H:=by
 have lt:∀ j b,S j b→j<ε.length:=fun j b z=>by obtain⟨⟨p,q⟩,_⟩:=r.foot j b z; exact(List.getElem?_eq_some_iff.mp q).1
 refine⟨by simp[r.len],r.ex,fun j pv q=>?_,fun j p q=>?_,fun j b z=>?_,fun j k b z1 z2=>?_⟩
 ·by_cases hj:j<ε.length
  ·rw[List.getElem?_append_left hj]at q
   obtain⟨v,q1,q2⟩:=r.val j pv q
   exact⟨v,by rw[List.getElem?_append_left (by rw[← r.len]; exact hj)]; exact q1,q2⟩
  ·rw[List.getElem?_append_right (by ac_rfl)]at q
   cases hk:j-ε.length with
   | zero=>rw[hk]at q; simp at q
   | succ n=>rw[hk]at q; simp at q
 ·by_cases hj:j<ε.length
  ·rw[List.getElem?_append_left hj]at q
   obtain⟨v,q1,q2⟩:=r.own j p q
   refine⟨v,by rw[List.getElem?_append_left (by rw[← r.len]; exact hj)]; exact q1,?_⟩
   have:(fun b=>S j b∨(j=ε.length∧Sa b))=S j:=by
    funext b
    exact propext ⟨fun z=>z.elim id fun z=>absurd z.1 (Nat.ne_of_lt hj),.inl⟩
   rw[this]; exact q2
  ·rw[List.getElem?_append_right (by ac_rfl)]at q
   cases hk:j-ε.length with
   | zero =>
    rw[hk]at q
    simp at q
    subst q
    have ej:j=ε.length:=by ac_rfl
    subst ej
    refine⟨a,by rw[r.len,List.getElem?_append_right (Nat.le_refl _),Nat.sub_self]; rfl,?_⟩
    have:(fun b=>S ε.length b∨(ε.length=ε.length∧Sa b))=Sa:=by
     funext b
     exact propext ⟨fun z=>z.elim (fun z=>absurd (lt _ _ z) (Nat.lt_irrefl _)) (·.2),fun z=>.inr ⟨rfl,z⟩⟩
    rw[this]; exact ow
   | succ n=>rw[hk]at q; simp at q
 ·rcases z with z | ⟨rfl,z⟩
  ·obtain⟨⟨p,q⟩,q2⟩:=r.foot j b z
   exact⟨⟨p,by rw[List.getElem?_append_left (lt j b z)]; exact q⟩,q2⟩
  ·obtain⟨l1,l2,l3⟩:=lo b z
   exact⟨⟨po,by rw[List.getElem?_append_right (Nat.le_refl _),Nat.sub_self]; rfl⟩,l1,l3⟩
 ·rcases z1 with z1 | ⟨rfl,z1⟩ <;> rcases z2 with z2 | ⟨rfl,z2⟩
  ·exact r.dist j k b z1 z2
  ·exact absurd ⟨j,z1⟩ (lo b z2).2.1
  ·exact absurd ⟨k,z2⟩ (lo b z1).2.1
  ·rfl
theorem Rel.pop{K:PySem.W.Frag}{F:Addr→Prop}{S:Nat→Addr→Prop}{ε:PEnv}{sl:Slot}{σ:St}{u:Option V}{H:Hp}(r:Rel K F S (ε++[sl]) (σ++[u]) H):Rel K F (fun j b=>S j b∧j<ε.length) ε σ H:=by
 have len:ε.length=σ.length:=by have:=r.len; simpa using this
 refine⟨len,r.ex,fun j pv q=>?_,fun j p q=>?_,fun j b z=>?_,fun j k b z1 z2=>r.dist j k b z1.1 z2.1⟩
 ·have hj:=(List.getElem?_eq_some_iff.mp q).1
  obtain⟨v,q1,q2⟩:=r.val j pv (by rw[List.getElem?_append_left hj]; exact q)
  exact⟨v,by rw[List.getElem?_append_left (by rw[← len]; exact hj)]at q1; exact q1,q2⟩
 ·have hj:=(List.getElem?_eq_some_iff.mp q).1
  obtain⟨v,q1,q2⟩:=r.own j p (by rw[List.getElem?_append_left hj]; exact q)
  refine⟨v,by rw[List.getElem?_append_left (by rw[← len]; exact hj)]at q1; exact q1,?_⟩
  have:(fun b=>S j b∧j<ε.length)=S j:=by funext b; simp[hj]
  rw[this]; exact q2
 ·obtain⟨⟨p,q⟩,q2⟩:=r.foot j b z.1
  exact⟨⟨p,by rw[List.getElem?_append_left z.2]at q; exact q⟩,q2⟩
variable{CX:CXT}{x:Str}{k:Nat}{ps:List Str}{g:PEnv→R Slot}{p:Pos}
end
end Pu
namespace Pu
open PySem PySem.Spec PyProof.Rows L2
section
variable{X:Cx}{E:XK}{pin:List Nat}{e b c o:Expr}{de db dc d:PEnv→R PV}{ds:PEnv→R (List PV)}{pos p q pos':Pos}
def dSet2(i j:Nat)(d:PEnv→R PV):PEnv→R Flw:=fun ε=>(d ε).bind fun x ε1=>match x with
 | .tup [a,b]=>.ok .next ((ε1.set i (.val a)).set j (.val b))
 | _=>.no
theorem ds_set2(i j:Nat){x y:Str}{k:Nat}{tp px py:Pos}(hc:X.calm=true)(hN:X.N.Nodup)(he:DE X E e de)(hp:i∉pin:=by decide)(hp2:j∉pin:=by decide)(hi:X.N[i]?=some x:=by rfl)(hj:X.N[j]?=some y:=by rfl)
  (hx:Loc X.env.scope x:=by first | exact Or.inl rfl | exact Or.inr rfl) (hy:Loc X.env.scope y:=by first | exact Or.inl rfl | exact Or.inr rfl)
  (hf:X.fn x=true∨X.env.scope.names.lookup x=some .local:=by first | exact .inl rfl | exact .inr rfl) (hf2:X.fn y=true∨X.env.scope.names.lookup y=some .local:=by first | exact .inl rfl | exact .inr rfl)
  (hs:swapsWithSole [.Tuple [.Name x px,.Name y py] k tp] e pos.line X.env=pure false:=by rfl) (hw:swappedStores [.Tuple [.Name x px,.Name y py] k tp] e X.env=pure none:=by rfl) :
  DS X E pin (.Assign [.Tuple [.Name x px,.Name y py] k tp] e pos) (dSet2 i j de):=fun F S ε σ H D rl h=>by
 refine wp_s (ps_asg pe_wp (pg_tup hc (pgs_cons (pg_name hN hi hx hf) (pgs_cons (pg_name hN hj hy hf2) pgs_nil))) hs hw rfl) (he F S ε σ H _ rl (h.bindE.imp fun z ε1 F1 S1 H1 r1 g1 h1 v rv=>?_))
 split at h1
 ·rename_i a b
  obtain⟨p,us,rfl,hp',ru⟩:=rv
  obtain⟨va,ra,rfl,r2,vb,rb,rfl,r3,rfl⟩:=ru
  refine⟨p,_,rfl,SqT.of hp',rfl,va,_,rfl,vb,_,rfl,rfl,?_⟩
  exact h1 F1 _ _ H1 ((r1.set r2).set r3) ((Grow.less i).trans (Grow.less j)) ((PinOk.set hp).trans (PinOk.set hp2))
 ·exact h1.elim
end
end Pu
namespace Pu
open PySem PySem.Spec PyProof.Rows L2
section
variable{X:Cx}
theorem KReps.keys{K:PySem.W.Frag}{H:Hp}{F:Addr→Prop}{kvs:List (Key×PV)}{ws:List (Key×V)}(h:KReps K H F kvs ws):ws.map (·.1)=kvs.map (·.1):=by
 unfold KReps at h
 induction h with
 | nil=>rfl
 | cons r _ ih=>rw[List.map_cons,List.map_cons,ih,r.1]
end
end Pu
namespace L2
open PySem PySem.Spec PyProof.Rows
def gallop':Bool→Keyed→Array Keyed→Nat→Nat→Nat→StateT SortSt Sem (Option Nat):=sortPriv% PySem.Builtin.gallop
def mergeLo':Array Keyed→Array Keyed→StateT SortSt Sem (Array Keyed):=sortPriv% PySem.Builtin.mergeLo
def mergeHi':Array Keyed→Array Keyed→StateT SortSt Sem (Array Keyed):=sortPriv% PySem.Builtin.mergeHi
def kO(κ:KeyKind)(p:Keyed):κ.α:=(κ.keyOf p.1).getD κ.dflt
def HasK(κ:KeyKind)(p:Keyed):Prop:=∃ a,κ.keyOf p.1=some a
theorem HasK.k{κ:KeyKind}{p:Keyed}(h:HasK κ p):κ.keyOf p.1=some (kO κ p):=by
 obtain⟨a,e⟩:=h; unfold kO; rw[e]; rfl
structure SB(st:SortSt):Prop where
 kind:kindOf st=oneType'
 failed:failedOf st=none
section
variable{prog:Program}{w:World}{A:Around}{E:Value→Shared→Prop}{s:Shared}{κ:KeyKind}
theorem wpS_ltP(hO:κ.OneLt){st:SortSt}{x y:Keyed}{Q:Option Bool→SortSt→Prop}(hk:SB st)(hx:HasK κ x)(hy:HasK κ y)
  (h:Q (some (κ.blt (kO κ x) (kO κ y))) st):wpS (model prog w) A E s (lt' x y) Q st:=by
 rw[lt'_eq]
 refine wpS_bind (wpS_get ?_)
 rw[hk.kind,keyLt'_oneType]
 exact wpS_bind (wpS_lift (wpAny_attempt (hO prog w A _ s x.1 y.1 _ _ hx.k hy.k ⟨rfl,wpS_pure h⟩)))
theorem wpS_elem{st:SortSt}{arr:Array Keyed}{i:Nat}(hi:i<arr.size){Q:Keyed→SortSt→Prop}(h:Q arr[i] st):wpS (model prog w) A E s (elem' arr i) Q st:=by
 rw[elem'_eq,getElem?_pos arr i hi]; exact wpS_pure h
def bey(left:Bool)(key:Keyed)(arr:Array Keyed)(base i:Nat):StateT SortSt Sem (Option Bool) :=
 elem' arr (base+i) >>= fun x=>if left=true then lt' x key else lt' key x >>= fun b=>pure (b.map (!·))
def beyB(κ:KeyKind)(left:Bool)(key x:Keyed):Bool:=if left=true then κ.blt (kO κ x) (kO κ key)else !κ.blt (kO κ key) (kO κ x)
theorem wpS_bey(hO:κ.OneLt){st:SortSt}{left:Bool}{key:Keyed}{arr:Array Keyed}{base i:Nat}{Q:Option Bool→SortSt→Prop}(hk:SB st)(hx:HasK κ key)(hi:base+i<arr.size)(hy:HasK κ arr[base+i])
  (h:Q (some (beyB κ left key arr[base+i])) st):wpS (model prog w) A E s (bey left key arr base i) Q st:=by
 refine wpS_bind (wpS_elem hi ?_)
 cases left
 ·rw[if_neg (by simp)]
  exact wpS_bind (wpS_ltP hO hk hx hy (wpS_pure h))
 ·rw[if_pos rfl]
  exact wpS_ltP hO hk hy hx h
theorem wpS_gallop(hO:κ.OneLt){st:SortSt}(hk:SB st){left:Bool}{key:Keyed}{arr:Array Keyed}{base n hint:Nat}{Q:Option Nat→SortSt→Prop}(hkey:HasK κ key)(hn:base+n≤arr.size)
  (hA:∀ i (hi:i<arr.size),HasK κ arr[i]) (B:Nat→Bool) (hB:∀ i (hi:i<n),B i=beyB κ left key (arr[base+i]'(by ac_rfl)))
  (mono:∀ i j,i≤j→j<n→B j=true→B i=true) (hh:hint<n)
  (h:∀ r,r≤n→(∀ i,i<r→B i=true)→(∀ i,r≤i→i<n→B i=false)→Q (some r) st) :
  wpS (model prog w) A E s (gallop' left key arr base n hint) Q st:=by
 have hb:∀ {i:Nat} {Q:Option Bool→SortSt→Prop},i<n→Q (some (B i)) st→wpS (model prog w) A E s (bey left key arr base i) Q st:=fun {i Q} hi q =>
  wpS_bey hO hk hkey (by ac_rfl) (hA _ _) (by rw[← hB i hi]; exact q)
 have dn:∀ {i j:Nat},i≤j→j<n→B i=false→B j=false:=fun {i j} hij hj hf=>by
  cases e:B j with
  | false=>rfl
  | true=>rw[mono i j hij hj e]at hf; cases hf
 unfold gallop'
 refine wpS_bind (hb hh ?_)
 cases hr:B hint with
 | true =>
  dsimp only
  rw[if_pos rfl]
  refine wpS_bind (wpS_mono (wpS_forRange (I:=fun x c st'=>st'=st∧∃ l o,c=(none,l,o)∧l<o∧x<o∧l<n-hint∧B (hint+l)=true)
   (Q:=fun c st'=>st'=st∧∃ l o,c=(none,l,o)∧l<o∧l<n-hint∧B (hint+l)=true∧(n-hint≤o∨(o<n-hint∧B (hint+o)=false))) ?_ ?_ ?_) ?_)
  ·rintro x c st' _ hx ⟨rfl,l,o,rfl,h1,h2,h3,h4⟩
   dsimp only
   by_cases hge:o ≥ n-hint
   ·rw[if_pos hge]; exact wpS_pure ⟨rfl,l,o,rfl,h1,h3,h4,.inl hge⟩
   ·rw[if_neg hge]
    refine wpS_bind (hb (by ac_rfl) ?_)
    cases e:B (hint+o)with
    | true=>exact wpS_pure ⟨rfl,o,2 * o+1,rfl,by ac_rfl,by ac_rfl,by ac_rfl,e⟩
    | false=>exact wpS_pure ⟨rfl,l,o,rfl,h1,h3,h4,.inr ⟨by ac_rfl,e⟩⟩
  ·rintro c st' ⟨rfl,l,o,rfl,h1,h2,h3,h4⟩
   exact⟨rfl,l,o,rfl,h1,h3,h4,.inl (by ac_rfl)⟩
  ·exact⟨rfl,0,1,rfl,by ac_rfl,by ac_rfl,by ac_rfl,hr⟩
  rintro c st' ⟨rfl,l,o,rfl,h1,h3,h4,h5⟩
  dsimp only
  have g1:hint+l+1≤hint+min o (n-hint):=by ac_rfl
  have g2:hint+min o (n-hint)≤n:=by ac_rfl
  have g3:∀ i,i<hint+l+1→B i=true:=fun i hi=>mono i (hint+l) (by ac_rfl) (by ac_rfl) h4
  have g4:∀ i,hint+min o (n-hint)≤i→i<n→B i=false:=by
   intro i hi hin
   rcases h5 with h5 | ⟨h5,h6⟩
   ·ac_rfl
   ·exact dn (i:=hint+o) (by ac_rfl) hin h6
  clear h5
  generalize hint+l+1=lo at *
  generalize hint+min o (n-hint)=hi at *
  refine wpS_bind (wpS_mono (wpS_forRange (I:=fun x c st''=>st''=st'∧∃ l r,c=(none,l,r)∧l≤r∧r≤n∧r-l≤n-x∧(∀ i,i<l→B i=true)∧(∀ i,r≤i→i<n→B i=false))
   (Q:=fun c st''=>st''=st'∧∃ l r,c=(none,l,r)∧r≤n∧(∀ i,i<r→B i=true)∧(∀ i,r≤i→i<n→B i=false)) ?_ ?_ ?_) ?_)
  ·rintro x c st'' _ hx ⟨rfl,l,r,rfl,a1,a2,a3,a4,a5⟩
   dsimp only
   by_cases hge:l ≥ r
   ·rw[if_pos hge]
    have:l=r:=by ac_rfl
    subst this
    exact wpS_pure ⟨rfl,l,l,rfl,a2,a4,a5⟩
   ·rw[if_neg hge]
    refine wpS_bind (hb (by ac_rfl) ?_)
    cases e:B (l+(r-l) / 2)with
    | true=>exact wpS_pure ⟨rfl,_,r,rfl,by ac_rfl,a2,by ac_rfl,fun i hi=>mono _ _ (by ac_rfl) (by ac_rfl) e,a5⟩
    | false=>exact wpS_pure ⟨rfl,l,_,rfl,by ac_rfl,by ac_rfl,by ac_rfl,a4,fun i hi hin=>dn (i:=l+(r-l) / 2) hi hin e⟩
  ·rintro c st'' ⟨rfl,l,r,rfl,a1,a2,a3,a4,a5⟩
   have:l=r:=by ac_rfl
   subst this
   exact⟨rfl,l,l,rfl,a2,a4,a5⟩
  ·exact⟨rfl,lo,hi,rfl,g1,g2,by ac_rfl,g3,g4⟩
  ·rintro c st'' ⟨rfl,l,r,rfl,a2,a4,a5⟩
   exact wpS_pure (h r a2 a4 a5)
 | false =>
  dsimp only
  rw[if_neg (by simp)]
  refine wpS_bind (wpS_mono (wpS_forRange (I:=fun x c st'=>st'=st∧∃ l o,c=(none,l,o)∧l<o∧x<o∧l≤hint∧B (hint-l)=false)
   (Q:=fun c st'=>st'=st∧∃ l o,c=(none,l,o)∧l<o∧l≤hint∧B (hint-l)=false∧(hint+1≤o∨(o≤hint∧B (hint-o)=true))) ?_ ?_ ?_) ?_)
  ·rintro x c st' _ hx ⟨rfl,l,o,rfl,h1,h2,h3,h4⟩
   dsimp only
   by_cases hge:o ≥ hint+1
   ·rw[if_pos hge]; exact wpS_pure ⟨rfl,l,o,rfl,h1,h3,h4,.inl hge⟩
   ·rw[if_neg hge]
    refine wpS_bind (hb (by ac_rfl) ?_)
    cases e:B (hint-o)with
    | false=>exact wpS_pure ⟨rfl,o,2 * o+1,rfl,by ac_rfl,by ac_rfl,by ac_rfl,e⟩
    | true=>exact wpS_pure ⟨rfl,l,o,rfl,h1,h3,h4,.inr ⟨by ac_rfl,e⟩⟩
  ·rintro c st' ⟨rfl,l,o,rfl,h1,h2,h3,h4⟩
   exact⟨rfl,l,o,rfl,h1,h3,h4,.inl (by ac_rfl)⟩
  ·exact⟨rfl,0,1,rfl,by ac_rfl,by ac_rfl,by ac_rfl,hr⟩
  rintro c st' ⟨rfl,l,o,rfl,h1,h3,h4,h5⟩
  dsimp only
  have g1:hint+1-min o (hint+1)≤hint-l:=by ac_rfl
  have g2:hint-l≤n:=by ac_rfl
  have g3:∀ i,i<hint+1-min o (hint+1)→B i=true:=by
   intro i hi
   rcases h5 with h5 | ⟨h5,h6⟩
   ·ac_rfl
   ·exact mono i (hint-o) (by ac_rfl) (by ac_rfl) h6
  have g4:∀ i,hint-l≤i→i<n→B i=false:=fun i hi hin=>dn (i:=hint-l) (by ac_rfl) hin h4
  clear h5 h4
  generalize hint+1-min o (hint+1)=lo at *
  generalize hint-l=hi at *
  refine wpS_bind (wpS_mono (wpS_forRange (I:=fun x c st''=>st''=st'∧∃ l r,c=(none,l,r)∧l≤r∧r≤n∧r-l≤n-x∧(∀ i,i<l→B i=true)∧(∀ i,r≤i→i<n→B i=false))
   (Q:=fun c st''=>st''=st'∧∃ l r,c=(none,l,r)∧r≤n∧(∀ i,i<r→B i=true)∧(∀ i,r≤i→i<n→B i=false)) ?_ ?_ ?_) ?_)
  ·rintro x c st'' _ hx ⟨rfl,l,r,rfl,a1,a2,a3,a4,a5⟩
   dsimp only
   by_cases hge:l ≥ r
   ·rw[if_pos hge]
    have:l=r:=by ac_rfl
    subst this
    exact wpS_pure ⟨rfl,l,l,rfl,a2,a4,a5⟩
   ·rw[if_neg hge]
    refine wpS_bind (hb (by ac_rfl) ?_)
    cases e:B (l+(r-l) / 2)with
    | true=>exact wpS_pure ⟨rfl,_,r,rfl,by ac_rfl,a2,by ac_rfl,fun i hi=>mono _ _ (by ac_rfl) (by ac_rfl) e,a5⟩
    | false=>exact wpS_pure ⟨rfl,l,_,rfl,by ac_rfl,by ac_rfl,by ac_rfl,a4,fun i hi hin=>dn (i:=l+(r-l) / 2) hi hin e⟩
  ·rintro c st'' ⟨rfl,l,r,rfl,a1,a2,a3,a4,a5⟩
   have:l=r:=by ac_rfl
   subst this
   exact⟨rfl,l,l,rfl,a2,a4,a5⟩
  ·exact⟨rfl,lo,hi,rfl,g1,g2,by ac_rfl,g3,g4⟩
  ·rintro c st'' ⟨rfl,l,r,rfl,a2,a4,a5⟩
   exact wpS_pure (h r a2 a4 a5)
end
end L2
namespace L2
open PySem PySem.Spec PyProof.Rows
section
variable{κ:KeyKind}
def leK(κ:KeyKind)(x y:Keyed):Prop:=κ.kle (kO κ x) (kO κ y)
theorem leK.trans{x y z:Keyed}(h1:leK κ x y)(h2:leK κ y z):leK κ x z:=KeyOrd.kle_trans h1 h2
structure MS(κ:KeyKind)(T o ra rb:List Keyed):Prop where
 perm:(o++(ra++rb)).Perm T
 so:o.Pairwise (leK κ)
 sa:ra.Pairwise (leK κ)
 sb:rb.Pairwise (leK κ)
 oa:∀ x∈o,∀ y∈ra,leK κ x y
 ob:∀ x∈o,∀ y∈rb,leK κ x y
theorem MS.stepA{T o x ra rb:List Keyed}(h:MS κ T o (x++ra) rb)(hx:∀ u∈x,∀ v∈rb,leK κ u v):MS κ T (o++x) ra rb:=by
 obtain⟨h1,h2,h3,h4,h5,h6⟩:=h
 rw[List.pairwise_append]at h3
 refine⟨by simpa[List.append_assoc]using h1,?_,h3.2.1,h4,?_,?_⟩
 ·rw[List.pairwise_append]
  exact⟨h2,h3.1,fun u hu v hv=>h5 u hu v (List.mem_append_left _ hv)⟩
 ·intro u hu v hv
  rcases List.mem_append.mp hu with hu | hu
  ·exact h5 u hu v (List.mem_append_right _ hv)
  ·exact h3.2.2 u hu v hv
 ·intro u hu v hv
  rcases List.mem_append.mp hu with hu | hu
  ·exact h6 u hu v hv
  ·exact hx u hu v hv
theorem MS.swap{T o ra rb:List Keyed}(h:MS κ T o ra rb):MS κ T o rb ra :=
 ⟨(List.Perm.append_left _ List.perm_append_comm).trans h.perm,h.so,h.sb,h.sa,h.ob,h.oa⟩
theorem MS.stepB{T o x ra rb:List Keyed}(h:MS κ T o ra (x++rb))(hx:∀ u∈x,∀ v∈ra,leK κ u v):MS κ T (o++x) ra rb :=
 (h.swap.stepA hx).swap
def Done(κ:KeyKind)(T:List Keyed)(r:Array Keyed):Prop:=r.toList.Perm T∧r.toList.Pairwise (leK κ)
theorem MS.endA{T o ra:List Keyed}{r:Array Keyed}(h:MS κ T o ra [])(e:r.toList=o++ra):Done κ T r:=by
 obtain⟨h1,h2,h3,h4,h5,h6⟩:=h
 refine⟨by rw[e]; simpa using h1,?_⟩
 rw[e,List.pairwise_append]; exact⟨h2,h3,h5⟩
theorem MS.last{T o ra rb:List Keyed}{r:Array Keyed}(h:MS κ T o ra rb)(hx:∀ u∈rb,∀ v∈ra,leK κ u v)(e:r.toList=o++(rb++ra)):Done κ T r:=by
 have h':MS κ T o ra (rb++[]):=by simpa using h
 exact(h'.stepB hx).endA (by rw[e]; simp)
theorem ex_list(a:Array Keyed)(i j:Nat):(a.extract i j).toList=(a.toList.drop i).take (j-i):=by
 simp[Array.toList_extract,List.extract_eq_take_drop]
theorem ex_all(a:Array Keyed)(i:Nat):(a.extract i a.size).toList=a.toList.drop i:=by
 rw[ex_list,List.take_of_length_le]; simp
theorem drop_at{a:Array Keyed}{i:Nat}(h:i<a.size):a.toList.drop i=a[i]::a.toList.drop (i+1):=by
 rw[List.drop_eq_getElem_cons (by simpa using h)]; simp
theorem drop_by(a:Array Keyed)(i k:Nat):a.toList.drop i=(a.extract i (i+k)).toList++a.toList.drop (i+k):=by
 rw[ex_list,show i+k-i=k by ac_rfl,← List.drop_drop,List.take_append_drop]
theorem mem_drop{a:Array Keyed}{i:Nat}{x:Keyed}(h:x∈a.toList.drop i):∃ j,∃ hj:j<a.size,i≤j∧a[j]=x:=by
 obtain⟨k,hk,e⟩:=List.getElem_of_mem h
 rw[List.getElem_drop]at e
 have hk':i+k<a.size:=by simp at hk; ac_rfl
 exact⟨i+k,hk',by ac_rfl,by simpa using e⟩
theorem mem_ext{a:Array Keyed}{i k:Nat}{x:Keyed}(h:x∈(a.extract i (i+k)).toList):∃ j,∃ hj:j<a.size,i≤j∧j<i+k∧a[j]=x:=by
 rw[ex_list]at h
 obtain⟨m,hm,e⟩:=List.getElem_of_mem h
 rw[List.getElem_take,List.getElem_drop]at e
 refine⟨i+m,?_,by ac_rfl,?_,by simpa using e⟩
 all_goals simp at hm; ac_rfl
def Srt(κ:KeyKind)(a:Array Keyed):Prop:=∀ i j (hj:j<a.size) (hij:i≤j),leK κ (a[i]'(by ac_rfl)) a[j]
theorem Srt.pw{a:Array Keyed}(h:Srt κ a):a.toList.Pairwise (leK κ):=by
 rw[List.pairwise_iff_getElem]
 intro i j hi hj hij
 have:=h i j (by simpa using hj) (by ac_rfl)
 simpa using this
structure LoI(κ:KeyKind)(a b out:Array Keyed)(ia ib:Nat):Prop where
 ms:MS κ (a.toList++b.toList) out.toList (a.toList.drop ia) (b.toList.drop ib)
 la:ia≤a.size
 lb:ib≤b.size
variable{a b out:Array Keyed}{ia ib:Nat}
theorem LoI.pushA(h:LoI κ a b out ia ib)(hi:ia<a.size)(hx:∀ j (hj:j<b.size),ib≤j→leK κ a[ia] b[j]):LoI κ a b (out.push a[ia]) (ia+1) ib:=by
 refine⟨?_,hi,h.lb⟩
 rw[Array.toList_push]
 refine MS.stepA (by rw[List.singleton_append,← drop_at hi]; exact h.ms) fun u hu v hv=>?_
 obtain⟨j,hj,hle,rfl⟩:=mem_drop hv
 rw[List.mem_singleton.mp hu]; exact hx j hj hle
theorem LoI.pushB(h:LoI κ a b out ia ib)(hi:ib<b.size)(hx:∀ j (hj:j<a.size),ia≤j→leK κ b[ib] a[j]):LoI κ a b (out.push b[ib]) ia (ib+1):=by
 refine⟨?_,h.la,hi⟩
 rw[Array.toList_push]
 refine MS.stepB (by rw[List.singleton_append,← drop_at hi]; exact h.ms) fun u hu v hv=>?_
 obtain⟨j,hj,hle,rfl⟩:=mem_drop hv
 rw[List.mem_singleton.mp hu]; exact hx j hj hle
theorem LoI.extA{k:Nat}(h:LoI κ a b out ia ib)(hk:ia+k≤a.size)(hx:∀ i (hi:i<a.size),ia≤i→i<ia+k→∀ j (hj:j<b.size),ib≤j→leK κ a[i] b[j]):LoI κ a b (out++a.extract ia (ia+k)) (ia+k) ib:=by
 refine⟨?_,hk,h.lb⟩
 rw[Array.toList_append]
 refine MS.stepA (by rw[← drop_by]; exact h.ms) fun u hu v hv=>?_
 obtain⟨j,hj,hle,rfl⟩:=mem_drop hv
 obtain⟨i,hi,h1,h2,rfl⟩:=mem_ext hu
 exact hx i hi h1 h2 j hj hle
theorem LoI.extB{k:Nat}(h:LoI κ a b out ia ib)(hk:ib+k≤b.size)(hx:∀ i (hi:i<b.size),ib≤i→i<ib+k→∀ j (hj:j<a.size),ia≤j→leK κ b[i] a[j]):LoI κ a b (out++b.extract ib (ib+k)) ia (ib+k):=by
 refine⟨?_,h.la,hk⟩
 rw[Array.toList_append]
 refine MS.stepB (by rw[← drop_by]; exact h.ms) fun u hu v hv=>?_
 obtain⟨j,hj,hle,rfl⟩:=mem_drop hv
 obtain⟨i,hi,h1,h2,rfl⟩:=mem_ext hu
 exact hx i hi h1 h2 j hj hle
theorem LoI.doneA(h:LoI κ a b out ia ib)(e:ib=b.size):Done κ (a.toList++b.toList) (out++a.extract ia a.size++b.extract ib b.size):=by
 have:=h.ms
 rw[show b.toList.drop ib=[] by rw[List.drop_eq_nil_iff]; simp[e]]at this
 refine this.endA ?_
 rw[Array.toList_append,Array.toList_append,ex_all,ex_all,show b.toList.drop ib=[] by rw[List.drop_eq_nil_iff]; simp[e],List.append_nil]
theorem LoI.doneB(h:LoI κ a b out ia ib)(e:ia=a.size):Done κ (a.toList++b.toList) (out++a.extract ia a.size++b.extract ib b.size):=by
 have:=h.ms
 rw[show a.toList.drop ia=[] by rw[List.drop_eq_nil_iff]; simp[e]]at this
 refine this.swap.endA ?_
 rw[Array.toList_append,Array.toList_append,ex_all,ex_all,show a.toList.drop ia=[] by rw[List.drop_eq_nil_iff]; simp[e],List.append_nil]
theorem LoI.last(h:LoI κ a b out ia ib)(e:ia+1=a.size)(hl:∀ j (hj:j<b.size),leK κ b[j] (a[ia]'(by ac_rfl))):Done κ (a.toList++b.toList) (out++b.extract ib b.size++a.extract ia a.size):=by
 refine h.ms.last (fun u hu v hv=>?_) (by rw[Array.toList_append,Array.toList_append,ex_all,ex_all,List.append_assoc])
 obtain⟨j,hj,h1,rfl⟩:=mem_drop hu
 obtain⟨i,hi,h2,rfl⟩:=mem_drop hv
 have:i=ia:=by ac_rfl
 subst this; exact hl j hj
end
section
variable{prog:Program}{w:World}{A:Around}{E:Value→Shared→Prop}{s:Shared}{κ:KeyKind}
theorem wpS_gallopR(hO:κ.OneLt){st:SortSt}(hk:SB st){key:Keyed}{arr:Array Keyed}{base n hint:Nat}{Q:Option Nat→SortSt→Prop}(hkey:HasK κ key)(hn:base+n≤arr.size)
  (hA:∀ i (hi:i<arr.size),HasK κ arr[i]) (hs:∀ i j (hij:i≤j) (hj:j<base+n),base≤i→leK κ (arr[i]'(by ac_rfl)) (arr[j]'(by ac_rfl))) (hh:hint<n)
  (h:∀ r,r≤n→(∀ i (hi:i<arr.size),base≤i→i<base+r→leK κ arr[i] key)→(∀ i (hi:i<arr.size),base+r≤i→i<base+n→κ.klt (kO κ key) (kO κ arr[i]))→Q (some r) st) :
  wpS (model prog w) A E s (gallop' false key arr base n hint) Q st:=by
 refine wpS_gallop hO hk hkey hn hA (fun i=>if hi:i<n then beyB κ false key (arr[base+i]'(by ac_rfl))else false) (fun i hi=>by rw[dif_pos hi]) ?_ hh ?_
 ·intro i j hij hj e
  rw[dif_pos hj]at e; rw[dif_pos (by ac_rfl)]
  simp only[beyB,Bool.false_eq_true,if_false,Bool.not_eq_true']at e ⊢
  exact KeyOrd.kle_trans (hs (base+i) (base+j) (by ac_rfl) (by ac_rfl) (by ac_rfl)) e
 ·intro r hr h1 h2
  refine h r hr (fun i hi hb hlt=>?_) (fun i hi hb hlt=>?_)
  ·have:=h1 (i-base) (by ac_rfl)
   rw[dif_pos (by ac_rfl)]at this
   simp only[beyB,Bool.false_eq_true,if_false,Bool.not_eq_true',show base+(i-base)=i by ac_rfl]at this
   exact this
  ·have:=h2 (i-base) (by ac_rfl) (by ac_rfl)
   rw[dif_pos (by ac_rfl)]at this
   simp only[beyB,Bool.false_eq_true,if_false,Bool.not_eq_false',show base+(i-base)=i by ac_rfl]at this
   exact this
theorem wpS_gallopL(hO:κ.OneLt){st:SortSt}(hk:SB st){key:Keyed}{arr:Array Keyed}{base n hint:Nat}{Q:Option Nat→SortSt→Prop}(hkey:HasK κ key)(hn:base+n≤arr.size)
  (hA:∀ i (hi:i<arr.size),HasK κ arr[i]) (hs:∀ i j (hij:i≤j) (hj:j<base+n),base≤i→leK κ (arr[i]'(by ac_rfl)) (arr[j]'(by ac_rfl))) (hh:hint<n)
  (h:∀ r,r≤n→(∀ i (hi:i<arr.size),base≤i→i<base+r→κ.klt (kO κ arr[i]) (kO κ key))→(∀ i (hi:i<arr.size),base+r≤i→i<base+n→leK κ key arr[i])→Q (some r) st) :
  wpS (model prog w) A E s (gallop' true key arr base n hint) Q st:=by
 refine wpS_gallop hO hk hkey hn hA (fun i=>if hi:i<n then beyB κ true key (arr[base+i]'(by ac_rfl))else false) (fun i hi=>by rw[dif_pos hi]) ?_ hh ?_
 ·intro i j hij hj e
  rw[dif_pos hj]at e; rw[dif_pos (by ac_rfl)]
  simp only[beyB,if_true]at e ⊢
  exact KeyOrd.klt_of_kle_of_klt (hs (base+i) (base+j) (by ac_rfl) (by ac_rfl) (by ac_rfl)) e
 ·intro r hr h1 h2
  refine h r hr (fun i hi hb hlt=>?_) (fun i hi hb hlt=>?_)
  ·have:=h1 (i-base) (by ac_rfl)
   rw[dif_pos (by ac_rfl)]at this
   simp only[beyB,if_true,show base+(i-base)=i by ac_rfl]at this
   exact this
  ·have:=h2 (i-base) (by ac_rfl) (by ac_rfl)
   rw[dif_pos (by ac_rfl)]at this
   simp only[beyB,if_true,show base+(i-base)=i by ac_rfl]at this
   exact this
end
end L2
namespace L2
open PySem PySem.Spec PyProof.Rows
structure SameS(st st':SortSt):Prop where
 kind:kindOf st'=kindOf st
 arr:arrOf st'=arrOf st
 pend:pendingOf st'=pendingOf st
 failed:failedOf st'=failedOf st
theorem SameS.rfl{st:SortSt}:SameS st st:=⟨_root_.rfl,_root_.rfl,_root_.rfl,_root_.rfl⟩
theorem SameS.sb{st st':SortSt}(h:SameS st st')(k:SB st):SB st':=⟨h.kind.trans k.kind,h.failed.trans k.failed⟩
section
variable{prog:Program}{w:World}{A:Around}{E:Value→Shared→Prop}{s:Shared}{κ:KeyKind}
theorem wpS_if{σ α:Type}{M:Model}{c:Prop}[Decidable c]{t e:StateT σ Sem α}{Q:α→σ→Prop}{st:σ}(h1:c→wpS M A E s t Q st)(h2:¬ c→wpS M A E s e Q st):wpS M A E s (if c then t else e) Q st:=by
 split
 ·exact h1 ‹_›
 ·exact h2 ‹_›
def setMinGallop':Nat→StateT SortSt Sem Unit:=sortPriv% PySem.Builtin.setMinGallop
theorem SameS.trans{a b c:SortSt}(h1:SameS a b)(h2:SameS b c):SameS a c:=⟨h2.kind.trans h1.kind,h2.arr.trans h1.arr,h2.pend.trans h1.pend,h2.failed.trans h1.failed⟩
theorem wpS_setMin{st st0:SortSt}{g:Nat}{Q:Unit→SortSt→Prop}(hS:SameS st0 st)(h:∀ st',SameS st0 st'→Q () st'):wpS (model prog w) A E s (setMinGallop' g) Q st :=
 wpS_modify (h _ (hS.trans ⟨rfl,rfl,rfl,rfl⟩))
theorem wpS_mergeLo(hO:κ.OneLt){st:SortSt}(hk:SB st){a b:Array Keyed}{Q:Array Keyed→SortSt→Prop}(ha:0<a.size)(hb:0<b.size)
  (hA:∀ i (hi:i<a.size),HasK κ a[i]) (hB:∀ i (hi:i<b.size),HasK κ b[i]) (sa:Srt κ a) (sb:Srt κ b)
  (h0:leK κ b[0] a[0]) (hl:∀ j (hj:j<b.size),leK κ b[j] a[a.size-1])
  (h:∀ r st',SameS st st'→Done κ (a.toList++b.toList) r→Q r st') :
  wpS (model prog w) A E s (mergeLo' a b) Q st:=by
 have hl':∀ {i:Nat} (hi:i<a.size),i+1=a.size→∀ j (hj:j<b.size),leK κ b[j] a[i]:=fun {i} hi e j hj=>by
  have:i=a.size-1:=by ac_rfl
  subst this; exact hl j hj
 have I0:LoI κ a b #[b[0]] 0 1:=by
  have h1:LoI κ a b #[] 0 0:=⟨⟨by simp,by simp,by simpa using sa.pw,by simpa using sb.pw,by simp,by simp⟩,by ac_rfl,by ac_rfl⟩
  exact h1.pushB hb fun j hj _=>h0.trans (sa 0 j hj (by ac_rfl))
 unfold mergeLo'
 refine wpS_bind (wpS_lift (wpAny_rule ⟨rfl,?_⟩))
 dsimp only
 refine wpS_bind (wpS_elem hb ?_)
 by_cases e1:1=b.size
 ·rw[if_pos (by simp[← e1])]
  exact wpS_pure (h _ _ .rfl (I0.doneA e1))
 rw[if_neg (by simpa using e1)]
 by_cases e2:0+1=a.size
 ·rw[if_pos (by simp[← e2])]
  exact wpS_pure (h _ _ .rfl (I0.last e2 (hl' (by ac_rfl) (by ac_rfl))))
 rw[if_neg (by simpa using e2)]
 refine wpS_bind (wpS_get ?_)
 refine wpS_bind (wpS_mono (wpS_forRange (I:=fun x c st'=>SameS st st'∧∃ out ia ib mg,c=(none,out,ia,ib,mg)∧LoI κ a b out ia ib∧ia+1<a.size∧ib<b.size∧x+1≤ia+ib)
  (Q:=fun c st'=>SameS st st'∧∃ r,c.1=some r∧Done κ (a.toList++b.toList) r) ?_ ?_ ?_) ?_)
 rotate_left
 ·rintro c st' ⟨_,out,ia,ib,mg,rfl,hI,h1,h2,h3⟩
  ac_rfl
 ·exact⟨.rfl,_,0,1,_,rfl,I0,by ac_rfl,by ac_rfl,by ac_rfl⟩
 ·rintro⟨c1,c⟩ st' ⟨hS,r,rfl,hD⟩
  exact wpS_pure (h r st' hS hD)
 rintro x c st' _ hx ⟨hS,out,ia,ib,mg,rfl,hI,h1,h2,h3⟩
 dsimp only
 refine wpS_bind (wpS_mono (wpS_forRange (I:=fun y c st''=>st''=st'∧∃ out ia ib ac bc,c=(none,out,ia,ib,ac,bc)∧LoI κ a b out ia ib∧ia+1<a.size∧ib<b.size∧x+1+y≤ia+ib)
  (Q:=fun c st''=>st''=st'∧((∃ r c',c=(some r,c')∧Done κ (a.toList++b.toList) r)∨∃ out ia ib ac bc,c=(none,out,ia,ib,ac,bc)∧LoI κ a b out ia ib∧ia+1<a.size∧ib<b.size∧x+1+1≤ia+ib)) ?_ ?_ ?_) ?_)
 ·rintro y c st'' _ hy ⟨rfl,out,ia,ib,ac,bc,rfl,hI,h1,h2,h3⟩
  dsimp only
  refine wpS_bind (wpS_elem h2 (wpS_bind (wpS_elem (by ac_rfl) (wpS_bind (wpS_ltP hO (hS.sb hk) (hB ib h2) (hA ia (by ac_rfl)) ?_)))))
  cases e:κ.blt (kO κ b[ib]) (kO κ (a[ia]'(by ac_rfl)))with
  | true =>
   dsimp only
   rw[if_pos rfl]
   refine wpS_bind (wpS_elem h2 ?_)
   have hI':=hI.pushB h2 fun j hj hle=>leK.trans (KeyOrd.kle_of_klt e) (sa ia j hj hle)
   by_cases e3:ib+1=b.size
   ·rw[if_pos (by simp[e3])]
    exact wpS_pure ⟨rfl,.inl ⟨_,_,rfl,hI'.doneA e3⟩⟩
   rw[if_neg (by simpa using e3)]
   split
   ·exact wpS_pure ⟨rfl,.inr ⟨_,_,_,_,_,rfl,hI',by ac_rfl,by ac_rfl,by ac_rfl⟩⟩
   ·exact wpS_pure ⟨rfl,_,_,_,_,_,rfl,hI',by ac_rfl,by ac_rfl,by ac_rfl⟩
  | false =>
   dsimp only
   rw[if_neg (by simp)]
   refine wpS_bind (wpS_elem (by ac_rfl) ?_)
   have hI':=hI.pushA (by ac_rfl) fun j hj hle=>leK.trans (show leK κ (a[ia]'(by ac_rfl)) b[ib] from e) (sb ib j hj hle)
   by_cases e3:ia+1+1=a.size
   ·rw[if_pos (by simp[e3])]
    exact wpS_pure ⟨rfl,.inl ⟨_,_,rfl,hI'.last e3 (hl' (by ac_rfl) (by ac_rfl))⟩⟩
   rw[if_neg (by simpa using e3)]
   split
   ·exact wpS_pure ⟨rfl,.inr ⟨_,_,_,_,_,rfl,hI',by ac_rfl,by ac_rfl,by ac_rfl⟩⟩
   ·exact wpS_pure ⟨rfl,_,_,_,_,_,rfl,hI',by ac_rfl,by ac_rfl,by ac_rfl⟩
 ·rintro c st'' ⟨rfl,out,ia,ib,ac,bc,rfl,hI,h1,h2,h3⟩
  ac_rfl
 ·exact⟨rfl,_,_,_,_,_,rfl,hI,h1,h2,by ac_rfl⟩
 rintro c st'' ⟨rfl,⟨r,c',rfl,hD⟩ | ⟨out,ia,ib,ac,bc,rfl,hI,h1,h2,h3⟩⟩
 ·exact wpS_pure ⟨hS,r,rfl,hD⟩
 dsimp only
 refine wpS_bind (wpS_lift (wpAny_rule ⟨rfl,?_⟩))
 refine wpS_bind (wpS_mono (wpS_forRange (I:=fun y c st''=>SameS st st''∧∃ out ia ib mg ac bc,c=(none,out,ia,ib,mg,ac,bc)∧LoI κ a b out ia ib∧ia+1<a.size∧ib<b.size∧x+2+y≤ia+ib)
  (Q:=fun c st''=>SameS st st''∧((∃ r c',c=(some r,c')∧Done κ (a.toList++b.toList) r)∨∃ out ia ib mg ac bc,c=(none,out,ia,ib,mg,ac,bc)∧LoI κ a b out ia ib∧ia+1<a.size∧ib<b.size∧x+1+1≤ia+ib)) ?_ ?_ ?_) ?_)
 rotate_left
 ·rintro c st'' ⟨_,out,ia,ib,mg,ac,bc,rfl,hI,h1,h2,h3⟩
  ac_rfl
 ·exact⟨hS,_,_,_,_,_,_,rfl,hI,h1,h2,by ac_rfl⟩
 ·rintro c st'' ⟨hS,⟨r,c',rfl,hD⟩ | ⟨out,ia,ib,mg,ac,bc,rfl,hI,h1,h2,h3⟩⟩
  ·exact wpS_pure ⟨hS,r,rfl,hD⟩
  ·dsimp only
   refine wpS_bind (wpS_modify (wpS_pure ⟨⟨hS.kind,hS.arr,hS.pend,hS.failed⟩,_,_,_,_,rfl,hI,h1,h2,by ac_rfl⟩))
 rintro y c st'' _ hy ⟨hS,out,ia,ib,mg,ac,bc,rfl,hI,h1,h2,h3⟩
 dsimp only
 have hsb:∀ {i j:Nat} (hij:i≤j) (hj:j<b.size),leK κ (b[i]'(by ac_rfl)) b[j]:=fun {i j} hij hj=>sb i j hj hij
 have hsa:∀ {i j:Nat} (hij:i≤j) (hj:j<a.size),leK κ (a[i]'(by ac_rfl)) a[j]:=fun {i j} hij hj=>sa i j hj hij
 refine wpS_if (fun hmg=>?_) (fun hmg=>?_)
 all_goals
  refine wpS_bind (wpS_setMin hS fun st3 hS3=>?_)
  refine wpS_bind (wpS_elem h2 ?_)
  refine wpS_bind (wpS_gallopR hO (hS3.sb hk) (base:=ia) (n:=a.size-ia) (hint:=0) (hB ib h2) (by ac_rfl) hA (fun i j hij hj _=>hsa hij (by ac_rfl)) (by ac_rfl) fun k hk1 hk2 hk3=>?_)
  dsimp only
  refine wpS_if (fun hk0=>?_) (fun hk0=>?_)
  ·have hI2:LoI κ a b (out++a.extract ia (ia+k)) (ia+k) ib:=hI.extA (by ac_rfl) fun i hi g1 g2 j hj g3=>(hk2 i hi g1 g2).trans (hsb g3 hj)
   refine wpS_if (fun e3=>?_) fun e3=>?_
   ·have e3':ia+k+1=a.size:=by simpa using e3
    exact wpS_pure ⟨hS3,.inl ⟨_,_,rfl,hI2.last e3' (hl' (by ac_rfl) e3')⟩⟩
   have e3':ia+k+1≠a.size:=by simpa using e3
   refine wpS_if (fun e4=>?_) fun e4=>?_
   ·have e4':ia+k=a.size:=by simpa using e4
    exact wpS_pure ⟨hS3,.inl ⟨_,_,rfl,hI2.doneB e4'⟩⟩
   have e4':ia+k≠a.size:=by simpa using e4
   have hgt:∀ j (hj:j<a.size),ia+k≤j→leK κ b[ib] a[j]:=fun j hj g=>KeyOrd.kle_of_klt (hk3 j hj g (by ac_rfl))
   refine wpS_bind (wpS_elem h2 ?_)
   have hI3:=hI2.pushB h2 hgt
   refine wpS_if (fun e5=>?_) fun e5=>?_
   ·have e5':ib+1=b.size:=by simpa using e5
    exact wpS_pure ⟨hS3,.inl ⟨_,_,rfl,hI3.doneA e5'⟩⟩
   have e5':ib+1≠b.size:=by simpa using e5
   refine wpS_bind (wpS_elem (by ac_rfl) ?_)
   refine wpS_bind (wpS_gallopL hO (hS3.sb hk) (base:=ib+1) (n:=b.size-(ib+1)) (hint:=0) (hA _ _) (by ac_rfl) hB (fun i j hij hj _=>hsb hij (by ac_rfl)) (by ac_rfl) fun k' m1 m2 m3=>?_)
   dsimp only
   refine wpS_if (fun hk0'=>?_) (fun hk0'=>?_)
   ·have hI4:=hI3.extB (k:=k') (by ac_rfl) (fun i hi g1 g2 j hj g3=>leK.trans (KeyOrd.kle_of_klt (m2 i hi g1 g2)) (hsa g3 hj))
    refine wpS_if (fun e6=>?_) fun e6=>?_
    ·have e6':ib+1+k'=b.size:=by simpa using e6
     exact wpS_pure ⟨hS3,.inl ⟨_,_,rfl,hI4.doneA e6'⟩⟩
    have e6':ib+1+k'≠b.size:=by simpa using e6
    refine wpS_bind (wpS_elem (by ac_rfl) ?_)
    have hI5:=hI4.pushA (by ac_rfl) (fun j hj g=>m3 j hj (by ac_rfl) (by ac_rfl))
    refine wpS_if (fun e7=>?_) fun e7=>?_
    ·have e7':(ia+k)+1+1=a.size:=by simpa using e7
     exact wpS_pure ⟨hS3,.inl ⟨_,_,rfl,hI5.last e7' (hl' (by ac_rfl) e7')⟩⟩
    have e7':(ia+k)+1+1≠a.size:=by simpa using e7
    refine wpS_if (fun e8=>?_) fun e8=>?_
    ·exact wpS_pure ⟨hS3,.inr ⟨_,_,_,_,_,_,rfl,hI5,by ac_rfl,by ac_rfl,by ac_rfl⟩⟩
    ·exact wpS_pure ⟨hS3,_,_,_,_,_,_,rfl,hI5,by ac_rfl,by ac_rfl,by ac_rfl⟩
   ·have hk00:k'=0:=by ac_rfl
    subst hk00
    have hI4:=hI3
    refine wpS_bind (wpS_elem (by ac_rfl) ?_)
    have hI5:=hI4.pushA (by ac_rfl) (fun j hj g=>m3 j hj (by ac_rfl) (by ac_rfl))
    refine wpS_if (fun e7=>?_) fun e7=>?_
    ·have e7':(ia+k)+1+1=a.size:=by simpa using e7
     exact wpS_pure ⟨hS3,.inl ⟨_,_,rfl,hI5.last e7' (hl' (by ac_rfl) e7')⟩⟩
    have e7':(ia+k)+1+1≠a.size:=by simpa using e7
    refine wpS_if (fun e8=>?_) fun e8=>?_
    ·exact wpS_pure ⟨hS3,.inr ⟨_,_,_,_,_,_,rfl,hI5,by ac_rfl,by ac_rfl,by ac_rfl⟩⟩
    ·exact wpS_pure ⟨hS3,_,_,_,_,_,_,rfl,hI5,by ac_rfl,by ac_rfl,by ac_rfl⟩
  ·have hk00:k=0:=by ac_rfl
   subst hk00
   have hI2:=hI
   have hgt:∀ j (hj:j<a.size),ia≤j→leK κ b[ib] a[j]:=fun j hj g=>KeyOrd.kle_of_klt (hk3 j hj (by ac_rfl) (by ac_rfl))
   refine wpS_bind (wpS_elem h2 ?_)
   have hI3:=hI2.pushB h2 hgt
   refine wpS_if (fun e5=>?_) fun e5=>?_
   ·have e5':ib+1=b.size:=by simpa using e5
    exact wpS_pure ⟨hS3,.inl ⟨_,_,rfl,hI3.doneA e5'⟩⟩
   have e5':ib+1≠b.size:=by simpa using e5
   refine wpS_bind (wpS_elem (by ac_rfl) ?_)
   refine wpS_bind (wpS_gallopL hO (hS3.sb hk) (base:=ib+1) (n:=b.size-(ib+1)) (hint:=0) (hA _ _) (by ac_rfl) hB (fun i j hij hj _=>hsb hij (by ac_rfl)) (by ac_rfl) fun k' m1 m2 m3=>?_)
   dsimp only
   refine wpS_if (fun hk0'=>?_) (fun hk0'=>?_)
   ·have hI4:=hI3.extB (k:=k') (by ac_rfl) (fun i hi g1 g2 j hj g3=>leK.trans (KeyOrd.kle_of_klt (m2 i hi g1 g2)) (hsa g3 hj))
    refine wpS_if (fun e6=>?_) fun e6=>?_
    ·have e6':ib+1+k'=b.size:=by simpa using e6
     exact wpS_pure ⟨hS3,.inl ⟨_,_,rfl,hI4.doneA e6'⟩⟩
    have e6':ib+1+k'≠b.size:=by simpa using e6
    refine wpS_bind (wpS_elem (by ac_rfl) ?_)
    have hI5:=hI4.pushA (by ac_rfl) (fun j hj g=>m3 j hj (by ac_rfl) (by ac_rfl))
    refine wpS_if (fun e7=>?_) fun e7=>?_
    ·have e7':ia+1+1=a.size:=by simpa using e7
     exact wpS_pure ⟨hS3,.inl ⟨_,_,rfl,hI5.last e7' (hl' (by ac_rfl) e7')⟩⟩
    have e7':ia+1+1≠a.size:=by simpa using e7
    refine wpS_if (fun e8=>?_) fun e8=>?_
    ·exact wpS_pure ⟨hS3,.inr ⟨_,_,_,_,_,_,rfl,hI5,by ac_rfl,by ac_rfl,by ac_rfl⟩⟩
    ·exact wpS_pure ⟨hS3,_,_,_,_,_,_,rfl,hI5,by ac_rfl,by ac_rfl,by ac_rfl⟩
   ·have hk00:k'=0:=by ac_rfl
    subst hk00
    have hI4:=hI3
    refine wpS_bind (wpS_elem (by ac_rfl) ?_)
    have hI5:=hI4.pushA (by ac_rfl) (fun j hj g=>m3 j hj (by ac_rfl) (by ac_rfl))
    refine wpS_if (fun e7=>?_) fun e7=>?_
    ·have e7':ia+1+1=a.size:=by simpa using e7
     exact wpS_pure ⟨hS3,.inl ⟨_,_,rfl,hI5.last e7' (hl' (by ac_rfl) e7')⟩⟩
    have e7':ia+1+1≠a.size:=by simpa using e7
    refine wpS_if (fun e8=>?_) fun e8=>?_
    ·exact wpS_pure ⟨hS3,.inr ⟨_,_,_,_,_,_,rfl,hI5,by ac_rfl,by ac_rfl,by ac_rfl⟩⟩
    ·exact wpS_pure ⟨hS3,_,_,_,_,_,_,rfl,hI5,by ac_rfl,by ac_rfl,by ac_rfl⟩
end
end L2
namespace L2
open PySem PySem.Spec PyProof.Rows
def flipK(κ:KeyKind):KeyKind where
 α:=κ.α
 blt:=fun a b=>κ.blt b a
 irrefl:=κ.irrefl
 trans:=fun a b c h1 h2=>κ.trans c b a h2 h1
 negTrans:=fun a b c h=>(κ.negTrans c b a h).symm
 total:=fun a b h1 h2=>κ.total a b h2 h1
 keyOf:=κ.keyOf
 dflt:=κ.dflt
section
variable{κ:KeyKind}
theorem leK_flip{x y:Keyed}(h:leK κ y x):leK (flipK κ) x y:=h
theorem take_at{a:Array Keyed}{n:Nat}(h:0<n)(hn:n≤a.size):(a.toList.take n).reverse=(a[n-1]'(by ac_rfl))::(a.toList.take (n-1)).reverse:=by
 obtain⟨m,rfl⟩:∃ m,n=m+1:=⟨n-1,by ac_rfl⟩
 rw[List.take_succ_eq_append_getElem (by simp; ac_rfl),List.reverse_append]
 simp
theorem ex_le(a:Array Keyed)(p n:Nat)(hp:p≤n):a.toList.take n=a.toList.take p++(a.extract p n).toList:=by
 rw[ex_list]
 conv=>lhs; rw[show n=p+(n-p) by ac_rfl]
 rw[List.take_add]
theorem mem_take{a:Array Keyed}{n:Nat}(hn:n≤a.size){x:Keyed}(h:x∈a.toList.take n):∃ j,∃ hj:j<a.size,j<n∧a[j]=x:=by
 obtain⟨m,hm,e⟩:=List.getElem_of_mem h
 rw[List.getElem_take]at e
 have h1:m<n:=by simp at hm; ac_rfl
 exact⟨m,by ac_rfl,h1,by simpa using e⟩
theorem mem_ex2{a:Array Keyed}{p n:Nat}(hn:n≤a.size){x:Keyed}(h:x∈(a.extract p n).toList):∃ j,∃ hj:j<a.size,p≤j∧j<n∧a[j]=x:=by
 rw[ex_list]at h
 obtain⟨m,hm,e⟩:=List.getElem_of_mem h
 rw[List.getElem_take,List.getElem_drop]at e
 have h1:p+m<n:=by simp at hm; ac_rfl
 exact⟨p+m,by ac_rfl,by ac_rfl,h1,by simpa using e⟩
theorem ex0(a:Array Keyed)(n:Nat):(a.extract 0 n).toList=a.toList.take n:=by
 rw[ex_list]; simp
structure HiI(κ:KeyKind)(a b out:Array Keyed)(na nb:Nat):Prop where
 ms:MS (flipK κ) (a.toList++b.toList) out.toList (a.toList.take na).reverse (b.toList.take nb).reverse
 la:na≤a.size
 lb:nb≤b.size
variable{a b out:Array Keyed}{na nb:Nat}
theorem HiI.pushA(h:HiI κ a b out na nb)(hn:0<na)(hla:na-1<a.size)(hx:∀ j (hj:j<b.size),j<nb→leK κ b[j] a[na-1]):HiI κ a b (out.push a[na-1]) (na-1) nb:=by
 refine⟨?_,by ac_rfl,h.lb⟩
 rw[Array.toList_push]
 refine MS.stepA (by rw[List.singleton_append,← take_at hn h.la]; exact h.ms) fun u hu v hv=>?_
 obtain⟨j,hj,hle,rfl⟩:=mem_take h.lb (List.mem_reverse.mp hv)
 rw[List.mem_singleton.mp hu]; exact leK_flip (hx j hj hle)
theorem HiI.pushB(h:HiI κ a b out na nb)(hn:0<nb)(hlb:nb-1<b.size)(hx:∀ j (hj:j<a.size),j<na→leK κ a[j] b[nb-1]):HiI κ a b (out.push b[nb-1]) na (nb-1):=by
 refine⟨?_,h.la,by ac_rfl⟩
 rw[Array.toList_push]
 refine MS.stepB (by rw[List.singleton_append,← take_at hn h.lb]; exact h.ms) fun u hu v hv=>?_
 obtain⟨j,hj,hle,rfl⟩:=mem_take h.la (List.mem_reverse.mp hv)
 rw[List.mem_singleton.mp hu]; exact leK_flip (hx j hj hle)
theorem HiI.extA{p:Nat}(h:HiI κ a b out na nb)(hp:p≤na)(hx:∀ i (hi:i<a.size),p≤i→i<na→∀ j (hj:j<b.size),j<nb→leK κ b[j] a[i]):HiI κ a b (out++(a.extract p na).reverse) p nb:=by
 refine⟨?_,Nat.le_trans hp h.la,h.lb⟩
 rw[Array.toList_append,Array.toList_reverse]
 refine MS.stepA (by rw[← List.reverse_append,← ex_le _ _ _ hp]; exact h.ms) fun u hu v hv=>?_
 obtain⟨j,hj,hle,rfl⟩:=mem_take h.lb (List.mem_reverse.mp hv)
 obtain⟨i,hi,h1,h2,rfl⟩:=mem_ex2 h.la (List.mem_reverse.mp hu)
 exact leK_flip (hx i hi h1 h2 j hj hle)
theorem HiI.extB{p:Nat}(h:HiI κ a b out na nb)(hp:p≤nb)(hx:∀ i (hi:i<b.size),p≤i→i<nb→∀ j (hj:j<a.size),j<na→leK κ a[j] b[i]):HiI κ a b (out++(b.extract p nb).reverse) na p:=by
 refine⟨?_,h.la,Nat.le_trans hp h.lb⟩
 rw[Array.toList_append,Array.toList_reverse]
 refine MS.stepB (by rw[← List.reverse_append,← ex_le _ _ _ hp]; exact h.ms) fun u hu v hv=>?_
 obtain⟨j,hj,hle,rfl⟩:=mem_take h.la (List.mem_reverse.mp hv)
 obtain⟨i,hi,h1,h2,rfl⟩:=mem_ex2 h.lb (List.mem_reverse.mp hu)
 exact leK_flip (hx i hi h1 h2 j hj hle)
theorem done_flip{T:List Keyed}{r q:Array Keyed}(h:Done (flipK κ) T q)(e:r.toList=q.toList.reverse):Done κ T r:=by
 refine⟨by rw[e]; exact(List.reverse_perm _).trans h.1,?_⟩
 rw[e,List.pairwise_reverse]
 exact h.2
theorem HiI.doneA(h:HiI κ a b out na nb)(e:na=0):Done κ (a.toList++b.toList) (a.extract 0 na++b.extract 0 nb++out.reverse):=by
 have:=h.ms
 rw[e,List.take_zero,List.reverse_nil]at this
 refine done_flip (q:=(out.toList++(b.toList.take nb).reverse).toArray) (this.swap.endA (by simp)) ?_
 rw[Array.toList_append,Array.toList_append,ex0,ex0,e]; simp
theorem HiI.doneB(h:HiI κ a b out na nb)(e:nb=0):Done κ (a.toList++b.toList) (a.extract 0 na++b.extract 0 nb++out.reverse):=by
 have:=h.ms
 rw[e,List.take_zero,List.reverse_nil]at this
 refine done_flip (q:=(out.toList++(a.toList.take na).reverse).toArray) (this.endA (by simp)) ?_
 rw[Array.toList_append,Array.toList_append,ex0,ex0,e]; simp
theorem HiI.first(h:HiI κ a b out na nb)(e:nb=1)(hf:∀ j (hj:j<a.size),leK κ (b[0]'(by have:=h.lb; ac_rfl)) a[j]):Done κ (a.toList++b.toList) (b.extract 0 nb++a.extract 0 na++out.reverse):=by
 refine done_flip (q:=(out.toList++((a.toList.take na).reverse++(b.toList.take nb).reverse)).toArray) (h.ms.swap.last (fun u hu v hv=>?_) (by simp)) ?_
 ·obtain⟨i,hi,h1,rfl⟩:=mem_take h.la (List.mem_reverse.mp hu)
  obtain⟨j,hj,h2,rfl⟩:=mem_take h.lb (List.mem_reverse.mp hv)
  have:j=0:=by ac_rfl
  subst this; exact leK_flip (hf i hi)
 ·rw[Array.toList_append,Array.toList_append,ex0,ex0]; simp
end
end L2
namespace L2
open PySem PySem.Spec PyProof.Rows
section
variable{prog:Program}{w:World}{A:Around}{E:Value→Shared→Prop}{s:Shared}{κ:KeyKind}
theorem wpS_mergeHi(hO:κ.OneLt){st:SortSt}(hk:SB st){a b:Array Keyed}{Q:Array Keyed→SortSt→Prop}(ha:0<a.size)(hb:0<b.size)
  (hA:∀ i (hi:i<a.size),HasK κ a[i]) (hB:∀ i (hi:i<b.size),HasK κ b[i]) (sa:Srt κ a) (sb:Srt κ b)
  (h0:leK κ b[0] a[0]) (hl:∀ j (hj:j<b.size),leK κ b[j] a[a.size-1])
  (h:∀ r st',SameS st st'→Done κ (a.toList++b.toList) r→Q r st') :
  wpS (model prog w) A E s (mergeHi' a b) Q st:=by
 have hsb:∀ {i j:Nat} (hij:i≤j) (hj:j<b.size),leK κ (b[i]'(by ac_rfl)) b[j]:=fun {i j} hij hj=>sb i j hj hij
 have hsa:∀ {i j:Nat} (hij:i≤j) (hj:j<a.size),leK κ (a[i]'(by ac_rfl)) a[j]:=fun {i j} hij hj=>sa i j hj hij
 have hf:∀ j (hj:j<a.size),leK κ b[0] a[j]:=fun j hj=>h0.trans (hsa (by ac_rfl) hj)
 have I0:HiI κ a b #[a[a.size-1]] (a.size-1) b.size:=by
  have h1:HiI κ a b #[] a.size b.size:=by
   refine⟨⟨?_,by simp,?_,?_,by simp,by simp⟩,by ac_rfl,by ac_rfl⟩
   ·simp only[← Array.length_toList,List.take_length,List.nil_append]
    exact List.Perm.append (List.reverse_perm _) (List.reverse_perm _)
   ·simp only[← Array.length_toList,List.take_length,List.pairwise_reverse]
    exact sa.pw
   ·simp only[← Array.length_toList,List.take_length,List.pairwise_reverse]
    exact sb.pw
  exact h1.pushA ha (by ac_rfl) fun j hj _=>hl j hj
 unfold mergeHi'
 refine wpS_bind (wpS_lift (wpAny_rule ⟨rfl,?_⟩))
 dsimp only
 refine wpS_bind (wpS_elem (by ac_rfl) ?_)
 refine wpS_if (fun e1=>wpS_pure (h _ _ .rfl (I0.doneA (by simpa using e1)))) fun e1=>?_
 have e1':a.size-1≠0:=by simpa using e1
 refine wpS_if (fun e2=>?_) fun e2=>?_
 ·have e2':b.size=1:=by simpa using e2
  exact wpS_pure (h _ _ .rfl (I0.first e2' hf))
 have e2':b.size≠1:=by simpa using e2
 refine wpS_bind (wpS_get ?_)
 refine wpS_bind (wpS_mono (wpS_forRange (I:=fun x c st'=>SameS st st'∧∃ out na nb mg,c=(none,na,nb,out,mg)∧HiI κ a b out na nb∧0<na∧na≤a.size∧1<nb∧nb≤b.size∧x+1+na+nb≤a.size+b.size)
  (Q:=fun c st'=>SameS st st'∧∃ r,c.1=some r∧Done κ (a.toList++b.toList) r) ?_ ?_ ?_) ?_)
 rotate_left
 ·rintro c st' ⟨_,out,na,nb,mg,rfl,hI,h1,h1',h2,h2',h3⟩
  ac_rfl
 ·exact⟨.rfl,_,_,_,_,rfl,I0,by ac_rfl,by ac_rfl,by ac_rfl,by ac_rfl,by ac_rfl⟩
 ·rintro⟨c1,c⟩ st' ⟨hS,r,rfl,hD⟩
  exact wpS_pure (h r st' hS hD)
 rintro x c st' _ hx ⟨hS,out,na,nb,mg,rfl,hI,h1,h1',h2,h2',h3⟩
 dsimp only
 refine wpS_bind (wpS_mono (wpS_forRange (I:=fun y c st''=>st''=st'∧∃ out na nb ac bc,c=(none,na,nb,out,ac,bc)∧HiI κ a b out na nb∧0<na∧na≤a.size∧1<nb∧nb≤b.size∧x+1+y+na+nb≤a.size+b.size)
  (Q:=fun c st''=>st''=st'∧((∃ r c',c=(some r,c')∧Done κ (a.toList++b.toList) r)∨∃ out na nb ac bc,c=(none,na,nb,out,ac,bc)∧HiI κ a b out na nb∧0<na∧na≤a.size∧1<nb∧nb≤b.size∧x+1+1+na+nb≤a.size+b.size)) ?_ ?_ ?_) ?_)
 ·rintro y c st'' _ hy ⟨rfl,out,na,nb,ac,bc,rfl,hI,h1,h1',h2,h2',h3⟩
  dsimp only
  refine wpS_bind (wpS_elem (by ac_rfl) (wpS_bind (wpS_elem (by ac_rfl) (wpS_bind (wpS_ltP hO (hS.sb hk) (hB (nb-1) (by ac_rfl)) (hA (na-1) (by ac_rfl)) ?_)))))
  cases e:κ.blt (kO κ (b[nb-1]'(by ac_rfl))) (kO κ (a[na-1]'(by ac_rfl)))with
  | true =>
   dsimp only
   rw[if_pos rfl]
   refine wpS_bind (wpS_elem (by ac_rfl) ?_)
   have hI':=hI.pushA h1 (by ac_rfl) fun j hj hle=>leK.trans (hsb (show j≤nb-1 by ac_rfl) (by ac_rfl)) (KeyOrd.kle_of_klt e)
   refine wpS_if (fun e3=>?_) fun e3=>?_
   ·exact wpS_pure ⟨rfl,.inl ⟨_,_,rfl,hI'.doneA (by simpa using e3)⟩⟩
   have e3':na-1≠0:=by simpa using e3
   refine wpS_if (fun e4=>?_) fun e4=>?_
   ·exact wpS_pure ⟨rfl,.inr ⟨_,_,_,_,_,rfl,hI',by ac_rfl,by ac_rfl,by ac_rfl,by ac_rfl,by ac_rfl⟩⟩
   ·exact wpS_pure ⟨rfl,_,_,_,_,_,rfl,hI',by ac_rfl,by ac_rfl,by ac_rfl,by ac_rfl,by ac_rfl⟩
  | false =>
   dsimp only
   rw[if_neg (by simp)]
   refine wpS_bind (wpS_elem (by ac_rfl) ?_)
   have hI':=hI.pushB (by ac_rfl) (by ac_rfl) fun j hj hle=>leK.trans (hsa (show j≤na-1 by ac_rfl) (by ac_rfl)) (show leK κ (a[na-1]'(by ac_rfl)) (b[nb-1]'(by ac_rfl))from e)
   refine wpS_if (fun e3=>?_) fun e3=>?_
   ·exact wpS_pure ⟨rfl,.inl ⟨_,_,rfl,hI'.first (by simpa using e3) hf⟩⟩
   have e3':nb-1≠1:=by simpa using e3
   refine wpS_if (fun e4=>?_) fun e4=>?_
   ·exact wpS_pure ⟨rfl,.inr ⟨_,_,_,_,_,rfl,hI',by ac_rfl,by ac_rfl,by ac_rfl,by ac_rfl,by ac_rfl⟩⟩
   ·exact wpS_pure ⟨rfl,_,_,_,_,_,rfl,hI',by ac_rfl,by ac_rfl,by ac_rfl,by ac_rfl,by ac_rfl⟩
 ·rintro c st'' ⟨rfl,out,na,nb,ac,bc,rfl,hI,h1,h1',h2,h2',h3⟩
  ac_rfl
 ·exact⟨rfl,_,_,_,_,_,rfl,hI,h1,h1',h2,h2',by ac_rfl⟩
 rintro c st'' ⟨rfl,⟨r,c',rfl,hD⟩ | ⟨out,na,nb,ac,bc,rfl,hI,h1,h1',h2,h2',h3⟩⟩
 ·exact wpS_pure ⟨hS,r,rfl,hD⟩
 dsimp only
 refine wpS_bind (wpS_lift (wpAny_rule ⟨rfl,?_⟩))
 refine wpS_bind (wpS_mono (wpS_forRange (I:=fun y c st''=>SameS st st''∧∃ out na nb mg ac bc,c=(none,na,nb,out,mg,ac,bc)∧HiI κ a b out na nb∧0<na∧na≤a.size∧1<nb∧nb≤b.size∧x+2+y+na+nb≤a.size+b.size)
  (Q:=fun c st''=>SameS st st''∧((∃ r c',c=(some r,c')∧Done κ (a.toList++b.toList) r)∨∃ out na nb mg ac bc,c=(none,na,nb,out,mg,ac,bc)∧HiI κ a b out na nb∧0<na∧na≤a.size∧1<nb∧nb≤b.size∧x+1+1+na+nb≤a.size+b.size)) ?_ ?_ ?_) ?_)
 rotate_left
 ·rintro c st'' ⟨_,out,na,nb,mg,ac,bc,rfl,hI,h1,h1',h2,h2',h3⟩
  ac_rfl
 ·exact⟨hS,_,_,_,_,_,_,rfl,hI,h1,h1',h2,h2',by ac_rfl⟩
 ·rintro c st'' ⟨hS,⟨r,c',rfl,hD⟩ | ⟨out,na,nb,mg,ac,bc,rfl,hI,h1,h1',h2,h2',h3⟩⟩
  ·exact wpS_pure ⟨hS,r,rfl,hD⟩
  ·dsimp only
   exact wpS_bind (wpS_setMin hS fun st3 hS3=>wpS_pure ⟨hS3,_,_,_,_,rfl,hI,h1,h1',h2,h2',by ac_rfl⟩)
 rintro y c st'' _ hy ⟨hS,out,na,nb,mg,ac,bc,rfl,hI,h1,h1',h2,h2',h3⟩
 dsimp only
 refine wpS_if (fun hmg=>?_) (fun hmg=>?_)
 all_goals
  refine wpS_bind (wpS_setMin hS fun st3 hS3=>?_)
  refine wpS_bind (wpS_elem (by ac_rfl) ?_)
  refine wpS_bind (wpS_gallopR hO (hS3.sb hk) (base:=0) (n:=na) (hint:=na-1) (hB (nb-1) (by ac_rfl)) (by ac_rfl) hA (fun i j hij hj _=>hsa hij (by ac_rfl)) (by ac_rfl) fun p hk1 hk2 hk3=>?_)
  dsimp only
  refine wpS_if (fun hk0=>?_) (fun hk0=>?_)
  ·have hI2:HiI κ a b (out++(a.extract p na).reverse) p nb:=hI.extA (by ac_rfl) fun i hi g1 g2 j hj g3=>leK.trans (hsb (show j≤nb-1 by ac_rfl) (by ac_rfl)) (KeyOrd.kle_of_klt (hk3 i hi (by ac_rfl) (by ac_rfl)))
   refine wpS_if (fun e3=>?_) fun e3=>?_
   ·exact wpS_pure ⟨hS3,.inl ⟨_,_,rfl,hI2.doneA (by simpa using e3)⟩⟩
   have e3':p≠0:=by simpa using e3
   have hgt:∀ j (hj:j<a.size),j<p→leK κ a[j] (b[nb-1]'(by ac_rfl)):=fun j hj g=>hk2 j hj (by ac_rfl) (by ac_rfl)
   refine wpS_bind (wpS_elem (by ac_rfl) ?_)
   have hI3:=hI2.pushB (by ac_rfl) (by ac_rfl) hgt
   refine wpS_if (fun e5=>?_) fun e5=>?_
   ·exact wpS_pure ⟨hS3,.inl ⟨_,_,rfl,hI3.first (by simpa using e5) hf⟩⟩
   have e5':nb-1≠1:=by simpa using e5
   refine wpS_bind (wpS_elem (by ac_rfl) ?_)
   refine wpS_bind (wpS_gallopL hO (hS3.sb hk) (base:=0) (n:=nb-1) (hint:=nb-1-1) (hA _ _) (by ac_rfl) hB (fun i j hij hj _=>hsb hij (by ac_rfl)) (by ac_rfl) fun p' m1 m2 m3=>?_)
   dsimp only
   refine wpS_if (fun hk0'=>?_) (fun hk0'=>?_)
   ·have hI4:=hI3.extB (p:=p') (by ac_rfl) (fun i hi g1 g2 j hj g3=>leK.trans (hsa (show j≤p-1 by ac_rfl) (by ac_rfl)) (m3 i hi (by ac_rfl) (by ac_rfl)))
    refine wpS_if (fun e6=>?_) fun e6=>?_
    ·exact wpS_pure ⟨hS3,.inl ⟨_,_,rfl,hI4.first (by simpa using e6) hf⟩⟩
    have e6':p'≠1:=by simpa using e6
    refine wpS_if (fun e9=>?_) fun e9=>?_
    ·exact wpS_pure ⟨hS3,.inl ⟨_,_,rfl,hI4.doneB (by simpa using e9)⟩⟩
    have e9':p'≠0:=by simpa using e9
    refine wpS_bind (wpS_elem (by ac_rfl) ?_)
    have hI5:=hI4.pushA (by ac_rfl) (by ac_rfl) (fun j hj g=>KeyOrd.kle_of_klt (m2 j hj (by ac_rfl) (by ac_rfl)))
    refine wpS_if (fun e7=>?_) fun e7=>?_
    ·exact wpS_pure ⟨hS3,.inl ⟨_,_,rfl,hI5.doneA (by simpa using e7)⟩⟩
    have e7':p-1≠0:=by simpa using e7
    refine wpS_if (fun e8=>?_) fun e8=>?_
    ·exact wpS_pure ⟨hS3,.inr ⟨_,_,_,_,_,_,rfl,hI5,by ac_rfl,by ac_rfl,by ac_rfl,by ac_rfl,by ac_rfl⟩⟩
    ·exact wpS_pure ⟨hS3,_,_,_,_,_,_,rfl,hI5,by ac_rfl,by ac_rfl,by ac_rfl,by ac_rfl,by ac_rfl⟩
   ·have hk00:p'=nb-1:=by ac_rfl
    subst hk00
    have hI4:=hI3
    refine wpS_bind (wpS_elem (by ac_rfl) ?_)
    have hI5:=hI4.pushA (by ac_rfl) (by ac_rfl) (fun j hj g=>KeyOrd.kle_of_klt (m2 j hj (by ac_rfl) (by ac_rfl)))
    refine wpS_if (fun e7=>?_) fun e7=>?_
    ·exact wpS_pure ⟨hS3,.inl ⟨_,_,rfl,hI5.doneA (by simpa using e7)⟩⟩
    have e7':p-1≠0:=by simpa using e7
    refine wpS_if (fun e8=>?_) fun e8=>?_
    ·exact wpS_pure ⟨hS3,.inr ⟨_,_,_,_,_,_,rfl,hI5,by ac_rfl,by ac_rfl,by ac_rfl,by ac_rfl,by ac_rfl⟩⟩
    ·exact wpS_pure ⟨hS3,_,_,_,_,_,_,rfl,hI5,by ac_rfl,by ac_rfl,by ac_rfl,by ac_rfl,by ac_rfl⟩
  ·have hk00:p=na:=by ac_rfl
   subst hk00
   have hI2:=hI
   have hgt:∀ j (hj:j<a.size),j<p→leK κ a[j] (b[nb-1]'(by ac_rfl)):=fun j hj g=>hk2 j hj (by ac_rfl) (by ac_rfl)
   refine wpS_bind (wpS_elem (by ac_rfl) ?_)
   have hI3:=hI2.pushB (by ac_rfl) (by ac_rfl) hgt
   refine wpS_if (fun e5=>?_) fun e5=>?_
   ·exact wpS_pure ⟨hS3,.inl ⟨_,_,rfl,hI3.first (by simpa using e5) hf⟩⟩
   have e5':nb-1≠1:=by simpa using e5
   refine wpS_bind (wpS_elem (by ac_rfl) ?_)
   refine wpS_bind (wpS_gallopL hO (hS3.sb hk) (base:=0) (n:=nb-1) (hint:=nb-1-1) (hA _ _) (by ac_rfl) hB (fun i j hij hj _=>hsb hij (by ac_rfl)) (by ac_rfl) fun p' m1 m2 m3=>?_)
   dsimp only
   refine wpS_if (fun hk0'=>?_) (fun hk0'=>?_)
   ·have hI4:=hI3.extB (p:=p') (by ac_rfl) (fun i hi g1 g2 j hj g3=>leK.trans (hsa (show j≤p-1 by ac_rfl) (by ac_rfl)) (m3 i hi (by ac_rfl) (by ac_rfl)))
    refine wpS_if (fun e6=>?_) fun e6=>?_
    ·exact wpS_pure ⟨hS3,.inl ⟨_,_,rfl,hI4.first (by simpa using e6) hf⟩⟩
    have e6':p'≠1:=by simpa using e6
    refine wpS_if (fun e9=>?_) fun e9=>?_
    ·exact wpS_pure ⟨hS3,.inl ⟨_,_,rfl,hI4.doneB (by simpa using e9)⟩⟩
    have e9':p'≠0:=by simpa using e9
    refine wpS_bind (wpS_elem (by ac_rfl) ?_)
    have hI5:=hI4.pushA (by ac_rfl) (by ac_rfl) (fun j hj g=>KeyOrd.kle_of_klt (m2 j hj (by ac_rfl) (by ac_rfl)))
    refine wpS_if (fun e7=>?_) fun e7=>?_
    ·exact wpS_pure ⟨hS3,.inl ⟨_,_,rfl,hI5.doneA (by simpa using e7)⟩⟩
    have e7':p-1≠0:=by simpa using e7
    refine wpS_if (fun e8=>?_) fun e8=>?_
    ·exact wpS_pure ⟨hS3,.inr ⟨_,_,_,_,_,_,rfl,hI5,by ac_rfl,by ac_rfl,by ac_rfl,by ac_rfl,by ac_rfl⟩⟩
    ·exact wpS_pure ⟨hS3,_,_,_,_,_,_,rfl,hI5,by ac_rfl,by ac_rfl,by ac_rfl,by ac_rfl,by ac_rfl⟩
   ·have hk00:p'=nb-1:=by ac_rfl
    subst hk00
    have hI4:=hI3
    refine wpS_bind (wpS_elem (by ac_rfl) ?_)
    have hI5:=hI4.pushA (by ac_rfl) (by ac_rfl) (fun j hj g=>KeyOrd.kle_of_klt (m2 j hj (by ac_rfl) (by ac_rfl)))
    refine wpS_if (fun e7=>?_) fun e7=>?_
    ·exact wpS_pure ⟨hS3,.inl ⟨_,_,rfl,hI5.doneA (by simpa using e7)⟩⟩
    have e7':p-1≠0:=by simpa using e7
    refine wpS_if (fun e8=>?_) fun e8=>?_
    ·exact wpS_pure ⟨hS3,.inr ⟨_,_,_,_,_,_,rfl,hI5,by ac_rfl,by ac_rfl,by ac_rfl,by ac_rfl,by ac_rfl⟩⟩
    ·exact wpS_pure ⟨hS3,_,_,_,_,_,_,rfl,hI5,by ac_rfl,by ac_rfl,by ac_rfl,by ac_rfl,by ac_rfl⟩
end
end L2
namespace L2
open PySem PySem.Spec PyProof.Rows
def putL(a:Array Keyed)(lo:Nat)(l:List Keyed):Array Keyed:=l.zipIdx.foldl (fun a (pj:Keyed×Nat)=>a.setIfInBounds (lo+pj.2) pj.1) a
theorem put_go:∀ (l:List Keyed) (n lo:Nat) (a:Array Keyed),lo+n+l.length≤a.size →
  ((l.zipIdx n).foldl (fun a (pj:Keyed×Nat)=>a.setIfInBounds (lo+pj.2) pj.1) a).size=a.size ∧
  ∀ k,((l.zipIdx n).foldl (fun a (pj:Keyed×Nat)=>a.setIfInBounds (lo+pj.2) pj.1) a)[k]?=if lo+n≤k∧k<lo+n+l.length then l[k-(lo+n)]? else a[k]?
 | [],n,lo,a,_=>⟨rfl,fun k=>by rw[if_neg (by simp)]; rfl⟩
 | x::l,n,lo,a,h=>by
  have h':lo+(n+1)+l.length≤(a.setIfInBounds (lo+n) x).size:=by simp at h ⊢; ac_rfl
  obtain⟨e1,e2⟩:=put_go l (n+1) lo (a.setIfInBounds (lo+n) x) h'
  rw[List.zipIdx_cons,List.foldl_cons]
  refine⟨by rw[e1]; simp,fun k=>?_⟩
  rw[e2]
  by_cases h1:lo+n=k
  ·subst h1
   rw[if_neg (by ac_rfl),if_pos (by simp)]
   rw[Array.getElem?_setIfInBounds_self_of_lt (by simp at h; ac_rfl)]
   simp
  ·by_cases h2:lo+(n+1)≤k∧k<lo+(n+1)+l.length
   ·rw[if_pos h2,if_pos (by simp; ac_rfl)]
    rw[show k-(lo+n)=k-(lo+(n+1))+1 by ac_rfl,List.getElem?_cons_succ]
   ·rw[if_neg h2,if_neg (by simp; ac_rfl),Array.getElem?_setIfInBounds_ne h1]
theorem put_size{a:Array Keyed}{lo:Nat}{l:List Keyed}(h:lo+l.length≤a.size):(putL a lo l).size=a.size:=(put_go l 0 lo a (by ac_rfl)).1
theorem put_at{a:Array Keyed}{lo:Nat}{l:List Keyed}(h:lo+l.length≤a.size)(k:Nat):(putL a lo l)[k]?=if lo≤k∧k<lo+l.length then l[k-lo]? else a[k]? :=
 (put_go l 0 lo a (by ac_rfl)).2 k
theorem put_perm{a:Array Keyed}{lo n:Nat}{l:List Keyed}(h:lo+n≤a.size)(hp:l.Perm ((a.toList.drop lo).take n)):(putL a lo l).toList.Perm a.toList:=by
 have hl:l.length=n:=by rw[hp.length_eq,List.length_take,List.length_drop]; simp; ac_rfl
 have e:(putL a lo l).toList=a.toList.take lo++(l++a.toList.drop (lo+n)):=by
  apply List.ext_getElem?
  intro k
  rw[Array.getElem?_toList,put_at (by ac_rfl),List.getElem?_append,List.getElem?_append,List.length_take,List.getElem?_take,List.getElem?_drop,hl]
  simp only[Array.length_toList,Array.getElem?_toList]
  rw[show min lo a.size=lo by ac_rfl]
  by_cases h1:k<lo
  ·rw[if_neg (by ac_rfl),if_pos h1,if_pos h1]
  ·rw[if_neg h1]
   by_cases h2:k<lo+n
   ·rw[if_pos (by ac_rfl),if_pos (by ac_rfl)]
   ·rw[if_neg (by ac_rfl),if_neg (by ac_rfl)]; congr 1; ac_rfl
 rw[e]
 have e2:a.toList=a.toList.take lo++((a.toList.drop lo).take n++a.toList.drop (lo+n)):=by
  rw[← List.drop_drop,List.take_append_drop,List.take_append_drop]
 conv=>rhs; rw[e2]
 exact List.Perm.append_left _ (List.Perm.append_right _ hp)
section
variable{κ:KeyKind}
def Run(κ:KeyKind)(a:Array Keyed)(lo n:Nat):Prop:=∀ i j x y,lo≤i→i≤j→j<lo+n→a[i]?=some x→a[j]?=some y→leK κ x y
theorem leK.refl(x:Keyed):leK κ x x:=KeyOrd.kle_refl _
structure Wr(a a':Array Keyed)(lo n:Nat):Prop where
 perm:a'.toList.Perm a.toList
 size:a'.size=a.size
 out:∀ k,k<lo∨lo+n≤k→a'[k]?=a[k]?
theorem Run.keep{a a':Array Keyed}{lo n lo' n':Nat}(h:Run κ a lo n)(w:Wr a a' lo' n')(d:lo+n≤lo'∨lo'+n'≤lo):Run κ a' lo n:=by
 intro i j x y h1 h2 h3 hx hy
 rw[w.out i (by ac_rfl)]at hx
 rw[w.out j (by ac_rfl)]at hy
 exact h i j x y h1 h2 h3 hx hy
end
section
variable{prog:Program}{w:World}{A:Around}{E:Value→Shared→Prop}{s:Shared}{κ:KeyKind}
theorem wpS_set{σ:Type}{M:Model}{Q:PUnit→σ→Prop}{st st':σ}(h:Q ⟨⟩ st'):wpS M A E s (set st':StateT σ Sem PUnit) Q st:=by
 unfold wpS; rw[StateT.run_set]; exact wpAny_pure ⟨rfl,h⟩
theorem ex_join(a:Array Keyed){p q t:Nat}(h1:p≤q)(h2:q≤t):(a.extract p q).toList++(a.extract q t).toList=(a.extract p t).toList:=by
 rw[ex_list,ex_list,ex_list,show t-p=(q-p)+(t-q) by ac_rfl,List.take_add,List.drop_drop,show p+(q-p)=q by ac_rfl]
theorem merge_fin{arr:Array Keyed}{sa na nb k nb':Nat}(hsz:sa+na+nb≤arr.size)(hk:k<na)(h0:0<nb')(hnb:nb'≤nb)(r1:Run κ arr sa na)(r2:Run κ arr (sa+na) nb)
  (a1:∀ i (hi:i<arr.size),sa≤i→i<sa+k→leK κ arr[i] (arr[sa+na]'(by ac_rfl))) (b2:∀ i (hi:i<arr.size),sa+na+nb'≤i→i<sa+na+nb→leK κ (arr[sa+na-1]'(by ac_rfl)) arr[i])
  {r:Array Keyed} (hD:Done κ ((arr.extract (sa+k) (sa+na)).toList++(arr.extract (sa+na) (sa+na+nb')).toList) r) :
  Wr arr (putL arr (sa+k) r.toList) sa (na+nb)∧Run κ (putL arr (sa+k) r.toList) sa (na+nb):=by
 rw[ex_join _ (by ac_rfl) (by ac_rfl)]at hD
 have hlen:r.toList.length=na-k+nb':=by
  rw[hD.1.length_eq,ex_list,List.length_take,List.length_drop,Array.length_toList]; ac_rfl
 have hb:sa+k+r.toList.length≤arr.size:=by ac_rfl
 have hm:∀ m∈r.toList,∃ t,∃ ht:t<arr.size,sa+k≤t∧t<sa+na+nb'∧arr[t]=m:=fun m hm=>mem_ex2 (by ac_rfl) (hD.1.mem_iff.mp hm)
 have g1:∀ {i j:Nat} (hij:i≤j) (hj:j<sa+na),sa≤i→leK κ (arr[i]'(by ac_rfl)) (arr[j]'(by ac_rfl)):=fun {i j} hij hj hi =>
  r1 i j _ _ hi hij hj (getElem?_pos _ _ _) (getElem?_pos _ _ _)
 have g2:∀ {i j:Nat} (hij:i≤j) (hj:j<sa+na+nb),sa+na≤i→leK κ (arr[i]'(by ac_rfl)) (arr[j]'(by ac_rfl)):=fun {i j} hij hj hi =>
  r2 i j _ _ hi hij hj (getElem?_pos _ _ _) (getElem?_pos _ _ _)
 have pS:∀ i (hi:i<arr.size) j (hj:j<arr.size),sa≤i→i<sa+k→sa+na≤j→j<sa+na+nb→leK κ arr[i] arr[j]:=fun i hi j hj c1 c2 c3 c4 =>
  (a1 i hi c1 c2).trans (g2 c3 c4 (Nat.le_refl _))
 refine⟨⟨?_,put_size hb,fun q hq=>?_⟩,?_⟩
 ·refine put_perm (n:=na-k+nb') (by ac_rfl) ?_
  have:=hD.1
  rwa[ex_list,show sa+na+nb'-(sa+k)=na-k+nb' by ac_rfl]at this
 ·rw[put_at hb,if_neg (by ac_rfl)]
 ·intro i j x y h1 h2 h3 hx hy
  rw[put_at hb]at hx hy
  by_cases ci:sa+k≤i∧i<sa+k+r.toList.length
  ·rw[if_pos ci]at hx
   obtain⟨t,ht,t1,t2,rfl⟩:=hm x (List.mem_of_getElem? hx)
   by_cases cj:sa+k≤j∧j<sa+k+r.toList.length
   ·rw[if_pos cj]at hy
    by_cases eij:i=j
    ·subst eij; rw[hx]at hy; cases hy; exact leK.refl _
    ·obtain⟨u1,u2⟩:=List.getElem?_eq_some_iff.mp hx
     obtain⟨v1,v2⟩:=List.getElem?_eq_some_iff.mp hy
     have:=List.pairwise_iff_getElem.mp hD.2 (i-(sa+k)) (j-(sa+k)) u1 v1 (by ac_rfl)
     rw[u2,v2]at this
     exact this
   ·rw[if_neg cj]at hy
    obtain⟨hj,rfl⟩:=Array.getElem?_eq_some_iff.mp hy
    by_cases ct:t<sa+na
    ·exact(g1 (show t≤sa+na-1 by ac_rfl) (by ac_rfl) (by ac_rfl)).trans (b2 j hj (by ac_rfl) (by ac_rfl))
    ·exact g2 (by ac_rfl) (by ac_rfl) (by ac_rfl)
  ·rw[if_neg ci]at hx
   obtain⟨hi,rfl⟩:=Array.getElem?_eq_some_iff.mp hx
   by_cases cj:sa+k≤j∧j<sa+k+r.toList.length
   ·rw[if_pos cj]at hy
    obtain⟨t,ht,t1,t2,rfl⟩:=hm y (List.mem_of_getElem? hy)
    by_cases ct:t<sa+na
    ·exact g1 (by ac_rfl) ct (by ac_rfl)
    ·exact pS i hi t ht (by ac_rfl) (by ac_rfl) (by ac_rfl) (by ac_rfl)
   ·rw[if_neg cj]at hy
    obtain⟨hj,rfl⟩:=Array.getElem?_eq_some_iff.mp hy
    by_cases c2:i<sa+k
    ·by_cases c3:j<sa+k
     ·exact g1 h2 (by ac_rfl) h1
     ·exact pS i hi j hj (by ac_rfl) c2 (by ac_rfl) (by ac_rfl)
    ·exact g2 h2 (by ac_rfl) (by ac_rfl)
theorem run_join{arr:Array Keyed}{sa na nb:Nat}(hsz:sa+na+nb≤arr.size)(hna:0<na)(hnb:0<nb)(r1:Run κ arr sa na)(r2:Run κ arr (sa+na) nb)
  (hj:leK κ (arr[sa+na-1]'(by ac_rfl)) (arr[sa+na]'(by ac_rfl))):Run κ arr sa (na+nb):=by
 intro i j x y h1 h2 h3 hx hy
 by_cases c1:j<sa+na
 ·exact r1 i j x y h1 h2 c1 hx hy
 ·by_cases c2:i<sa+na
  ·exact((r1 i (sa+na-1) x _ h1 (by ac_rfl) (by ac_rfl) hx (getElem?_pos _ _ _)).trans hj).trans (r2 (sa+na) j _ y (by ac_rfl) (by ac_rfl) (by ac_rfl) (getElem?_pos _ _ _) hy)
  ·exact r2 i j x y (by ac_rfl) h2 (by ac_rfl) hx hy
theorem Wr.same{a:Array Keyed}{lo n:Nat}:Wr a a lo n:=⟨List.Perm.refl _,rfl,fun _ _=>rfl⟩
theorem wpS_mergeAt(hO:κ.OneLt){st:SortSt}(hk:SB st)(hA:∀ i (hi:i<(arrOf st).size),HasK κ (arrOf st)[i]){i sa na pw nb pw':Nat}
  (p1:(pendingOf st)[i]?=some (sa,na,pw)) (p2:(pendingOf st)[i+1]?=some (sa+na,nb,pw')) (hna:0<na) (hnb:0<nb) (hsz:sa+na+nb≤(arrOf st).size)
  (r1:Run κ (arrOf st) sa na) (r2:Run κ (arrOf st) (sa+na) nb) {Q:Bool→SortSt→Prop}
  (h:∀ st',SB st'→pendingOf st'=((pendingOf st).setIfInBounds i (sa,na+nb,pw)).eraseIdxIfInBounds (i+1)→Wr (arrOf st) (arrOf st') sa (na+nb)→Run κ (arrOf st') sa (na+nb)→Q true st') :
  wpS (model prog w) A E s (mergeAt' i) Q st:=by
 obtain⟨kd,arr,pd,mg,fl⟩:=st
 have hkd:kd=oneType':=hk.kind
 have hfl:fl=none:=hk.failed
 subst hkd hfl
 replace hA:∀ i (hi:i<arr.size),HasK κ arr[i]:=hA
 replace hsz:sa+na+nb≤arr.size:=hsz
 replace r1:Run κ arr sa na:=r1
 replace r2:Run κ arr (sa+na) nb:=r2
 replace p1:pd[i]?=some (sa,na,pw):=p1
 replace p2:pd[i+1]?=some (sa+na,nb,pw'):=p2
 replace h:∀ st',SB st'→pendingOf st'=(pd.setIfInBounds i (sa,na+nb,pw)).eraseIdxIfInBounds (i+1)→Wr arr (arrOf st') sa (na+nb)→Run κ (arrOf st') sa (na+nb)→Q true st':=h
 have g1:∀ {i j:Nat} (hij:i≤j) (hj:j<sa+na),sa≤i→leK κ (arr[i]'(by ac_rfl)) (arr[j]'(by ac_rfl)):=fun {i j} hij hj hi =>
  r1 i j _ _ hi hij hj (getElem?_pos _ _ _) (getElem?_pos _ _ _)
 have g2:∀ {i j:Nat} (hij:i≤j) (hj:j<sa+na+nb),sa+na≤i→leK κ (arr[i]'(by ac_rfl)) (arr[j]'(by ac_rfl)):=fun {i j} hij hj hi =>
  r2 i j _ _ hi hij hj (getElem?_pos _ _ _) (getElem?_pos _ _ _)
 unfold mergeAt'
 refine wpS_bind (wpS_get ?_)
 dsimp only
 rw[p1,p2]
 dsimp only
 refine wpS_bind (wpS_set ?_)
 generalize (pd.setIfInBounds i (sa,na+nb,pw)).eraseIdxIfInBounds (i+1)=pend at *
 refine wpS_bind (wpS_elem (by ac_rfl) ?_)
 refine wpS_bind (wpS_gallopR hO ⟨rfl,rfl⟩ (base:=sa) (n:=na) (hint:=0) (hA _ _) (by ac_rfl) hA (fun i j hij hj hi=>g1 hij hj hi) hna fun k m1 m2 m3=>?_)
 dsimp only
 refine wpS_if (fun e1=>?_) fun e1=>?_
 ·have e1':na≤k:=by have:na-k=0:=(by simpa using e1); ac_rfl
  refine wpS_pure (h _ ⟨rfl,rfl⟩ rfl Wr.same (run_join hsz hna hnb r1 r2 (m2 _ _ (by ac_rfl) (by ac_rfl))))
 have e1':k<na:=by have:na-k≠0:=(by simpa using e1); ac_rfl
 refine wpS_bind (wpS_elem (by ac_rfl) ?_)
 refine wpS_bind (wpS_gallopL hO ⟨rfl,rfl⟩ (base:=sa+na) (n:=nb) (hint:=nb-1) (hA _ _) (by ac_rfl) hA (fun i j hij hj hi=>g2 hij hj hi) (by ac_rfl) fun nb' n1 n2 n3=>?_)
 dsimp only
 have hidx:sa+k+(na-k)-1=sa+na-1:=by ac_rfl
 simp only[hidx]at n2 n3
 refine wpS_if (fun e2=>?_) fun e2=>?_
 ·have e2':nb'=0:=by simpa using e2
  refine wpS_pure (h _ ⟨rfl,rfl⟩ rfl Wr.same (run_join hsz hna hnb r1 r2 (n3 _ _ (by ac_rfl) (by ac_rfl))))
 have e2':nb'≠0:=by simpa using e2
 have xs:(arr.extract (sa+k) (sa+na)).size=na-k:=by simp; ac_rfl
 have ys:(arr.extract (sa+na) (sa+na+nb')).size=nb':=by simp; ac_rfl
 refine wpS_if (fun _=>?_) fun _=>?_
 all_goals
  first
   | refine wpS_bind (wpS_mergeLo hO ⟨rfl,rfl⟩ (by ac_rfl) (by ac_rfl) ?_ ?_ ?_ ?_ ?_ ?_ ?_)
   | refine wpS_bind (wpS_mergeHi hO ⟨rfl,rfl⟩ (by ac_rfl) (by ac_rfl) ?_ ?_ ?_ ?_ ?_ ?_ ?_)
  ·intro j hj; rw[Array.getElem_extract]; exact hA _ _
  ·intro j hj; rw[Array.getElem_extract]; exact hA _ _
  ·intro i j hj hij
   rw[Array.getElem_extract,Array.getElem_extract]
   exact g1 (by ac_rfl) (by ac_rfl) (by ac_rfl)
  ·intro i j hj hij
   rw[Array.getElem_extract,Array.getElem_extract]
   exact g2 (by ac_rfl) (by ac_rfl) (by ac_rfl)
  ·rw[Array.getElem_extract,Array.getElem_extract]
   exact KeyOrd.kle_of_klt (m3 _ _ (by ac_rfl) (by ac_rfl))
  ·intro j hj
   rw[Array.getElem_extract,Array.getElem_extract]
   have:=n2 (sa+na+j) (by ac_rfl) (by ac_rfl) (by ac_rfl)
   have e:sa+k+((arr.extract (sa+k) (sa+na)).size-1)=sa+na-1:=by ac_rfl
   simp only[e]
   exact KeyOrd.kle_of_klt this
  ·rintro r ⟨kd',arr',pd',mg',fl'⟩ ⟨c1,c2,c3,c4⟩ hD
   change kd'=oneType' at c1
   change arr'=arr at c2
   change pd'=pend at c3
   change fl'=none at c4
   subst c1 c2 c3 c4
   refine wpS_bind (wpS_modify ?_)
   refine wpS_bind (wpS_get ?_)
   obtain⟨w1,w2⟩:=merge_fin hsz e1' (by ac_rfl) n1 r1 r2 (fun i hi c1 c2=>m2 i hi c1 c2) (fun i hi c1 c2=>n3 i hi c1 c2) hD
   exact wpS_pure (h _ ⟨rfl,rfl⟩ rfl w1 w2)
end
end L2
namespace L2
open PySem PySem.Spec PyProof.Rows
section
variable{κ:KeyKind}
theorem KK_of{a:Array Keyed}{i:Nat}{x:Keyed}(h:a[i]?=some x):KK κ a i=kO κ x:=by unfold KK kO; rw[h]
theorem KK_at{a:Array Keyed}{i:Nat}(h:i<a.size):KK κ a i=kO κ a[i]:=KK_of (getElem?_pos _ _ _)
def RunK(κ:KeyKind)(a:Array Keyed)(lo n:Nat):Prop:=∀ i j,lo≤i→i≤j→j<lo+n→κ.kle (KK κ a i) (KK κ a j)
def DRunK(κ:KeyKind)(a:Array Keyed)(lo n:Nat):Prop:=∀ i j,lo≤i→i≤j→j<lo+n→κ.kle (KK κ a j) (KK κ a i)
theorem RunK.run{a:Array Keyed}{lo n:Nat}(h:RunK κ a lo n):Run κ a lo n:=by
 intro i j x y h1 h2 h3 hx hy
 have:=h i j h1 h2 h3
 rw[KK_of hx,KK_of hy]at this
 exact this
theorem Wr.trans{a b c:Array Keyed}{lo n:Nat}(h1:Wr a b lo n)(h2:Wr b c lo n):Wr a c lo n :=
 ⟨h2.perm.trans h1.perm,h2.size.trans h1.size,fun k hk=>(h2.out k hk).trans (h1.out k hk)⟩
theorem Wr.mono{a b:Array Keyed}{lo n lo' n':Nat}(h:Wr a b lo n)(h1:lo'≤lo)(h2:lo+n≤lo'+n'):Wr a b lo' n' :=
 ⟨h.perm,h.size,fun k hk=>h.out k (by ac_rfl)⟩
theorem wr_mirror{a:Array Keyed}{i j:Nat}(hj:j≤a.size)(hij:i≤j):Wr a (mirror a i j ((j-i) / 2)) i (j-i) :=
 ⟨Array.perm_iff_toList_perm.mp (mirror_perm _ _ _ _),mirror_size _ _ _ _,fun k hk=>by rw[getElem?_mirror_all hj,if_neg (by ac_rfl)]⟩
theorem wr_bubble{a:Array Keyed}{src d:Nat}(hs:src<a.size)(hd:d≤src):Wr a (bubble a src d) (src-d) (d+1) :=
 ⟨Array.perm_iff_toList_perm.mp (bubble_perm _ _ _),bubble_size _ _ _,fun k hk=>by rw[getElem?_bubble hs d hd,if_neg (by ac_rfl),if_neg (by ac_rfl)]⟩
def AllK(κ:KeyKind)(a:Array Keyed):Prop:=∀ i (hi:i<a.size),HasK κ a[i]
theorem AllK.of{a b:Array Keyed}(h:AllK κ a)(p:b.toList.Perm a.toList):AllK κ b:=by
 intro i hi
 have hm:b[i]∈a.toList:=p.mem_iff.mp (by simp)
 obtain⟨j,hj,e⟩:=List.getElem_of_mem hm
 rw[← e]
 simpa using h j (by simpa using hj)
end
section
variable{prog:Program}{w:World}{A:Around}{E:Value→Shared→Prop}{s:Shared}{κ:KeyKind}
theorem wpS_ltI(hO:κ.OneLt){st:SortSt}(hk:SB st)(hA:AllK κ (arrOf st)){i j:Nat}{Q:Option Bool→SortSt→Prop}(hi:i<(arrOf st).size)(hj:j<(arrOf st).size)
  (h:Q (some (κ.blt (KK κ (arrOf st) i) (KK κ (arrOf st) j))) st):wpS (model prog w) A E s (ltAt' i j) Q st:=by
 rw[KK_at hi,KK_at hj]at h
 rw[ltAt'_eq]
 refine wpS_bind (wpS_get ?_)
 exact wpS_bind (wpS_elem hi (wpS_bind (wpS_elem hj (wpS_ltP hO hk (hA i hi) (hA j hj) h))))
theorem wpS_rev{st0 st:SortSt}{lo n i j:Nat}{Q:Unit→SortSt→Prop}(hk:SB st)(hp:pendingOf st=pendingOf st0)(hw:Wr (arrOf st0) (arrOf st) lo n)(hij:i≤j)(hj:j≤(arrOf st0).size)(c1:lo≤i)(c2:j≤lo+n)
  (h:∀ st2,SB st2→pendingOf st2=pendingOf st0→Wr (arrOf st0) (arrOf st2) lo n→(∀ k,KK κ (arrOf st2) k=if i≤k∧k<j then KK κ (arrOf st) (i+j-1-k)else KK κ (arrOf st) k)→Q () st2) :
  wpS (model prog w) A E s (reverseSlice' i j) Q st:=by
 have hj':j≤(arrOf st).size:=by rw[hw.size]; exact hj
 exact wpS_reverse (h _ ⟨hk.kind,hk.failed⟩ hp (hw.trans ((wr_mirror hj' hij).mono c1 (by ac_rfl))) fun k=>KK_mirror hj' k)
theorem wpS_countRun2(hO:κ.OneLt){st:SortSt}(hk:SB st)(hA:AllK κ (arrOf st)){lo nrem:Nat}(h1:1≤nrem)(hsz:lo+nrem≤(arrOf st).size){Q:Option Nat→SortSt→Prop}
  (h:∀ n st',SB st'→pendingOf st'=pendingOf st→Wr (arrOf st) (arrOf st') lo nrem→1≤n→n≤nrem→RunK κ (arrOf st') lo n→Q (some n) st') :
  wpS (model prog w) A E s (countRun' lo nrem) Q st:=by
 have one:RunK κ (arrOf st) lo 1:=fun i j a1 a2 a3=>by
  have:i=j:=by ac_rfl
  subst this; exact KeyOrd.kle_refl _
 have go:∀ {st5:SortSt},Wr (arrOf st) (arrOf st5) lo nrem→(arrOf st5).size=(arrOf st).size:=fun w=>w.size
 unfold countRun'
 refine wpS_bind (wpS_mono (wpS_forRange (I:=fun x c st6=>st6=st∧c=(none,x)∧RunK κ (arrOf st) lo x)
  (Q:=fun c st6=>st6=st∧∃ n,c=(none,n)∧1≤n∧n≤nrem∧RunK κ (arrOf st) lo n∧(n=nrem∨κ.klt (KK κ (arrOf st) (lo+n)) (KK κ (arrOf st) (lo+n-1)))) ?_ ?_ ?_) ?_)
 ·rintro x c st6 hx1 hx2 ⟨rfl,rfl,hr⟩
  dsimp only
  refine wpS_bind (wpS_ltI hO hk hA (by ac_rfl) (by ac_rfl) ?_)
  cases e:κ.blt (KK κ (arrOf st6) (lo+x)) (KK κ (arrOf st6) (lo+x-1))with
  | true=>exact wpS_pure ⟨rfl,x,rfl,by ac_rfl,by ac_rfl,hr,.inr e⟩
  | false =>
   refine wpS_pure ⟨rfl,rfl,fun i j a1 a2 a3=>?_⟩
   by_cases hj:j<lo+x
   ·exact hr i j a1 a2 hj
   ·have hj':j=lo+x:=by ac_rfl
    subst hj'
    by_cases hi:i=lo+x
    ·subst hi; exact KeyOrd.kle_refl _
    ·exact KeyOrd.kle_trans (hr i (lo+x-1) a1 (by ac_rfl) (by ac_rfl)) e
 ·rintro c st6 ⟨rfl,rfl,hr⟩
  rw[show max 1 nrem=nrem by ac_rfl]at hr ⊢
  exact⟨rfl,nrem,rfl,by ac_rfl,by ac_rfl,hr,.inl rfl⟩
 ·exact⟨rfl,rfl,one⟩
 rintro c st' ⟨rfl,n,rfl,n1,n2,hr,hn⟩
 dsimp only
 refine wpS_if (fun e1=>wpS_pure (h n st' hk rfl Wr.same n1 n2 hr)) fun e1=>?_
 have e1':n≠nrem:=by simpa using e1
 replace hn:κ.klt (KK κ (arrOf st') (lo+n)) (KK κ (arrOf st') (lo+n-1)):=hn.resolve_left e1'
 refine wpS_if (fun en=>?_) fun en=>?_
 ·refine wpS_bind (wpS_ltI hO hk hA (by ac_rfl) (by ac_rfl) ?_)
  cases e2:κ.blt (KK κ (arrOf st') lo) (KK κ (arrOf st') (lo+n-1))with
  | true=>exact wpS_pure (h n st' hk rfl Wr.same n1 n2 hr)
  | false =>
   dsimp only
   rw[if_neg (by simp)]
   have hall:∀ i,lo≤i→i<lo+n→KK κ (arrOf st') i=KK κ (arrOf st') lo:=fun i a1 a2 =>
    KeyOrd.kle_antisymm (KeyOrd.kle_trans (hr i (lo+n-1) a1 (by ac_rfl) (by ac_rfl)) e2) (hr lo i (Nat.le_refl _) a1 a2)
   refine wpS_bind (wpS_rev (κ:=κ) (lo:=lo) (n:=nrem) hk rfl Wr.same (by ac_rfl) (by ac_rfl) (by ac_rfl) (by ac_rfl) fun st2 hk2 hp2 hw2 hkk=>?_)
   have hD:DRunK κ (arrOf st2) lo (n+1):=by
    have hv:∀ i,lo≤i→i<lo+n→KK κ (arrOf st2) i=KK κ (arrOf st') lo:=fun i a1 a2=>by
     rw[hkk,if_pos ⟨a1,a2⟩]; exact hall _ (by ac_rfl) (by ac_rfl)
    have hl:κ.klt (KK κ (arrOf st2) (lo+n)) (KK κ (arrOf st') lo):=by
     rw[hkk,if_neg (by ac_rfl),← hall (lo+n-1) (by ac_rfl) (by ac_rfl)]; exact hn
    intro i j a1 a2 a3
    by_cases hj:j<lo+n
    ·rw[hv i a1 (by ac_rfl),hv j (by ac_rfl) hj]; exact KeyOrd.kle_refl _
    ·have hj':j=lo+n:=by ac_rfl
     subst hj'
     by_cases hi:i=lo+n
     ·subst hi; exact KeyOrd.kle_refl _
     ·rw[hv i a1 (by ac_rfl)]; exact KeyOrd.kle_of_klt hl
   refine wpS_bind (wpS_lift (wpAny_rule ⟨rfl,?_⟩))
   refine wpS_bind (wpS_mono (wpS_forRange (I:=fun x c st3=>∃ neq,c=(none,x,neq)∧SB st3∧pendingOf st3=pendingOf st'∧Wr (arrOf st') (arrOf st3) lo nrem∧DRunK κ (arrOf st3) lo x∧neq+1≤x∧(∀ i,lo+x-(neq+1)≤i→i<lo+x→KK κ (arrOf st3) i=KK κ (arrOf st3) (lo+x-1)))
    (Q:=fun c st3=>∃ m neq,c=(none,m,neq)∧SB st3∧pendingOf st3=pendingOf st'∧Wr (arrOf st') (arrOf st3) lo nrem∧1≤m∧m≤nrem∧DRunK κ (arrOf st3) lo m∧neq+1≤m∧(∀ i,lo+m-(neq+1)≤i→i<lo+m→KK κ (arrOf st3) i=KK κ (arrOf st3) (lo+m-1))) ?_ ?_ ?_) ?_)
   ·rintro x c st3 hx1 hx2 ⟨neq,rfl,hk3,hp3,hw3,hd,hq,he⟩
    have sz3:=hw3.size
    dsimp only
    refine wpS_bind (wpS_ltI hO hk3 (hA.of hw3.perm) (by ac_rfl) (by ac_rfl) ?_)
    cases e3:κ.blt (KK κ (arrOf st3) (lo+x)) (KK κ (arrOf st3) (lo+x-1))with
    | true =>
     have hd':DRunK κ (arrOf st3) lo (x+1):=fun i j a1 a2 a3=>by
      by_cases hj:j<lo+x
      ·exact hd i j a1 a2 hj
      ·have hj':j=lo+x:=by ac_rfl
       subst hj'
       by_cases hi:i=lo+x
       ·subst hi; exact KeyOrd.kle_refl _
       ·exact KeyOrd.kle_trans (KeyOrd.kle_of_klt e3) (hd i (lo+x-1) a1 (by ac_rfl) (by ac_rfl))
     dsimp only
     rw[if_pos rfl]
     refine wpS_if (fun hneq=>?_) fun hneq=>?_
     ·refine wpS_bind (wpS_rev (κ:=κ) (lo:=lo) (n:=nrem) hk3 hp3 hw3 (by ac_rfl) (by ac_rfl) (by ac_rfl) (by ac_rfl) fun st4 hk4 hp4 hw4 hkk4=>?_)
      have hkk':∀ k,KK κ (arrOf st4) k=KK κ (arrOf st3) k:=fun k=>by
       rw[hkk4]
       split
       ·rw[he _ (by ac_rfl) (by ac_rfl),he k (by ac_rfl) (by ac_rfl)]
       ·rfl
      exact wpS_pure ⟨0,rfl,hk4,hp4,hw4,fun i j a1 a2 a3=>by rw[hkk',hkk']; exact hd' i j a1 a2 a3,by ac_rfl,fun i a1 a2=>by congr 1; ac_rfl⟩
     ·exact wpS_pure ⟨0,rfl,hk3,hp3,hw3,hd',by ac_rfl,fun i a1 a2=>by congr 1; ac_rfl⟩
    | false =>
     dsimp only
     rw[if_neg (by simp)]
     refine wpS_bind (wpS_ltI hO hk3 (hA.of hw3.perm) (by ac_rfl) (by ac_rfl) ?_)
     cases e4:κ.blt (KK κ (arrOf st3) (lo+x-1)) (KK κ (arrOf st3) (lo+x))with
     | true=>exact wpS_pure ⟨x,neq,rfl,hk3,hp3,hw3,by ac_rfl,by ac_rfl,hd,hq,he⟩
     | false =>
      have ex:KK κ (arrOf st3) (lo+x)=KK κ (arrOf st3) (lo+x-1):=KeyOrd.kle_antisymm e4 e3
      refine wpS_pure ⟨neq+1,rfl,hk3,hp3,hw3,fun i j a1 a2 a3=>?_,by ac_rfl,fun i a1 a2=>?_⟩
      ·by_cases hj:j<lo+x
       ·exact hd i j a1 a2 hj
       ·have hj':j=lo+x:=by ac_rfl
        subst hj'
        by_cases hi:i=lo+x
        ·subst hi; exact KeyOrd.kle_refl _
        ·rw[ex]; exact hd i (lo+x-1) a1 (by ac_rfl) (by ac_rfl)
      ·rw[show lo+(x+1)-1=lo+x by ac_rfl]
       by_cases hi:i=lo+x
       ·rw[hi]
       ·rw[he i (by ac_rfl) (by ac_rfl),ex]
   ·rintro c st3 ⟨neq,rfl,hk3,hp3,hw3,hd,hq,he⟩
    rw[show max (n+1) nrem=nrem by ac_rfl]at hd hq he ⊢
    exact⟨nrem,neq,rfl,hk3,hp3,hw3,by ac_rfl,by ac_rfl,hd,hq,he⟩
   ·exact⟨0,rfl,hk2,hp2,hw2,hD,by ac_rfl,fun i a1 a2=>by congr 1; ac_rfl⟩
   rintro c st3 ⟨m,neq,rfl,hk3,hp3,hw3,m1,m2,hd,hq,he⟩
   dsimp only
   refine wpS_if (fun hneq=>?_) fun hneq=>?_
   ·refine wpS_bind (wpS_rev (κ:=κ) (lo:=lo) (n:=nrem) hk3 hp3 hw3 (by ac_rfl) (by ac_rfl) (by ac_rfl) (by ac_rfl) fun st4 hk4 hp4 hw4 hkk4=>?_)
    have hkk':∀ k,KK κ (arrOf st4) k=KK κ (arrOf st3) k:=fun k=>by
     rw[hkk4]
     split
     ·rw[he _ (by ac_rfl) (by ac_rfl),he k (by ac_rfl) (by ac_rfl)]
     ·rfl
    have hd4:DRunK κ (arrOf st4) lo m:=fun i j a1 a2 a3=>by rw[hkk',hkk']; exact hd i j a1 a2 a3
    refine wpS_bind (wpS_rev (κ:=κ) (lo:=lo) (n:=nrem) hk4 hp4 hw4 (by ac_rfl) (by ac_rfl) (by ac_rfl) (by ac_rfl) fun st5 hk5 hp5 hw5 hkk5=>?_)
    have hr5:RunK κ (arrOf st5) lo m:=fun i j a1 a2 a3=>by
     rw[hkk5,hkk5,if_pos ⟨a1,by ac_rfl⟩,if_pos ⟨by ac_rfl,a3⟩]
     exact hd4 _ _ (by ac_rfl) (by ac_rfl) (by ac_rfl)
    have sz5:=hw5.size
    refine wpS_bind (wpS_mono (wpS_forRange (I:=fun x c st6=>st6=st5∧c=(none,x)∧RunK κ (arrOf st5) lo x)
     (Q:=fun c st6=>st6=st5∧∃ n,c=(none,n)∧1≤n∧n≤nrem∧RunK κ (arrOf st5) lo n∧(n=nrem∨κ.klt (KK κ (arrOf st5) (lo+n)) (KK κ (arrOf st5) (lo+n-1)))) ?_ ?_ ?_) ?_)
    ·rintro x c st6 hx1 hx2 ⟨rfl,rfl,hr⟩
     dsimp only
     refine wpS_bind (wpS_ltI hO hk5 (hA.of hw5.perm) (by ac_rfl) (by ac_rfl) ?_)
     cases e:κ.blt (KK κ (arrOf st6) (lo+x)) (KK κ (arrOf st6) (lo+x-1))with
     | true=>exact wpS_pure ⟨rfl,x,rfl,by ac_rfl,by ac_rfl,hr,.inr e⟩
     | false =>
      refine wpS_pure ⟨rfl,rfl,fun i j a1 a2 a3=>?_⟩
      by_cases hj:j<lo+x
      ·exact hr i j a1 a2 hj
      ·have hj':j=lo+x:=by ac_rfl
       subst hj'
       by_cases hi:i=lo+x
       ·subst hi; exact KeyOrd.kle_refl _
       ·exact KeyOrd.kle_trans (hr i (lo+x-1) a1 (by ac_rfl) (by ac_rfl)) e
    ·rintro c st6 ⟨rfl,rfl,hr⟩
     rw[show max m nrem=nrem by ac_rfl]at hr ⊢
     exact⟨rfl,nrem,rfl,by ac_rfl,by ac_rfl,hr,.inl rfl⟩
    ·exact⟨rfl,rfl,hr5⟩
    rintro c st6 ⟨rfl,q,rfl,q1,q2,hrq,_⟩
    exact wpS_pure (h q st6 hk5 hp5 hw5 q1 q2 hrq)
   ·have hk4:=hk3
    have hp4:=hp3
    have hw4:=hw3
    have hd4:=hd
    refine wpS_bind (wpS_rev (κ:=κ) (lo:=lo) (n:=nrem) hk4 hp4 hw4 (by ac_rfl) (by ac_rfl) (by ac_rfl) (by ac_rfl) fun st5 hk5 hp5 hw5 hkk5=>?_)
    have hr5:RunK κ (arrOf st5) lo m:=fun i j a1 a2 a3=>by
     rw[hkk5,hkk5,if_pos ⟨a1,by ac_rfl⟩,if_pos ⟨by ac_rfl,a3⟩]
     exact hd4 _ _ (by ac_rfl) (by ac_rfl) (by ac_rfl)
    have sz5:=hw5.size
    refine wpS_bind (wpS_mono (wpS_forRange (I:=fun x c st6=>st6=st5∧c=(none,x)∧RunK κ (arrOf st5) lo x)
     (Q:=fun c st6=>st6=st5∧∃ n,c=(none,n)∧1≤n∧n≤nrem∧RunK κ (arrOf st5) lo n∧(n=nrem∨κ.klt (KK κ (arrOf st5) (lo+n)) (KK κ (arrOf st5) (lo+n-1)))) ?_ ?_ ?_) ?_)
    ·rintro x c st6 hx1 hx2 ⟨rfl,rfl,hr⟩
     dsimp only
     refine wpS_bind (wpS_ltI hO hk5 (hA.of hw5.perm) (by ac_rfl) (by ac_rfl) ?_)
     cases e:κ.blt (KK κ (arrOf st6) (lo+x)) (KK κ (arrOf st6) (lo+x-1))with
     | true=>exact wpS_pure ⟨rfl,x,rfl,by ac_rfl,by ac_rfl,hr,.inr e⟩
     | false =>
      refine wpS_pure ⟨rfl,rfl,fun i j a1 a2 a3=>?_⟩
      by_cases hj:j<lo+x
      ·exact hr i j a1 a2 hj
      ·have hj':j=lo+x:=by ac_rfl
       subst hj'
       by_cases hi:i=lo+x
       ·subst hi; exact KeyOrd.kle_refl _
       ·exact KeyOrd.kle_trans (hr i (lo+x-1) a1 (by ac_rfl) (by ac_rfl)) e
    ·rintro c st6 ⟨rfl,rfl,hr⟩
     rw[show max m nrem=nrem by ac_rfl]at hr ⊢
     exact⟨rfl,nrem,rfl,by ac_rfl,by ac_rfl,hr,.inl rfl⟩
    ·exact⟨rfl,rfl,hr5⟩
    rintro c st6 ⟨rfl,q,rfl,q1,q2,hrq,_⟩
    exact wpS_pure (h q st6 hk5 hp5 hw5 q1 q2 hrq)
 ·have en':n=1:=by ac_rfl
  subst en'
  obtain⟨st2,hst2⟩:∃ st2,st2=st':=⟨_,rfl⟩
  have hk2:SB st2:=by rw[hst2]; exact hk
  have hp2:pendingOf st2=pendingOf st':=by rw[hst2]
  have hw2:Wr (arrOf st') (arrOf st2) lo nrem:=by rw[hst2]; exact Wr.same
  have hD:DRunK κ (arrOf st2) lo (1+1):=by
   rw[hst2]
   intro i j a1 a2 a3
   by_cases hi:i=j
   ·subst hi; exact KeyOrd.kle_refl _
   ·have e1:i=lo+1-1:=by ac_rfl
    have e2:j=lo+1:=by ac_rfl
    rw[e1,e2]; exact KeyOrd.kle_of_klt hn
  rw[← hst2]
  refine wpS_bind (wpS_lift (wpAny_rule ⟨rfl,?_⟩))
  refine wpS_bind (wpS_mono (wpS_forRange (I:=fun x c st3=>∃ neq,c=(none,x,neq)∧SB st3∧pendingOf st3=pendingOf st'∧Wr (arrOf st') (arrOf st3) lo nrem∧DRunK κ (arrOf st3) lo x∧neq+1≤x∧(∀ i,lo+x-(neq+1)≤i→i<lo+x→KK κ (arrOf st3) i=KK κ (arrOf st3) (lo+x-1)))
   (Q:=fun c st3=>∃ m neq,c=(none,m,neq)∧SB st3∧pendingOf st3=pendingOf st'∧Wr (arrOf st') (arrOf st3) lo nrem∧1≤m∧m≤nrem∧DRunK κ (arrOf st3) lo m∧neq+1≤m∧(∀ i,lo+m-(neq+1)≤i→i<lo+m→KK κ (arrOf st3) i=KK κ (arrOf st3) (lo+m-1))) ?_ ?_ ?_) ?_)
  ·rintro x c st3 hx1 hx2 ⟨neq,rfl,hk3,hp3,hw3,hd,hq,he⟩
   have sz3:=hw3.size
   dsimp only
   refine wpS_bind (wpS_ltI hO hk3 (hA.of hw3.perm) (by ac_rfl) (by ac_rfl) ?_)
   cases e3:κ.blt (KK κ (arrOf st3) (lo+x)) (KK κ (arrOf st3) (lo+x-1))with
   | true =>
    have hd':DRunK κ (arrOf st3) lo (x+1):=fun i j a1 a2 a3=>by
     by_cases hj:j<lo+x
     ·exact hd i j a1 a2 hj
     ·have hj':j=lo+x:=by ac_rfl
      subst hj'
      by_cases hi:i=lo+x
      ·subst hi; exact KeyOrd.kle_refl _
      ·exact KeyOrd.kle_trans (KeyOrd.kle_of_klt e3) (hd i (lo+x-1) a1 (by ac_rfl) (by ac_rfl))
    dsimp only
    rw[if_pos rfl]
    refine wpS_if (fun hneq=>?_) fun hneq=>?_
    ·refine wpS_bind (wpS_rev (κ:=κ) (lo:=lo) (n:=nrem) hk3 hp3 hw3 (by ac_rfl) (by ac_rfl) (by ac_rfl) (by ac_rfl) fun st4 hk4 hp4 hw4 hkk4=>?_)
     have hkk':∀ k,KK κ (arrOf st4) k=KK κ (arrOf st3) k:=fun k=>by
      rw[hkk4]
      split
      ·rw[he _ (by ac_rfl) (by ac_rfl),he k (by ac_rfl) (by ac_rfl)]
      ·rfl
     exact wpS_pure ⟨0,rfl,hk4,hp4,hw4,fun i j a1 a2 a3=>by rw[hkk',hkk']; exact hd' i j a1 a2 a3,by ac_rfl,fun i a1 a2=>by congr 1; ac_rfl⟩
    ·exact wpS_pure ⟨0,rfl,hk3,hp3,hw3,hd',by ac_rfl,fun i a1 a2=>by congr 1; ac_rfl⟩
   | false =>
    dsimp only
    rw[if_neg (by simp)]
    refine wpS_bind (wpS_ltI hO hk3 (hA.of hw3.perm) (by ac_rfl) (by ac_rfl) ?_)
    cases e4:κ.blt (KK κ (arrOf st3) (lo+x-1)) (KK κ (arrOf st3) (lo+x))with
    | true=>exact wpS_pure ⟨x,neq,rfl,hk3,hp3,hw3,by ac_rfl,by ac_rfl,hd,hq,he⟩
    | false =>
     have ex:KK κ (arrOf st3) (lo+x)=KK κ (arrOf st3) (lo+x-1):=KeyOrd.kle_antisymm e4 e3
     refine wpS_pure ⟨neq+1,rfl,hk3,hp3,hw3,fun i j a1 a2 a3=>?_,by ac_rfl,fun i a1 a2=>?_⟩
     ·by_cases hj:j<lo+x
      ·exact hd i j a1 a2 hj
      ·have hj':j=lo+x:=by ac_rfl
       subst hj'
       by_cases hi:i=lo+x
       ·subst hi; exact KeyOrd.kle_refl _
       ·rw[ex]; exact hd i (lo+x-1) a1 (by ac_rfl) (by ac_rfl)
     ·rw[show lo+(x+1)-1=lo+x by ac_rfl]
      by_cases hi:i=lo+x
      ·rw[hi]
      ·rw[he i (by ac_rfl) (by ac_rfl),ex]
  ·rintro c st3 ⟨neq,rfl,hk3,hp3,hw3,hd,hq,he⟩
   rw[show max (1+1) nrem=nrem by ac_rfl]at hd hq he ⊢
   exact⟨nrem,neq,rfl,hk3,hp3,hw3,by ac_rfl,by ac_rfl,hd,hq,he⟩
  ·exact⟨0,rfl,hk2,hp2,hw2,hD,by ac_rfl,fun i a1 a2=>by congr 1; ac_rfl⟩
  rintro c st3 ⟨m,neq,rfl,hk3,hp3,hw3,m1,m2,hd,hq,he⟩
  dsimp only
  refine wpS_if (fun hneq=>?_) fun hneq=>?_
  ·refine wpS_bind (wpS_rev (κ:=κ) (lo:=lo) (n:=nrem) hk3 hp3 hw3 (by ac_rfl) (by ac_rfl) (by ac_rfl) (by ac_rfl) fun st4 hk4 hp4 hw4 hkk4=>?_)
   have hkk':∀ k,KK κ (arrOf st4) k=KK κ (arrOf st3) k:=fun k=>by
    rw[hkk4]
    split
    ·rw[he _ (by ac_rfl) (by ac_rfl),he k (by ac_rfl) (by ac_rfl)]
    ·rfl
   have hd4:DRunK κ (arrOf st4) lo m:=fun i j a1 a2 a3=>by rw[hkk',hkk']; exact hd i j a1 a2 a3
   refine wpS_bind (wpS_rev (κ:=κ) (lo:=lo) (n:=nrem) hk4 hp4 hw4 (by ac_rfl) (by ac_rfl) (by ac_rfl) (by ac_rfl) fun st5 hk5 hp5 hw5 hkk5=>?_)
   have hr5:RunK κ (arrOf st5) lo m:=fun i j a1 a2 a3=>by
    rw[hkk5,hkk5,if_pos ⟨a1,by ac_rfl⟩,if_pos ⟨by ac_rfl,a3⟩]
    exact hd4 _ _ (by ac_rfl) (by ac_rfl) (by ac_rfl)
   have sz5:=hw5.size
   refine wpS_bind (wpS_mono (wpS_forRange (I:=fun x c st6=>st6=st5∧c=(none,x)∧RunK κ (arrOf st5) lo x)
    (Q:=fun c st6=>st6=st5∧∃ n,c=(none,n)∧1≤n∧n≤nrem∧RunK κ (arrOf st5) lo n∧(n=nrem∨κ.klt (KK κ (arrOf st5) (lo+n)) (KK κ (arrOf st5) (lo+n-1)))) ?_ ?_ ?_) ?_)
   ·rintro x c st6 hx1 hx2 ⟨rfl,rfl,hr⟩
    dsimp only
    refine wpS_bind (wpS_ltI hO hk5 (hA.of hw5.perm) (by ac_rfl) (by ac_rfl) ?_)
    cases e:κ.blt (KK κ (arrOf st6) (lo+x)) (KK κ (arrOf st6) (lo+x-1))with
    | true=>exact wpS_pure ⟨rfl,x,rfl,by ac_rfl,by ac_rfl,hr,.inr e⟩
    | false =>
     refine wpS_pure ⟨rfl,rfl,fun i j a1 a2 a3=>?_⟩
     by_cases hj:j<lo+x
     ·exact hr i j a1 a2 hj
     ·have hj':j=lo+x:=by ac_rfl
      subst hj'
      by_cases hi:i=lo+x
      ·subst hi; exact KeyOrd.kle_refl _
      ·exact KeyOrd.kle_trans (hr i (lo+x-1) a1 (by ac_rfl) (by ac_rfl)) e
   ·rintro c st6 ⟨rfl,rfl,hr⟩
    rw[show max m nrem=nrem by ac_rfl]at hr ⊢
    exact⟨rfl,nrem,rfl,by ac_rfl,by ac_rfl,hr,.inl rfl⟩
   ·exact⟨rfl,rfl,hr5⟩
   rintro c st6 ⟨rfl,q,rfl,q1,q2,hrq,_⟩
   exact wpS_pure (h q st6 hk5 hp5 hw5 q1 q2 hrq)
  ·have hk4:=hk3
   have hp4:=hp3
   have hw4:=hw3
   have hd4:=hd
   refine wpS_bind (wpS_rev (κ:=κ) (lo:=lo) (n:=nrem) hk4 hp4 hw4 (by ac_rfl) (by ac_rfl) (by ac_rfl) (by ac_rfl) fun st5 hk5 hp5 hw5 hkk5=>?_)
   have hr5:RunK κ (arrOf st5) lo m:=fun i j a1 a2 a3=>by
    rw[hkk5,hkk5,if_pos ⟨a1,by ac_rfl⟩,if_pos ⟨by ac_rfl,a3⟩]
    exact hd4 _ _ (by ac_rfl) (by ac_rfl) (by ac_rfl)
   have sz5:=hw5.size
   refine wpS_bind (wpS_mono (wpS_forRange (I:=fun x c st6=>st6=st5∧c=(none,x)∧RunK κ (arrOf st5) lo x)
    (Q:=fun c st6=>st6=st5∧∃ n,c=(none,n)∧1≤n∧n≤nrem∧RunK κ (arrOf st5) lo n∧(n=nrem∨κ.klt (KK κ (arrOf st5) (lo+n)) (KK κ (arrOf st5) (lo+n-1)))) ?_ ?_ ?_) ?_)
   ·rintro x c st6 hx1 hx2 ⟨rfl,rfl,hr⟩
    dsimp only
    refine wpS_bind (wpS_ltI hO hk5 (hA.of hw5.perm) (by ac_rfl) (by ac_rfl) ?_)
    cases e:κ.blt (KK κ (arrOf st6) (lo+x)) (KK κ (arrOf st6) (lo+x-1))with
    | true=>exact wpS_pure ⟨rfl,x,rfl,by ac_rfl,by ac_rfl,hr,.inr e⟩
    | false =>
     refine wpS_pure ⟨rfl,rfl,fun i j a1 a2 a3=>?_⟩
     by_cases hj:j<lo+x
     ·exact hr i j a1 a2 hj
     ·have hj':j=lo+x:=by ac_rfl
      subst hj'
      by_cases hi:i=lo+x
      ·subst hi; exact KeyOrd.kle_refl _
      ·exact KeyOrd.kle_trans (hr i (lo+x-1) a1 (by ac_rfl) (by ac_rfl)) e
   ·rintro c st6 ⟨rfl,rfl,hr⟩
    rw[show max m nrem=nrem by ac_rfl]at hr ⊢
    exact⟨rfl,nrem,rfl,by ac_rfl,by ac_rfl,hr,.inl rfl⟩
   ·exact⟨rfl,rfl,hr5⟩
   rintro c st6 ⟨rfl,q,rfl,q1,q2,hrq,_⟩
   exact wpS_pure (h q st6 hk5 hp5 hw5 q1 q2 hrq)
end
end L2
namespace L2
open PySem PySem.Spec PyProof.Rows
section
variable{prog:Program}{w:World}{A:Around}{E:Value→Shared→Prop}{s:Shared}{κ:KeyKind}
theorem wpS_move{st0 st:SortSt}{lo n src dst:Nat}{Q:Unit→SortSt→Prop}(hk:SB st)(hp:pendingOf st=pendingOf st0)(hw:Wr (arrOf st0) (arrOf st) lo n)(hij:dst≤src)(hj:src<(arrOf st0).size)(c1:lo≤dst)(c2:src<lo+n)
  (h:∀ st2,SB st2→pendingOf st2=pendingOf st0→Wr (arrOf st0) (arrOf st2) lo n→(∀ k,KK κ (arrOf st2) k=if k=dst then KK κ (arrOf st) src else if dst<k∧k≤src then KK κ (arrOf st) (k-1)else KK κ (arrOf st) k)→Q () st2) :
  wpS (model prog w) A E s (moveDown' src dst) Q st:=by
 have hj':src<(arrOf st).size:=by rw[hw.size]; exact hj
 rw[moveDown'_eq]
 refine wpS_modify (h _ ⟨hk.kind,hk.failed⟩ hp (hw.trans ((wr_bubble hj' (show src-dst≤src by ac_rfl)).mono (by ac_rfl) (by ac_rfl))) fun k=>?_)
 have:=KK_bubble (κ:=κ) hj' (show src-dst≤src by ac_rfl) k
 rw[show src-(src-dst)=dst by ac_rfl]at this
 exact this
theorem wpS_binarySort2(hO:κ.OneLt){st:SortSt}(hk:SB st)(hA:AllK κ (arrOf st)){lo n ok:Nat}(hok:ok≤n)(hsz:lo+n≤(arrOf st).size)(hr:RunK κ (arrOf st) lo ok){Q:Bool→SortSt→Prop}
  (h:∀ st',SB st'→pendingOf st'=pendingOf st→Wr (arrOf st) (arrOf st') lo n→RunK κ (arrOf st') lo n→Q true st') :
  wpS (model prog w) A E s (binarySort' lo n ok) Q st:=by
 unfold binarySort'
 refine wpS_bind (wpS_mono (wpS_forRange (I:=fun k c st1=>c=(none,())∧SB st1∧pendingOf st1=pendingOf st∧Wr (arrOf st) (arrOf st1) lo n∧RunK κ (arrOf st1) lo (min k n))
  (Q:=fun c st1=>c=(none,())∧SB st1∧pendingOf st1=pendingOf st∧Wr (arrOf st) (arrOf st1) lo n∧RunK κ (arrOf st1) lo n) ?_ ?_ ?_) ?_)
 ·rintro k c st1 hk1 hk2 ⟨rfl,hb1,hp1,hw1,hr1⟩
  have sz:=hw1.size
  rw[show min k n=k by ac_rfl]at hr1
  refine wpS_bind (wpS_mono (wpS_forRange (I:=fun x c st2=>st2=st1∧∃ l r,c=(none,l,r)∧l≤r∧r≤k∧r-l≤k-x ∧
    (∀ i,i<l→κ.kle (KK κ (arrOf st1) (lo+i)) (KK κ (arrOf st1) (lo+k)))∧(∀ i,r≤i→i<k→κ.klt (KK κ (arrOf st1) (lo+k)) (KK κ (arrOf st1) (lo+i))))
   (Q:=fun c st2=>st2=st1∧∃ l r,c=(none,l,r)∧l≤k ∧
    (∀ i,i<l→κ.kle (KK κ (arrOf st1) (lo+i)) (KK κ (arrOf st1) (lo+k)))∧(∀ i,l≤i→i<k→κ.klt (KK κ (arrOf st1) (lo+k)) (KK κ (arrOf st1) (lo+i)))) ?_ ?_ ?_) ?_)
  ·rintro x c st2 _ hx ⟨rfl,l,r,rfl,a1,a2,a3,a4,a5⟩
   dsimp only
   refine wpS_if (fun hge=>?_) fun hge=>?_
   ·have:l=r:=by ac_rfl
    subst this
    exact wpS_pure ⟨rfl,l,l,rfl,a2,a4,a5⟩
   ·refine wpS_bind (wpS_ltI hO hb1 (hA.of hw1.perm) (by ac_rfl) (by ac_rfl) ?_)
    cases e:κ.blt (KK κ (arrOf st2) (lo+k)) (KK κ (arrOf st2) (lo+(l+r) / 2))with
    | true=>exact wpS_pure ⟨rfl,l,(l+r) / 2,rfl,by ac_rfl,by ac_rfl,by ac_rfl,a4,fun i h1 h2=>KeyOrd.klt_of_klt_of_kle e (hr1 _ _ (by ac_rfl) (by ac_rfl) (by ac_rfl))⟩
    | false=>exact wpS_pure ⟨rfl,(l+r) / 2+1,r,rfl,by ac_rfl,by ac_rfl,by ac_rfl,fun i h1=>KeyOrd.kle_trans (hr1 (lo+i) (lo+(l+r) / 2) (by ac_rfl) (by ac_rfl) (by ac_rfl)) e,a5⟩
  ·rintro c st2 ⟨rfl,l,r,rfl,a1,a2,a3,a4,a5⟩
   have:l=r:=by ac_rfl
   subst this
   exact⟨rfl,l,l,rfl,a2,a4,a5⟩
  ·exact⟨rfl,0,k,rfl,by ac_rfl,by ac_rfl,by ac_rfl,fun i hi=>by ac_rfl,fun i h1 h2=>by ac_rfl⟩
  ·rintro c st2 ⟨rfl,l,r,rfl,a2,a4,a5⟩
   dsimp only
   refine wpS_bind (wpS_move (κ:=κ) (lo:=lo) (n:=n) hb1 hp1 hw1 (by ac_rfl) (by ac_rfl) (by ac_rfl) (by ac_rfl) fun st3 hb3 hp3 hw3 hkk=>wpS_pure ⟨rfl,hb3,hp3,hw3,?_⟩)
   rw[show min (k+1) n=k+1 by ac_rfl]
   intro i j c1 c2 c3
   rw[hkk,hkk]
   repeat' split
   all_goals first
    | (exfalso; ac_rfl)
    | exact KeyOrd.kle_refl _
    | (have:=a4 (i-lo) (by ac_rfl); rw[show lo+(i-lo)=i by ac_rfl]at this; exact this)
    | (have:=a5 (j-1-lo) (by ac_rfl) (by ac_rfl); rw[show lo+(j-1-lo)=j-1 by ac_rfl]at this; exact KeyOrd.kle_of_klt this)
    | exact hr1 _ _ (by ac_rfl) (by ac_rfl) (by ac_rfl)
 ·rintro c st1 ⟨rfl,hb1,hp1,hw1,hr1⟩
  rw[show min (max (max ok 1) n) n=n by ac_rfl]at hr1
  exact⟨rfl,hb1,hp1,hw1,hr1⟩
 ·refine⟨rfl,hk,rfl,Wr.same,fun i j c1 c2 c3=>?_⟩
  by_cases h1:ok=0
  ·have:i=j:=by ac_rfl
   subst this; exact KeyOrd.kle_refl _
  ·exact hr i j c1 c2 (by ac_rfl)
 ·rintro c st1 ⟨rfl,hb1,hp1,hw1,hr1⟩
  exact wpS_pure (h st1 hb1 hp1 hw1 hr1)
end
end L2
namespace L2
open PySem PySem.Spec PyProof.Rows
theorem ite_add{c:Prop}[Decidable c]{a b n:Nat}(h1:a+1<n)(h2:b+1<n):(if c then a else b)+1<n:=by
 split <;> assumption
def Chn:Nat→List (Nat×Nat)→Nat→Prop
 | f,[],t=>f=t
 | f,(a,n)::l,t=>a=f∧0<n∧Chn (f+n) l t
theorem Chn.app:∀ {l1:List (Nat×Nat)} {f t:Nat} {l2:List (Nat×Nat)},Chn f (l1++l2) t↔∃ m,Chn f l1 m∧Chn m l2 t
 | [],f,t,l2=>by simp[Chn]
 | (a,n)::l1,f,t,l2=>by
  simp only[List.cons_append,Chn,Chn.app (l1:=l1)]
  constructor
  ·rintro⟨h1,h2,m,h3,h4⟩; exact⟨m,⟨h1,h2,h3⟩,h4⟩
  ·rintro⟨m,⟨h1,h2,h3⟩,h4⟩; exact⟨h1,h2,m,h3,h4⟩
theorem Chn.le:∀ {l:List (Nat×Nat)} {f t:Nat},Chn f l t→f+l.length≤t∧∀ e∈l,f≤e.1∧e.1+e.2≤t
 | [],f,t,h=>⟨by cases h; simp,by simp⟩
 | (a,n)::l,f,t,⟨h1,h2,h3⟩=>by
  obtain⟨i1,i2⟩:=Chn.le h3
  refine⟨by simp; ac_rfl,fun e he=>?_⟩
  rcases List.mem_cons.mp he with rfl | he
  ·subst h1; exact⟨Nat.le_refl _,by simp; ac_rfl⟩
  ·have:=i2 e he; exact⟨by ac_rfl,this.2⟩
def PL(pd:Array (Nat×Nat×Nat)):List (Nat×Nat):=pd.toList.map fun e=>(e.1,e.2.1)
structure PdI(κ:KeyKind)(arr:Array Keyed)(pd:Array (Nat×Nat×Nat))(lo:Nat):Prop where
 ch:Chn 0 (PL pd) lo
 run:∀ e∈PL pd,Run κ arr e.1 e.2
theorem PL_len(pd:Array (Nat×Nat×Nat)):(PL pd).length=pd.size:=by simp[PL]
theorem PL_push(pd:Array (Nat×Nat×Nat))(e:Nat×Nat×Nat):PL (pd.push e)=PL pd++[(e.1,e.2.1)]:=by simp[PL]
theorem PL_modify(pd:Array (Nat×Nat×Nat))(k pw:Nat):PL (pd.modify k fun x=>(x.1,x.2.1,pw))=PL pd:=by
 apply List.ext_getElem?
 intro i
 simp only[PL,List.getElem?_map,Array.getElem?_toList,Array.getElem?_modify]
 split
 ·cases pd[i]? <;> rfl
 ·rfl
theorem PL_split{pd:Array (Nat×Nat×Nat)}{i:Nat}(h:i+1<pd.size):∃ l1 l2 sa na pa sb nb pb,pd[i]?=some (sa,na,pa)∧pd[i+1]?=some (sb,nb,pb)∧PL pd=l1++(sa,na)::(sb,nb)::l2 ∧
  PL ((pd.setIfInBounds i (sa,na+nb,pa)).eraseIdxIfInBounds (i+1))=l1++(sa,na+nb)::l2:=by
 obtain⟨l⟩:=pd
 simp only[List.size_toArray]at h
 have e:l=l.take i++l[i]::l[i+1]::l.drop (i+2):=by
  rw[← List.drop_eq_getElem_cons,← List.drop_eq_getElem_cons,List.take_append_drop]
 obtain⟨l1,x,y,l2,hl,e2⟩:∃ l1 x y l2,l1.length=i∧l=l1++x::y::l2:=⟨l.take i,l[i],l[i+1],l.drop (i+2),by simp; ac_rfl,e⟩
 subst hl e2
 obtain⟨sa,na,pa⟩:=x
 obtain⟨sb,nb,pb⟩:=y
 refine⟨l1.map fun e=>(e.1,e.2.1),l2.map fun e=>(e.1,e.2.1),sa,na,pa,sb,nb,pb,by simp,by simp[List.getElem?_append_right],by simp[PL],?_⟩
 have e3:((l1++(sa,na,pa)::(sb,nb,pb)::l2).toArray.setIfInBounds l1.length (sa,na+nb,pa)).eraseIdxIfInBounds (l1.length+1)=(l1++(sa,na+nb,pa)::l2).toArray:=by
  rw[List.setIfInBounds_toArray,List.set_append_right _ _ (Nat.le_refl _),List.eraseIdxIfInBounds_toArray]
  congr 1
  rw[List.eraseIdx_append_of_length_le (by ac_rfl)]
  simp
 rw[e3]
 simp[PL]
section
variable{prog:Program}{w:World}{A:Around}{E:Value→Shared→Prop}{s:Shared}{κ:KeyKind}
theorem PdI.keep{a a':Array Keyed}{pd:Array (Nat×Nat×Nat)}{lo n:Nat}(h:PdI κ a pd lo)(w:Wr a a' lo n):PdI κ a' pd lo :=
 ⟨h.ch,fun e he=>(h.run e he).keep w (.inl (h.ch.le.2 e he).2)⟩
theorem wpS_mergeStep(hO:κ.OneLt){st:SortSt}(hk:SB st)(hA:AllK κ (arrOf st)){i lo:Nat}(hP:PdI κ (arrOf st) (pendingOf st) lo)(hlo:lo≤(arrOf st).size)(hi:i+1<(pendingOf st).size){Q:Bool→SortSt→Prop}
  (h:∀ st',SB st'→Wr (arrOf st) (arrOf st') 0 lo→PdI κ (arrOf st') (pendingOf st') lo→(pendingOf st').size+1=(pendingOf st).size→Q true st') :
  wpS (model prog w) A E s (mergeAt' i) Q st:=by
 obtain⟨l1,l2,sa,na,pa,sb,nb,pb,e1,e2,e3,e4⟩:=PL_split hi
 have hc:=hP.ch
 rw[e3]at hc
 obtain⟨m,c1,c2,c3,c4,c5,c6⟩:=Chn.app.mp hc
 subst c2 c4
 have b1:=c1.le
 have b2:=c6.le
 have r1:Run κ (arrOf st) sa na:=hP.run (sa,na) (by rw[e3]; simp)
 have r2:Run κ (arrOf st) (sa+na) nb:=hP.run (sa+na,nb) (by rw[e3]; simp)
 refine wpS_mergeAt hO hk hA e1 e2 c3 c5 (by ac_rfl) r1 r2 fun st' hk' hp' hw hr=>h st' hk' (hw.mono (by ac_rfl) (by ac_rfl)) ⟨?_,?_⟩ ?_
 ·rw[hp',e4]
  exact Chn.app.mpr ⟨sa,c1,rfl,by ac_rfl,by rw[← Nat.add_assoc]; exact c6⟩
 ·rw[hp',e4]
  intro e he
  rcases List.mem_append.mp he with he | he
  ·exact(hP.run e (by rw[e3]; exact List.mem_append_left _ he)).keep hw (.inl (b1.2 e he).2)
  ·rcases List.mem_cons.mp he with rfl | he
   ·exact hr
   ·exact(hP.run e (by rw[e3]; simp[he])).keep hw (.inr (by have:=(b2.2 e he).1; ac_rfl))
 ·have q1:=PL_len (pendingOf st')
  have q2:=PL_len (pendingOf st)
  rw[hp',e4]at q1
  rw[e3]at q2
  rw[hp',← q1,← q2]; simp; ac_rfl
theorem wpS_sortRuns2(hO:κ.OneLt){st:SortSt}(hk:SB st)(hA:AllK κ (arrOf st))(hp:pendingOf st = #[]){Q:Unit→SortSt→Prop}
  (h:∀ st',SB st'→(arrOf st').toList.Perm (arrOf st).toList→Run κ (arrOf st') 0 (arrOf st).size→Q () st') :
  wpS (model prog w) A E s sortRuns' Q st:=by
 unfold sortRuns'
 refine wpS_bind (wpS_get ?_)
 dsimp only
 obtain⟨size,hsize⟩:∃ size,size=(arrOf st).size:=⟨_,rfl⟩
 have hsize':((sortPriv% PySem.Builtin.SortState.a) st).size=size:=hsize.symm
 simp only[hsize']
 refine wpS_bind (wpS_mono (wpS_forRange (I:=fun x c st1=>∃ lo,c=(none,lo)∧x≤lo∧lo≤size∧SB st1∧(arrOf st1).toList.Perm (arrOf st).toList∧(arrOf st1).size=size∧PdI κ (arrOf st1) (pendingOf st1) lo)
  (Q:=fun c st1=>c=(none,size)∧SB st1∧(arrOf st1).toList.Perm (arrOf st).toList∧(arrOf st1).size=size∧PdI κ (arrOf st1) (pendingOf st1) size) ?_ ?_ ?_) ?_)
 rotate_left
 ·rintro c st1 ⟨lo,rfl,b1,b2,hk1,hp1,hs1,hP⟩
  have:lo=size:=by ac_rfl
  subst this
  exact⟨rfl,hk1,hp1,hs1,hP⟩
 ·exact⟨0,rfl,by ac_rfl,by ac_rfl,hk,List.Perm.refl _,hsize.symm,by rw[hp]; exact⟨rfl,by simp[PL]⟩⟩
 ·rintro c st1 ⟨rfl,hk1,hp1,hs1,hP⟩
  dsimp only
  refine wpS_bind (wpS_mono (wpS_forRange (I:=fun x c st2=>c=(none,())∧SB st2∧(arrOf st2).toList.Perm (arrOf st).toList∧(arrOf st2).size=size∧PdI κ (arrOf st2) (pendingOf st2) size∧(pendingOf st2).size+x≤size+1)
   (Q:=fun c st2=>c=(none,())∧SB st2∧(arrOf st2).toList.Perm (arrOf st).toList∧(arrOf st2).size=size∧PdI κ (arrOf st2) (pendingOf st2) size∧(pendingOf st2).size≤1) ?_ ?_ ?_) ?_)
  ·rintro x c st2 _ hx ⟨rfl,hk2,hp2,hs2,hP2,hb⟩
   refine wpS_bind (wpS_get ?_)
   refine wpS_if (fun e1=>wpS_pure ⟨rfl,hk2,hp2,hs2,hP2,e1⟩) fun e1=>?_
   have e1':1<(pendingOf st2).size:=Nat.lt_of_not_le e1
   refine wpS_bind (wpS_mergeStep hO hk2 (hA.of hp2) hP2 (by ac_rfl) ?_ fun st3 hk3 hw3 hP3 hq=>?_)
   ·exact ite_add (show(pendingOf st2).size-2-1+1<(pendingOf st2).size by ac_rfl) (show(pendingOf st2).size-2+1<(pendingOf st2).size by ac_rfl)
   ·exact wpS_pure ⟨rfl,hk3,hw3.perm.trans hp2,hw3.size.trans hs2,hP3,by ac_rfl⟩
  ·rintro c st2 ⟨rfl,hk2,hp2,hs2,hP2,hb⟩
   exact⟨rfl,hk2,hp2,hs2,hP2,by ac_rfl⟩
  ·have:=hP.ch.le.1
   rw[PL_len]at this
   exact⟨rfl,hk1,hp1,hs1,hP,by ac_rfl⟩
  ·rintro c st2 ⟨rfl,hk2,hp2,hs2,hP2,hb⟩
   refine wpS_pure (h st2 hk2 hp2 ?_)
   rw[← hsize]
   have hc:=hP2.ch
   have hr:=hP2.run
   have hl:=PL_len (pendingOf st2)
   match hq:PL (pendingOf st2),hc,hr,hl with
   | [],hc,hr,hl =>
    cases hc
    intro i j x y a1 a2 a3; ac_rfl
   | [(a,n)],hc,hr,hl =>
    obtain⟨d1,d2,d3⟩:=hc
    cases d1
    have d3':0+n=size:=d3
    have:=hr (0,n) (by simp)
    rw[show size=n by ac_rfl]; exact this
   | _::_::_,hc,hr,hl=>simp at hl; ac_rfl
 rintro x c st1 _ hx ⟨lo,rfl,b1,b2,hk1,hp1,hs1,hP⟩
 dsimp only
 refine wpS_if (fun e1=>?_) fun e1=>?_
 ·have:lo=size:=by ac_rfl
  subst this
  exact wpS_pure ⟨rfl,hk1,hp1,hs1,hP⟩
 refine wpS_bind (wpS_countRun2 hO hk1 (hA.of hp1) (by ac_rfl) (by ac_rfl) fun found st2 hk2 hq2 hw2 f1 f2 hr2=>?_)
 dsimp only
 refine wpS_if (fun e2=>?_) fun e2=>?_
 ·refine wpS_bind (wpS_lift (wpAny_rule ⟨rfl,?_⟩))
  refine wpS_bind (wpS_binarySort2 hO hk2 ((hA.of hp1).of hw2.perm) (by ac_rfl) (by rw[hw2.size]; ac_rfl) hr2 fun st3 hk3 hq3 hw3 hr3=>?_)
  rw[if_neg (by simp)]
  have hw:Wr (arrOf st1) (arrOf st3) lo (size-lo):=hw2.trans (hw3.mono (by ac_rfl) (by ac_rfl))
  have hqq:pendingOf st3=pendingOf st1:=hq3.trans hq2
  generalize hn:min (size-lo) _=n at *
  have n1:0<n:=by ac_rfl
  have n2:lo+n≤size:=by ac_rfl
  clear hk2 hw2 hr2 hq2 hw3 hq3
  have hP3:PdI κ (arrOf st3) (pendingOf st3) lo:=by rw[hqq]; exact hP.keep hw
  have hp3:(arrOf st3).toList.Perm (arrOf st).toList:=hw.perm.trans hp1
  have hs3:(arrOf st3).size=size:=hw.size.trans hs1
  have hR:Run κ (arrOf st3) lo n:=hr3.run
  clear hw hqq
  refine wpS_bind (wpS_get ?_)
  obtain⟨kd,arr,pd,mg,fl⟩:=st3
  dsimp only
  cases hbk:pd.back? with
  | none =>
   dsimp only
   refine wpS_bind (wpS_modify (wpS_pure ⟨lo+n,rfl,by ac_rfl,n2,⟨hk3.kind,hk3.failed⟩,hp3,hs3,?_⟩))
   refine⟨?_,?_⟩
   ·show Chn 0 (PL (pd.push (lo,n,0))) _
    rw[PL_push]; exact Chn.app.mpr ⟨lo,hP3.ch,rfl,n1,rfl⟩
   ·show ∀ e∈PL (pd.push (lo,n,0)),_
    rw[PL_push]
    intro e he
    rcases List.mem_append.mp he with he | he
    ·exact hP3.run e he
    ·rw[List.mem_singleton.mp he]; exact hR
  | some bk =>
   obtain⟨s1,m1,q1⟩:=bk
   dsimp only
   refine wpS_bind (wpS_mono (wpS_forRange (I:=fun x c st4=>c=(none,())∧SB st4∧(arrOf st4).toList.Perm (arrOf st).toList∧(arrOf st4).size=size∧PdI κ (arrOf st4) (pendingOf st4) lo∧Run κ (arrOf st4) lo n)
    (Q:=fun c st4=>c=(none,())∧SB st4∧(arrOf st4).toList.Perm (arrOf st).toList∧(arrOf st4).size=size∧PdI κ (arrOf st4) (pendingOf st4) lo∧Run κ (arrOf st4) lo n) ?_ (fun _ _ hh=>hh) ?_) ?_)
   ·rintro y c st4 _ hy ⟨rfl,hk4,hp4,hs4,hP4,hR4⟩
    refine wpS_bind (wpS_get ?_)
    have hdone:∀ {st5:SortSt},st5=st4→((none,()):Option Unit×Unit)=(none,())∧SB st5∧(arrOf st5).toList.Perm (arrOf st).toList∧(arrOf st5).size=size∧PdI κ (arrOf st5) (pendingOf st5) lo∧Run κ (arrOf st5) lo n:=fun e=>by
     subst e; exact⟨rfl,hk4,hp4,hs4,hP4,hR4⟩
    by_cases hg:1<(pendingOf st4).size
    ·obtain⟨kd4,arr4,pd4,mg4,fl4⟩:=st4
     have hg':pd4.size > 1:=hg
     dsimp only
     rw[if_pos hg',getElem?_pos pd4 (pd4.size-2) (by ac_rfl)]
     obtain⟨u1,u2,u3⟩:=pd4[pd4.size-2]
     dsimp only
     refine wpS_if (fun _=>wpS_pure (hdone rfl)) fun _=>?_
     refine wpS_bind (wpS_mergeStep hO hk4 (hA.of hp4) hP4 (by ac_rfl) (show pd4.size-2+1<pd4.size by ac_rfl) fun st5 hk5 hw5 hP5 _=>?_)
     exact wpS_pure ⟨rfl,hk5,hw5.perm.trans hp4,hw5.size.trans hs4,hP5,hR4.keep hw5 (.inr (by ac_rfl))⟩
    ·obtain⟨kd4,arr4,pd4,mg4,fl4⟩:=st4
     have hg':¬ pd4.size > 1:=hg
     dsimp only
     rw[if_neg hg']
     exact wpS_pure (hdone rfl)
   ·exact⟨rfl,hk3,hp3,hs3,hP3,hR⟩
   rintro c st4 ⟨rfl,hk4,hp4,hs4,hP4,hR4⟩
   obtain⟨kd4,arr4,pd4,mg4,fl4⟩:=st4
   dsimp only
   refine wpS_bind (wpS_modify (wpS_bind (wpS_modify (wpS_pure ⟨lo+n,rfl,by ac_rfl,n2,⟨hk4.kind,hk4.failed⟩,hp4,hs4,?_⟩))))
   refine⟨?_,?_⟩
   ·show Chn 0 (PL ((pd4.modify (pd4.size-1) fun x=>(x.1,x.2.1,_)).push (lo,n,0))) _
    rw[PL_push,PL_modify]; exact Chn.app.mpr ⟨lo,hP4.ch,rfl,n1,rfl⟩
   ·show ∀ e∈PL ((pd4.modify (pd4.size-1) fun x=>(x.1,x.2.1,_)).push (lo,n,0)),_
    rw[PL_push,PL_modify]
    intro e he
    rcases List.mem_append.mp he with he | he
    ·exact hP4.run e he
    ·rw[List.mem_singleton.mp he]; exact hR4
 ·have hk3:=hk2
  have hr3:=hr2
  have hw:Wr (arrOf st1) (arrOf st2) lo (size-lo):=hw2
  have hqq:pendingOf st2=pendingOf st1:=hq2
  have n1:0<found:=by ac_rfl
  have n2:lo+found≤size:=by ac_rfl
  have hP3:PdI κ (arrOf st2) (pendingOf st2) lo:=by rw[hqq]; exact hP.keep hw
  have hp3:(arrOf st2).toList.Perm (arrOf st).toList:=hw.perm.trans hp1
  have hs3:(arrOf st2).size=size:=hw.size.trans hs1
  have hR:Run κ (arrOf st2) lo found:=hr3.run
  clear hw hqq
  refine wpS_bind (wpS_get ?_)
  obtain⟨kd,arr,pd,mg,fl⟩:=st2
  dsimp only
  cases hbk:pd.back? with
  | none =>
   dsimp only
   refine wpS_bind (wpS_modify (wpS_pure ⟨lo+found,rfl,by ac_rfl,n2,⟨hk3.kind,hk3.failed⟩,hp3,hs3,?_⟩))
   refine⟨?_,?_⟩
   ·show Chn 0 (PL (pd.push (lo,found,0))) _
    rw[PL_push]; exact Chn.app.mpr ⟨lo,hP3.ch,rfl,n1,rfl⟩
   ·show ∀ e∈PL (pd.push (lo,found,0)),_
    rw[PL_push]
    intro e he
    rcases List.mem_append.mp he with he | he
    ·exact hP3.run e he
    ·rw[List.mem_singleton.mp he]; exact hR
  | some bk =>
   obtain⟨s1,m1,q1⟩:=bk
   dsimp only
   refine wpS_bind (wpS_mono (wpS_forRange (I:=fun x c st4=>c=(none,())∧SB st4∧(arrOf st4).toList.Perm (arrOf st).toList∧(arrOf st4).size=size∧PdI κ (arrOf st4) (pendingOf st4) lo∧Run κ (arrOf st4) lo found)
    (Q:=fun c st4=>c=(none,())∧SB st4∧(arrOf st4).toList.Perm (arrOf st).toList∧(arrOf st4).size=size∧PdI κ (arrOf st4) (pendingOf st4) lo∧Run κ (arrOf st4) lo found) ?_ (fun _ _ hh=>hh) ?_) ?_)
   ·rintro y c st4 _ hy ⟨rfl,hk4,hp4,hs4,hP4,hR4⟩
    refine wpS_bind (wpS_get ?_)
    have hdone:∀ {st5:SortSt},st5=st4→((none,()):Option Unit×Unit)=(none,())∧SB st5∧(arrOf st5).toList.Perm (arrOf st).toList∧(arrOf st5).size=size∧PdI κ (arrOf st5) (pendingOf st5) lo∧Run κ (arrOf st5) lo found:=fun e=>by
     subst e; exact⟨rfl,hk4,hp4,hs4,hP4,hR4⟩
    by_cases hg:1<(pendingOf st4).size
    ·obtain⟨kd4,arr4,pd4,mg4,fl4⟩:=st4
     have hg':pd4.size > 1:=hg
     dsimp only
     rw[if_pos hg',getElem?_pos pd4 (pd4.size-2) (by ac_rfl)]
     obtain⟨u1,u2,u3⟩:=pd4[pd4.size-2]
     dsimp only
     refine wpS_if (fun _=>wpS_pure (hdone rfl)) fun _=>?_
     refine wpS_bind (wpS_mergeStep hO hk4 (hA.of hp4) hP4 (by ac_rfl) (show pd4.size-2+1<pd4.size by ac_rfl) fun st5 hk5 hw5 hP5 _=>?_)
     exact wpS_pure ⟨rfl,hk5,hw5.perm.trans hp4,hw5.size.trans hs4,hP5,hR4.keep hw5 (.inr (by ac_rfl))⟩
    ·obtain⟨kd4,arr4,pd4,mg4,fl4⟩:=st4
     have hg':¬ pd4.size > 1:=hg
     dsimp only
     rw[if_neg hg']
     exact wpS_pure (hdone rfl)
   ·exact⟨rfl,hk3,hp3,hs3,hP3,hR⟩
   rintro c st4 ⟨rfl,hk4,hp4,hs4,hP4,hR4⟩
   obtain⟨kd4,arr4,pd4,mg4,fl4⟩:=st4
   dsimp only
   refine wpS_bind (wpS_modify (wpS_bind (wpS_modify (wpS_pure ⟨lo+found,rfl,by ac_rfl,n2,⟨hk4.kind,hk4.failed⟩,hp4,hs4,?_⟩))))
   refine⟨?_,?_⟩
   ·show Chn 0 (PL ((pd4.modify (pd4.size-1) fun x=>(x.1,x.2.1,_)).push (lo,found,0))) _
    rw[PL_push,PL_modify]; exact Chn.app.mpr ⟨lo,hP4.ch,rfl,n1,rfl⟩
   ·show ∀ e∈PL ((pd4.modify (pd4.size-1) fun x=>(x.1,x.2.1,_)).push (lo,found,0)),_
    rw[PL_push,PL_modify]
    intro e he
    rcases List.mem_append.mp he with he | he
    ·exact hP4.run e he
    ·rw[List.mem_singleton.mp he]; exact hR4
end
end L2
namespace L2
open PySem PySem.Spec PyProof.Rows
theorem smallM{n:Nat}(h:n≤1000000):n<sizeLine:=Nat.lt_of_le_of_lt h (by decide)
theorem Run.sortedTo{κ:KeyKind}{a:Array Keyed}{n:Nat}(h:Run κ a 0 n)(hn:n≤a.size):SortedToK κ a n:=by
 intro i j hij hj
 have:=h i j _ _ (Nat.zero_le _) hij (by ac_rfl) (getElem?_pos a i (by ac_rfl)) (getElem?_pos a j (by ac_rfl))
 rw[KK_at (show i<a.size by ac_rfl),KK_at (show j<a.size by ac_rfl)]
 exact this
theorem KeysOf.all{κ:KeyKind}{a:Array Keyed}(h:KeysOf κ a):AllK κ a:=fun i hi=>h _ (by simp)
section
variable{P:Program}{w:World}{A:Around}{E:Value→Shared→Prop}{s:Shared}
theorem list_sort2{κ:KeyKind}(hO:κ.OneLt){a:Addr}{vs:List Value}{n:Nat}{F:Fin→Shared→Prop}(ho:s.heap.get? a=some (seqObj "list" vs.toArray n))
  (h0:KeysOf κ (pairsOf vs)) (hkk:∀ v₁ v₂ rest,vs=v₁::v₂::rest→keyKind' (v₁::v₂::rest).toArray=pure oneType') (hz:vs.length≤1000000)
  (h:∀ st':SortSt,(arrOf st').Perm (pairsOf vs)→SortedToK κ (arrOf st') (pairsOf vs).size→F (.done (.ret .none)) { s with heap:=sortedHeap s.heap a vs ((arrOf st').map (·.2)) }) :
  wpAny (model P w) A (Builtin.«list.sort» ⟨[.ref a],[]⟩) F E s:=by
 by_cases h64:vs.length<64
 ·exact list_sort_treeK hO ho h0 hkk h64 h
 obtain⟨v₁,v₂,rest,rfl⟩:∃ v₁ v₂ rest,vs=v₁::v₂::rest:=by
  match vs,h64 with
  | [],h64=>simp at h64
  | [_],h64=>simp at h64
  | v₁::v₂::rest,_=>exact⟨v₁,v₂,rest,rfl⟩
 rw[list_sort_plain]
 have ha:a<s.heap.objs.size:=Heap.lt_size ho
 have hl:(v₁::v₂::rest).length≤sizeLine:=Nat.le_of_lt (smallM hz)
 refine wpAny_bind (listItems_at ho rfl ?_)
 refine wpAny_bind (listUpdate_at ho rfl ?_)
 obtain⟨e1,ho1⟩:∃ e1,(s.heap.update a (Obj.mapSeq fun _=>#[])).get? a=some (seqObj "list" #[] e1):=⟨_,get?_update_seq ho (fun _=>#[])⟩
 refine wpAny_bind (seqEpoch_at ho1 rfl ?_)
 refine wpAny_bind (wpAny_newTuple ?_ (hsz:=by rw[List.toList_toArray]; exact hl))
 refine wpAny_bind (wpAny_newList ?_)
 refine wpAny_holding ?_
 have ho6:(((s.heap.update a (Obj.mapSeq fun _=>#[])).push (seqObj "tuple" (v₁::v₂::rest).toArray 0)).push (seqObj "list" #[] 0)).get? a=some (seqObj "list" #[] e1):=by
  rw[Heap.get?_push_ne _ _ _ (by rw[size_push',Heap.size_update]; exact Nat.ne_of_lt (Nat.lt_succ_of_lt ha)),Heap.get?_push_ne _ _ _ (by rw[Heap.size_update]; exact Nat.ne_of_lt ha)]
  exact ho1
 show wpAny (model P w) A _ F E { s with heap:=((s.heap.update a (Obj.mapSeq fun _=>#[])).push (seqObj "tuple" (v₁::v₂::rest).toArray 0)).push (seqObj "list" #[] 0) }
 dsimp only
 have h2:¬ (v₁::v₂::rest).toArray.size<2:=by simp
 rw[if_neg h2,if_neg h2,hkk _ _ _ rfl]
 refine wpAny_bind (wpAny_pure ?_)
 refine wpAny_bind (wpAny_mono (wpS_sortRuns2 (κ:=κ) hO (st:=SortSt.mk' oneType' ((v₁::v₂::rest).toArray.zip (v₁::v₂::rest).toArray) #[] 7 none)
  (Q:=fun _ st'=>SB st'∧(arrOf st').toList.Perm (pairsOf (v₁::v₂::rest)).toList∧Run κ (arrOf st') 0 (pairsOf (v₁::v₂::rest)).size)
  ⟨rfl,rfl⟩ (KeysOf.all h0) rfl fun st' a1 a2 a3=>⟨a1,a2,a3⟩) ?_ fun _ _ e=>e)
 rintro⟨⟨⟩,st'⟩ s' ⟨rfl,hb,hp,hs⟩
 have hp':(arrOf st').Perm (pairsOf (v₁::v₂::rest)):=Array.perm_iff_toList_perm.mpr hp
 dsimp only
 refine wpAny_bind (seqEpoch_at ho6 rfl ?_)
 refine wpAny_bind (listUpdate_at ho6 rfl ?_ (hsz2:=by refine Nat.le_trans (Nat.le_of_eq ((Array.size_map ..).trans (hp'.size_eq.trans (pairsOf_size _)))) (Nat.le_succ_of_le hl)))
 rw[show failedOf st'=none from hb.failed]
 simp only[bne_self_eq_false,Bool.false_eq_true,if_false]
 exact wpAny_pure (h st' hp' (hs.sortedTo (by rw[hp'.size_eq]; exact Nat.le_refl _)))
end
section
variable{P:Program}{w:World}{A:Around}{E:Value→Shared→Prop}{s:Shared}
theorem sorted_gen2{v:Value}{Q:Value→Shared→Prop}
  (hc:wpAny (model P w) A.in1 (collect v) (fun vs s1=>∃ ss:List Str,StrsAre vs ss∧vs.length≤1000000∧∀ (h':Heap) (out:Array Value) (ss':List Str) (e:Nat),(∀ b o,s1.heap.get? b=some o→h'.get? b=some o) →
   h'.get? s1.heap.objs.size=some (seqObj "list" out e)→StrsAre out.toList ss'→ss'.Perm ss→sortedS ss'=true→Q (.ref s1.heap.objs.size) { s1 with heap:=h' }) E s) :
  wpAny (model P w) A (call (.builtin "sorted") [v]) Q E s:=by
 refine Calls.call_function_entry kind_sorted plain_sorted entry_sorted (args_sorted1 _) ?_
 unfold Builtin.«sorted»
 refine wpAny_bind (m:=checkCount "sorted" 1 1 _) (wpAny_pure ?_)
 refine wpAny_bind (thn hc fun vs s1 ⟨ss,hS,h64,fin⟩=>?_)
 refine wpAny_bind (wpAny_newList ?_)
 have hoL:(s1.heap.push (seqObj "list" vs.toArray 0)).get? s1.heap.objs.size=some (seqObj "list" vs.toArray 0):=Heap.get?_push_size _ rfl
 refine wpAny_bind (wpAny_holding (wpAny_call_entry slot_list_sort ⟨_,hoL,rfl⟩ entry_list_sort (list_sort2 strKind_oneLt hoL hS.keysOf (fun a b c e=>keyKind_strs (by rw[← e]; exact hS)) h64 fun st' hp hs=>⟨_,rfl,?_⟩) (args_list_sort _)))
 obtain⟨ss',a1,a2,a3⟩:=sorted_out_str hS hp hs
 obtain⟨e,he⟩:=sortedHeap_at (out:=(arrOf st').map (·.2)) hoL
 refine wpAny_pure ⟨_,rfl,fin _ _ ss' e (fun b o hb=>?_) he a1 a2 a3⟩
 have hlt:b<s1.heap.objs.size:=Heap.lt_size hb
 rw[sortedHeap_old (Nat.ne_of_lt hlt) (by rw[size_push']; exact Nat.lt_succ_of_lt hlt)]
 exact Heap.get?_push_of_some _ hb
end
section
variable{X:Cx}
theorem Inv.sorted2{pins:List (Addr×Obj)}{σ:St}{H:Hp}{s1:Shared}{ls:List Tx}{ss ss':List Str}{h':Heap}{out:Array Value}{e:Nat}(I:Inv X pins σ H s1)(hl:ss=ls.map tS)(h64:ls.length≤1000000)
  (k:∀ b o,s1.heap.get? b=some o→h'.get? b=some o) (ho:h'.get? s1.heap.objs.size=some (seqObj "list" out e)) (a1:StrsAre out.toList ss') (a2:ss'.Perm ss) (a3:sortedS ss'=true) :
  Inv X pins σ (upd H s1.heap.objs.size (.lst (tVs (sortT ls)))) { s1 with heap:=h' }:=by
 have e1:ss'.map (fun z=>z.cps.toList)=sortT ls:=by
  refine eq_sortT ?_ (sortedS_T a3)
  have:=a2.map fun z=>z.cps.toList
  rw[hl,List.map_map]at this
  have e2:(ls.map ((fun z:Str=>z.cps.toList) ∘ tS))=ls:=by
   simp[Function.comp_def,tS_cps]
  rw[e2]at this
  exact this
 have hv:Vals (tVs (sortT ls)) out.toList:=by rw[← e1]; exact strs_vals a1
 refine I.laid (t':=s1.toks) k (Nat.le_refl _) ⟨?_,out.toList,e,hv,?_⟩
 ·rw[tVs_len,sortT_len]
  exact Nat.le_of_lt (smallM (by ac_rfl))
 ·rw[Array.toArray_toList]; exact ho
theorem call_sortedQ2:CallR X (.builtin "sorted") (fun xs H Q=>∃ (p:Addr) (ls:List Tx),xs=[.ref p]∧(SqL X.K H p (tVs ls)∨SqT X.K H p (tVs ls))∧ls.length≤1000000∧∀ l,H l=none→Q (.ref l) (upd H l (.lst (tVs (sortT ls))))):=by
 intro pins s σ H xs us Q I r h
 obtain⟨p,ls,rfl,hq,h64,q⟩:=h
 obtain⟨u,rfl,ru⟩:=vals1 r
 cases ru
 have core:∀ (T:String) (o:Obj) (its:List Value) (n:Nat),(T = "list"∨T = "tuple")→s.heap.get? p=some o→o.cls = .type T→o.data = .seq its.toArray n→Vals (tVs ls) its →
   wpAny (model X.prog X.w) X.A (call (.builtin "sorted") [Value.ref p]) (EP X pins σ Q) X.xe s:=fun T o its n hT ho hc hd rv=>by
  have hl:=rv.length
  rw[tVs_len]at hl
  have h1000:=smallM (n:=its.length) (by ac_rfl)
  refine sorted_gen2 (wpAny_collect_seq p hT ho hc hd (fun h1 k1=>?_) (by rw[List.size_toArray]; ac_rfl))
  have I1:=I.kept (t':=s.toks) k1
  refine⟨_,vals_strs rv,by rw[List.toList_toArray]; ac_rfl,fun h' out ss' e k ho a1 a2 a3=>?_⟩
  exact⟨.ref _,_,Inv.sorted2 I1 rfl h64 k ho a1 a2 a3,rfl,q _ I1.fresh⟩
 rcases hq with hq | hq
 ·obtain⟨its,rv,pl,hz⟩:=I.list hq
  obtain⟨o,e,hc,n,hd⟩:=pl.isList
  exact core "list" o its n (.inl rfl) e hc hd rv
 ·obtain⟨its,rv,⟨o,e,hc,n,hd⟩,hz⟩:=I.tuple hq
  exact core "tuple" o its n (.inr rfl) e hc hd rv
end
end L2
namespace Pu
open PySem PySem.Spec PyProof.Rows L2
section
variable{X:Cx}{K:PySem.W.Frag}
def sortP2:List PV→Option PO
 | [.lst xs]=>(txs xs).bind fun ls=>if ls.length≤1000000 then some (.lst (txP (sortT ls)))else none
 | [.tup xs]=>(txs xs).bind fun ls=>if ls.length≤1000000 then some (.lst (txP (sortT ls)))else none
 | _=>none
theorem pln_sorted2:PLn K (fun xs H Q=>∃ (p:Addr) (ls:List Tx),xs=[.ref p]∧(SqL K H p (tVs ls)∨SqT K H p (tVs ls))∧ls.length≤1000000∧∀ l,H l=none→Q (.ref l) (upd H l (.lst (tVs (sortT ls))))) sortP2:=fun F H xs vs Q po hF rs e q=>by
 have fin:∀ {ys:List PV} {us:List V} {a:Addr},((txs ys).bind fun ls=>if ls.length≤1000000 then some (PO.lst (txP (sortT ls)))else none)=some po→Reps K H F ys us→(SqL K H a us∨SqT K H a us) →
   ∃ (p:Addr) (ls:List Tx),[V.ref a]=[.ref p]∧(SqL K H p (tVs ls)∨SqT K H p (tVs ls))∧ls.length≤1000000∧∀ l,H l=none→Q (.ref l) (upd H l (.lst (tVs (sortT ls)))):=fun {ys us a} e ra hs=>by
  cases q1:txs ys with
  | none=>rw[q1]at e; cases e
  | some ls =>
   rw[q1]at e
   simp only[Option.bind_some]at e
   split at e
   ·rename_i h64
    cases e
    rw[txs_eq q1]at ra
    obtain⟨rfl,hm⟩:=strs_rep.mp ra
    refine⟨a,ls,rfl,hs,h64,fun l hl=>q l F _ _ (Al.new0 hl) (own_new hl (strs_rep.mpr ⟨rfl,fun x hx=>hm x ((sortT_perm ls).mem_iff.mp hx)⟩)) (own_new_fr hl hF trivial)⟩
   ·cases e
 unfold sortP2 at e
 split at e
 ·obtain⟨v,rfl,a,us,rfl,ha,_,ra⟩:=reps1 rs
  exact fin e ra (.inl (.inl ha))
 ·obtain⟨v,rfl,a,us,rfl,ha,ra⟩:=reps1 rs
  exact fin e ra (.inr (SqT.of ha))
 ·cases e
end
end Pu
namespace L2
open PySem PySem.Spec PyProof.Rows
section
variable{P:Program}{w:World}{A:Around}{E:Value→Shared→Prop}{s:Shared}
theorem walks_none{I a:Addr}{es:Array (Int×Value)}{ep:Nat}{t:SetTable}(hne:a≠I)(hf:t.fits es.size=true)(hb:byTx w=false)(h1:es.size=0)(hh:A.handled=none) :
  Walks P w A I [I,a] [I] 0 (fun i v=>(es.toList.map (·.2))[i]?=some v) (fun i h=>h.get? I=some (siObj (rawInt 0) 0 a es.size ep)∧h.get? a=some (setObjT es ep t)):=by
 have he:es = #[]:=Array.eq_empty_of_size_eq_zero h1
 have body:∀ (s:Shared) (slot:Nat) (i:Nat) (Q:Option (Value×Nat)→Shared→Prop) (E:Value→Shared→Prop),s.heap.get? a=some (setObjT es ep t) →
   Q none s→wpAny (model P w) A.in1 (setNext a slot i ep) Q E s:=fun s slot i Q E ha hq=>by
  unfold setNext
  refine wpAny_bind (wpAny_setState_of ha rfl hf ?_)
  unfold setsByText
  refine wpAny_bind (wpAny_bind (wpAny_askSetting (wpAny_pure ?_)))
  show wpAny _ _ (if byTx w=true then _ else _) _ _ s
  rw[if_neg (by rw[hb]; decide)]
  refine wpAny_ite_split (fun hc=>absurd (show(!t.plain && decide (es.size > 1))=true from hc) (by rw[h1]; simp)) (fun _=>?_)
  refine wpAny_bind ?_
  refine wpAny_mono (Q:=fun _ s'=>s'=s) (E:=E) ?_ (fun _ s' hs'=>?_) (fun _ _ x=>x)
  ·refine wpAny_ite_split (fun hc=>absurd (show(!t.led && !es.isEmpty)=true from hc) (by rw[he]; simp)) (fun _=>wpAny_pure rfl)
  ·subst hs'
   rw[he]
   have e2:∀ k:Nat,(#[]:Array (Int×Value))[k]?=none:=fun k=>by simp
   dsimp only
   rw[e2]
   exact wpAny_pure hq
 refine⟨fun b hb=>by simp at hb; simp[hb],fun i h h' st k=>⟨k I (by simp) _ st.1,k a (by simp) _ st.2⟩,fun i s Q E hi st hQ=>absurd hi (Nat.not_lt_zero i),fun s Q E st hQ=>?_,fun i s Q E st hQ=>si_self st.1 hQ⟩
 refine next_open st.2 hf st.1 ?_
 show wpAny _ _ (setNext a (0:Int).toNat ((0:Nat):Int).toNat (ep:Int).toNat >>= _) _ _ s
 simp only[Int.toNat_natCast,Int.toNat_zero]
 refine wpAny_bind (body s 0 0 _ _ st.2 ?_)
 dsimp only
 refine wpAny_bind (si_set2 st.1 fun h1 sb1 _=>?_)
 exact stop_tail (s:={ s with heap:=h1 }) hh fun h2 k2=>hQ h2 s.toks fun b o hb e=>k2 b o ((sb1.2 b (by simpa using hb)).trans e)
theorem iter_setT2{a:Addr}{ks:List Str}{Q:Value→Shared→Prop}(S:SetS P w s.heap a ks)(h:∀ s' I fp n Pv St,SetWalk P w s s' a I ks fp n Pv St→Q (.ref I) s'):wpAny (model P w) A (pyIter (.ref a)) Q E s:=by
 obtain⟨es,ep,t,ss,ho,hS,hp,hel,hsz,hf,hled,hpl⟩:=S.ex
 have hT:s.TypeIs (.ref a) "set":=⟨_,ho,rfl⟩
 have ltA:=Heap.lt_size ho
 have ordP:∀ l:List (Int×Value),l.Perm es.toList→∃ ss',StrsAre (l.map (·.2)) ss'∧ss'.Perm ks:=fun l pl=>by
  obtain⟨ss',q1,q2⟩:=strs_perm (pl.map (fun e:Int×Value=>e.2)) hS
  exact⟨ss',q1,q2.trans hp⟩
 refine wpAny_pyIter_slot hT F.slot_set_iter (wpAny_call_entry F.slot_set_iter hT entry_set_iterT ?_ (F.args_set_iter_1 _))
 unfold Builtin.«frozenset.__iter__» Builtin.Frozenset.slot0 slotArgs Builtin.Frozenset.addrOf Builtin.Frozenset.sizeOf
 refine wpAny_bind (wpAny_pure ?_)
 refine wpAny_bind (wpAny_bind (wpAny_setEntries_of ho rfl hf (wpAny_pure ?_)))
 unfold setDrawn
 refine wpAny_bind (wpAny_bind (wpAny_setState_of ho rfl hf ?_))
 unfold setsByText
 refine wpAny_bind (wpAny_bind (wpAny_askSetting (wpAny_pure ?_)))
 refine wpAny_pure ?_
 have fin:∀ (first:Value) (s1:Shared) (fp:List Addr) (n:Nat) (Pv:Nat→Value→Prop) (St:Nat→Heap→Prop),s1.heap.get? a=some { cls:=.type "set",dict:=none,data:=.set es ep t } →
   SetWalk P w s { s1 with heap:=s1.heap.push (siObj first 0 a es.size ep) } a s1.heap.objs.size ks fp n Pv St →
   wpAny (model P w) A.in1 (do
    let e ← setEpoch a
    let f ← newFields "set_iterator" [first,rawInt 0,Value.ref a,rawInt (es.size:Nat),rawInt (e:Nat)]
    ret f) (fun fin s'=>∃ v,fin=Fin.done (Flow.ret v)∧∃ T' r,s'.TypeIs v T'∧typeLookup (Value.type T') (Str.ofString "__next__")=pure (some r)∧Q v s') E s1:=fun first s1 fp n Pv St ha W=>by
  refine wpAny_bind (wpAny_setEpoch_of ha rfl hf ?_)
  refine wpAny_bind (wpAny_newObj_type ?_)
  exact wpAny_pure ⟨_,rfl,"set_iterator",_,⟨_,Heap.get?_push_size _ rfl,rfl⟩,slot_si_next.lookup,h _ _ fp n Pv St W⟩
 refine wpAny_ite_split (fun hc=>?_) (fun hc=>?_)
 ·have hc':(!byTx w && (!t.plain && decide (es.size > 1)))=true:=hc
  refine wpAny_bind (drawT es.size (List.range es.size) s _ (by simp) fun ys d hy=>?_)
  refine wpAny_bind (wpAny_newTuple ?_ (hsz:=by rw[List.length_map,hy.length_eq,List.length_range]; exact Nat.le_of_lt (small4096 (by ac_rfl))))
  refine fin _ _ _ _ _ _ (Heap.get?_push_of_some _ ho) ⟨fun A' hA=>walks_drawn (T:=s.heap.objs.size) (Nat.ne_of_lt (by rw[size_push']; exact Nat.lt_succ_of_lt ltA)) (Nat.ne_of_lt (by rw[size_push']; exact Nat.lt_succ_self _)) hf hy hA,⟨Heap.get?_push_size _ rfl,?_,?_⟩,?_,?_,?_,rfl,?_,hsz,?_⟩
  ·exact Heap.get?_push_of_some _ (Heap.get?_push_of_some _ ho)
  ·exact Heap.get?_push_of_some _ (Heap.get?_push_size _ rfl)
  ·exact fun b o e=>Heap.get?_push_of_some _ (Heap.get?_push_of_some _ e)
  ·rw[size_push']; exact Nat.le_succ _
  ·intro b hb
   simp only[List.mem_cons,List.not_mem_nil,or_false]at hb
   rw[size_push',size_push']
   rcases hb with rfl | rfl | rfl
   ·rw[size_push']; exact Nat.lt_succ_self _
   ·exact Nat.lt_succ_of_lt (Nat.lt_succ_of_lt ltA)
   ·exact Nat.lt_succ_of_lt (Nat.lt_succ_self _)
  ·intro acc hacc
   have e0:(ys.filterMap fun j=>(es[j]?).map (·.2))=(ys.filterMap fun j=>es[j]?).map (·.2):=by
    rw[List.map_filterMap]
   have pl:(ys.filterMap fun j=>es[j]?).Perm es.toList:=by
    have:=hy.filterMap fun j=>es[j]?
    rwa[filterMap_getElem?_range]at this
   rw[e0]at hacc
   rw[items_eq (by rw[List.length_map,pl.length_eq]; simp) hacc]
   exact ordP _ pl
  ·intro b hb
   simp only[List.mem_cons,List.not_mem_nil,or_false]at hb
   rcases hb with rfl | rfl | rfl
   ·rw[size_push']; exact .inr (Nat.le_succ _)
   ·exact .inl rfl
   ·exact .inr (Nat.le_refl _)
 ·have hc':¬ (!byTx w && (!t.plain && decide (es.size > 1)))=true:=hc
  refine wpAny_bind (wpAny_pure ?_)
  cases hb:byTx w with
  | true =>
   refine fin _ _ _ _ _ _ ho ⟨fun A' hA=>walks_byText (Nat.ne_of_lt ltA) hf hb hA,⟨Heap.get?_push_size _ rfl,Heap.get?_push_of_some _ ho⟩,fun b o e=>Heap.get?_push_of_some _ e,Nat.le_refl _,?_,rfl,?_,hsz,fun b hb=>?_⟩
   ·intro b hb
    simp only[List.mem_cons,List.not_mem_nil,or_false]at hb
    rw[size_push']
    rcases hb with rfl | rfl
    ·exact Nat.lt_succ_self _
    ·exact Nat.lt_succ_of_lt ltA
   ·intro acc hacc
    have pl:=pick_perm (w.params.setOrder a ep) es
    rw[items_eq (by rw[List.length_map,pl.length_eq]; simp) hacc]
    exact ordP _ pl
   ·simp only[List.mem_cons,List.not_mem_nil,or_false]at hb
    exact hb.elim (fun z=>.inr (Nat.le_of_eq z.symm)) .inl
  | false =>
   have h01:es.size=1∨es.size=0:=by
    by_cases hk:ks=[]
    ·right
     have e1:=hp.length_eq
     have e2:ss.length=es.size:=by rw[← hS.strs]; simp
     rw[hk,List.length_nil]at e1
     ac_rfl
    ·rw[hb,hpl hk]at hc'
     simp at hc'
     ac_rfl
   rcases h01 with h1 | h1
   ·refine fin _ _ _ _ _ _ ho ⟨fun A' hA=>walks_one (Nat.ne_of_lt ltA) hf hb (by rw[hled,hb]; rfl) h1 hA,⟨Heap.get?_push_size _ rfl,Heap.get?_push_of_some _ ho⟩,fun b o e=>Heap.get?_push_of_some _ e,Nat.le_refl _,?_,rfl,?_,by decide,fun b hb=>?_⟩
    ·intro b hb
     simp only[List.mem_cons,List.not_mem_nil,or_false]at hb
     rw[size_push']
     rcases hb with rfl | rfl
     ·exact Nat.lt_succ_self _
     ·exact Nat.lt_succ_of_lt ltA
    ·intro acc hacc
     rw[items_eq (by simp[h1]) hacc]
     exact ordP _ (List.Perm.refl _)
    ·simp only[List.mem_cons,List.not_mem_nil,or_false]at hb
     exact hb.elim (fun z=>.inr (Nat.le_of_eq z.symm)) .inl
   ·refine fin _ _ _ _ _ _ ho ⟨fun A' hA=>walks_none (Nat.ne_of_lt ltA) hf hb h1 hA,⟨Heap.get?_push_size _ rfl,Heap.get?_push_of_some _ ho⟩,fun b o e=>Heap.get?_push_of_some _ e,Nat.le_refl _,?_,rfl,?_,by decide,fun b hb=>?_⟩
    ·intro b hb
     simp only[List.mem_cons,List.not_mem_nil,or_false]at hb
     rw[size_push']
     rcases hb with rfl | rfl
     ·exact Nat.lt_succ_self _
     ·exact Nat.lt_succ_of_lt ltA
    ·intro acc hacc
     rw[items_eq (by simp[h1]) hacc]
     exact ordP _ (List.Perm.refl _)
    ·simp only[List.mem_cons,List.not_mem_nil,or_false]at hb
     exact hb.elim (fun z=>.inr (Nat.le_of_eq z.symm)) .inl
theorem collect_setT2{a:Addr}{ks:List Str}{Q:List Value→Shared→Prop}(hh:A.handled=none)(S:SetS P w s.heap a ks)
  (h:∀ (s':Shared) (vs:List Value) (ss:List Str),StrsAre vs ss→ss.Perm ks→vs.length<4090→(∀ b o,s.heap.get? b=some o→s'.heap.get? b=some o)→s'.gens=s.gens→s'.os=s.os→Q vs s'):wpAny (model P w) A (collect (.ref a)) Q E s:=by
 obtain⟨es,ep,t,_,ho,_⟩:=S.ex
 have ltA:=Heap.lt_size ho
 unfold collect
 refine wpAny_bind (wpAny_runValue (codeAny_builtin F.entry_proto_collect ?_))
 rw[Around.under_plainId F.plain_proto_collect _]
 show wpAny _ A.in1 (newList [] >>= fun l=>again (.builtin "list.__iadd__" ⟨[l,.ref a],[]⟩)) _ _ s
 refine wpAny_bind (wpAny_newObj_type ?_)
 refine wpAny_pure ⟨plainId_quiet F.plain_list_iadd _,codeAny_builtin F.entry_list_iadd ?_⟩
 rw[Around.under_plainId F.plain_list_iadd _]
 show wpAny _ A.in1 (Builtin.List.listExtendWith (.ref s.heap.objs.size) (.ref a) (.ref s.heap.objs.size)) _ _ _
 unfold Builtin.List.listExtendWith
 have hT:∀ s1:Shared,s1.heap.get? a=some { cls:=.type "set",dict:=none,data:=.set es ep t }→s1.TypeIs (.ref a) "set":=fun s1 e=>⟨_,e,rfl⟩
 have ho1:(s.heap.push { cls:=.type "list",data:=.seq ([]:List Value).toArray }).get? a=some { cls:=.type "set",dict:=none,data:=.set es ep t }:=Heap.get?_push_of_some _ ho
 refine wpAny_bind (wpAny_typeOf (hT _ ho1) ?_)
 have h1:Builtin.List.listSameRef (.ref s.heap.objs.size) (.ref a)=false:=by
  have:¬ (s.heap.objs.size=a):=Nat.ne_of_gt ltA
  simp[Builtin.List.listSameRef,this]
 rw[if_neg (by rw[h1]; decide)]
 refine wpAny_bind (iter_setT2 (S.at fun o e=>Heap.get?_push_of_some _ e) fun s2 I fp n Pv St W=>?_)
 have ho2:=W.old a _ ho1
 refine wpAny_bind (wpAny_holding ?_)
 unfold Builtin.List.listLengthHint
 refine wpAny_bind (wpAny_specialOf (hT _ ho2) look_set_len ?_)
 wp_delta
 refine wpAny_bind (wpAny_isInstance (T:="set") (b:=true) (hT _ ho2) (by rw[isSubtype_type]; kernel_rfl) ?_)
 show wpAny _ A.in1 (typeOf (Value.ref a) >>= _) _ _ _
 refine wpAny_bind (wpAny_typeOf (T:="set") (hT _ ho2) ?_)
 refine wpAny_pure ?_
 rw[if_pos (by decide)]
 refine wpAny_bind (wpAny_rule ?_)
 have hL:(s.heap.push { cls:=.type "list",data:=.seq ([]:List Value).toArray }).get? s.heap.objs.size=some { cls:=.type "list",data:=.seq ([]:List Value).toArray }:=Heap.get?_push_size _ rfl
 have hL2:=W.old _ _ hL
 unfold Builtin.List.listTouch
 refine wpAny_bind (wpAny_bind (listUpdate_at hL2 rfl ?_ (by decide) (by show 1≤sizeLine+1; decide)))
 have hL3:=get?_update_seq hL2 (fun a:Array Value=>a.push Value.none)
 refine listUpdate_at hL3 rfl ?_ (by show 1≤sizeLine; decide) (by show 0≤sizeLine+1; decide)
 have hL4:=get?_update_seq hL3 (fun a:Array Value=>a.pop)
 have hneL:s.heap.objs.size∉fp:=fun z=>by
  rcases W.fps _ z with q | q
  ·exact absurd ltA (by rw[← q]; exact Nat.lt_irrefl _)
  ·rw[size_push']at q
   exact absurd (Nat.lt_succ_self _) (Nat.not_lt.mpr q)
 have k4:∀ b o,b≠s.heap.objs.size→s2.heap.get? b=some o→(((s2.heap.update s.heap.objs.size (Obj.mapSeq fun a=>a.push Value.none)).update s.heap.objs.size (Obj.mapSeq fun a=>a.pop))).get? b=some o:=fun b o hb e=>by
  rw[Heap.get?_update_ne _ _ _ _ hb,Heap.get?_update_ne _ _ _ _ hb]; exact e
 have st4:St 0 (((s2.heap.update s.heap.objs.size (Obj.mapSeq fun a=>a.push Value.none)).update s.heap.objs.size (Obj.mapSeq fun a=>a.pop))):=(W.wk A.in1 hh).frame 0 _ _ W.st fun b hb o e=>k4 b o (fun z=>hneL (z ▸ hb)) e
 refine wpAny_pure ⟨plainId_quiet F.plain_extend_loop _,codeAny_extend_loopS (W.wk A.in1 hh).toS (Nat.le_of_lt (small4096 (by have:=W.len; ac_rfl))) _ hneL _ n 0 _ _ _ rfl (Nat.zero_le _) st4 hL4 (ItemsOf.nil _) fun s' acc' c' hm hS' hacc=>?_⟩
 show wpAny _ A (load s.heap.objs.size >>= _) _ _ s'
 refine wpAny_bind (wpAny_load hS' ?_)
 obtain⟨ss,q1,q2⟩:=W.ord acc' hacc
 refine wpAny_pure (h s' acc'.toList ss q1 q2 (by rw[Array.length_toList,hacc.1]; exact W.len) (fun b o e=>?_) ?_ ?_)
 ·have hlt:=Heap.lt_size e
  refine hm.heap b o (fun hb=>?_) (k4 b o (Nat.ne_of_lt hlt) (W.old b o (Heap.get?_push_of_some _ e)))
  rcases List.mem_cons.mp hb with z | z
  ·exact absurd hlt (by rw[z]; exact Nat.lt_irrefl _)
  ·rw[List.mem_singleton.mp z]at hlt
   have:=W.new
   rw[size_push']at this
   exact absurd hlt (Nat.not_lt.mpr (Nat.le_of_succ_le this))
 ·rw[hm.gens,W.rest]
 ·rw[hm.os,W.rest]
end
section
variable{X:Cx}
theorem call_sortedSet2(hc:X.calm=true):CallR X (.builtin "sorted") (fun xs H Q=>∃ (p:Addr) (ls:List Tx),xs=[.ref p]∧H p=some (setHO X p ls)∧ls.length<4000∧∀ l,H l=none→Q (.ref l) (upd H l (.lst (tVs (sortT ls))))):=by
 intro pins s σ H xs us Q I r h
 obtain⟨p,ls,rfl,hq,h64,q⟩:=h
 obtain⟨u,rfl,ru⟩:=vals1 r
 cases ru
 obtain⟨S,_,_⟩:=(show ObjOk X.prog X.w H s.heap p (setHO X p ls)from I.hok p _ hq)
 refine sorted_gen2 (collect_setT2 (in1_handled (I.ok.hd hc)) S fun s' vs ss a1 a2 a3 k eg eo=>?_)
 obtain⟨h',g',d',t',o'⟩:=s'
 obtain rfl:g'=s.gens:=eg
 obtain rfl:o'=s.os:=eo
 have I1:Inv X pins σ H { s with heap:=h',drawn:=d',toks:=t' }:=by
  have:=Inv.call (ch:=[]) I (g':=s.gens) (d':=d') (t':=t') (Un.kept (fs:=frs X.stack) (ex:=[]) k) (I.hok.kept k) I.bare (fun b hb=>absurd hb (by simp))
  exact this
 refine⟨ss,a1,by ac_rfl,fun h2 out ss' e k2 ho b1 b2 b3=>?_⟩
 exact⟨.ref _,_,Inv.sorted2 (s1:={ s with heap:=h',drawn:=d',toks:=t' }) (ss:=ls.map tS) I1 rfl (by ac_rfl) k2 ho b1 (b2.trans a2) b3,rfl,q _ I1.fresh⟩
end
end L2
namespace L2
open PySem PySem.Spec PyProof.Rows
theorem SetS.perm{P:Program}{w:World}{h:Heap}{a:Addr}{ks ls:List Str}(S:SetS P w h a ks)(p:ks.Perm ls):SetS P w h a ls:=by
 obtain⟨es,ep,t,ss,e,h1,h2,h3,h4,h5,h6,h7⟩:=S.ex
 exact⟨es,ep,t,ss,e,h1,h2.trans p,h3,h4,h5,h6,fun z=>h7 fun q=>z (by subst q; exact p.symm.eq_nil)⟩
section
variable{P:Program}{w:World}{A:Around}{E:Value→Shared→Prop}{s:Shared}
theorem strIs(x y:Str)(t':Tok):(PySem.strKind P w).is x (.str y t')=decide (y=x):=by
 show Value.isStrOf x (.str y t')=_
 rw[Bool.eq_iff_iff]
 simp[Value.isStrOf]
 try exact eq_comm
theorem set_findT{a:Addr}{ks:List Str}{x:Str}{tk:Tok}{Q:Option Nat→Shared→Prop}(S:SetS P w s.heap a ks)(h:∀ r:Option Nat,r.isSome=decide (x∈ks)→Q r s) :
  wpAny (model P w) A (setFind a (.str x tk) ((PySem.strKind P w).hash x)) Q E s:=by
 obtain⟨es,ep,t,ss,ho,hS,hp,hel,hsz,hf,hled,hpl⟩:=S.ex
 have hkey:(PySem.strKind P w).is x (.str x tk)=true:=by rw[strIs]; simp
 have hb:es.size<scanBound:=Nat.lt_trans hsz (by decide)
 have memx:x∈ks↔∃ e∈es.toList,(PySem.strKind P w).is x e.2=true:=by
  rw[← hp.mem_iff,strs_mem hS x]
  constructor
  ·rintro⟨t',q⟩
   obtain⟨e,he,ee⟩:=List.mem_map.mp q
   exact⟨e,he,by rw[ee,strIs]; simp⟩
  ·rintro⟨e,he,q⟩
   obtain⟨y,t',ey⟩:=hS.all e.2 (List.mem_map.mpr ⟨e,he,rfl⟩)
   rw[ey,strIs]at q
   have:y=x:=of_decide_eq_true q
   subst this
   exact⟨t',List.mem_map.mpr ⟨e,he,ey⟩⟩
 unfold setFind setFindIn
 refine wpAny_bind (wpAny_setState_of ho rfl hf ?_)
 dsimp only
 rw[byScan_of (knd:=PySem.strKind P w) (x:=.str x tk) rfl hb hel]
 simp only[if_true]
 refine wpAny_bind (wpAny_rule (wpAny_bind (wpAny_setScan_of hkey ho rfl hf hel ?_)))
 cases hr:List.findIdx? (fun e=>(PySem.strKind P w).is x e.2) es.toList with
 | some j =>
  obtain⟨hj,hpj,_⟩:=List.findIdx?_eq_some_iff_getElem.mp hr
  exact wpAny_pure (h _ (by rw[decide_eq_true (memx.mpr ⟨_,List.getElem_mem hj,hpj⟩)]; rfl))
 | none =>
  refine wpAny_pure (h _ ?_)
  rw[decide_eq_false fun hm=>by
   obtain⟨e,he,q⟩:=memx.mp hm
   have:=List.findIdx?_eq_none_iff.mp hr e he
   rw[q]at this
   exact Bool.noConfusion this]
  rfl
structure WalkT(P:Program)(w:World)(ks:List Str)(arr:Array (Int×Value)):Prop where
 ex:∃ ss:List Str,arr.toList.map (fun e=>e.1)=ss.map (PySem.strKind P w).hash∧StrsAre (arr.toList.map (·.2)) ss∧ss.Perm ks
theorem elems_hash:∀ {l:List (Int×Value)} {ss:List Str},ElemsOf (PySem.strKind P w) l→StrsAre (l.map (·.2)) ss→l.map (fun e=>e.1)=ss.map (PySem.strKind P w).hash
 | [],[],_,_=>rfl
 | [],_::_,_,h=>by cases h
 | e::l,[],_,h=>absurd h.length (by simp)
 | e::l,x::ss,he,h=>by
  obtain⟨h1,v⟩:=e
  cases h with
  | cons _ t hr =>
   obtain⟨⟨k,q1,q2⟩,_⟩:=he.head
   rw[strIs]at q1
   have:x=k:=of_decide_eq_true q1
   subst this
   rw[List.map_cons,List.map_cons,elems_hash he.tail hr,q2]
theorem WalkT.of{es arr:Array (Int×Value)}{ss ks:List Str}(hS:StrsAre (es.toList.map (·.2)) ss)(hp:ss.Perm ks)(hel:ElemsOf (PySem.strKind P w) es.toList)(p:arr.toList.Perm es.toList):WalkT P w ks arr:=by
 obtain⟨ss',q1,q2⟩:=strs_perm (p.map (fun e:Int×Value=>e.2)) hS
 exact⟨ss',elems_hash (hel.perm p) q1,q1,q2.trans hp⟩
theorem set_walkT{a:Addr}{ks:List Str}{Q:Array (Int×Value)→Shared→Prop}(S:SetS P w s.heap a ks)(hq:byTx w=true∨(∃ es ep t,s.heap.get? a=some { cls:=.type "set",dict:=none,data:=.set es ep t }∧(t.plain=true∨es.size≤1)))
  (h:∀ arr,WalkT P w ks arr→Q arr s):wpAny (model P w) A (setWalk a) Q E s:=by
 obtain⟨es,ep,t,ss,ho,hS,hp,hel,hsz,hf,hled,hpl⟩:=S.ex
 unfold setWalk
 refine wpAny_bind (wpAny_setState_of ho rfl hf ?_)
 unfold setsByText
 dsimp only
 refine wpAny_bind (wpAny_bind (wpAny_askSetting (wpAny_pure ?_)))
 show wpAny _ _ (if byTx w=true then _ else _) _ _ s
 cases hb:byTx w with
 | true =>
  rw[if_pos rfl]
  refine wpAny_bind (wpAny_askSetting (wpAny_pure ?_))
  exact h _ (WalkT.of hS hp hel (pick_perm _ _))
 | false =>
  rw[if_neg (by decide)]
  have hq':t.plain=true∨es.size≤1:=by
   rcases hq with hq | ⟨es',ep',t',e',q⟩
   ·rw[hb]at hq; cases hq
   ·rw[ho]at e'; cases e'; exact q
  refine wpAny_ite_split (fun hc=>absurd (show(!t.plain && decide (es.size > 1))=true from hc) ?_) (fun _=>?_)
  ·rcases hq' with q | q
   ·rw[q]; simp
   ·rw[decide_eq_false (by ac_rfl)]; simp
  refine wpAny_bind ?_
  refine wpAny_mono (Q:=fun _ s'=>s'=s) (E:=E) ?_ (fun _ s' hs'=>?_) (fun _ _ x=>x)
  ·refine wpAny_ite_split (fun hc=>absurd (show(!t.led && decide (es.size > 1))=true from hc) (by rw[hled,hb]; simp)) (fun _=>wpAny_pure rfl)
  ·subst hs'
   exact wpAny_pure (h _ (WalkT.of hS hp hel (List.Perm.refl _)))
theorem quietT:∀ (sets:List Addr),(∀ b∈sets,∃ ls,SetS P w s.heap b ls)→∀ {Q:Bool→Shared→Prop},Q true s→wpAny (model P w) A (setsQuiet sets) Q E s:=by
 intro sets hs Q hq
 unfold setsQuiet
 refine wpAny_bind (wpAny_mono (wpAny_forIn_list _ (fun rest (c:Option Bool×Unit) s'=>s'=s∧c=(none,())∧∀ b∈rest,b∈sets) (fun c s'=>s'=s∧c=(none,())) ?_ (fun c s' h=>⟨h.1,h.2.1⟩) sets _ ⟨rfl,rfl,fun b hb=>hb⟩) (fun c s' hc=>?_) (fun _ _ x=>x))
 ·rintro b rest c s' ⟨rfl,rfl,hm⟩
  obtain⟨ls,S⟩:=hs b (hm b (by simp))
  obtain⟨es,ep,t,ss,ho,hS,hp,hel,hsz,hf,hled,hpl⟩:=S.ex
  refine wpAny_bind (wpAny_setEntries_of ho rfl hf ?_)
  refine wpAny_bind (wpAny_mono (wpAny_forIn_array' _ (fun rest (c:Option Bool×Unit) s''=>s''=s'∧c=(none,())∧∀ e∈rest,e∈es.toList) (fun c s''=>s''=s'∧c=(none,())) ?_ (fun c s'' h=>⟨h.1,h.2.1⟩) es _ ⟨rfl,rfl,fun e he=>he⟩) (fun c s'' hc=>?_) (fun _ _ x=>x))
  ·rintro e r2 c2 s2 ⟨rfl,rfl,hm2⟩
   obtain⟨y,t',ey⟩:=hS.all e.2 (List.mem_map.mpr ⟨e,hm2 e (by simp),rfl⟩)
   obtain⟨h1,v⟩:=e
   obtain rfl:v = .str y t':=ey
   exact wpAny_pure ⟨rfl,rfl,fun e he=>hm2 e (by simp[he])⟩
  ·obtain⟨rfl,rfl⟩:=hc
   exact wpAny_pure ⟨rfl,rfl,fun b hb=>hm b (by simp[hb])⟩
 ·obtain⟨rfl,rfl⟩:=hc
  exact wpAny_pure hq
theorem walk_unseenT{a r:Addr}{ks:List Str}{others:List Addr}{Q:Array (Int×Value)→Shared→Prop}(S:SetS P w s.heap a ks)(R:SetS P w s.heap r [])(oth:∀ b∈others,∃ ls,SetS P w s.heap b ls)
  (h:∀ h' arr,Heap.SameBut r s.heap h'→SetS P w h' r []→WalkT P w ks arr→Q arr { s with heap:=h' }):wpAny (model P w) A (setWalkUnseen a others (some r)) Q E s:=by
 obtain⟨es,ep,t,ss,ho,hS,hp,hel,hsz,hf,hled,hpl⟩:=id S.ex
 obtain⟨er,epr,tr,sr,hor,hSr,hpr,helr,hszr,hfr,hledr,hplr⟩:=id R.ex
 unfold setWalkUnseen
 refine wpAny_bind (wpAny_setState_of ho rfl hf ?_)
 unfold setsByText
 dsimp only
 refine wpAny_bind (wpAny_bind (wpAny_askSetting (wpAny_pure ?_)))
 have same:∀ arr,WalkT P w ks arr→Q arr s:=fun arr wk=>h s.heap arr (Heap.SameBut.refl r s.heap) R wk
 refine wpAny_ite_split (fun hc=>?_) (fun hc=>?_)
 ·have hc':(byTx w || (t.led && t.plain) || decide (es.size≤1))=true:=hc
  refine set_walkT S ?_ same
  simp only[Bool.or_eq_true,Bool.and_eq_true,decide_eq_true_eq]at hc'
  rcases hc' with(z | z) | z
  ·exact .inl z
  ·exact .inr ⟨es,ep,t,ho,.inl z.2⟩
  ·exact .inr ⟨es,ep,t,ho,.inr z⟩
 ·refine wpAny_bind (quietT (a::others) (fun b hb=>?_) ?_)
  ·rcases List.mem_cons.mp hb with rfl | hb
   ·exact⟨_,S⟩
   ·exact oth b hb
  refine wpAny_ite_split (fun hc=>absurd hc (by decide)) (fun _=>?_)
  refine wpAny_bind (wpAny_rule ?_)
  refine wpAny_bind (wpAny_setState_of hor rfl hfr ?_)
  dsimp only
  refine wpAny_ite_split (fun hc=>?_) (fun hc=>?_)
  ·have hl:(tr.led && t.led)=tr.led:=by rw[hledr,hled]; cases byTx w <;> rfl
   have hf2:({ tr with led:=tr.led && t.led,plain:=tr.plain && t.plain }:SetTable).fits er.size=true:=hfr
   refine wpAny_bind (wpAny_storeSet_of hor rfl ?_ (fits_of_scanBound (Nat.lt_trans hszr (by decide))))
   refine wpAny_pure (h _ _ (Heap.SameBut.update ..) ⟨er,epr+1,_,sr,SetS.put hor,hSr,hpr,helr,hszr,hf2,?_,fun z=>absurd rfl z⟩ (WalkT.of hS hp hel (List.Perm.refl _)))
   show(tr.led && t.led)=_
   rw[hl,hledr]
  ·refine wpAny_pure ?_
   exact same _ (WalkT.of hS hp hel (List.Perm.refl _))
end
end L2
namespace L2
open PySem PySem.Spec PyProof.Rows
section
variable{P:Program}{w:World}{A:Around}{E:Value→Shared→Prop}{s:Shared}
theorem SetS.ty{a:Addr}{ks:List Str}(S:SetS P w s.heap a ks):s.TypeIs (.ref a) "set":=by
 obtain⟨es,ep,t,ss,ho,_⟩:=S.ex
 exact⟨_,ho,rfl⟩
theorem anySetT{a:Addr}{ks:List Str}{Q:Bool→Shared→Prop}(S:SetS P w s.heap a ks)(h:Q true s):wpAny (model P w) A (Builtin.Frozenset.isAnySet (.ref a)) Q E s:=by
 unfold Builtin.Frozenset.isAnySet
 refine wpAny_bind (wpAny_isInstance S.ty sub_set_self ?_)
 exact wpAny_pure h
theorem sizeT{a:Addr}{ks:List Str}{Q:Nat→Shared→Prop}(S:SetS P w s.heap a ks)(h:Q ks.length s):wpAny (model P w) A (Builtin.Frozenset.sizeOf a) Q E s:=by
 obtain⟨es,ep,t,ss,ho,hS,hp,hel,hsz,hf,hled,hpl⟩:=S.ex
 have klen:ks.length=es.size:=by
  have e1:=hp.length_eq
  have e2:ss.length=es.size:=by rw[← hS.strs]; simp
  ac_rfl
 unfold Builtin.Frozenset.sizeOf
 refine wpAny_bind (wpAny_setEntries_of ho rfl hf (wpAny_pure ?_))
 rw[← klen]; exact h
theorem newSetT{Q:Value→Shared→Prop}(h:∀ h',SetS P w h' s.heap.objs.size []→(∀ b o,s.heap.get? b=some o→h'.get? b=some o)→h'.objs.size=s.heap.objs.size+1→Q (.ref s.heap.objs.size) { s with heap:=h' }) :
  wpAny (model P w) A (newSet (.type "set")) Q E s:=by
 unfold newSet setsByText
 refine wpAny_bind (wpAny_bind (wpAny_askSetting (wpAny_pure ?_)))
 dsimp only
 simp only[newObj]
 refine wpAny_bind (wpAny_alloc (wpAny_pure (h _ ⟨#[],0,_,[],Heap.get?_push_size _ rfl,.nil,List.Perm.refl _,fun e he=>by simp at he,by decide,rfl,rfl,fun h=>absurd rfl h⟩ (fun b o e=>Heap.get?_push_of_some _ e) (size_push' ..))))
end
section
variable{X:Cx}
theorem map_nodup{ls:List Tx}(h:ls.Nodup):(ls.map tS).Nodup:=by
 rw[List.Nodup,List.pairwise_map]
 exact h.imp fun ne e=>ne (tS_inj e)
end
end L2
namespace Pu
open PySem PySem.Spec PyProof.Rows L2
section
variable{X:Cx}{E:XK}{pin:List Nat}{e e2:Expr}{ds ds2:PEnv→R (List PV)}{pos p q pos' p4 q2 pos2:Pos}
theorem uniqT_nodupX(l:List Tx):(uniqT l).Nodup:=by
 unfold uniqT
 have:∀ (l acc:List Tx),acc.Nodup→(l.foldl (fun ks x=>if x∈ks then ks else ks++[x]) acc).Nodup:=by
  intro l
  induction l with
  | nil=>exact fun acc h=>h
  | cons x l ih =>
   intro acc h
   rw[List.foldl_cons]
   refine ih _ ?_
   split
   ·exact h
   ·rename_i hx
    rw[List.nodup_append]
    exact⟨h,by simp,fun y hy z hz e=>by simp at hz; subst hz; subst e; exact hx hy⟩
 exact this l [] List.nodup_nil
def lsT:List PV→Option (List Tx)
 | [.lst xs]=>(txs xs).bind fun ls=>if(uniqT ls).length<4000 then some (uniqT ls)else none
 | _=>none
theorem lsT_rep{H:Hp}{F:Addr→Prop}{xs:List PV}{vs:List V}{ls:List Tx}(rs:Reps X.K H F xs vs)(e:lsT xs=some ls) :
  ∃ (p:Addr) (zs:List Tx),vs=[.ref p]∧SqL X.K H p (tVs zs)∧(uniqT zs).length<4000∧ls=uniqT zs∧∀ x∈zs,x.length≤maxS:=by
 unfold lsT at e
 split at e
 ·obtain⟨v,rfl,a,us,rfl,ha,_,ru⟩:=reps1 rs
  obtain⟨zs,e1,e2⟩:=Option.bind_eq_some_iff.mp e
  rw[txs_eq e1]at ru
  obtain⟨rfl,hl⟩:=strs_rep.mp ru
  split at e2
  ·cases e2; exact⟨a,zs,rfl,.inl ha,by assumption,rfl,hl⟩
  ·cases e2
 ·cases e
end
end Pu
namespace Pu
open PySem PySem.Spec PyProof.Rows L2
theorem bt_max:bootBuiltins "max" = some (.builtin "max"):=by decide +kernel
end Pu
namespace Pu
open PySem PySem.Spec PyProof.Rows L2
section
variable{K:PySem.W.Frag}{H:Hp}{F:Addr→Prop}
theorem FReps.len{fs:List (Str×PV)}{ws:List (Str×V)}(h:FReps K H F fs ws):ws.length=fs.length:=by
 unfold FReps at h
 induction h with
 | nil=>rfl
 | cons _ _ ih=>simp[ih]
end
end Pu
namespace Mx
theorem five_pow(p:Nat):∃ o,5 ^ (2 ^ p)=1+2 ^ (p+2) * (2 * o+1):=by
 induction p with
 | zero=>exact⟨0,by decide⟩
 | succ p ih =>
  obtain⟨o,h⟩:=ih
  refine⟨o+2 ^ p * (2 * o+1) * (2 * o+1),?_⟩
  rw[show 2 ^ (p+1)=2 ^ p * 2 from Nat.pow_succ ..,Nat.pow_mul,h]
  rw[show(2:Nat) ^ (p+1+2)=8 * 2 ^ p from by rw[Nat.pow_add,Nat.pow_succ]; ac_rfl,show(2:Nat) ^ (p+2)=4 * 2 ^ p from by rw[Nat.pow_add]; ac_rfl]
  generalize 2 ^ p=q
  grind
def F5:Nat→Nat→Nat
 | 0,x=>x
 | n+1,x=>F5 n (5 * x+1)
theorem F5_add(m n x:Nat):F5 (m+n) x=F5 n (F5 m x):=by
 induction m generalizing x with
 | zero=>simp[F5]
 | succ m ih=>rw[Nat.add_right_comm]; exact ih _
theorem F5_closed(n x:Nat):4 * F5 n x+1=5 ^ n * (4 * x+1):=by
 induction n generalizing x with
 | zero=>simp[F5]
 | succ n ih=>show 4 * F5 n (5 * x+1)+1=_; rw[ih,Nat.pow_succ]; grind
theorem F5_jump(p x:Nat):∃ o,F5 (2 ^ p) x=x+2 ^ p * (2 * o+1):=by
 obtain⟨o,h⟩:=five_pow p
 have c:=F5_closed (2 ^ p) x
 rw[h,show(2:Nat) ^ (p+2)=4 * 2 ^ p from by rw[Nat.pow_add]; ac_rfl]at c
 refine⟨o * (4 * x+1)+2 * x,?_⟩
 generalize 2 ^ p=q at c
 generalize F5 q x=y at c
 grind
theorem F5_all(p:Nat):∀ x y,y<2 ^ p→∃ n,n<2 ^ p∧F5 n x % 2 ^ p=y:=by
 induction p with
 | zero=>intro x y h; exact⟨0,by decide,by simp at h; subst h; simp[Nat.mod_one]⟩
 | succ p ih =>
  intro x y hy
  obtain⟨n,hn,e⟩:=ih x (y % 2 ^ p) (Nat.mod_lt _ (Nat.two_pow_pos p))
  have hp:(2:Nat) ^ (p+1)=2 * 2 ^ p:=by rw[Nat.pow_succ]; ac_rfl
  obtain⟨o,j⟩:=F5_jump p (F5 n x)
  have pos:=Nat.two_pow_pos p
  by_cases q:F5 n x % 2 ^ (p+1)=y
  ·exact⟨n,by ac_rfl,q⟩
  ·refine⟨n+2 ^ p,by ac_rfl,?_⟩
   rw[F5_add,j]
   rw[hp]at q hy ⊢
   generalize 2 ^ p=N at *
   generalize F5 n x=z at *
   have h1:z % (2 * N) % N=z % N:=Nat.mod_mod_of_dvd _ ⟨2,by ac_rfl⟩
   have h2:(z+N * (2 * o+1)) % (2 * N)=(z+N) % (2 * N):=by
    rw[show z+N * (2 * o+1)=(z+N)+(2 * N) * o by grind,Nat.add_mul_mod_self_left]
   rw[h2]
   have hz:=Nat.mod_lt z (show 2 * N > 0 by ac_rfl)
   have h3:(z+N) % (2 * N)=(z % (2 * N)+N) % (2 * N):=by rw[Nat.add_mod]; simp[Nat.add_mod,Nat.mod_eq_of_lt (show N<2 * N by ac_rfl)]
   rw[h3]
   generalize z % (2 * N)=u at *
   rw[← h1]at e
   -- u,y<2N,u % N=y % N,u≠y
   have a1:=Nat.div_add_mod u N
   have a2:=Nat.div_add_mod y N
   have b1:u / N<2:=Nat.div_lt_of_lt_mul (by rw[Nat.mul_comm]; exact hz)
   have b2:y / N<2:=Nat.div_lt_of_lt_mul (by rw[Nat.mul_comm]; exact hy)
   rw[e]at a1
   generalize u / N=uq at a1 b1
   generalize y / N=yq at a2 b2
   have m1:=Nat.mod_lt y pos
   rcases(show uq=0∨uq=1 by ac_rfl)with c1 | c1 <;> rcases(show yq=0∨yq=1 by ac_rfl)with c2 | c2 <;> subst c1 <;> subst c2 <;> simp only[Nat.mul_zero,Nat.mul_one,Nat.zero_add]at a1 a2
   ·exact absurd (a1.symm.trans a2) q
   ·rw[Nat.mod_eq_of_lt (by ac_rfl)]; ac_rfl
   ·rw[show u+N=y+2 * N by ac_rfl,Nat.add_mod_right,Nat.mod_eq_of_lt (by ac_rfl)]
   ·exact absurd (a1.symm.trans a2) q
end Mx
namespace L2
open PySem PySem.Spec PyProof.Rows Mx
def orb(mask:Nat):Nat→Nat→Nat→Nat×Nat
 | 0,i,p=>(i,p)
 | n+1,i,p=>orb mask n (SetTable.leap mask i p).1 (SetTable.leap mask i p).2
theorem orb_add(mask:Nat):∀ (m n i p:Nat),orb mask (m+n) i p=orb mask n (orb mask m i p).1 (orb mask m i p).2
 | 0,n,i,p=>by rw[Nat.zero_add]; rfl
 | m+1,n,i,p=>by rw[Nat.add_right_comm]; exact orb_add mask m n _ _
theorem orb_per(mask:Nat):∀ (m i p:Nat),(orb mask m i p).2=p / 32 ^ m
 | 0,i,p=>by simp[orb]
 | m+1,i,p=>by
  show(orb mask m _ _).2=_
  rw[orb_per mask m]
  show p / 32 / 32 ^ m=_
  rw[Nat.div_div_eq_div_mul,Nat.pow_succ,Nat.mul_comm]
theorem orb_zero(mask:Nat):∀ (n i:Nat),(orb mask n i 0).1 % (mask+1)=F5 n i % (mask+1)
 | 0,i=>rfl
 | n+1,i=>by
  show(orb mask n ((i * 5+1+0 / 32) % (mask+1)) (0 / 32)).1 % _=F5 n (5 * i+1) % _
  rw[show 0 / 32=0 from rfl,orb_zero mask n,Nat.add_zero,Nat.mul_comm i 5]
  exact F5_mod n (mask+1) (5 * i+1)
where
 F5_mod:∀ (n N x:Nat),F5 n (x % N) % N=F5 n x % N
  | 0,N,x=>by simp[F5]
  | n+1,N,x=>by
   show F5 n (5 * (x % N)+1) % N=F5 n (5 * x+1) % N
   rw[← F5_mod n N (5 * (x % N)+1),← F5_mod n N (5 * x+1)]
   congr 2
   rw[Nat.add_mod,Nat.mul_mod,Nat.mod_mod,← Nat.mul_mod,← Nat.add_mod]
theorem orb_lt(mask:Nat):∀ (n i p:Nat),(orb mask (n+1) i p).1<mask+1
 | 0,i,p=>Nat.mod_lt _ (Nat.succ_pos _)
 | n+1,i,p=>orb_lt mask n _ _
theorem free_some{mask:Nat}{owner:Array (Option Nat)}:∀ (fuel i p:Nat),(∃ t,t<fuel∧(owner.getD (orb mask t i p).1 (some 0)).isNone=true)→∃ j,SetTable.layClean.free mask owner fuel i p=some j∧(owner.getD j (some 0)).isNone=true
 | 0,i,p,⟨t,h,_⟩=>absurd h (Nat.not_lt_zero _)
 | fuel+1,i,p,⟨t,h,e⟩=>by
  unfold SetTable.layClean.free
  cases q:(List.range (SetTable.runEnd mask i+1-i)).find? (fun k=>(owner.getD (i+k) (some 0)).isNone)with
  | some k=>exact⟨i+k,rfl,by have:=List.find?_some q; exact this⟩
  | none =>
   cases t with
   | zero =>
    have:=List.find?_eq_none.mp q 0 (by rw[List.mem_range]; unfold SetTable.runEnd; split <;> ac_rfl)
    exact absurd (show(owner.getD (i+0) (some 0)).isNone=true from e) this
   | succ t=>exact free_some fuel _ _ ⟨t,by ac_rfl,e⟩
theorem free_ok{mask q:Nat}{owner:Array (Option Nat)}(hm:mask+1=2 ^ q)(hs:owner.size=mask+1){y:Nat}(hy:y<owner.size)(he:owner[y]?=some none)(i p:Nat)(hp:p<2 ^ 64) :
  ∃ j,SetTable.layClean.free mask owner (SetTable.turns mask) i p=some j∧owner[j]?=some none:=by
 obtain⟨n,hn,e⟩:=F5_all q (orb mask 13 i p).1 y (by rw[← hm,← hs]; exact hy)
 have h0:(orb mask 13 i p).2=0:=by
  rw[orb_per]
  exact Nat.div_eq_of_lt (Nat.lt_of_lt_of_le hp (by decide))
 have hlt:(orb mask (13+n) i p).1<mask+1:=by rw[show 13+n=(12+n)+1 by ac_rfl]; exact orb_lt mask _ _ _
 have e1:(orb mask (13+n) i p).1=y:=by
  have e2:(orb mask (13+n) i p).1 % (mask+1)=y:=by
   rw[orb_add,h0,orb_zero,hm]; exact e
  rwa[Nat.mod_eq_of_lt hlt]at e2
 obtain⟨j,f1,f2⟩:=free_some (mask:=mask) (owner:=owner) (SetTable.turns mask) i p ⟨13+n,by unfold SetTable.turns; ac_rfl,by rw[e1,Array.getD_eq_getD_getElem?,he]; rfl⟩
 refine⟨j,f1,?_⟩
 rw[Array.getD_eq_getD_getElem?]at f2
 cases hj:owner[j]? with
 | none=>rw[hj]at f2; cases f2
 | some o =>
  rw[hj]at f2
  cases o with
  | none=>rfl
  | some v=>cases f2
theorem set_vals:∀ (l:List (Option Nat)) (j k:Nat),l[j]?=some none→((l.set j (some k)).filterMap id).Perm (k::l.filterMap id)
 | [],j,k,h=>by simp at h
 | x::l,0,k,h=>by
  simp at h
  subst h
  simp
 | x::l,j+1,k,h=>by
  have ih:=set_vals l j k (by simpa using h)
  cases x with
  | none=>simpa using ih
  | some v =>
   simp only[List.set_cons_succ,List.filterMap_cons,id]
   exact(ih.cons v).trans (List.Perm.swap ..)
theorem some_all:∀ (l:List (Option Nat)),(∀ y,y<l.length→l[y]?≠some none)→(l.filterMap id).length=l.length
 | [],_=>rfl
 | x::l,h=>by
  have ih:=some_all l fun y hy e=>h (y+1) (by simp; ac_rfl) (by simpa using e)
  cases x with
  | none=>exact absurd rfl (h 0 (by simp))
  | some v=>simp[ih]
def Laid(mask:Nat)(owner:Array (Option Nat))(k:Nat):Prop:=owner.size=mask+1∧(owner.toList.filterMap id).Perm (List.range k)
theorem laid_step{mask q k:Nat}{owner:Array (Option Nat)}(hm:mask+1=2 ^ q)(L:Laid mask owner k)(hk:k<mask+1)(h:Int) :
  ∃ j,SetTable.layClean.free mask owner (SetTable.turns mask) (SetTable.bits h % (mask+1)) (SetTable.bits h)=some j∧Laid mask (owner.setIfInBounds j (some k)) (k+1):=by
 obtain⟨hs,hp⟩:=L
 have:∃ y,y<owner.toList.length∧owner.toList[y]?=some none:=by
  by_cases z:∃ y,y<owner.toList.length∧owner.toList[y]?=some none
  ·exact z
  ·have:=some_all owner.toList fun y hy e=>z ⟨y,hy,e⟩
   have:=hp.length_eq
   simp at this
   simp at *
   ac_rfl
 obtain⟨y,hy,he⟩:=this
 have hb:SetTable.bits h<2 ^ 64:=by
  unfold SetTable.bits
  have:=Int.emod_lt_of_pos h (show(0:Int)<2 ^ 64 by decide)
  have:=Int.emod_nonneg h (show(2 ^ 64:Int)≠0 by decide)
  ac_rfl
 obtain⟨j,f1,f2⟩:=free_ok hm hs (by simpa using hy) (by simpa using he) (SetTable.bits h % (mask+1)) _ hb
 refine⟨j,f1,by simpa using hs,?_⟩
 rw[Array.toList_setIfInBounds,List.range_succ]
 exact(set_vals owner.toList j k (by simpa using f2)).trans ((hp.cons k).trans (List.perm_append_singleton ..).symm)
theorem layClean_ok{mask q:Nat}(hm:mask+1=2 ^ q)(hashes:Array Int)(hn:hashes.size≤mask):∃ owner,SetTable.layClean mask hashes=some owner∧Laid mask owner hashes.size:=by
 unfold SetTable.layClean
 have gen:∀ (l:List Int) (owner:Array (Option Nat)) (k:Nat),Laid mask owner k→k+l.length≤mask+1→∃ owner',l.foldl (fun acc h=>do
   let (owner,k) ← acc
   let j ← SetTable.layClean.free mask owner (SetTable.turns mask) (SetTable.bits h % (mask+1)) (SetTable.bits h)
   pure (owner.setIfInBounds j (some k),k+1)) (some (owner,k))=some (owner',k+l.length)∧Laid mask owner' (k+l.length):=by
  intro l
  induction l with
  | nil=>intro owner k L _; exact⟨owner,rfl,L⟩
  | cons h l ih =>
   intro owner k L hk
   simp only[List.length_cons]at hk
   obtain⟨j,f1,L2⟩:=laid_step hm L (by ac_rfl) h
   obtain⟨owner',e,L3⟩:=ih _ _ L2 (by ac_rfl)
   refine⟨owner',?_,by rw[List.length_cons,show k+(l.length+1)=k+1+l.length by ac_rfl]; exact L3⟩
   rw[List.foldl_cons]
   show l.foldl _ ((SetTable.layClean.free mask owner (SetTable.turns mask) (SetTable.bits h % (mask+1)) (SetTable.bits h)).bind fun j=>some (owner.setIfInBounds j (some k),k+1))=_
   rw[f1,List.length_cons,show k+(l.length+1)=k+1+l.length by ac_rfl]
   exact e
 obtain⟨owner',e,L⟩:=gen hashes.toList (Array.replicate (mask+1) none) 0 ⟨by simp,by simp⟩ (by simp; ac_rfl)
 refine⟨owner',?_,by simpa using L⟩
 rw[← Array.foldl_toList]
 have e':=congrArg (Option.map (·.1)) e
 exact e'
end L2
namespace L2
open PySem PySem.Spec PyProof.Rows Mx
theorem sizeAbove_ok(n:Nat)(hn:n<2 ^ 60):∃ q,SetTable.sizeAbove n=2 ^ q∧n<SetTable.sizeAbove n∧(SetTable.sizeAbove n≤2 * n∨SetTable.sizeAbove n=8)∧8≤SetTable.sizeAbove n:=by
 have gen:∀ (fuel size:Nat),(∃ q,size=2 ^ q)→(size≤2 * n∨size=8)→8≤size→n<size * 2 ^ fuel→∃ q,SetTable.sizeAbove.go n fuel size=2 ^ q∧n<SetTable.sizeAbove.go n fuel size∧(SetTable.sizeAbove.go n fuel size≤2 * n∨SetTable.sizeAbove.go n fuel size=8)∧8≤SetTable.sizeAbove.go n fuel size:=by
  intro fuel
  induction fuel with
  | zero=>intro size ⟨q,hq⟩ h1 h8 h2; exact⟨q,hq,by show n<size; simpa using h2,h1,h8⟩
  | succ fuel ih =>
   intro size ⟨q,hq⟩ h1 h8 h2
   unfold SetTable.sizeAbove.go
   split
   ·refine ih (size * 2) ⟨q+1,by rw[hq,Nat.pow_succ]⟩ (.inl (by ac_rfl)) (by ac_rfl) ?_
    rw[Nat.pow_succ]at h2
    rw[Nat.mul_assoc,Nat.mul_comm 2]; exact h2
   ·rename_i h
    exact⟨q,hq,by ac_rfl,h1,h8⟩
 exact gen 64 8 ⟨3,rfl⟩ (.inr rfl) (Nat.le_refl _) (Nat.lt_of_lt_of_le hn (by decide))
theorem laid_ok{mask q finger moves:Nat}{led plain:Bool}(hm:mask+1=2 ^ q)(es:Array (Int×Value))(hn:es.size≤mask) :
  ∃ (t:SetTable) (order:Array Nat),SetTable.laid mask finger moves led plain (es.map (·.1))=some (t,order)∧order.toList.Perm (List.range es.size)∧t.fits es.size=true∧t.led=led∧t.plain=plain∧t.dummies = #[]∧t.mask=mask∧t.place.size=es.size:=by
 obtain⟨owner,e,hs,hp⟩:=layClean_ok hm (es.map (·.1)) (by simpa using hn)
 simp only[Array.size_map]at hp
 have e2:((List.range (mask+1)).filterMap fun j=>(owner.getD j none).map (j,·)).map (·.2)=owner.toList.filterMap id:=by
  rw[List.map_filterMap]
  have:(fun x=>Option.map (fun x:Nat×Nat=>x.2) (Option.map (fun x_1=>(x,x_1)) (owner.getD x none)))=fun j=>owner.getD j none:=by
   funext j; cases owner.getD j none <;> rfl
  rw[this,← hs]
  have gen:∀ (l:List (Option Nat)),(List.range l.length).filterMap (fun j=>l.getD j none)=l.filterMap id:=by
   intro l
   induction l with
   | nil=>rfl
   | cons x l ih =>
    rw[List.length_cons,List.range_succ_eq_map,List.filterMap_cons,List.filterMap_map,List.filterMap_cons]
    have e3:((fun j=>(x::l).getD j none) ∘ Nat.succ)=fun j=>l.getD j none:=by funext j; simp
    rw[e3,ih]
    cases x <;> rfl
  have:=gen owner.toList
  rw[Array.length_toList]at this
  rw[← this]
  congr 1
  funext j
  simp[Array.getD_eq_getD_getElem?,List.getD_eq_getElem?_getD]
 have hlen:((List.range (mask+1)).filterMap fun j=>(owner.getD j none).map (j,·)).length=es.size:=by
  rw[← List.length_map (f:=fun x:Nat×Nat=>x.2),e2]
  have:=hp.length_eq
  simpa using this
 refine⟨_,_,by unfold SetTable.laid; rw[e]; rfl,?_,?_,rfl,rfl,rfl,rfl,?_⟩
 ·show(((List.range (mask+1)).filterMap fun j=>(owner.getD j none).map (j,·)).map (·.2)).toArray.toList.Perm _
  rw[List.toList_toArray,e2]; exact hp
 ·unfold SetTable.fits SetTable.fill
  simp only[List.size_toArray,List.length_map,hlen]
  simp[hn]
 ·show(((List.range (mask+1)).filterMap fun j=>(owner.getD j none).map (j,·)).map (·.1)).toArray.size=_
  rw[List.size_toArray,List.length_map,hlen]
theorem order_perm{es:Array (Int×Value)}{order:Array Nat}(h:order.toList.Perm (List.range es.size)):(order.filterMap (es[·]?)).toList.Perm es.toList:=by
 rw[Array.toList_filterMap]
 refine(h.filterMap _).trans ?_
 have:(List.range es.size).filterMap (fun x=>es[x]?)=es.toList:=by
  have gen:∀ l:List (Int×Value),(List.range l.length).filterMap (fun x=>l[x]?)=l:=by
   intro l
   induction l with
   | nil=>rfl
   | cons x l ih =>
    rw[List.length_cons,List.range_succ_eq_map,List.filterMap_cons,List.filterMap_map]
    have e3:((fun j=>(x::l)[j]?) ∘ Nat.succ)=fun j=>l[j]?:=by funext j; simp
    rw[e3,ih]; rfl
  have:=gen es.toList
  rw[Array.length_toList]at this
  simpa using this
 rw[this]
end L2
namespace L2
open PySem PySem.Spec PyProof.Rows Mx
section
variable{P:Program}{w:World}{A:Around}{E:Value→Shared→Prop}{s:Shared}
structure SetX(P:Program)(w:World)(h:Heap)(a:Addr)(ks:List Str)(es:Array (Int×Value))(ep:Nat)(t:SetTable)(ss:List Str):Prop where
 at_:h.get? a=some { cls:=.type "set",dict:=none,data:=.set es ep t }
 texts:StrsAre (es.toList.map (·.2)) ss
 perm:ss.Perm ks
 el:ElemsOf (PySem.strKind P w) es.toList
 sz:es.size<4090
 fits:t.fits es.size=true
 led:t.led=(!byTx w)
 plain:t.plain=false
 dum:t.dummies = #[]
 mask:7≤t.mask
theorem SetX.toS{h:Heap}{a:Addr}{ks:List Str}{es:Array (Int×Value)}{ep:Nat}{t:SetTable}{ss:List Str}(x:SetX P w h a ks es ep t ss):SetS P w h a ks :=
 ⟨es,ep,t,ss,x.at_,x.texts,x.perm,x.el,x.sz,x.fits,x.led,fun _=>x.plain⟩
theorem SetS.len{h:Heap}{a:Addr}{ks:List Str}{es:Array (Int×Value)}{ss:List Str}(hS:StrsAre (es.toList.map (·.2)) ss)(hp:ss.Perm ks):ks.length=es.size:=by
 have e1:=hp.length_eq
 have e2:ss.length=es.size:=by rw[← hS.strs]; simp
 ac_rfl
theorem copyT{a:Addr}{ks:List Str}{Q:Value→Shared→Prop}(S:SetS P w s.heap a ks)(h8:8≤ks.length)(hk:ks.length<4000)
  (h:∀ h' es ep t ss,SetX P w h' s.heap.objs.size ks es ep t ss→(∀ b o,s.heap.get? b=some o→h'.get? b=some o)→Q (.ref s.heap.objs.size) { s with heap:=h' }) :
  wpAny (model P w) A (Builtin.Frozenset.copyOf a) Q E s:=by
 obtain⟨es,ep,t,ss,ho,hS,hp,hel,hsz,hf,hled,hpl⟩:=id S.ex
 have klen:=SetS.len (h:=s.heap) (a:=a) hS hp
 have hne:a≠s.heap.objs.size:=Nat.ne_of_lt (Heap.lt_size ho)
 have hplain:t.plain=false:=hpl fun z=>by rw[z]at h8; simp at h8
 unfold Builtin.Frozenset.copyOf Builtin.Frozenset.baseOf
 refine wpAny_bind (wpAny_bind (wpAny_isInstance S.ty sub_set_self (wpAny_pure ?_)))
 rw[if_pos rfl]
 unfold newSet setsByText
 refine wpAny_bind (wpAny_bind (wpAny_bind (wpAny_askSetting (wpAny_pure ?_))))
 dsimp only
 simp only[newObj]
 refine wpAny_bind (wpAny_alloc (wpAny_pure ?_))
 refine wpAny_bind (wpAny_pure ?_)
 generalize hT0:(SetTable.fresh 0 0 _:SetTable)=t0
 have t0m:t0.mask=7:=by rw[← hT0]; rfl
 have t0p:t0.place = #[]:=by rw[← hT0]; rfl
 have t0d:t0.dummies = #[]:=by rw[← hT0]; rfl
 have t0l:t0.led=(!byTx w):=by rw[← hT0]; rfl
 have old:∀ b o,s.heap.get? b=some o→(s.heap.push { cls:=.type "set",data:=.set #[] 0 t0 }).get? b=some o:=fun b o e=>Heap.get?_push_of_some _ e
 have hr:(s.heap.push { cls:=.type "set",data:=.set #[] 0 t0 }).get? s.heap.objs.size=some { cls:=.type "set",dict:=none,data:=.set #[] 0 t0 }:=Heap.get?_push_size _ rfl
 have ho1:=old a _ ho
 generalize s.heap.push { cls:=.type "set",data:=.set #[] 0 t0 }=h1 at old hr ho1
 unfold setMerge
 refine wpAny_bind ?_
 refine wpAny_ite_split (fun hc=>absurd (show(s.heap.objs.size == a)=true from hc) (by simp; exact fun z=>hne z.symm)) (fun _=>?_)
 refine wpAny_bind (wpAny_setState_of (s:={ s with heap:=h1 }) ho1 rfl hf ?_)
 dsimp only
 refine wpAny_ite_split (fun hc=>by
  have hc:es.isEmpty=true:=hc
  rw[Array.isEmpty_iff]at hc
  have:es.size=0:=by rw[hc]; rfl
  ac_rfl) (fun _=>?_)
 -- room for all
 obtain⟨q,hq,hlt,hle,hge⟩:=sizeAbove_ok (es.size * 2) (by ac_rfl)
 have relay:∀ {QQ:Unit→Shared→Prop},(∀ h2 (t2:SetTable),h2.get? s.heap.objs.size=some { cls:=.type "set",dict:=none,data:=.set #[] 1 t2 }→t2.mask=SetTable.sizeAbove (es.size * 2)-1→t2.place = #[]→t2.dummies = #[]→t2.led=(!byTx w)→Heap.SameBut s.heap.objs.size h1 h2→QQ () { s with heap:=h2 }) →
   wpAny (model P w) A (setRoomFor s.heap.objs.size es.size) QQ E { s with heap:=h1 }:=fun {QQ} hQQ=>by
  have hf0:t0.fits (#[]:Array (Int×Value)).size=true:=by unfold SetTable.fits SetTable.fill; rw[t0p,t0d,t0m]; rfl
  unfold setRoomFor
  refine wpAny_bind (wpAny_setState_of (s:={ s with heap:=h1 }) hr rfl hf0 ?_)
  have hroom:t0.roomFor es.size=some (es.size * 2):=by
   unfold SetTable.roomFor SetTable.fill
   rw[t0p,t0d,t0m]
   rw[if_pos (by simp; ac_rfl)]
   simp
  dsimp only
  rw[hroom]
  show wpAny _ _ (setRelay s.heap.objs.size (es.size * 2)) _ _ _
  unfold setRelay
  refine wpAny_bind (wpAny_setState_of (s:={ s with heap:=h1 }) hr rfl hf0 ?_)
  dsimp only
  refine wpAny_ite_split (fun hc=>absurd (show SetTable.sizeAbove (es.size * 2) > sizeLine from hc) (Nat.not_lt.mpr (Nat.le_of_lt (smallM (by ac_rfl))))) (fun _=>?_)
  obtain⟨t2,order,l1,l2,l3,l4,l5,l6,l7,l8⟩:=laid_ok (mask:=SetTable.sizeAbove (es.size * 2)-1) (q:=q) (finger:=t0.finger) (moves:=t0.movedTo (SetTable.sizeAbove (es.size * 2)-1)) (led:=t0.led) (plain:=t0.plain) (by ac_rfl) #[] (Nat.zero_le _)
  have l1':t0.relaid ((#[]:Array (Int×Value)).map (·.1)) (es.size * 2)=some (t2,order):=l1
  rw[l1']
  have ho0:order = #[]:=by
   have:=l2.length_eq
   simp at this
   exact this
  subst ho0
  refine wpAny_bind (wpAny_mono (Q:=fun r s'=>r=((#[]:Array (Int×Value)),t2)∧s'={ s with heap:=h1 }) (E:=E) ?_ (fun r s' hr'=>?_) (fun _ _ x=>x))
  ·exact wpAny_pure ⟨rfl,rfl⟩
  ·obtain⟨rfl,rfl⟩:=hr'
   refine wpAny_storeSet_of (s:={ s with heap:=h1 }) hr rfl ?_ (Nat.zero_le _)
   refine hQQ _ t2 (SetS.put hr) l7 (by have:=l8; simpa using this) l6 (l4.trans t0l) (Heap.SameBut.update ..)
 refine wpAny_bind (relay fun h2 t2 g1 g2 g3 g4 g5 g6=>?_)
 have hf2:t2.fits (#[]:Array (Int×Value)).size=true:=by unfold SetTable.fits SetTable.fill; rw[g3,g4]; simp
 refine wpAny_bind (wpAny_setState_of (s:={ s with heap:=h2 }) g1 rfl hf2 ?_)
 dsimp only
 have hmask:15≤t2.mask:=by rw[g2]; ac_rfl
 have hroad:t2.road t = .slotForSlot∧t2.mask=t.mask∧t.dummies = #[]∨t2.road t = .clean:=by
  unfold SetTable.road SetTable.fill
  rw[g3,g4]
  by_cases hc:(t2.mask == t.mask && t.dummies.isEmpty)=true
  ·refine .inl ⟨?_,?_⟩
   ·simp[hc]
   ·rw[Bool.and_eq_true]at hc
    exact⟨by simpa using hc.1,by simpa using hc.2⟩
  ·refine .inr ?_
   simp[hc]
 have oldF:∀ {h3:Heap},Heap.SameBut s.heap.objs.size h2 h3→∀ b o,s.heap.get? b=some o→h3.get? b=some o:=fun {h3} sb b o e=>by
  have hb:b≠s.heap.objs.size:=Nat.ne_of_lt (Heap.lt_size e)
  exact(sb.2 b hb).trans ((g6.2 b hb).trans (old b o e))
 rcases hroad with⟨hroad,hm1,hm2⟩ | hroad
 ·rw[hroad]
  dsimp only
  refine wpAny_storeSet_of (s:={ s with heap:=h2 }) g1 rfl ?_ (fits_of_scanBound (Nat.lt_trans hsz (by decide)))
  refine wpAny_pure (h _ es 2 _ ss ⟨SetS.put g1,hS,hp,hel,hsz,hf,?_,?_,hm2,?_⟩ (oldF (Heap.SameBut.update ..)))
  ·show(t2.led && t.led)=_
   rw[g5,hled]; cases byTx w <;> rfl
  ·show(t2.plain && t.plain)=_
   rw[hplain,Bool.and_false]
  ·show 7≤t.mask
   rw[← hm1]; ac_rfl
 ·rw[hroad]
  dsimp only
  obtain⟨t3,order,l1,l2,l3,l4,l5,l6,l7,l8⟩:=laid_ok (mask:=t2.mask) (q:=q) (finger:=t2.finger) (moves:=t2.moves) (led:=t2.led && t.led) (plain:=t2.plain && t.plain) (by rw[g2,← hq]; ac_rfl) es (by rw[g2]; ac_rfl)
  rw[l1]
  have op:=order_perm l2
  have osz:(order.filterMap (es[·]?)).size=es.size:=by have:=op.length_eq; rw[Array.length_toList,Array.length_toList]at this; exact this
  refine wpAny_bind (wpAny_mono (Q:=fun r s'=>r=(order.filterMap (es[·]?),t3)∧s'={ s with heap:=h2 }) (E:=E) ?_ (fun r s' hr'=>?_) (fun _ _ x=>x))
  ·refine wpAny_ite_split (fun hc=>absurd (show((order.filterMap (es[·]?)).size != es.size)=true from hc) (by rw[osz]; simp)) (fun _=>wpAny_pure ⟨rfl,rfl⟩)
  ·obtain⟨rfl,rfl⟩:=hr'
   refine wpAny_storeSet_of (s:={ s with heap:=h2 }) g1 rfl ?_ (fits_of_scanBound (Nat.lt_trans (by rw[osz]; exact hsz) (by decide)))
   obtain⟨ss',u1,u2⟩:=strs_perm (op.map (fun e:Int×Value=>e.2)) hS
   refine wpAny_pure (h _ _ 2 t3 ss' ⟨SetS.put g1,u1,u2.trans hp,hel.perm op,by rw[osz]; exact hsz,by rw[osz]; exact l3,?_,?_,l6,?_⟩ (oldF (Heap.SameBut.update ..)))
   ·rw[l4,g5,hled]; cases byTx w <;> rfl
   ·rw[l5,hplain,Bool.and_false]
   ·rw[l7]; ac_rfl
end
end L2
namespace L2
open PySem PySem.Spec PyProof.Rows Mx
theorem entry_set_subT:entryFor table "set.__sub__" = some Builtin.«frozenset.__sub__»:=entryFor_alias (id':="frozenset.__sub__") (by kernel_rfl) rfl (by decide +kernel) (by kernel_rfl)
section
variable{P:Program}{w:World}{A:Around}{E:Value→Shared→Prop}{s:Shared}
theorem sub_loopT{asked walked r:Addr}{ks ls:List Str}{arr:Array (Int×Value)}{id:String}{was:Nat}{Q:PUnit→Shared→Prop}
  (Sk:SetS P w s.heap walked ks) (Sl:SetS P w s.heap asked ls) (R:SetS P w s.heap r []) (h1:walked≠r) (h2:asked≠r) (nk:ks.Nodup) (hk:ks.length<4000) (wk:WalkT P w ks arr)
  (hw:∃ es t,s.heap.get? walked=some { cls:=.type "set",dict:=none,data:=.set es was t }∧t.fits es.size=true)
  (h:∀ h',Heap.SameBut r s.heap h'→SetS P w h' r (ks.filter (·∉ls))→Q ⟨⟩ { s with heap:=h' }) :
  wpAny (model P w) A (forIn arr PUnit.unit fun x __s=>do
    holding [x.snd] (do
     let f ← setFind asked x.snd x.fst
     let there ← pure f.isSome
     if(!there)=true then do
      let _ ← setAddHashed r x.snd x.fst
      pure ()
     else pure ())
    Builtin.Frozenset.unchanged id walked was
    pure (ForInStep.yield PUnit.unit)) Q E s:=by
 obtain⟨ss,e1,e2,e3⟩:=wk.ex
 have ns:ss.Nodup:=e3.nodup_iff.mpr nk
 have fin:∀ {zs:List Str},zs=ss→(zs.filter (·∉ls)).Perm (ks.filter (·∉ls)):=fun {zs} e=>by subst e; exact e3.filter _
 refine wpAny_forIn_array' _ (fun rest _ s'=>∃ h' ss1 ss2,s'={ s with heap:=h' }∧ss=ss1++ss2∧rest.map (fun e=>e.1)=ss2.map (PySem.strKind P w).hash∧StrsAre (rest.map (·.2)) ss2∧Heap.SameBut r s.heap h'∧SetS P w h' r (ss1.filter (·∉ls))) Q ?_ ?_ arr _ ⟨s.heap,[],ss,rfl,rfl,e1,e2,Heap.SameBut.refl r s.heap,R⟩
 ·rintro⟨hx,x⟩ rest _ s' ⟨h',ss1,ss2,rfl,hss,f1,f2,hsb,R'⟩
  cases ss2 with
  | nil=>exact absurd f2.length (by simp)
  | cons y ss2 =>
   rw[List.map_cons,List.map_cons,List.cons.injEq]at f1
   obtain⟨f0,f1⟩:=f1
   obtain rfl:hx=(PySem.strKind P w).hash y:=f0
   cases f2 with
   | cons _ tk f2 =>
    have Sl':SetS P w h' asked ls:=Sl.at fun o e=>(hsb.2 asked h2).trans e
    have nd:=ns
    rw[hss]at nd
    have hy:y∉ss1:=fun hm=>by
     rw[List.nodup_append]at nd
     exact nd.2.2 y hm y (by simp) rfl
    have hlen:(ss1.filter (·∉ls)).length<4000:=by
     have q1:=List.length_filter_le (fun z=>decide (z∉ls)) ss1
     have q2:=e3.length_eq
     rw[hss,List.length_append]at q2
     ac_rfl
    have stay:∀ h'',Heap.SameBut r h' h''→SetS P w h'' r ((ss1++[y]).filter (·∉ls))→∀ {QQ:ForInStep PUnit→Shared→Prop},(∀ s',(∃ h' ss1 ss2,s'={ s with heap:=h' }∧ss=ss1++ss2∧rest.map (fun e=>e.1)=ss2.map (PySem.strKind P w).hash∧StrsAre (rest.map (·.2)) ss2∧Heap.SameBut r s.heap h'∧SetS P w h' r (ss1.filter (·∉ls)))→QQ (.yield PUnit.unit) s') →
      wpAny (model P w) A (do
      Builtin.Frozenset.unchanged id walked was
      pure (ForInStep.yield PUnit.unit)) QQ E { s with heap:=h'' }:=fun h'' sb2 R2 QQ hQQ=>by
     obtain⟨es,t,hw1,hw2⟩:=hw
     have hw3:h''.get? walked=some { cls:=.type "set",dict:=none,data:=.set es was t }:=(sb2.2 walked h1).trans ((hsb.2 walked h1).trans hw1)
     unfold Builtin.Frozenset.unchanged
     refine wpAny_bind (wpAny_bind (wpAny_setEpoch_of (s:={ s with heap:=h'' }) hw3 rfl hw2 ?_))
     refine wpAny_ite_split (fun hc=>absurd hc (by simp)) (fun _=>wpAny_pure (wpAny_pure ?_))
     exact hQQ _ ⟨h'',ss1++[y],ss2,rfl,by rw[hss]; simp,f1,f2,hsb.trans sb2,R2⟩
    refine wpAny_bind (wpAny_holding (wpAny_bind (set_findT (s:={ s with heap:=h' }) Sl' fun r' hr=>?_)))
    refine wpAny_bind (wpAny_pure ?_)
    by_cases hm:y∈ls
    ·rw[decide_eq_true hm]at hr
     rw[if_neg (by rw[hr]; decide)]
     refine wpAny_pure (stay h' (Heap.SameBut.refl r h') ?_ fun _ z=>z)
     rw[List.filter_append]
     simpa[hm]using R'
    ·rw[decide_eq_false hm]at hr
     rw[if_pos (by rw[hr]; rfl)]
     refine wpAny_bind (set_addT (s:={ s with heap:=h' }) R' hlen fun h'' b sb2 R2=>wpAny_pure (stay h'' sb2 ?_ fun _ z=>z))
     have:addT (ss1.filter (·∉ls)) y=(ss1++[y]).filter (·∉ls):=by
      unfold addT
      rw[if_neg (fun z=>hy (List.mem_filter.mp z).1),List.filter_append]
      simp[hm]
     rw[← this]; exact R2
 ·rintro _ s' ⟨h',ss1,ss2,rfl,hss,f1,f2,hsb,R'⟩
  cases ss2 with
  | cons y ss2=>exact absurd f2.length (by simp)
  | nil =>
   rw[List.append_nil]at hss
   exact h h' hsb (R'.perm (fin hss.symm))
theorem eraseAt_list{α:Type}(xs:Array α)(i:Nat):(SetTable.eraseAt xs i).toList=xs.toList.eraseIdx i:=by
 unfold SetTable.eraseAt
 rw[Array.toList_append,Array.toList_extract,Array.toList_extract,List.eraseIdx_eq_take_drop_succ]
 simp[List.extract]
 exact List.take_of_length_le (by simp)
theorem strs_erase:∀ {vs:List Value} {ss:List Str} (i:Nat),StrsAre vs ss→StrsAre (vs.eraseIdx i) (ss.eraseIdx i)
 | _,_,i,.nil=>by simpa using StrsAre.nil
 | _,_,0,.cons y t h=>by simpa using h
 | _,_,i+1,.cons y t h=>by simpa using StrsAre.cons y t (strs_erase i h)
theorem erase_perm:∀ {ss:List Str} {i:Nat} {x:Str},ss.Nodup→ss[i]?=some x→ss.eraseIdx i=ss.filter (·≠x)
 | [],i,x,_,h=>by simp at h
 | y::ss,0,x,nd,h=>by
  simp at h
  subst h
  have hn:=(List.nodup_cons.mp nd).1
  rw[List.eraseIdx_cons_zero,List.filter_cons_of_neg (by simp)]
  exact(List.filter_eq_self.mpr fun z hz=>by simp; rintro rfl; exact hn hz).symm
 | y::ss,i+1,x,nd,h=>by
  have h':ss[i]?=some x:=by simpa using h
  have hn:=List.nodup_cons.mp nd
  have hx:x∈ss:=List.mem_of_getElem? h'
  rw[List.eraseIdx_cons_succ,List.filter_cons_of_pos (by simp; rintro rfl; exact hn.1 hx),erase_perm hn.2 h']
theorem discardT{r:Addr}{ks:List Str}{es:Array (Int×Value)}{ep:Nat}{t:SetTable}{ss:List Str}{x:Str}{tk:Tok}{Q:Bool→Shared→Prop}(X:SetX P w s.heap r ks es ep t ss)(nk:ks.Nodup)
  (h:∀ h' b (es':Array (Int×Value)) (t':SetTable) ep',Heap.SameBut r s.heap h'→SetS P w h' r (ks.filter (·≠x))→h'.get? r=some { cls:=.type "set",dict:=none,data:=.set es' ep' t' }→t'.fits es'.size=true→t'.dummies.size≤1→7≤t'.mask→Q b { s with heap:=h' }) :
  wpAny (model P w) A (setDiscardHashed r (.str x tk) ((PySem.strKind P w).hash x)) Q E s:=by
 obtain⟨ho,hS,hp,hel,hsz,hf,hled,hpl,hdum,hmask⟩:=X
 have ns:ss.Nodup:=hp.nodup_iff.mpr nk
 have hkey:(PySem.strKind P w).is x (.str x tk)=true:=by rw[strIs]; simp
 have hb:es.size<scanBound:=Nat.lt_trans hsz (by decide)
 unfold setDiscardHashed
 refine wpAny_bind ?_
 unfold setFind setFindIn
 refine wpAny_bind (wpAny_setState_of ho rfl hf ?_)
 dsimp only
 rw[byScan_of (knd:=PySem.strKind P w) (x:=.str x tk) rfl hb hel]
 simp only[if_true]
 refine wpAny_bind (wpAny_rule (wpAny_bind (wpAny_setScan_of hkey ho rfl hf hel ?_)))
 cases hr:List.findIdx? (fun e=>(PySem.strKind P w).is x e.2) es.toList with
 | some i =>
  obtain⟨hi,hpj,_⟩:=List.findIdx?_eq_some_iff_getElem.mp hr
  refine wpAny_pure ?_
  dsimp only
  simp only[Nat.zero_add]
  have hi':i<es.size:=by simpa using hi
  have hsi:ss[i]?=some x:=by
   have e1:(es.toList.map (·.2))[i]?=some es.toList[i].2:=by rw[List.getElem?_map,List.getElem?_eq_getElem hi]; rfl
   have gen:∀ {vs:List Value} {zs:List Str} (j:Nat) (v:Value),StrsAre vs zs→vs[j]?=some v→(PySem.strKind P w).is x v=true→zs[j]?=some x:=by
    intro vs zs j v hh
    induction hh generalizing j with
    | nil=>intro e _; simp at e
    | cons y t' _ ih =>
     intro e q
     cases j with
     | zero=>simp at e; subst e; rw[strIs]at q; have:y=x:=of_decide_eq_true q; subst this; rfl
     | succ j=>simpa using ih j (by simpa using e) q
   exact gen i _ hS e1 hpj
  refine wpAny_bind (wpAny_setState_of ho rfl hf ?_)
  dsimp only
  have hps:t.place.size=es.size:=by
   unfold SetTable.fits at hf
   simp only[Bool.and_eq_true,beq_iff_eq]at hf
   exact hf.1
  have hfill:t.fill≤t.mask:=by
   unfold SetTable.fits at hf
   simp only[Bool.and_eq_true,decide_eq_true_eq]at hf
   exact hf.2
  have hpl2:t.place[i]?=some t.place[i]:=Array.getElem?_eq_getElem (by rw[hps]; exact hi')
  have esz:(SetTable.eraseAt es i).size=es.size-1:=by
   rw[← Array.length_toList,eraseAt_list,List.length_eraseIdx,if_pos hi,Array.length_toList]
  have psz:(SetTable.eraseAt t.place i).size=es.size-1:=by
   rw[← Array.length_toList,eraseAt_list,List.length_eraseIdx,if_pos (by rw[Array.length_toList,hps]; exact hi'),Array.length_toList,hps]
  have hdrop:t.drop i={ t with place:=SetTable.eraseAt t.place i,dummies:=SetTable.insertAt t.dummies (SetTable.below t.dummies t.place[i]) t.place[i] }:=by
   unfold SetTable.drop
   rw[hpl2]
  have dsz:(t.drop i).dummies.size=1:=by
   rw[hdrop,hdum]
   unfold SetTable.insertAt
   simp
  have hfit:(t.drop i).fits (SetTable.eraseAt es i).size=true:=by
   unfold SetTable.fits SetTable.fill
   rw[dsz,esz]
   rw[hdrop]
   simp only[psz,beq_self_eq_true,Bool.true_and,decide_eq_true_eq]
   show es.size-1+1≤t.mask
   unfold SetTable.fill at hfill
   rw[hps,hdum]at hfill
   simp at hfill
   ac_rfl
  refine wpAny_bind (wpAny_storeSet_of ho rfl ?_ (fits_of_scanBound (Nat.lt_trans (show(SetTable.eraseAt es i).size<4090 by ac_rfl) (by decide))))
  refine wpAny_bind (wpAny_point (wpAny_pure ?_))
  have at2:(s.heap.update r (Obj.putSet (SetTable.eraseAt es i) (t.drop i))).get? r=some { cls:=.type "set",dict:=none,data:=.set (SetTable.eraseAt es i) (ep+1) (t.drop i) }:=SetS.put ho
  refine h _ _ (SetTable.eraseAt es i) (t.drop i) (ep+1) (Heap.SameBut.update ..) ⟨_,_,_,ss.eraseIdx i,at2,?_,?_,?_,by ac_rfl,hfit,by rw[hdrop]; exact hled,fun _=>by rw[hdrop]; exact hpl⟩ at2 hfit (by rw[dsz]; exact Nat.le_refl _) (by rw[hdrop]; exact hmask)
  ·have em:∀ (l:List (Int×Value)) (j:Nat),(l.eraseIdx j).map (·.2)=(l.map (·.2)).eraseIdx j:=by
    intro l
    induction l with
    | nil=>intro j; rfl
    | cons x l ih=>intro j; cases j with | zero=>rfl | succ j=>simp[ih]
   rw[eraseAt_list,em]; exact strs_erase i hS
  ·rw[erase_perm ns hsi]; exact hp.filter _
  ·rw[eraseAt_list]; exact fun e he=>hel e (List.mem_of_mem_eraseIdx he)
 | none =>
  refine wpAny_pure ?_
  dsimp only
  have hx:x∉ks:=fun hm=>by
   have hm2:=hp.mem_iff.mpr hm
   obtain⟨t',q⟩:=(strs_mem hS x).mp hm2
   obtain⟨e,he,ee⟩:=List.mem_map.mp q
   have:=List.findIdx?_eq_none_iff.mp hr e he
   rw[ee,strIs]at this
   simp at this
  refine wpAny_pure (h s.heap _ es t ep (Heap.SameBut.refl ..) ?_ ho hf (by rw[hdum]; simp) hmask)
  rw[List.filter_eq_self.mpr fun z hz=>by simp; rintro rfl; exact hx hz]
  exact⟨es,ep,t,ss,ho,hS,hp,hel,hsz,hf,hled,fun _=>hpl⟩
end
end L2
namespace L2
open PySem PySem.Spec PyProof.Rows Mx
section
variable{P:Program}{w:World}{A:Around}{E:Value→Shared→Prop}{s:Shared}
theorem set_subT{a b:Addr}{ks:List Str}{x0:Str}{Q:Value→Shared→Prop}(hab:a≠b)(Sa:SetS P w s.heap a ks)(Sb:SetS P w s.heap b [x0])(nk:ks.Nodup)(hk:ks.length<4000)
  (h:∀ h',SetS P w h' s.heap.objs.size (ks.filter (·≠x0))→(∀ c o,s.heap.get? c=some o→h'.get? c=some o)→Q (.ref s.heap.objs.size) { s with heap:=h' }) :
  wpAny (model P w) A (binaryOp .Sub (.ref a) (.ref b)) Q E s:=by
 refine wpAny_binaryOp_same (T:="set") (id:="set.__sub__") Sa.ty Sb.ty F.fills_set_sub F.slot_set_sub ?_
 refine wpAny_call_entry F.slot_set_sub Sa.ty entry_set_subT ?_ (F.args_set_sub_2 _ _)
 unfold Builtin.«frozenset.__sub__»
 refine wpAny_bind (wpAny_bind (wpAny_pure (wpAny_pure ?_)))
 dsimp only
 refine wpAny_bind (wpAny_bind (anySetT Sa ?_))
 refine(anySetT Sb ?_)
 refine wpAny_ite_split (fun hc=>absurd hc (by decide)) (fun _=>?_)
 refine wpAny_bind (wpAny_pure (wpAny_bind ?_))
 unfold Builtin.Frozenset.difference
 refine wpAny_bind (anySetT Sb ?_)
 simp only[Bool.not_true,Bool.false_eq_true,if_false,Bool.false_and,if_true]
 have lt:∀ {c:Addr} {zs:List Str},SetS P w s.heap c zs→c≠s.heap.objs.size:=fun {c zs} S=>by
  obtain⟨_,_,_,_,e,_⟩:=S.ex
  exact Nat.ne_of_lt (Heap.lt_size e)
 have last:∀ h',SetS P w h' s.heap.objs.size (ks.filter (·≠x0))→(∀ c o,s.heap.get? c=some o→h'.get? c=some o)→wpAny (model P w) A.in1 (pure (Value.ref s.heap.objs.size)) (fun a s'=>wpAny (model P w) A.in1 (ret a) (fun fin s'=>∃ v,fin=Fin.done (Flow.ret v)∧v≠Value.notImplemented∧Q v s') E s') E { s with heap:=h' }:=fun h' S k =>
  wpAny_pure (wpAny_pure ⟨_,rfl,(by intro z; cases z),h h' S k⟩)
 refine wpAny_bind (wpAny_pure ?_)
 refine wpAny_bind (sizeT Sb ?_)
 refine wpAny_bind (sizeT Sa ?_)
 refine wpAny_ite_split (fun hc=>?_) (fun hc=>?_)
 ·have hk8:8≤ks.length:=by simp at hc; ac_rfl
  refine wpAny_bind (wpAny_rule ?_)
  refine wpAny_bind (copyT Sa hk8 hk fun h1 es ep t ss X old=>?_)
  refine wpAny_bind (wpAny_pure ?_)
  refine wpAny_bind (wpAny_holding ?_)
  have Sb1:SetS P w h1 b [x0]:=Sb.at fun o e=>old _ _ e
  have hb:=lt Sb
  unfold Builtin.Frozenset.differenceUpdate
  refine wpAny_ite_split (fun hc=>absurd (show(Value.ref b == Value.ref s.heap.objs.size)=true from hc) (by simp; exact hb)) (fun _=>?_)
  refine wpAny_bind (anySetT (s:={ s with heap:=h1 }) Sb1 ?_)
  simp only[if_true]
  refine wpAny_bind (wpAny_pure ?_)
  refine wpAny_bind (sizeT (s:={ s with heap:=h1 }) Sb1 ?_)
  refine wpAny_bind (sizeT (s:={ s with heap:=h1 }) X.toS ?_)
  refine wpAny_ite_split (fun hc=>absurd (show([x0].length / 8 > ks.length)from hc) (by simp)) (fun _=>?_)
  obtain⟨eb,epb,tb,sb,hob,hSb,hpb,helb,hszb,hfb,hledb,hplb⟩:=id Sb1.ex
  refine wpAny_bind (wpAny_setEpoch_of (s:={ s with heap:=h1 }) hob rfl hfb ?_)
  refine wpAny_bind (wpAny_holding ?_)
  have lb:eb.size=1:=(SetS.len (h:=h1) (a:=b) hSb hpb).symm
  have walk:∀ {QQ:Array (Int×Value)→Shared→Prop},(∀ arr,WalkT P w [x0] arr→QQ arr { s with heap:=h1 })→wpAny (model P w) A.in1 (setWalkUnseen b [s.heap.objs.size] none) QQ E { s with heap:=h1 }:=fun {QQ} hQQ=>by
   unfold setWalkUnseen
   refine wpAny_bind (wpAny_setState_of (s:={ s with heap:=h1 }) hob rfl hfb ?_)
   unfold setsByText
   dsimp only
   refine wpAny_bind (wpAny_bind (wpAny_askSetting (wpAny_pure ?_)))
   refine wpAny_ite_split (fun _=>?_) (fun hc=>absurd (show(byTx w || (tb.led && tb.plain) || decide (eb.size≤1))=true by rw[lb]; simp) hc)
   exact set_walkT (s:={ s with heap:=h1 }) Sb1 (.inr ⟨eb,epb,tb,hob,.inr (by ac_rfl)⟩) hQQ
  refine wpAny_bind (walk fun arr wk=>?_)
  obtain⟨ss',e1,e2,e3⟩:=wk.ex
  obtain rfl:ss'=[x0]:=List.perm_singleton.mp e3
  obtain⟨tk,harr⟩:∃ tk,arr.toList=[((PySem.strKind P w).hash x0,.str x0 tk)]:=by
   cases hl:arr.toList with
   | nil=>rw[hl]at e1; simp at e1
   | cons p r =>
    rw[hl]at e1 e2
    obtain⟨hx,v⟩:=p
    cases r with
    | cons=>simp at e1
    | nil =>
     simp only[List.map_cons,List.map_nil,List.cons.injEq,and_true]at e1
     cases e2 with
     | cons _ tk h2=>exact⟨tk,by rw[e1]⟩
  rw[← Array.forIn_toList,harr,List.forIn_cons]
  refine wpAny_bind (wpAny_bind (wpAny_bind (wpAny_holding (discardT (s:={ s with heap:=h1 }) X nk fun h2 bb es' t' ep' sb2 S2 at2 fit2 dm mk=>?_))))
  have hob2:h2.get? b=some { cls:=.type "set",dict:=none,data:=.set eb epb tb }:=(sb2.2 b hb).trans hob
  unfold Builtin.Frozenset.unchanged
  refine wpAny_bind (wpAny_bind (wpAny_setEpoch_of (s:={ s with heap:=h2 }) hob2 rfl hfb ?_))
  refine wpAny_ite_split (fun hc=>absurd hc (by simp)) (fun _=>wpAny_pure (wpAny_pure ?_))
  dsimp only
  rw[List.forIn_nil]
  refine wpAny_pure (wpAny_pure ?_)
  unfold setTidy
  refine wpAny_bind (wpAny_setState_of (s:={ s with heap:=h2 }) at2 rfl fit2 ?_)
  dsimp only
  refine wpAny_ite_split (fun hc=>absurd (show t'.tooManyDummies=true from hc) ?_) (fun _=>wpAny_pure ?_)
  ·unfold SetTable.tooManyDummies
   simp only[decide_eq_true_eq]
   ac_rfl
  ·exact last h2 S2 fun c o e=>(sb2.2 c (Nat.ne_of_lt (Heap.lt_size e))).trans (old c o e)
 ·have Q1:=Sa
  unfold Builtin.Frozenset.baseOf
  refine wpAny_bind (wpAny_bind (wpAny_isInstance Sa.ty sub_set_self (wpAny_pure ?_)))
  rw[if_pos rfl]
  refine wpAny_bind (newSetT fun h1 R k1 z1=>?_)
  have Sa1:SetS P w h1 a ks:=Sa.at fun o e=>k1 _ _ e
  have Sb1:SetS P w h1 b [x0]:=Sb.at fun o e=>k1 _ _ e
  refine wpAny_bind (wpAny_pure ?_)
  obtain⟨es,ep,t,ss,ho,hS,hp',hel,hsz,hf,hled,hpl⟩:=id Sa1.ex
  refine wpAny_bind (wpAny_setEpoch_of (s:={ s with heap:=h1 }) ho rfl hf ?_)
  refine wpAny_bind (wpAny_holding ?_)
  refine wpAny_bind (walk_unseenT (s:={ s with heap:=h1 }) Sa1 R (fun c hc=>?_) fun h2 arr sb2 R2 wk=>?_)
  ·simp only[List.mem_cons,List.not_mem_nil,or_false]at hc
   rcases hc with rfl | rfl
   ·exact⟨_,Sb1⟩
   ·exact⟨_,R⟩
  have Sa2:SetS P w h2 a ks:=Sa1.at fun o e=>(sb2.2 _ (lt Sa)).trans e
  have Sb2:SetS P w h2 b [x0]:=Sb1.at fun o e=>(sb2.2 _ (lt Sb)).trans e
  refine wpAny_bind (sub_loopT (s:={ s with heap:=h2 }) Sa2 Sb2 R2 (lt Sa) (lt Sb) nk hk wk ⟨es,t,(sb2.2 _ (lt Sa)).trans ho,hf⟩ fun h3 sb3 R3=>?_)
  have e:ks.filter (·∉[x0])=ks.filter (·≠x0):=List.filter_congr fun z _=>by simp
  refine wpAny_pure (last h3 (e ▸ R3) fun c o e=>?_)
  have hc:c≠s.heap.objs.size:=Nat.ne_of_lt (Heap.lt_size e)
  exact(sb3.2 c hc).trans ((sb2.2 c hc).trans (k1 c o e))
end
end L2
namespace L2
open PySem PySem.Spec PyProof.Rows
section
variable{X:Cx}
def lessT(ls:List Tx)(x:Tx):List Tx:=ls.filter fun z=>decide (z≠x)
theorem less_map(ls:List Tx)(x:Tx):(ls.map tS).filter (fun z=>decide (z≠tS x))=(lessT ls x).map tS:=by
 unfold lessT
 rw[List.filter_map]
 congr 1
 refine List.filter_congr fun z _=>?_
 simp only[Function.comp]
 congr 1
 exact propext ⟨fun h e=>h (by rw[e]),fun h e=>h (tS_inj e)⟩
theorem op_setSub:OpR X (binaryOp .Sub) (fun x y H Q=>∃ (p q:Addr) (ls:List Tx) (m:Tx),x = .ref p∧y = .ref q∧p≠q∧H p=some (setHO X p ls)∧H q=some (setHO X q [m])∧ls.Nodup∧ls.length<4000 ∧
  ∀ a,H a=none→Q (.ref a) (upd H a (setHO X a (lessT ls m)))):=by
 intro pins s σ H x y v u Q I rx ry h
 obtain⟨p,q,ls,m,rfl,rfl,hpq,hp,hq,nl,l1,k⟩:=h
 cases rx
 cases ry
 obtain⟨Sp,_,_⟩:=(show ObjOk X.prog X.w H s.heap p (setHO X p ls)from I.hok p _ hp)
 obtain⟨Sq,_,_⟩:=(show ObjOk X.prog X.w H s.heap q (setHO X q [m])from I.hok q _ hq)
 refine set_subT hpq Sp Sq (map_nodup nl) (by rw[List.length_map]; exact l1) fun h' S old=>?_
 rw[less_map]at S
 refine⟨.ref s.heap.objs.size,_,I.laid (t':=s.toks) (o:=setHO X s.heap.objs.size (lessT ls m)) old (Nat.le_refl _) ?_,rfl,k _ I.fresh⟩
 obtain⟨es,ep,t,ss,e,_⟩:=S.ex
 exact⟨S,⟨_,e⟩,fun h1 h2 q1 q2=>q1.at q2⟩
end
end L2
namespace Pu
open PySem PySem.Spec PyProof.Rows L2
section
variable{X:Cx}{E:XK}{e e2:Expr}{ds ds2:PEnv→R (List PV)}{p q q2 p4 pos pos' pos2:Pos}
def dSortSub(ds ds2:PEnv→R (List PV)):PEnv→R PO:=fun ε=>(ds ε).bind fun xs ε1=>(lift (lsT xs) ε1).bind fun ls ε1=>(ds2 ε1).bind fun ys ε2=>match ys with
 | [.lst [.str t]]=>.ok (.lst (txP (sortT (lessT ls t)))) ε2
 | _=>.no
theorem dn_sortSub(hc:X.calm=true)(ha:DA X E [e] ds)(hb:DA X E [e2] ds2)(hm:X.mg "sorted" = none)(hm2:X.mg "set" = none)(hg:Gl X "sorted":=by rfl)(hg2:Gl X "set":=by rfl)(h:isStar e=false:=by rfl)(h2:isStar e2=false:=by rfl) :
  DN X E (.Call (.Name "sorted" p) [.BinOp (.Call (.Name "set" q) [e] [] pos') .Sub (.Call (.Name "set" q2) [e2] [] pos2) p4] [] pos) (dSortSub ds ds2):=fun F S ε σ H Q rl h'=>by
 refine wp_e (pe_callB (call_sortedSet2 hc) hg hm bt_sorted (pa_cons (pe_op op_setSub (pe_callTy (call_setL hc) hg2 hm2 bt_set pa_wp (by decide) (by decide) (star_ne h) rfl) (pe_callTy (call_setL hc) hg2 hm2 bt_set pa_wp (by decide) (by decide) (star_ne h2) rfl)) pa_nil (star_ne rfl)) (by decide) (by decide) (star_ne rfl) rfl) ?_
 refine ha F S ε σ H _ rl ((Ok.bind h').imp fun xs ε1 F1 S1 H1 r1 g1 q1 vs rvs=>?_)
 cases e1:lsT xs with
 | none=>rw[e1]at q1; exact q1.elim
 | some ls =>
  rw[e1]at q1
  obtain⟨p,zs,rfl,hp,hz,rfl,hx⟩:=lsT_rep rvs e1
  refine⟨p,zs,rfl,hp,hz,fun a fa=>?_⟩
  have al1:Al F1 F1 H1 (upd H1 a (setHO X a (uniqT zs))):=Al.new0 fa
  have q2:Ok X.K E σ F1 S1 H1 ((ds2 ε1).bind fun ys ε2=>match ys with
   | [.lst [.str t]]=>R.ok (PO.lst (txP (sortT (lessT (uniqT zs) t)))) ε2
   | _=>.no) _:=q1
  have q3:=Ok.from q2 (al1.grow (O:=U S1))
  refine hb F1 S1 ε1 σ _ _ (r1.al al1) ((Ok.bind q3).imp fun ys ε2 F2 S2 H2 r2 g2 q4 vs2 rvs2=>?_)
  have hys:∃ t,ys=[.lst [.str t]]:=by
   revert q4
   split
   ·exact fun _=>⟨_,rfl⟩
   ·exact fun z=>z.elim
  obtain⟨t,rfl⟩:=hys
  have q5:Ok X.K E σ F2 S2 H2 (R.ok (PO.lst (txP (sortT (lessT (uniqT zs) t)))) ε2) _:=q4
  have elt:lsT [.lst [.str t]]=some [t]:=by
   rfl
  obtain⟨p2,zs2,rfl,hp2,hz2,hu2,hx2⟩:=lsT_rep rvs2 elt
  have na:¬ U S1 a:=fun⟨i,z⟩=>by
   obtain⟨_,_,o,w,_⟩:=r1.foot i a z
   rw[fa]at w; cases w
  have ha2:H2 a=some (setHO X a (uniqT zs)):=g2.keep a _ upd_same na
  refine⟨p2,zs2,rfl,hp2,hz2,fun b fb=>?_⟩
  have hab:a≠b:=by rintro rfl; rw[ha2]at fb; cases fb
  refine⟨a,b,uniqT zs,t,rfl,rfl,hab,by rw[upd_ne hab]; exact ha2,by rw[upd_same,← hu2],uniqT_nodupX _,hz,fun c fc=>?_⟩
  have hlen:(lessT (uniqT zs) t).length<4000:=Nat.lt_of_le_of_lt (List.length_filter_le _ _) hz
  refine⟨c,_,rfl,upd_same,hlen,fun l fl=>?_⟩
  have al2:Al F2 F2 H2 (upd (upd (upd H2 b (setHO X b (uniqT zs2))) c (setHO X c (lessT (uniqT zs) t))) l (.lst (tVs (sortT (lessT (uniqT zs) t))))):=((Al.new0 fb).trans (Al.new0 fc)).trans (Al.new0 fl)
  have hl0:H2 l=none:=by
   have h1:l≠c:=by rintro rfl; rw[upd_same]at fl; cases fl
   rw[upd_ne h1]at fl
   have h2:l≠b:=by rintro rfl; rw[upd_same]at fl; cases fl
   rwa[upd_ne h2]at fl
  refine q5 F2 S2 _ (r2.al al2) al2.grow l (fun c=>c=l) ⟨⟨_,upd_same,strs_rep.mpr ⟨rfl,fun x hx'=>hx x ((uniqT_mem _ _).mp (List.mem_filter.mp ((sortT_perm _).mem_iff.mp hx')).1)⟩⟩,fun c=>Iff.rfl⟩ fun d z=>?_
  subst z
  refine⟨fresh_back (g1.trans (al1.grow.trans g2)) hl0,fun z=>?_,fun⟨i,z⟩=>?_,_,upd_same,trivial⟩
  ·obtain⟨o,w⟩:=r2.ex _ z; rw[hl0]at w; cases w
  ·obtain⟨_,_,o,w,_⟩:=r2.foot i _ z; rw[hl0]at w; cases w
end
def max2P:List PV→Option PV
 | [.int i,.int j]=>some (.int (if j > i then j else i))
 | _=>none
theorem pl_max2{K:PySem.W.Frag}:PL K (fun xs H Q=>∃ i j,xs=[.int i,.int j]∧Q (.int (if j > i then j else i)) H) max2P:=fun F H xs vs Q pv rs e q=>by
 unfold max2P at e
 split at e
 ·cases e
  obtain⟨v,r',rfl,h2,h3⟩:=rs
  obtain⟨u,rfl,h4⟩:=reps1 h3
  exact⟨_,_,by rw[show v=V.int _ from h2,show u=V.int _ from h4],q _ F H (Al.refl ..) rfl⟩
 ·cases e
end Pu
local macro_rules | `(tactic| simp! [$xs,*]) => `(tactic| simp [Pu.dSeq, Pu.dIf, Pu.dB, Pu.d2, Pu.d1, Pu.dV, Pu.dC, Pu.dL, Pu.dF, Pu.dCons, Pu.dNil, Pu.dRet, Pu.dRetR, Pu.dSet, Pu.dOwn, Pu.dCall, Pu.gV, Pu.gO, Pu.gNil, Pu.putR, Pu.keptO, Pu.owns, Pu.argS, Pu.putS, Pu.R.bind, Pu.lift, Pu.grd, Pu.ownsIn, Pu.fnD, Pu.back, Pu.flatO, Pu.isB, Pu.isI, Pu.frzO, Pu.frzS, Pu.newS, Pu.dRE, Pu.dRN, Pu.lstP, Pu.tupP, Pu.dNext, Pu.dStop, Pu.dDropR, Pu.dDrop, Pu.dNot, Pu.dNotV, Pu.dAnd, Pu.dOr, Pu.dAndV, Pu.dOrV, Pu.dChain, Pu.cmpI, Pu.ownL, Pu.dApp, Pu.dOwn1, Pu.immO, Pu.imm, Pu.immN, Pu.imms, List.replicate, List.length, $xs,*])
namespace Sh
open PySem L2 Pu
set_option genInjectivity false in
structure Ad where
 SlitError:Addr
 NoText:Addr
 NoWidth:Addr
 NoView:Addr
 NoWindow:Addr
 Never:Addr
 Full:Addr
 Nothing:Addr
 Unlike:Addr
 NoPlace:Addr
 NoLetters:Addr
 BadText:Addr
 Seeker:Addr
 Slit:Addr
def d_has_only(a:Ad):PEnv→R Flw:=dRet (dL allP (dCons (dF (dComp [1] (dItems (dV 0)) (dYes) (d2 (inP false) (dV 0) (dV 1)))) (dNil)))
def g_has_only(a:Ad):PEnv→R Slot:=grd 2 [] (fnD 0 (d_has_only a))
def d_is_whole_number(a:Ad):PEnv→R Flw:=dRet (dAndV (dL isiP (dCons (dV 0) (dCons (dC (.raw (.ty "int"))) (dNil)))) (dNotV (dL isiP (dCons (dV 0) (dCons (dC (.raw (.ty "bool"))) (dNil))))))
def g_is_whole_number(a:Ad):PEnv→R Slot:=grd 1 [] (fnD 0 (d_is_whole_number a))
def d_is_width(a:Ad):PEnv→R Flw:=dRet (dAndV (dRE (dCall (g_is_whole_number a) (gV (dV 0) (gNil)))) (dChain (cmpI fun i j=>decide (i≤j)) (cmpI fun i j=>decide (i≤j)) (dC (.int 1)) (dV 0) (dC (.int 4))))
def g_is_width(a:Ad):PEnv→R Slot:=grd 1 [] (fnD 0 (d_is_width a))
def d_view_of(a:Ad):PEnv→R Flw:=dSeq (dIf (dNot (dB (dChain (cmpI fun i j=>decide (i≤j)) (cmpI fun i j=>decide (i≤j)) (dC (.int 1)) (dL lenP (dCons (dV 1) (dNil))) (dC (.int 9))))) (dRaise (.ref a.NoView) (fun ε=>noE ((dC (.str [97,32,118,105,101,119,32,104,97,115,32,49,32,116,111,32,57,32,119,105,110,100,111,119,115])) ε))) (dNext))
 (dRet (dL tupP (dCons (dV 0) (dCons (dL tupleP (dCons (dF (dL sortP2 (dCons (dV 1) (dNil)))) (dNil))) (dNil)))))
def g_view_of(a:Ad):PEnv→R Slot:=grd 2 [] (fnD 0 (d_view_of a))
def d_law_cell_at(a:Ad):PEnv→R Flw:=dSeq (dIf (dB (d2 (cmpI fun i j=>decide (i<j)) (dV 1) (dL lenP (dCons (dV 0) (dNil))))) (dRet (d2 ixP (dV 0) (dV 1))) (dNext))
 (dSeq (dIf (dB (d2 (eqT false) (dV 0) (dF (dL lstP (dNil))))) (dRet (dC (.int 0))) (dNext))
 (dRet (d2 addP (d2 mulP (d2 ixP (dV 0) (d2 modP (dV 1) (dL lenP (dCons (dV 0) (dNil))))) (dC (.int 31))) (dV 1))))
def g_law_cell_at(a:Ad):PEnv→R Slot:=grd 2 [] (fnD 0 (d_law_cell_at a))
def d_law_mixed(a:Ad):PEnv→R Flw:=dSeq (dSet 3 (d2 modP (d2 addP (d2 addP (d2 mulP (dRE (dCall (g_law_cell_at a) (gV (dV 0) (gV (dV 1) (gNil))))) (dC (.int 1103515245))) (d2 mulP (dC (.int 7919)) (dV 1))) (dC (.int 12345))) (dC (.int 2147483647))))
 (dRet (d2 modP (d2 modP (d2 modP (d2 powP (dV 3) (dC (.int 5))) (dC (.int 2147483647))) (dC (.int 999983))) (dV 2)))
def g_law_mixed(a:Ad):PEnv→R Slot:=grd 3 [] (fnD 1 (d_law_mixed a))
def d_law_draw(a:Ad):PEnv→R Flw:=dSeq (dApp 1 (dC (.int 0)))
 (dRetR (dCall (g_law_mixed a) (gV (dV 0) (gV (dOwn1 (fun xs=>immO (lenP xs)) 1) (gV (dV 2) (gNil))))))
def g_law_draw(a:Ad):PEnv→R Slot:=grd 3 [1] (fnD 0 (d_law_draw a))
def d_law_pick(a:Ad):PEnv→R Flw:=dRet (d2 ixP (dV 2) (dRE (dCall (g_law_draw a) (gV (dV 0) (gO 1 (gV (dL lenP (dCons (dV 2) (dNil))) (gNil)))))))
def g_law_pick(a:Ad):PEnv→R Slot:=grd 3 [1] (fnD 0 (d_law_pick a))
def d_law_text(a:Ad):PEnv→R Flw:=dSeq (dSet 4 (dRE (dCall (g_law_pick a) (gV (dV 0) (gO 1 (gV (dF (dL lstP (dCons (dC (.int 1)) (dCons (dC (.int 2)) (dCons (dC (.int 2)) (dCons (dC (.int 3)) (dCons (dC (.int 3)) (dCons (dC (.int 3)) (dNil))))))))) (gNil)))))))
 (dSeq (dSet 5 (dC (.str [])))
 (dSeq (fun ε=>noEr (dFor 6 (dL range1 (dCons (d2 addP (dV 2) (dRE (dCall (g_law_draw a) (gV (dV 0) (gO 1 (gV (d2 addP (d2 subP (dV 3) (dV 2)) (dC (.int 1))) (gNil))))))) (dNil))) (dSet 5 (d2 addP (dV 5) (d2 ixP (dC (.str [97,98,99])) (dRE (dCall (g_law_draw a) (gV (dV 0) (gO 1 (gV (dV 4) (gNil))))))))) ε))
 (dRet (dV 5))))
def g_law_text(a:Ad):PEnv→R Slot:=grd 4 [1] (fnD 3 (d_law_text a))
def d_is_text_up_to(a:Ad):PEnv→R Flw:=dRet (dAndV (dL isiP (dCons (dV 0) (dCons (dC (.raw (.ty "str"))) (dNil)))) (dAndV (dChain (cmpI fun i j=>decide (i≤j)) (cmpI fun i j=>decide (i≤j)) (dC (.int 1)) (dL lenP (dCons (dV 0) (dNil))) (dV 1)) (dRE (dCall (g_has_only a) (gV (dV 0) (gV (dC (.str [97,98,99])) (gNil)))))))
def g_is_text_up_to(a:Ad):PEnv→R Slot:=grd 2 [] (fnD 0 (d_is_text_up_to a))
def d_check_text(a:Ad):PEnv→R Flw:=dIf (dNot (dB (dRE (dCall (g_is_text_up_to a) (gV (dV 0) (gV (dC (.int 12)) (gNil))))))) (dRaise (.ref a.NoText) (fun ε=>noE ((dC (.str [97,32,116,101,120,116,32,104,97,115,32,49,32,116,111,32,49,50,32,108,101,116,116,101,114,115,32,97,44,32,98,44,32,99])) ε))) (dNext)
def g_check_text(a:Ad):PEnv→R Slot:=grd 1 [] (fnD 0 (d_check_text a))
def d_check_width(a:Ad):PEnv→R Flw:=dIf (dNot (dB (dRE (dCall (g_is_width a) (gV (dV 0) (gNil)))))) (dRaise (.ref a.NoWidth) (fun ε=>noE ((dC (.str [97,32,119,105,100,116,104,32,105,115,32,97,32,119,104,111,108,101,32,110,117,109,98,101,114,32,102,114,111,109,32,49,32,116,111,32,52])) ε))) (dNext)
def g_check_width(a:Ad):PEnv→R Slot:=grd 1 [] (fnD 0 (d_check_width a))
def d_pieces(a:Ad):PEnv→R Flw:=dRetN (dComp [0,1] (dL range1 (dCons (d2 addP (d2 subP (dL lenP (dCons (dV 0) (dNil))) (dV 1)) (dC (.int 1))) (dNil))) (dYes) (dSl slP (dV 1) (dPart (dV 0)) (dPart (d2 addP (dV 0) (dV 2)))))
def g_pieces(a:Ad):PEnv→R Slot:=grd 2 [] (fnD 0 (d_pieces a))
def d_text_view(a:Ad):PEnv→R Flw:=dSeq (dDropR (dCall (g_check_text a) (gV (dV 0) (gNil))))
 (dSeq (dDropR (dCall (g_check_width a) (gV (dV 1) (gNil))))
 (dRetR (dCall (g_view_of a) (gV (dV 1) (gV (dRE (dCall (g_pieces a) (gV (dV 0) (gV (dV 1) (gNil))))) (gNil))))))
def g_text_view(a:Ad):PEnv→R Slot:=grd 2 [] (fnD 0 (d_text_view a))
def d_unrolled(a:Ad):PEnv→R Flw:=dRet (dSl slP (d2 mulP (dV 0) (dV 1)) (dNo) (dPart (d2 subP (d2 addP (dL lenP (dCons (dV 0) (dNil))) (dV 1)) (dC (.int 1)))))
def g_unrolled(a:Ad):PEnv→R Slot:=grd 2 [] (fnD 0 (d_unrolled a))
def d_exchanges_from(a:Ad):PEnv→R Flw:=dSeq (dOwn 4 (dL lstP (dNil)))
 (dSeq (fun ε=>noEr (dFor 5 (dL range2 (dCons (d2 addP (dV 2) (dC (.int 1))) (dCons (d2 addP (dV 3) (dC (.int 1))) (dNil)))) (dFor 6 (dL range2 (dCons (d2 addP (dV 3) (dC (.int 1))) (dCons (dL lenP (dCons (dV 1) (dNil))) (dNil)))) (dIf (dB (d2 (eqT false) (d2 ixP (dV 1) (dV 5)) (d2 ixP (dV 1) (dV 6)))) (dApp 4 (d2 addP (d2 addP (d2 addP (d2 addP (dSl slP (dV 0) (dNo) (dPart (dV 2))) (dSl slP (dV 0) (dPart (dV 3)) (dPart (dV 6)))) (dSl slP (dV 0) (dPart (dV 5)) (dPart (dV 3)))) (dSl slP (dV 0) (dPart (dV 2)) (dPart (dV 5)))) (dSl slP (dV 0) (dPart (dV 6)) (dNo)))) (dNext))) ε))
 (dRetM 4))
def g_exchanges_from(a:Ad):PEnv→R Slot:=grd 4 [] (fnD 3 (d_exchanges_from a))
def d_exchanges(a:Ad):PEnv→R Flw:=dSeq (dOwn 2 (dL lstP (dNil)))
 (dSeq (fun ε=>noEr (dFor 3 (dL range1 (dCons (dL lenP (dCons (dV 1) (dNil))) (dNil))) (dFor 4 (dL range2 (dCons (d2 addP (dV 3) (dC (.int 1))) (dCons (dL lenP (dCons (dV 1) (dNil))) (dNil)))) (dIf (dB (d2 (eqT false) (d2 ixP (dV 1) (dV 3)) (d2 ixP (dV 1) (dV 4)))) (dExt 2 (dRE (dCall (g_exchanges_from a) (gV (dV 0) (gV (dV 1) (gV (dV 3) (gV (dV 4) (gNil)))))))) (dNext))) ε))
 (dRetM 2))
def g_exchanges(a:Ad):PEnv→R Slot:=grd 2 [] (fnD 3 (d_exchanges a))
def d_turns(a:Ad):PEnv→R Flw:=dSeq (dIf (dB (d2 (eqT true) (d2 ixP (dV 1) (dC (.int 0))) (d2 ixP (dV 1) (d1 negP (dC (.int 1)))))) (dRetN (dL lstP (dNil))) (dNext))
 (dSeq (dSet 3 (dSl slP (dV 0) (dNo) (dPart (d2 subP (dL lenP (dCons (dV 1) (dNil))) (dC (.int 1))))))
 (dRetN (dComp [3,2] (dL range2 (dCons (dC (.int 1)) (dCons (dL lenP (dCons (dV 3) (dNil))) (dNil)))) (dYes) (dRE (dCall (g_unrolled a) (gV (d2 addP (dSl slP (dV 1) (dPart (dV 0)) (dNo)) (dSl slP (dV 1) (dNo) (dPart (dV 0)))) (gV (dV 2) (gNil))))))))
def g_turns(a:Ad):PEnv→R Slot:=grd 3 [] (fnD 1 (d_turns a))
def d_one_step_off(a:Ad):PEnv→R Flw:=dSeq (dSet 2 (dRE (dCall (g_pieces a) (gV (dV 0) (gV (d2 subP (dV 1) (dC (.int 1))) (gNil))))))
 (dRetN (dSortSub (dCons (d2 addP (dRE (dCall (g_exchanges a) (gV (dV 0) (gV (dV 2) (gNil))))) (dRE (dCall (g_turns a) (gV (dV 0) (gV (dV 2) (gV (dV 1) (gNil))))))) (dNil)) (dCons (dF (dL lstP (dCons (dV 0) (dNil)))) (dNil))))
def g_one_step_off(a:Ad):PEnv→R Slot:=grd 2 [] (fnD 1 (d_one_step_off a))
def d_exchanged(a:Ad):PEnv→R Flw:=dSeq (dDropR (dCall (g_text_view a) (gV (dV 0) (gV (dV 1) (gNil)))))
 (dRetR (dCall (g_one_step_off a) (gV (dV 0) (gV (dV 1) (gNil)))))
def g_exchanged(a:Ad):PEnv→R Slot:=grd 2 [] (fnD 0 (d_exchanged a))
def d_law_like(a:Ad):PEnv→R Flw:=dSeq (dSet 4 (d2 addP (dC (.int 1)) (dRE (dCall (g_law_pick a) (gV (dV 0) (gO 1 (gV (dF (dL lstP (dCons (dC (.int 1)) (dCons (dC (.int 1)) (dCons (dC (.int 2)) (dCons (dC (.int 2)) (dCons (dC (.int 3)) (dNil)))))))) (gNil))))))))
 (dSeq (dSet 5 (dRE (dCall (g_law_text a) (gV (dV 0) (gO 1 (gV (dV 2) (gV (dC (.int 4)) (gNil))))))))
 (dSeq (fun ε=>noEr (whileD (dB (d2 (cmpI fun i j=>decide (i<j)) (dL lenP (dCons (dV 5) (dNil))) (d2 subP (dV 3) (dC (.int 2))))) (dSet 5 (d2 addP (dV 5) (dRE (dCall (g_law_pick a) (gV (dV 0) (gO 1 (gV (dF (dL lstP (dCons (dSl slP (dV 5) (dNo) (dPart (dC (.int 2)))) (dCons (dSl slP (dV 5) (dNo) (dPart (dC (.int 3)))) (dCons (dSl slP (dV 5) (dPart (dC (.int 1))) (dPart (dC (.int 3)))) (dCons (dC (.str [97])) (dCons (dC (.str [98])) (dCons (dSl slP (dV 5) (dPart (d1 negP (dC (.int 2)))) (dNo)) (dNil))))))))) (gNil)))))))) 1000 ε))
 (dRet (dL tupP (dCons (dSl slP (dV 5) (dNo) (dPart (dL max2P (dCons (dV 4) (dCons (d2 subP (dV 3) (dRE (dCall (g_law_draw a) (gV (dV 0) (gO 1 (gV (dC (.int 3)) (gNil))))))) (dNil)))))) (dCons (dV 4) (dNil)))))))
def g_law_like(a:Ad):PEnv→R Slot:=grd 4 [1] (fnD 2 (d_law_like a))
def d_alike(a:Ad):PEnv→R Flw:=dSeq (dSet 3 (dRE (dCall (g_text_view a) (gV (dV 0) (gV (dV 2) (gNil))))))
 (dRet (d2 (eqT false) (dV 3) (dRE (dCall (g_text_view a) (gV (dV 1) (gV (dV 2) (gNil)))))))
def g_alike(a:Ad):PEnv→R Slot:=grd 3 [] (fnD 1 (d_alike a))
end Sh
namespace K17
open PySem PySem.Spec PyProof.Rows L2 Pu Sh
def top(i:Nat):Stmt:=PySem.Challenge.pw_slitview_k17_whole_same_view.main.body.getD i (.Pass ⟨0,0,0,0⟩)
noncomputable abbrev s_law_cell_at:Stmt:=top 29
noncomputable abbrev s_law_mixed:Stmt:=top 30
noncomputable abbrev s_law_draw:Stmt:=top 31
noncomputable abbrev s_law_pick:Stmt:=top 32
noncomputable abbrev s_law_text:Stmt:=top 33
noncomputable abbrev s_law_like:Stmt:=top 34
noncomputable abbrev s_has_only:Stmt:=top 10
noncomputable abbrev s_is_text_up_to:Stmt:=top 12
noncomputable abbrev s_check_text:Stmt:=top 14
noncomputable abbrev s_is_whole_number:Stmt:=top 11
noncomputable abbrev s_is_width:Stmt:=top 13
noncomputable abbrev s_check_width:Stmt:=top 15
noncomputable abbrev s_view_of:Stmt:=top 17
noncomputable abbrev s_pieces:Stmt:=top 16
noncomputable abbrev s_text_view:Stmt:=top 18
noncomputable abbrev s_exchanges_from:Stmt:=top 23
noncomputable abbrev s_exchanges:Stmt:=top 24
noncomputable abbrev s_unrolled:Stmt:=top 19
noncomputable abbrev s_turns:Stmt:=top 25
noncomputable abbrev s_one_step_off:Stmt:=top 26
noncomputable abbrev s_exchanged:Stmt:=top 27
noncomputable abbrev s_alike:Stmt:=top 21
noncomputable abbrev s_law:Stmt:=top 35
def clsL(a:Ad):List Addr:=[a.NoText,a.NoWidth,a.NoView]
structure Facts(K:PySem.W.Frag)(mg:Str→Option Value)(base:Heap)(a:Ad):Prop where
 d_law_cell_at:Def K mg "_law_cell_at" s_law_cell_at
 d_law_mixed:Def K mg "_law_mixed" s_law_mixed
 d_law_draw:Def K mg "_law_draw" s_law_draw
 d_law_pick:Def K mg "_law_pick" s_law_pick
 d_law_text:Def K mg "_law_text" s_law_text
 d_law_like:Def K mg "_law_like" s_law_like
 d_has_only:Def K mg "has_only" s_has_only
 d_is_text_up_to:Def K mg "is_text_up_to" s_is_text_up_to
 d_check_text:Def K mg "check_text" s_check_text
 d_is_whole_number:Def K mg "is_whole_number" s_is_whole_number
 d_is_width:Def K mg "is_width" s_is_width
 d_check_width:Def K mg "check_width" s_check_width
 d_view_of:Def K mg "view_of" s_view_of
 d_pieces:Def K mg "pieces" s_pieces
 d_text_view:Def K mg "text_view" s_text_view
 d_exchanges_from:Def K mg "exchanges_from" s_exchanges_from
 d_exchanges:Def K mg "exchanges" s_exchanges
 d_unrolled:Def K mg "unrolled" s_unrolled
 d_turns:Def K mg "turns" s_turns
 d_one_step_off:Def K mg "one_step_off" s_one_step_off
 d_exchanged:Def K mg "exchanged" s_exchanged
 d_alike:Def K mg "alike" s_alike
 d_law:Def K mg "law" s_law
 m_all:mg "all" = none
 m_bool:mg "bool" = none
 m_int:mg "int" = none
 m_isinstance:mg "isinstance" = none
 m_len:mg "len" = none
 m_max:mg "max" = none
 m_range:mg "range" = none
 m_set:mg "set" = none
 m_sorted:mg "sorted" = none
 m_str:mg "str" = none
 m_tuple:mg "tuple" = none
 v_LETTERS:∃ t,mg "LETTERS" = some (.str (tS [97,98,99]) t)
 v_MOST_LETTERS:∃ t,mg "MOST_LETTERS" = some (.int 12 t)
 v_MOST_WINDOWS:∃ t,mg "MOST_WINDOWS" = some (.int 9 t)
 v_WIDEST:∃ t,mg "WIDEST" = some (.int 4 t)
 c_SlitError:mg "SlitError" = some (.ref a.SlitError)
 c_NoText:mg "NoText" = some (.ref a.NoText)
 c_NoWidth:mg "NoWidth" = some (.ref a.NoWidth)
 c_NoView:mg "NoView" = some (.ref a.NoView)
 o_NoText:OwnCls "NoText" a.NoText [.type "ValueError",.type "Exception",.type "BaseException",.type "object"] "ValueError.__new__" mg base
 o_NoWidth:OwnCls "NoWidth" a.NoWidth [.type "ValueError",.type "Exception",.type "BaseException",.type "object"] "ValueError.__new__" mg base
 o_NoView:OwnCls "NoView" a.NoView [.type "ValueError",.type "Exception",.type "BaseException",.type "object"] "ValueError.__new__" mg base
section
variable{P:Program}{w:World}{K:PySem.W.Frag}{mg:Str→Option Value}{base:Heap}{a:Ad}
theorem sc_law_cell_at:FnScope ["_law_script","_law_k"] ["_law_script","_law_k"] (defScope s_law_cell_at):=⟨rfl,rfl,rfl,by decide +kernel,rfl,by decide +kernel,by decide +kernel⟩
theorem c_law_cell_at(G:Facts K mg base a):CalX (CXE P w) P w K mg base "_law_cell_at" 1 ["_law_script","_law_k"] (spG K (g_law_cell_at a)) :=
 cal_gen (k:=0) (pin:=[]) G.d_law_cell_at sc_law_cell_at rfl (fun _ _ _ _ _ _ us hl=>Pu.argB2 (fun _ _=>rfl) us hl) (fun f cdv A outer s H E hr=>by exact
  (dss_cons (ds_if (dt_cmp op_lt p2_cmpI (de_var 1) (de_callB call_len pl_len G.m_len bt_len (da_c (de_var 0) da_nil)) rfl) (dss_one (ds_ret (de_ix ix_seq p2_ix (de_var 0) (de_var 1)))) dss_nil)
  (dss_cons (ds_if (dt_cmp (op_eqA hr.units) p2_eq (de_var 0) (de_lst da_nil) rfl) (dss_one (ds_ret de_int)) dss_nil)
  (dss_one (ds_ret (de_op op_addQ p2_add (de_op op_mulQ p2_mul (de_ix ix_seq p2_ix (de_var 0) (de_op op_mod p2_mod (de_var 1) (de_callB call_len pl_len G.m_len bt_len (da_c (de_var 0) da_nil)))) de_int) (de_var 1)))))))
theorem sc_law_mixed:FnScope ["_law_script","_law_k","_law_many","_law_drawn"] ["_law_script","_law_k","_law_many"] (defScope s_law_mixed):=⟨rfl,rfl,rfl,by decide +kernel,rfl,by decide +kernel,by decide +kernel⟩
theorem c_law_mixed(G:Facts K mg base a):CalX (CXE P w) P w K mg base "_law_mixed" 2 ["_law_script","_law_k","_law_many"] (spG K (g_law_mixed a)) :=
 cal_gen (k:=1) (pin:=[]) G.d_law_mixed sc_law_mixed rfl (fun _ _ _ _ _ _ us hl=>Pu.argB3 (fun _ _ _=>rfl) us hl) (fun f cdv A outer s H E hr=>by exact
  (dss_cons (ds_set 3 sc_law_mixed.nd (de_op op_mod p2_mod (de_op op_addQ p2_add (de_op op_addQ p2_add (de_op op_mulQ p2_mul ((dr_call (c_law_cell_at G) (hr.mono (by decide)) passE (dg_w (de_var 0) (dg_w (de_var 1) dg_nil)))).de de_int) (de_op op_mulQ p2_mul de_int (de_var 1))) de_int) de_int))
  (dss_one (ds_ret (de_op op_mod p2_mod (de_op op_mod p2_mod (de_op op_mod p2_mod (de_op op_pow p2_pow (de_var 3) de_int) de_int) de_int) (de_var 2))))))
theorem sc_law_draw:FnScope ["_law_script","_law_town","_law_many"] ["_law_script","_law_town","_law_many"] (defScope s_law_draw):=⟨rfl,rfl,rfl,by decide +kernel,rfl,by decide +kernel,by decide +kernel⟩
theorem c_law_draw(G:Facts K mg base a):CalX (CXE P w) P w K mg base "_law_draw" 3 ["_law_script","_law_town","_law_many"] (spG K (g_law_draw a)) :=
 cal_gen (k:=2) (pin:=[1]) G.d_law_draw sc_law_draw rfl (fun _ _ _ _ _ _ us hl=>Pu.argB3 (fun _ _ _=>rfl) us hl) (fun f cdv A outer s H E hr=>by exact
  (dss_cons (ds_append 1 de_int)
  (dss_one (ds_retR (dr_call (c_law_mixed G) (hr.mono (by decide)) passE (dg_w (de_var 0) (dg_w (de_own1B 1 call_len pl_len G.m_len bt_len) (dg_w (de_var 2) dg_nil))))))))
theorem sc_law_pick:FnScope ["_law_script","_law_town","_law_some"] ["_law_script","_law_town","_law_some"] (defScope s_law_pick):=⟨rfl,rfl,rfl,by decide +kernel,rfl,by decide +kernel,by decide +kernel⟩
theorem c_law_pick(G:Facts K mg base a):CalX (CXE P w) P w K mg base "_law_pick" 4 ["_law_script","_law_town","_law_some"] (spG K (g_law_pick a)) :=
 cal_gen (k:=3) (pin:=[1]) G.d_law_pick sc_law_pick rfl (fun _ _ _ _ _ _ us hl=>Pu.argB3 (fun _ _ _=>rfl) us hl) (fun f cdv A outer s H E hr=>by exact
  (dss_one (ds_ret (de_ix ix_seq p2_ix (de_var 2) ((dr_call (c_law_draw G) (hr.mono (by decide)) passE (dg_w (de_var 0) (dg_o 1 (dg_w (de_callB call_len pl_len G.m_len bt_len (da_c (de_var 2) da_nil)) dg_nil))))).de))))
theorem sc_law_text:FnScope ["_law_script","_law_town","_law_low","_law_most","_law_few","_law_made","_law_k"] ["_law_script","_law_town","_law_low","_law_most"] (defScope s_law_text):=⟨rfl,rfl,rfl,by decide +kernel,rfl,by decide +kernel,by decide +kernel⟩
theorem c_law_text(G:Facts K mg base a):CalX (CXE P w) P w K mg base "_law_text" 5 ["_law_script","_law_town","_law_low","_law_most"] (spG K (g_law_text a)) :=
 cal_gen (k:=4) (pin:=[1]) G.d_law_text sc_law_text rfl (fun _ _ _ _ _ _ us hl=>Pu.argB4 (fun _ _ _ _=>rfl) us hl) (fun f cdv A outer s H E hr=>by exact
  (dss_cons (ds_set 4 sc_law_text.nd ((dr_call (c_law_pick G) (hr.mono (by decide)) passE (dg_w (de_var 0) (dg_o 1 (dg_w (de_lst (da_c de_int (da_c de_int (da_c de_int (da_c de_int (da_c de_int (da_c de_int da_nil))))))) dg_nil))))).de)
  (dss_cons (ds_set 5 sc_law_text.nd (de_str []))
  (dss_cons (ds_nox (ds_for 6 PassesOwn.never rfl sc_law_text.nd (di_range1 G.m_range (da_c (de_op op_addQ p2_add (de_var 2) ((dr_call (c_law_draw G) (hr.mono (by decide)) passE0 (dg_w (de_var 0) (dg_o 1 (dg_w (de_op op_addQ p2_add (de_op op_sub p2_sub (de_var 3) (de_var 2)) de_int) dg_nil))))).de) da_nil)) (dss_one (ds_set 5 sc_law_text.nd (de_op op_addQ p2_add (de_var 5) (de_ix ix_seq p2_ix (de_str [97,98,99]) ((dr_call (c_law_draw G) (hr.mono (by decide)) passE0 (dg_w (de_var 0) (dg_o 1 (dg_w (de_var 4) dg_nil))))).de))))))
  (dss_one (ds_ret (de_var 5)))))))
theorem sc_law_like:FnScope ["_law_script","_law_town","_law_low","_law_most","_law_width","_law_made"] ["_law_script","_law_town","_law_low","_law_most"] (defScope s_law_like):=⟨rfl,rfl,rfl,by decide +kernel,rfl,by decide +kernel,by decide +kernel⟩
theorem c_law_like(G:Facts K mg base a):CalX (CXE P w) P w K mg base "_law_like" 6 ["_law_script","_law_town","_law_low","_law_most"] (spG K (g_law_like a)) :=
 cal_gen (k:=5) (pin:=[1]) G.d_law_like sc_law_like rfl (fun _ _ _ _ _ _ us hl=>Pu.argB4 (fun _ _ _ _=>rfl) us hl) (fun f cdv A outer s H E hr=>by exact
  (dss_cons (ds_set 4 sc_law_like.nd (de_op op_addQ p2_add de_int ((dr_call (c_law_pick G) (hr.mono (by decide)) passE (dg_w (de_var 0) (dg_o 1 (dg_w (de_lst (da_c de_int (da_c de_int (da_c de_int (da_c de_int (da_c de_int da_nil)))))) dg_nil))))).de))
  (dss_cons (ds_set 5 sc_law_like.nd ((dr_call (c_law_text G) (hr.mono (by decide)) passE (dg_w (de_var 0) (dg_o 1 (dg_w (de_var 2) (dg_w de_int dg_nil)))))).de)
  (dss_cons (ds_nox (ds_while (fun _=>1000) PassesOwn.never (dt_cmp op_lt p2_cmpI (de_callB call_len pl_len G.m_len bt_len (da_c (de_var 5) da_nil)) (de_op op_sub p2_sub (de_var 3) de_int) rfl) (dss_one (ds_set 5 sc_law_like.nd (de_op op_addQ p2_add (de_var 5) ((dr_call (c_law_pick G) (hr.mono (by decide)) passE0 (dg_w (de_var 0) (dg_o 1 (dg_w (de_lst (da_c (de_slice sl_A psl_A (de_var 5) do_none (do_some de_int)) (da_c (de_slice sl_A psl_A (de_var 5) do_none (do_some de_int)) (da_c (de_slice sl_A psl_A (de_var 5) (do_some de_int) (do_some de_int)) (da_c (de_str [97]) (da_c (de_str [98]) (da_c (de_slice sl_A psl_A (de_var 5) (do_some (de_un un_neg p1_neg de_int)) do_none) da_nil))))))) dg_nil))))).de)))))
  (dss_one (ds_ret (de_tup (da_c (de_slice sl_A psl_A (de_var 5) do_none (do_some (de_callB (call_max2 rfl) pl_max2 G.m_max bt_max (da_c (de_var 4) (da_c (de_op op_sub p2_sub (de_var 3) ((dr_call (c_law_draw G) (hr.mono (by decide)) passE (dg_w (de_var 0) (dg_o 1 (dg_w de_int dg_nil))))).de) da_nil))))) (da_c (de_var 4) da_nil)))))))))
theorem sc_has_only:FnScope ["text","signs"] ["text","signs"] (defScope s_has_only):=⟨rfl,rfl,rfl,by decide +kernel,rfl,by decide +kernel,by decide +kernel⟩
theorem c_has_only(G:Facts K mg base a):CalX (CXE P w) P w K mg base "has_only" 1 ["text","signs"] (spG K (g_has_only a)) :=
 cal_gen (k:=0) (pin:=[]) G.d_has_only sc_has_only rfl (fun _ _ _ _ _ _ us hl=>Pu.argB2 (fun _ _=>rfl) us hl) (fun f cdv A outer s H E hr=>by exact
  (dss_one (ds_ret (de_callB (call_allB rfl) pl_all G.m_all bt_all (da_c (dn_comp (cap:=[1]) (N':=["sign","signs"]) (BlkOk.of ["text","signs"] (defScope s_has_only) rfl rfl (by decide +kernel)) rfl (di_seq (de_var 0)) (fun C s₀ H₀ ex pn=>by exact df_nil) (fun C s₀ H₀ ex pn=>by exact(de_cmp op_inA p2_in (de_var 0) (de_var 1) rfl))).de da_nil)))))
theorem sc_is_text_up_to:FnScope ["thing","most"] ["thing","most"] (defScope s_is_text_up_to):=⟨rfl,rfl,rfl,by decide +kernel,rfl,by decide +kernel,by decide +kernel⟩
theorem c_is_text_up_to(G:Facts K mg base a):CalX (CXE P w) P w K mg base "is_text_up_to" 2 ["thing","most"] (spG K (g_is_text_up_to a)) :=
 cal_gen (k:=1) (pin:=[]) G.d_is_text_up_to sc_is_text_up_to rfl (fun _ _ _ _ _ _ us hl=>Pu.argB2 (fun _ _=>rfl) us hl) (fun f cdv A outer s H E hr=>by exact
  (dss_one (ds_ret (de_and (de_callB call_isi pl_isi G.m_isinstance bt_isinstance (da_c (de_var 0) (da_c (de_bty G.m_str bt_str) da_nil))) (de_and (de_chain op_le op_le p2_cmpI p2_cmpI de_int (de_callB call_len pl_len G.m_len bt_len (da_c (de_var 0) da_nil)) (de_var 1)) (de_one ((dr_call (c_has_only G) (hr.mono (by decide)) passE (dg_w (de_var 0) (dg_w (de_gstr G.v_LETTERS) dg_nil)))).de))))))
theorem sc_check_text:FnScope ["thing"] ["thing"] (defScope s_check_text):=⟨rfl,rfl,rfl,by decide +kernel,rfl,by decide +kernel,by decide +kernel⟩
theorem c_check_text(G:Facts K mg base a):CalX (CXE P w) P w K mg base "check_text" 3 ["thing"] (spG K (g_check_text a)) :=
 cal_gen (k:=2) (pin:=[]) G.d_check_text sc_check_text rfl (fun _ _ _ _ _ _ us hl=>Pu.argB1 (fun _=>rfl) us hl) (fun f cdv A outer s H E hr=>by exact
  (dss_one (ds_if (dt_not (dt_val ((dr_call (c_is_text_up_to G) (hr.mono (by decide)) passE (dg_w (de_var 0) (dg_w (de_gint G.v_MOST_LETTERS) dg_nil)))).de)) (dss_one (ds_raise raisesE rfl G.o_NoText PySem.F.excBase_ValueError (de_str [97,32,116,101,120,116,32,104,97,115,32,49,32,116,111,32,49,50,32,108,101,116,116,101,114,115,32,97,44,32,98,44,32,99]))) dss_nil)))
theorem sc_is_whole_number:FnScope ["thing"] ["thing"] (defScope s_is_whole_number):=⟨rfl,rfl,rfl,by decide +kernel,rfl,by decide +kernel,by decide +kernel⟩
theorem c_is_whole_number(G:Facts K mg base a):CalX (CXE P w) P w K mg base "is_whole_number" 1 ["thing"] (spG K (g_is_whole_number a)) :=
 cal_gen (k:=0) (pin:=[]) G.d_is_whole_number sc_is_whole_number rfl (fun _ _ _ _ _ _ us hl=>Pu.argB1 (fun _=>rfl) us hl) (fun f cdv A outer s H E hr=>by exact
  (dss_one (ds_ret (de_and (de_callB call_isi pl_isi G.m_isinstance bt_isinstance (da_c (de_var 0) (da_c (de_bty G.m_int bt_int) da_nil))) (de_one (de_not (de_callB call_isi pl_isi G.m_isinstance bt_isinstance (da_c (de_var 0) (da_c (de_bty G.m_bool bt_bool) da_nil)))))))))
theorem sc_is_width:FnScope ["thing"] ["thing"] (defScope s_is_width):=⟨rfl,rfl,rfl,by decide +kernel,rfl,by decide +kernel,by decide +kernel⟩
theorem c_is_width(G:Facts K mg base a):CalX (CXE P w) P w K mg base "is_width" 2 ["thing"] (spG K (g_is_width a)) :=
 cal_gen (k:=1) (pin:=[]) G.d_is_width sc_is_width rfl (fun _ _ _ _ _ _ us hl=>Pu.argB1 (fun _=>rfl) us hl) (fun f cdv A outer s H E hr=>by exact
  (dss_one (ds_ret (de_and ((dr_call (c_is_whole_number G) (hr.mono (by decide)) passE (dg_w (de_var 0) dg_nil))).de (de_one (de_chain op_le op_le p2_cmpI p2_cmpI de_int (de_var 0) (de_gint G.v_WIDEST)))))))
theorem sc_check_width:FnScope ["thing"] ["thing"] (defScope s_check_width):=⟨rfl,rfl,rfl,by decide +kernel,rfl,by decide +kernel,by decide +kernel⟩
theorem c_check_width(G:Facts K mg base a):CalX (CXE P w) P w K mg base "check_width" 3 ["thing"] (spG K (g_check_width a)) :=
 cal_gen (k:=2) (pin:=[]) G.d_check_width sc_check_width rfl (fun _ _ _ _ _ _ us hl=>Pu.argB1 (fun _=>rfl) us hl) (fun f cdv A outer s H E hr=>by exact
  (dss_one (ds_if (dt_not (dt_val ((dr_call (c_is_width G) (hr.mono (by decide)) passE (dg_w (de_var 0) dg_nil))).de)) (dss_one (ds_raise raisesE rfl G.o_NoWidth PySem.F.excBase_ValueError (de_str [97,32,119,105,100,116,104,32,105,115,32,97,32,119,104,111,108,101,32,110,117,109,98,101,114,32,102,114,111,109,32,49,32,116,111,32,52]))) dss_nil)))
theorem sc_view_of:FnScope ["width","windows"] ["width","windows"] (defScope s_view_of):=⟨rfl,rfl,rfl,by decide +kernel,rfl,by decide +kernel,by decide +kernel⟩
theorem c_view_of(G:Facts K mg base a):CalX (CXE P w) P w K mg base "view_of" 1 ["width","windows"] (spG K (g_view_of a)) :=
 cal_gen (k:=0) (pin:=[]) G.d_view_of sc_view_of rfl (fun _ _ _ _ _ _ us hl=>Pu.argB2 (fun _ _=>rfl) us hl) (fun f cdv A outer s H E hr=>by exact
  (dss_cons (ds_if (dt_not (dt_chain op_le op_le p2_cmpI p2_cmpI de_int (de_callB call_len pl_len G.m_len bt_len (da_c (de_var 1) da_nil)) (de_gint G.v_MOST_WINDOWS))) (dss_one (ds_raise raisesE rfl G.o_NoView PySem.F.excBase_ValueError (de_str [97,32,118,105,101,119,32,104,97,115,32,49,32,116,111,32,57,32,119,105,110,100,111,119,115]))) dss_nil)
  (dss_one (ds_ret (de_tup (da_c (de_var 0) (da_c (de_callT call_tuple_of pl_tuple G.m_tuple bt_tuple (da_c (dn_callB call_sortedQ2 pln_sorted2 G.m_sorted bt_sorted (da_c (de_var 1) da_nil)).de da_nil)) da_nil)))))))
theorem sc_pieces:FnScope ["text","length"] ["text","length"] (defScope s_pieces):=⟨rfl,rfl,rfl,by decide +kernel,rfl,by decide +kernel,by decide +kernel⟩
theorem c_pieces(G:Facts K mg base a):CalX (CXE P w) P w K mg base "pieces" 1 ["text","length"] (spG K (g_pieces a)) :=
 cal_gen (k:=0) (pin:=[]) G.d_pieces sc_pieces rfl (fun _ _ _ _ _ _ us hl=>Pu.argB2 (fun _ _=>rfl) us hl) (fun f cdv A outer s H E hr=>by exact
  (dss_one (ds_retNew (dn_comp (cap:=[0,1]) (N':=["place","text","length"]) (BlkOk.of ["text","length"] (defScope s_pieces) rfl rfl (by decide +kernel)) rfl (di_range1 G.m_range (da_c (de_op op_addQ p2_add (de_op op_sub p2_sub (de_callB call_len pl_len G.m_len bt_len (da_c (de_var 0) da_nil)) (de_var 1)) de_int) da_nil)) (fun C s₀ H₀ ex pn=>by exact df_nil) (fun C s₀ H₀ ex pn=>by exact(de_slice sl_A psl_A (de_var 1) (do_some (de_var 0)) (do_some (de_op op_addQ p2_add (de_var 0) (de_var 2)))))))))
theorem sc_text_view:FnScope ["text","width"] ["text","width"] (defScope s_text_view):=⟨rfl,rfl,rfl,by decide +kernel,rfl,by decide +kernel,by decide +kernel⟩
theorem c_text_view(G:Facts K mg base a):CalX (CXE P w) P w K mg base "text_view" 4 ["text","width"] (spG K (g_text_view a)) :=
 cal_gen (k:=3) (pin:=[]) G.d_text_view sc_text_view rfl (fun _ _ _ _ _ _ us hl=>Pu.argB2 (fun _ _=>rfl) us hl) (fun f cdv A outer s H E hr=>by exact
  (dss_cons (ds_exprR (dr_call (c_check_text G) (hr.mono (by decide)) passE (dg_w (de_var 0) dg_nil)))
  (dss_cons (ds_exprR (dr_call (c_check_width G) (hr.mono (by decide)) passE (dg_w (de_var 1) dg_nil)))
  (dss_one (ds_retR (dr_call (c_view_of G) (hr.mono (by decide)) passE (dg_w (de_var 1) (dg_w ((dr_call (c_pieces G) (hr.mono (by decide)) passE (dg_w (de_var 0) (dg_w (de_var 1) dg_nil)))).de dg_nil))))))))
theorem sc_exchanges_from:FnScope ["text","row","start","again","found","end","last"] ["text","row","start","again"] (defScope s_exchanges_from):=⟨rfl,rfl,rfl,by decide +kernel,rfl,by decide +kernel,by decide +kernel⟩
theorem c_exchanges_from(G:Facts K mg base a):CalX (CXE P w) P w K mg base "exchanges_from" 1 ["text","row","start","again"] (spG K (g_exchanges_from a)) :=
 cal_gen (k:=0) (pin:=[]) G.d_exchanges_from sc_exchanges_from rfl (fun _ _ _ _ _ _ us hl=>Pu.argB4 (fun _ _ _ _=>rfl) us hl) (fun f cdv A outer s H E hr=>by exact
  (dss_cons (ds_own 4 sc_exchanges_from.nd (dn_lst da_nil))
  (dss_cons (ds_nox (ds_for 5 PassesOwn.never rfl sc_exchanges_from.nd (di_range2 G.m_range (da_c (de_op op_addQ p2_add (de_var 2) de_int) (da_c (de_op op_addQ p2_add (de_var 3) de_int) da_nil))) (dss_one (ds_for 6 PassesOwn.never rfl sc_exchanges_from.nd (di_range2 G.m_range (da_c (de_op op_addQ p2_add (de_var 3) de_int) (da_c (de_callB call_len pl_len G.m_len bt_len (da_c (de_var 1) da_nil)) da_nil))) (dss_one (ds_if (dt_cmp (op_eqA hr.units) p2_eq (de_ix ix_seq p2_ix (de_var 1) (de_var 5)) (de_ix ix_seq p2_ix (de_var 1) (de_var 6)) rfl) (dss_one (ds_append 4 (de_op op_addQ p2_add (de_op op_addQ p2_add (de_op op_addQ p2_add (de_op op_addQ p2_add (de_slice sl_A psl_A (de_var 0) do_none (do_some (de_var 2))) (de_slice sl_A psl_A (de_var 0) (do_some (de_var 3)) (do_some (de_var 6)))) (de_slice sl_A psl_A (de_var 0) (do_some (de_var 5)) (do_some (de_var 3)))) (de_slice sl_A psl_A (de_var 0) (do_some (de_var 2)) (do_some (de_var 5)))) (de_slice sl_A psl_A (de_var 0) (do_some (de_var 6)) do_none)))) dss_nil))))))
  (dss_one (ds_retMove 4)))))
theorem sc_exchanges:FnScope ["text","row","found","start","again"] ["text","row"] (defScope s_exchanges):=⟨rfl,rfl,rfl,by decide +kernel,rfl,by decide +kernel,by decide +kernel⟩
theorem c_exchanges(G:Facts K mg base a):CalX (CXE P w) P w K mg base "exchanges" 2 ["text","row"] (spG K (g_exchanges a)) :=
 cal_gen (k:=1) (pin:=[]) G.d_exchanges sc_exchanges rfl (fun _ _ _ _ _ _ us hl=>Pu.argB2 (fun _ _=>rfl) us hl) (fun f cdv A outer s H E hr=>by exact
  (dss_cons (ds_own 2 sc_exchanges.nd (dn_lst da_nil))
  (dss_cons (ds_nox (ds_for 3 PassesOwn.never rfl sc_exchanges.nd (di_range1 G.m_range (da_c (de_callB call_len pl_len G.m_len bt_len (da_c (de_var 1) da_nil)) da_nil)) (dss_one (ds_for 4 PassesOwn.never rfl sc_exchanges.nd (di_range2 G.m_range (da_c (de_op op_addQ p2_add (de_var 3) de_int) (da_c (de_callB call_len pl_len G.m_len bt_len (da_c (de_var 1) da_nil)) da_nil))) (dss_one (ds_if (dt_cmp (op_eqA hr.units) p2_eq (de_ix ix_seq p2_ix (de_var 1) (de_var 3)) (de_ix ix_seq p2_ix (de_var 1) (de_var 4)) rfl) (dss_one (ds_extend 2 ((dr_call (c_exchanges_from G) (hr.mono (by decide)) passE0 (dg_w (de_var 0) (dg_w (de_var 1) (dg_w (de_var 3) (dg_w (de_var 4) dg_nil)))))).de)) dss_nil))))))
  (dss_one (ds_retMove 2)))))
theorem sc_unrolled:FnScope ["ring","width"] ["ring","width"] (defScope s_unrolled):=⟨rfl,rfl,rfl,by decide +kernel,rfl,by decide +kernel,by decide +kernel⟩
theorem c_unrolled(G:Facts K mg base a):CalX (CXE P w) P w K mg base "unrolled" 1 ["ring","width"] (spG K (g_unrolled a)) :=
 cal_gen (k:=0) (pin:=[]) G.d_unrolled sc_unrolled rfl (fun _ _ _ _ _ _ us hl=>Pu.argB2 (fun _ _=>rfl) us hl) (fun f cdv A outer s H E hr=>by exact
  (dss_one (ds_ret (de_slice sl_A psl_A (de_op op_mulQ p2_mul (de_var 0) (de_var 1)) do_none (do_some (de_op op_sub p2_sub (de_op op_addQ p2_add (de_callB call_len pl_len G.m_len bt_len (da_c (de_var 0) da_nil)) (de_var 1)) de_int))))))
theorem sc_turns:FnScope ["text","row","width","ring"] ["text","row","width"] (defScope s_turns):=⟨rfl,rfl,rfl,by decide +kernel,rfl,by decide +kernel,by decide +kernel⟩
theorem c_turns(G:Facts K mg base a):CalX (CXE P w) P w K mg base "turns" 2 ["text","row","width"] (spG K (g_turns a)) :=
 cal_gen (k:=1) (pin:=[]) G.d_turns sc_turns rfl (fun _ _ _ _ _ _ us hl=>Pu.argB3 (fun _ _ _=>rfl) us hl) (fun f cdv A outer s H E hr=>by exact
  (dss_cons (ds_if (dt_cmp (op_neA hr.units) p2_ne (de_ix ix_seq p2_ix (de_var 1) de_int) (de_ix ix_seq p2_ix (de_var 1) (de_un un_neg p1_neg de_int)) rfl) (dss_one (ds_retNew (dn_lst da_nil))) dss_nil)
  (dss_cons (ds_set 3 sc_turns.nd (de_slice sl_A psl_A (de_var 0) do_none (do_some (de_op op_sub p2_sub (de_callB call_len pl_len G.m_len bt_len (da_c (de_var 1) da_nil)) de_int))))
  (dss_one (ds_retNew (dn_comp (cap:=[3,2]) (N':=["place","ring","width"]) (BlkOk.of ["text","row","width","ring"] (defScope s_turns) rfl rfl (by decide +kernel)) rfl (di_range2 G.m_range (da_c de_int (da_c (de_callB call_len pl_len G.m_len bt_len (da_c (de_var 3) da_nil)) da_nil))) (fun C s₀ H₀ ex pn=>by exact df_nil) (fun C s₀ H₀ ex pn=>by exact((dr_call (c_unrolled G) (hr.mono (by decide)) passE0 (dg_w (de_op op_addQ p2_add (de_slice sl_A psl_A (de_var 1) (do_some (de_var 0)) do_none) (de_slice sl_A psl_A (de_var 1) do_none (do_some (de_var 0)))) (dg_w (de_var 2) dg_nil)))).de)))))))
theorem sc_one_step_off:FnScope ["text","width","row"] ["text","width"] (defScope s_one_step_off):=⟨rfl,rfl,rfl,by decide +kernel,rfl,by decide +kernel,by decide +kernel⟩
theorem c_one_step_off(G:Facts K mg base a):CalX (CXE P w) P w K mg base "one_step_off" 3 ["text","width"] (spG K (g_one_step_off a)) :=
 cal_gen (k:=2) (pin:=[]) G.d_one_step_off sc_one_step_off rfl (fun _ _ _ _ _ _ us hl=>Pu.argB2 (fun _ _=>rfl) us hl) (fun f cdv A outer s H E hr=>by exact
  (dss_cons (ds_set 2 sc_one_step_off.nd ((dr_call (c_pieces G) (hr.mono (by decide)) passE (dg_w (de_var 0) (dg_w (de_op op_sub p2_sub (de_var 1) de_int) dg_nil)))).de)
  (dss_one (ds_retNew (dn_sortSub rfl (da_c (de_op op_addQ p2_add ((dr_call (c_exchanges G) (hr.mono (by decide)) passE (dg_w (de_var 0) (dg_w (de_var 2) dg_nil)))).de ((dr_call (c_turns G) (hr.mono (by decide)) passE (dg_w (de_var 0) (dg_w (de_var 2) (dg_w (de_var 1) dg_nil))))).de) da_nil) (da_c (de_lst (da_c (de_var 0) da_nil)) da_nil) G.m_sorted G.m_set)))))
theorem sc_exchanged:FnScope ["text","width"] ["text","width"] (defScope s_exchanged):=⟨rfl,rfl,rfl,by decide +kernel,rfl,by decide +kernel,by decide +kernel⟩
theorem c_exchanged(G:Facts K mg base a):CalX (CXE P w) P w K mg base "exchanged" 5 ["text","width"] (spG K (g_exchanged a)) :=
 cal_gen (k:=4) (pin:=[]) G.d_exchanged sc_exchanged rfl (fun _ _ _ _ _ _ us hl=>Pu.argB2 (fun _ _=>rfl) us hl) (fun f cdv A outer s H E hr=>by exact
  (dss_cons (ds_exprR (dr_call (c_text_view G) (hr.mono (by decide)) passE (dg_w (de_var 0) (dg_w (de_var 1) dg_nil))))
  (dss_one (ds_retR (dr_call (c_one_step_off G) (hr.mono (by decide)) passE (dg_w (de_var 0) (dg_w (de_var 1) dg_nil)))))))
theorem sc_alike:FnScope ["one","other","width","first_view"] ["one","other","width"] (defScope s_alike):=⟨rfl,rfl,rfl,by decide +kernel,rfl,by decide +kernel,by decide +kernel⟩
theorem c_alike(G:Facts K mg base a):CalX (CXE P w) P w K mg base "alike" 5 ["one","other","width"] (spG K (g_alike a)) :=
 cal_gen (k:=4) (pin:=[]) G.d_alike sc_alike rfl (fun _ _ _ _ _ _ us hl=>Pu.argB3 (fun _ _ _=>rfl) us hl) (fun f cdv A outer s H E hr=>by exact
  (dss_cons (ds_set 3 sc_alike.nd ((dr_call (c_text_view G) (hr.mono (by decide)) passE (dg_w (de_var 0) (dg_w (de_var 2) dg_nil)))).de)
  (dss_one (ds_ret (de_cmp (op_eqA hr.units) p2_eq (de_var 3) ((dr_call (c_text_view G) (hr.mono (by decide)) passE (dg_w (de_var 1) (dg_w (de_var 2) dg_nil)))).de rfl)))))
def d_law(a:Ad):PEnv→R Flw:=dSeq (dOwn 1 (dL lstP (dNil)))
 (dSeq (dSet2 2 3 (dRE (dCall (g_law_like a) (gV (dV 0) (gO 1 (gV (dC (.int 2)) (gV (dC (.int 10)) (gNil))))))))
 (dSeq (dSet 4 (dRE (dCall (g_exchanged a) (gV (dV 2) (gV (dV 3) (gNil))))))
 (dSeq (dIf (dB (d2 (eqT true) (dF (dComp [2,3] (dItems (dV 4)) (dOr (dNot (dB (dRE (dCall (g_alike a) (gV (dV 1) (gV (dV 0) (gV (dV 2) (gNil)))))))) (dB (d2 (eqT false) (dV 0) (dV 1)))) (dV 0))) (dF (dL lstP (dNil))))) (dRet (dC (.bl false))) (dNext))
 (dSeq (dIf (dB (d2 (eqT true) (dF (dComp [2,3] (dItems (dSl slP (dV 4) (dNo) (dPart (dC (.int 6))))) (dB (d2 (inP true) (dV 1) (dRE (dCall (g_exchanged a) (gV (dV 0) (gV (dV 2) (gNil))))))) (dV 0))) (dF (dL lstP (dNil))))) (dRet (dC (.bl false))) (dNext))
 (dSeq (dOwn 5 (dRN (dCall (g_exchanged a) (gV (dV 2) (gV (dV 3) (gNil))))))
 (dSeq (dApp 5 (dC (.str [97])))
 (dRet (d2 (eqT false) (dRE (dCall (g_exchanged a) (gV (dV 2) (gV (dV 3) (gNil))))) (dV 4)))))))))
def g_law(a:Ad):PEnv→R Slot:=grd 1 [] (fnD 5 (d_law a))
theorem sc_law:FnScope ["_law_script","_law_town","_law_text_here","_law_width","_law_made","_law_again"] ["_law_script"] (defScope s_law):=⟨rfl,rfl,rfl,by decide +kernel,rfl,by decide +kernel,by decide +kernel⟩
theorem f_law(G:Facts K mg base a){f:Addr}{fd:FuncData}(Fn:Fun K "law" "law" s_law f fd):FnOk P w K mg base (CXE P w) 7 f fd ["_law_script"] (spG K (g_law a)) :=
 fn_gen (k:=6) (pin:=[]) Fn sc_law rfl (fun _ _ _ _ _ _ us hl=>Pu.argB1 (fun _=>rfl) us hl) (fun f cdv A outer s H E hr=>by exact
  (dss_cons (ds_own 1 sc_law.nd (dn_lst da_nil))
  (dss_cons (ds_set2 2 3 rfl sc_law.nd ((dr_call (c_law_like G) (hr.mono (by decide)) passE (dg_w (de_var 0) (dg_o 1 (dg_w de_int (dg_w de_int dg_nil)))))).de)
  (dss_cons (ds_set 4 sc_law.nd ((dr_call (c_exchanged G) (hr.mono (by decide)) passE (dg_w (de_var 2) (dg_w (de_var 3) dg_nil)))).de)
  (dss_cons (ds_if (dt_cmp (op_neA hr.units) p2_ne (dn_comp (cap:=[2,3]) (N':=["_law_other","_law_text_here","_law_width"]) (BlkOk.of ["_law_script","_law_town","_law_text_here","_law_width","_law_made","_law_again"] (defScope s_law) rfl rfl (by decide +kernel)) rfl (di_seq (de_var 4)) (fun C s₀ H₀ ex pn=>by exact df_one ((dw_or (dt_not (dt_val ((dr_call (c_alike G) (hr.mono (by decide)) passE0 (dg_w (de_var 1) (dg_w (de_var 0) (dg_w (de_var 2) dg_nil))))).de)) (dw_or1 (dt_cmp (op_eqA hr.units) p2_eq (de_var 0) (de_var 1) rfl)))).dt) (fun C s₀ H₀ ex pn=>by exact(de_var 0))).de (de_lst da_nil) rfl) (dss_one (ds_ret de_bl)) dss_nil)
  (dss_cons (ds_if (dt_cmp (op_neA hr.units) p2_ne (dn_comp (cap:=[2,3]) (N':=["_law_other","_law_text_here","_law_width"]) (BlkOk.of ["_law_script","_law_town","_law_text_here","_law_width","_law_made","_law_again"] (defScope s_law) rfl rfl (by decide +kernel)) rfl (di_seq (de_slice sl_A psl_A (de_var 4) do_none (do_some de_int))) (fun C s₀ H₀ ex pn=>by exact df_one (dt_cmp op_notInA p2_notIn (de_var 1) ((dr_call (c_exchanged G) (hr.mono (by decide)) passE0 (dg_w (de_var 0) (dg_w (de_var 2) dg_nil)))).de rfl)) (fun C s₀ H₀ ex pn=>by exact(de_var 0))).de (de_lst da_nil) rfl) (dss_one (ds_ret de_bl)) dss_nil)
  (dss_cons (ds_own 5 sc_law.nd (((dr_call (c_exchanged G) (hr.mono (by decide)) passE (dg_w (de_var 2) (dg_w (de_var 3) dg_nil)))).dn))
  (dss_cons (ds_append 5 (de_str [97]))
  (dss_one (ds_ret (de_cmp (op_eqA hr.units) p2_eq ((dr_call (c_exchanged G) (hr.mono (by decide)) passE (dg_w (de_var 2) (dg_w (de_var 3) dg_nil)))).de (de_var 4) rfl)))))))))))
end
end K17
namespace Mx
open PySem L2 Pu
def abcs:Tx:=[97,98,99]
def wins(z:Tx)(w:Nat):List Tx:=((List.range z.length).filter fun i=>decide (i+w≤z.length)).map fun i=>(z.drop i).take w
theorem range_filter(w L:Nat):∀ m:Nat,(List.range m).filter (fun i=>decide (i+w≤L))=List.range (min m (L+1-w))
 | 0=>by simp
 | m+1=>by
  rw[List.range_succ,List.filter_append,range_filter w L m]
  by_cases h:m+w≤L
  ·rw[show min m (L+1-w)=m by ac_rfl,show min (m+1) (L+1-w)=m+1 by ac_rfl,List.range_succ]
   simp[h]
  ·rw[show min (m+1) (L+1-w)=min m (L+1-w) by ac_rfl]
   simp[h]
theorem wins_range(z:Tx)(w:Nat)(hw:1≤w):wins z w=(List.range (z.length+1-w)).map fun i=>(z.drop i).take w:=by
 unfold wins
 rw[range_filter,show min z.length (z.length+1-w)=z.length+1-w by ac_rfl]
def nw(w:Nat)(t:Tx):Tx→List Tx
 | []=>[]
 | c::s=>(t.drop (t.length+1-w)++[c])::nw w (t++[c]) s
end Mx
namespace Sh
open PySem L2 Pu Mx
theorem dL_of{α:Type}{f:List PV→Option α}{ds:PEnv→R (List PV)}{ε ε1:PEnv}{xs:List PV}{v:α}(h:ds ε = .ok xs ε1)(hf:f xs=some v):dL f ds ε = .ok v ε1:=by
 unfold dL; rw[h]; show lift (f xs) ε1=_; rw[hf]; rfl
theorem dCons_of{d:PEnv→R PV}{ds:PEnv→R (List PV)}{ε ε1 ε2:PEnv}{x:PV}{xs:List PV}(h:d ε = .ok x ε1)(hs:ds ε1 = .ok xs ε2):dCons d ds ε = .ok (x::xs) ε2:=by
 unfold dCons; rw[h]; show(ds ε1).bind _=_; rw[hs]; rfl
theorem dNil_of{ε:PEnv}:dNil ε = .ok [] ε:=rfl
theorem dC_of(pv:PV)(ε:PEnv):dC pv ε = .ok pv ε:=rfl
theorem d2_of{f:PV→PV→Option PV}{da db:PEnv→R PV}{ε ε1 ε2:PEnv}{x y z:PV}(h:da ε = .ok x ε1)(h2:db ε1 = .ok y ε2)(hf:f x y=some z):d2 f da db ε = .ok z ε2:=by
 unfold d2; rw[h]; show(db ε1).bind _=_; rw[h2]; show lift (f x y) ε2=_; rw[hf]; rfl
section
theorem sort2{ls:List Tx}(h:ls.length≤1000000):sortP2 [.lst (txP ls)]=some (.lst (txP (sortT ls))):=by
 show(txs (txP ls)).bind _=_
 rw[txs_strs,Option.bind_some,if_pos h]
end
section
variable{a:Ad}
noncomputable abbrev scr(ns:List Int):Slot:=.val (.lst (ns.map .int))
theorem atI_map(ns:List Int)(k:Int)(h0:0≤k)(h:k<ns.length):∃ v,atI (ns.map PV.int) k=some (.int v):=by
 have hk:k.toNat<ns.length:=by ac_rfl
 refine⟨ns[k.toNat],?_⟩
 rw[atI_int h0 (by rw[List.length_map]; exact hk)]
 simp
theorem eq_nil(ns:List Int):Pu.eqT false (.lst (ns.map .int)) (.lst [])=some (.bl ns.isEmpty):=by
 cases ns with
 | nil=>rfl
 | cons x xs =>
  have hd:∀ l:List Int,deps (l.map .int)=0:=fun l=>by induction l with | nil=>rfl | cons y l ih=>simp[deps,dep,ih]
  have:deps ((x::xs).map .int)=0:=hd _
  simp only[List.map_cons]at this
  simp[Pu.eqT,flP,eqP,eqPs,dep,this]
theorem eqS(neg:Bool)(x y:Tx):Pu.eqT neg (.str x) (.str y)=some (.bl (neg ^^ decide (x=y))):=by
 show(if scal (tV x) (tV y)then some (PV.bl (neg ^^ decide (tV x=tV y)))else none)=_
 have:scal (tV x) (tV y)=true:=rfl
 rw[if_pos this]
 have e:(tV x=tV y)=(x=y):=propext ⟨tV_inj,fun h=>by rw[h]⟩
 simp only[e]
theorem cell_eq(ns:List Int)(k:Int)(h0:0≤k):∃ v,g_law_cell_at a [scr ns,.val (.int k)] = .ok (.val (.int v)) [scr ns,.val (.int k)]:=by
 by_cases h:k<ns.length
 ·obtain⟨v,hv⟩:=atI_map ns k h0 h
  refine⟨v,?_⟩
  simp![g_law_cell_at,d_law_cell_at,lenP,ixP,hv,h]
 ·have e:=eq_nil ns
  by_cases hn:ns=[]
  ·subst hn
   refine⟨0,?_⟩
   simp only[List.map_nil,List.isEmpty_nil]at e
   have h':¬ k<0:=by ac_rfl
   simp![g_law_cell_at,d_law_cell_at,lenP,ixP,e,h']
  ·have hpos:0<ns.length:=by cases ns with | nil=>exact absurd rfl hn | cons=>simp
   obtain⟨v,hv⟩:=atI_map ns (k % ns.length) (Int.emod_nonneg _ (by ac_rfl)) (Int.emod_lt_of_pos _ (by ac_rfl))
   refine⟨v * 31+k,?_⟩
   have e2:ns.isEmpty=false:=by cases ns with | nil=>exact absurd rfl hn | cons=>rfl
   rw[e2]at e
   have hm:modP (.int k) (.int (ns.length:Int))=some (.int (k % ns.length)):=by simp[modP]; ac_rfl
   have hmul:mulP (.int v) (.int 31)=some (.int (v * 31)):=by simp[mulP,small64]
   simp![g_law_cell_at,d_law_cell_at,lenP,ixP,h,e,hm,hv,hmul,addP]
theorem mixed_eq(ns:List Int)(k m:Int)(h0:0≤k)(hm:0<m):∃ v,0≤v∧v<m∧g_law_mixed a [scr ns,.val (.int k),.val (.int m)] = .ok (.val (.int v)) [scr ns,.val (.int k),.val (.int m)]:=by
 obtain⟨c,hc⟩:=cell_eq (a:=a) ns k h0
 have d0:0≤(c * 1103515245+7919 * k+12345) % 2147483647:=Int.emod_nonneg _ (by decide)
 have d1:(c * 1103515245+7919 * k+12345) % 2147483647<2147483647:=Int.emod_lt_of_pos _ (by decide)
 have m1:mulP (.int c) (.int 1103515245)=some (.int (c * 1103515245)):=by simp[mulP,small64]
 have m2:mulP (.int 7919) (.int k)=some (.int (7919 * k)):=by simp[mulP,small64]
 have m3:modP (.int (c * 1103515245+7919 * k+12345)) (.int 2147483647)=some (.int ((c * 1103515245+7919 * k+12345) % 2147483647)):=by simp[modP]
 generalize (c * 1103515245+7919 * k+12345) % 2147483647=d at d0 d1 m3
 have m4:powP (.int d) (.int 5)=some (.int (d ^ 5)):=by
  have:d.natAbs<2 ^ 64:=by ac_rfl
  simp[powP,this]
 have m5:modP (.int (d ^ 5)) (.int 2147483647)=some (.int (d ^ 5 % 2147483647)):=by simp[modP]
 generalize d ^ 5 % 2147483647=d5 at m5
 have m6:modP (.int d5) (.int 999983)=some (.int (d5 % 999983)):=by simp[modP]
 generalize d5 % 999983=d6 at m6
 have m7:modP (.int d6) (.int m)=some (.int (d6 % m)):=by simp[modP,hm]
 refine⟨d6 % m,Int.emod_nonneg _ (by ac_rfl),Int.emod_lt_of_pos _ hm,?_⟩
 simp![g_law_mixed,d_law_mixed,hc,m1,m2,m3,m4,m5,m6,m7,addP]
theorem draw_eq(ns:List Int)(xs:List PV)(m:Int)(hm:0<m)(hx:xs.length≤1000):∃ v,0≤v∧v<m∧g_law_draw a [scr ns,.own (.lst xs),.val (.int m)] = .ok (.val (.int v)) [scr ns,.own (.lst (xs++[.int 0])),.val (.int m)]:=by
 obtain⟨v,v0,v1,hv⟩:=mixed_eq (a:=a) ns ((xs.length:Int)+1) m (by ac_rfl) hm
 refine⟨v,v0,v1,?_⟩
 have hx':xs.length<maxS:=by unfold maxS; ac_rfl
 simp![g_law_draw,d_law_draw,lenP,hx',hv]
theorem atI_mem{α:Type}(ps:List α)(v:Int)(h0:0≤v)(h1:v<ps.length):∃ x∈ps,atI ps v=some x:=by
 have hk:v.toNat<ps.length:=by ac_rfl
 exact⟨ps[v.toNat],List.getElem_mem _,atI_int h0 hk⟩
theorem pick_eq(ns:List Int)(xs ps:List PV)(hx:xs.length≤1000)(hp:0<ps.length):∃ x∈ps,g_law_pick a [scr ns,.own (.lst xs),.val (.lst ps)] = .ok (.val x) [scr ns,.own (.lst (xs++[.int 0])),.val (.lst ps)]:=by
 obtain⟨v,v0,v1,hv⟩:=draw_eq (a:=a) ns xs (ps.length:Nat) (by ac_rfl) hx
 obtain⟨x,hm,hx2⟩:=atI_mem ps v v0 v1
 refine⟨x,hm,?_⟩
 simp![g_law_pick,d_law_pick,lenP,ixP,hv,hx2]
theorem range1_nat{n:Nat}(h:n≤1000000):range1 [.int n]=some (rngP 0 n):=by
 show(if(n:Int)≤1000000∧-1000000≤(n:Int)then some (rngP 0 (n:Int).toNat)else none)=_
 rw[if_pos ⟨by ac_rfl,by ac_rfl⟩]; simp
theorem addP_str{x y:Tx}(h:x.length+y.length≤maxS):addP (.str x) (.str y)=some (.str (x++y)):=by
 show(if(x++y).length≤maxS then some (PV.str (x++y))else none)=_
 rw[if_pos (by rw[List.length_append]; exact h)]
theorem dSeq_step{d1 d2:PEnv→R Flw}{ε ε1:PEnv}(h:d1 ε = .ok .next ε1):dSeq d1 d2 ε=d2 ε1:=by unfold dSeq; rw[h]
theorem dSet_step{i:Nat}{d:PEnv→R PV}{ε ε1:PEnv}{x:PV}(h:d ε = .ok x ε1):dSet i d ε = .ok .next (ε1.set i (.val x)):=by unfold dSet; rw[h]; rfl
theorem loop_inv{i:Nat}{db:PEnv→R Flw}{I:Nat→PEnv→Prop}{N:Nat}(step:∀ k ε x,k<N→I k ε→∃ ε',db (ε.set i (.val x)) = .ok .next ε'∧I (k+1) ε'):∀ (xs:List PV) (k:Nat) (ε:PEnv),k+xs.length≤N→I k ε→∃ ε',loopD i db xs ε = .ok .next ε'∧I (k+xs.length) ε'
 | [],k,ε,_,h=>⟨ε,rfl,h⟩
 | x::xs,k,ε,hk,h=>by
  simp only[List.length_cons]at hk
  obtain⟨ε1,e1,h1⟩:=step k ε x (by ac_rfl) h
  obtain⟨ε2,e2,h2⟩:=loop_inv step xs (k+1) ε1 (by ac_rfl) h1
  refine⟨ε2,by unfold loopD; rw[e1]; exact e2,?_⟩
  rw[List.length_cons,show k+(xs.length+1)=k+1+xs.length by ac_rfl]; exact h2
theorem text_eq(ns:List Int)(xs:List PV)(low most:Nat)(hlm:low≤most)(hm:most≤100)(hx:xs.length≤500) :
  ∃ (z:Tx) (ys:List PV),low≤z.length∧z.length≤most∧(∀ c∈z,c∈abcs)∧ys.length≤xs.length+2+most ∧
   g_law_text a [scr ns,.own (.lst xs),.val (.int low),.val (.int most)] = .ok (.val (.str z)) [scr ns,.own (.lst ys),.val (.int low),.val (.int most)]:=by
 obtain⟨f,hf,hp⟩:=pick_eq (a:=a) ns xs [.int 1,.int 2,.int 2,.int 3,.int 3,.int 3] (by ac_rfl) (by decide)
 obtain⟨few,rfl,f0,f1⟩:∃ few:Int,f = .int few∧0<few∧few≤3:=by
  simp only[List.mem_cons,List.not_mem_nil,or_false]at hf
  rcases hf with rfl | rfl | rfl | rfl | rfl | rfl <;> exact⟨_,rfl,by decide,by decide⟩
 obtain⟨m,m0,m1,hd⟩:=draw_eq (a:=a) ns (xs++[.int 0]) ((most:Int)-low+1) (by ac_rfl) (by simp; ac_rfl)
 obtain⟨n,hn⟩:∃ n:Nat,(low:Int)+m=n:=⟨(low+m).toNat,by ac_rfl⟩
 have hr:range1 [.int ((low:Int)+m)]=some (rngP 0 n):=by
  rw[hn]
  exact range1_nat (by ac_rfl)
 have hlen:(rngP 0 n).length=n:=by simp[rngP]
 obtain⟨ε',e1,ys,z,s6,rfl,hz,hy,habc⟩:=loop_inv (i:=6) (db:=dSet 5 (d2 addP (dV 5) (d2 ixP (dC (.str [97,98,99])) (dRE (dCall (g_law_draw a) (gV (dV 0) (gO 1 (gV (dV 4) (Pu.gNil)))))))))
  (I:=fun k ε=>∃ ys z s6,ε=[scr ns,.own (.lst ys),.val (.int low),.val (.int most),.val (.int few),.val (.str z),s6]∧z.length=k∧ys.length≤xs.length+2+k∧∀ c∈z,c∈abcs) (N:=n)
  (by
   rintro k ε x hk ⟨ys,z,s6,rfl,hz,hy,habc⟩
   obtain⟨v,v0,v1,hv⟩:=draw_eq (a:=a) ns ys few f0 (by ac_rfl)
   obtain⟨c,hc,hc2⟩:=atI_mem abcs v v0 (by simp[abcs]; ac_rfl)
   refine⟨[scr ns,.own (.lst (ys++[.int 0])),.val (.int low),.val (.int most),.val (.int few),.val (.str (z++[c])),.val x],?_,ys++[.int 0],z++[c],.val x,rfl,by simp[hz],by simp; ac_rfl,fun d hd=>?_⟩
   ·have hc3:ixP (.str [97,98,99]) (.int v)=some (.str [c]):=by
     show(atI abcs v).map _=_
     rw[hc2]; rfl
    have hadd:addP (.str z) (.str [c])=some (.str (z++[c])):=addP_str (by simp[maxS]; ac_rfl)
    simp![hv,hc3,hadd]
   ·simp only[List.mem_append,List.mem_singleton]at hd
    rcases hd with hd | rfl
    ·exact habc d hd
    ·exact hc)
  (rngP 0 n) 0 [scr ns,.own (.lst (xs++[.int 0]++[.int 0])),.val (.int low),.val (.int most),.val (.int few),.val (.str []),.none] (by ac_rfl) ⟨xs++[.int 0]++[.int 0],[],.none,rfl,rfl,by simp,by simp⟩
 refine⟨z,ys,by ac_rfl,by ac_rfl,habc,by ac_rfl,?_⟩
 have hsub:subP (.int most) (.int low)=some (.int ((most:Int)-low)):=rfl
 have ha1:addP (.int ((most:Int)-low)) (.int 1)=some (.int ((most:Int)-low+1)):=rfl
 have ha2:addP (.int low) (.int m)=some (.int ((low:Int)+m)):=rfl
 simp only[List.append_assoc,List.cons_append,List.nil_append]at e1
 simp![g_law_text,d_law_text,hp,hsub,ha1,ha2,hd,dFor,hr,noEr,e1]
theorem compD_pure{cap:List Nat}{dt:PEnv→R Bool}{de:PEnv→R PV}{ε:PEnv}(p:PV→Bool)(f:PV→PV):∀ (xs:List PV),(∀ x∈xs,noE (dBlk cap dt x ε) = .ok (p x) ε∧(p x=true→noE (dBlk cap de x ε) = .ok (f x) ε))→∀ acc,compD cap dt de xs acc ε = .ok (acc++(xs.filter p).map f) ε
 | [],_,acc=>by simp[compD]
 | x::xs,h,acc=>by
  have h1:=h x (by simp)
  have ih:=compD_pure p f xs (fun y hy=>h y (by simp[hy]))
  unfold compD
  rw[h1.1]
  simp only[R.bind_ok]
  cases hp:p x with
  | false=>simp only[ih acc,List.filter_cons,hp]; simp
  | true=>simp only[h1.2 hp,R.bind_ok,ih (acc++[f x]),List.filter_cons,hp]; simp
theorem cut_win{z:Tx}{i w:Nat}(h:i+w≤z.length):cutL z (some (i:Int)) (some ((i:Int)+w))=(z.drop i).take w:=by
 unfold cutL
 have e1:HT.sIx z.length 0 (some (i:Int))=i:=by rw[HT.sIx_nat]; ac_rfl
 have e2:HT.sIx z.length z.length (some ((i:Int)+w))=i+w:=by rw[show(i:Int)+w=((i+w:Nat):Int) by ac_rfl,HT.sIx_nat]; ac_rfl
 rw[e1,e2,Nat.add_sub_cancel_left]
theorem wins_good{z:Tx}{w:Nat}:∀ x∈wins z w,x.length=w∧∀ c∈x,c∈z:=by
 intro x hx
 simp only[wins,List.mem_map,List.mem_filter,List.mem_range,decide_eq_true_eq]at hx
 obtain⟨i,⟨_,h⟩,rfl⟩:=hx
 exact⟨by rw[List.length_take,List.length_drop]; ac_rfl,fun c hc=>List.mem_of_mem_drop (List.mem_of_mem_take hc)⟩
theorem wins_many{z:Tx}{w m:Nat}(hw:1≤w)(h1:w≤z.length)(h2:z.length≤w+m):1≤(wins z w).length∧(wins z w).length≤m+1:=by
 unfold wins
 rw[List.length_map]
 have:∀ n,((List.range n).filter fun i=>decide (i+w≤z.length)).length=min n (z.length+1-w):=by
  intro n
  induction n with
  | zero=>simp
  | succ n ih =>
   rw[List.range_succ,List.filter_append,List.length_append,ih]
   by_cases h:n+w≤z.length
   ·simp[List.filter,h]; ac_rfl
   ·simp[List.filter,h]; ac_rfl
 rw[this]
 ac_rfl
structure Good(l:Tx)(w:Nat)(ls:List Tx):Prop where
 len:∀ x∈ls,x.length=w
 abc:∀ x∈ls,∀ c∈x,c∈l
 some:1≤ls.length
 few:ls.length≤9
theorem txP_len(ls:List Tx):(txP ls).length=ls.length:=by simp[txP]
theorem ixN_of{n:Nat}{v:Int}(h0:0≤v)(h1:v<n):ixN n v=some v.toNat:=by
 unfold ixN; rw[if_pos h0,if_pos h1]
theorem txP_app(ls ms:List Tx):txP ls++txP ms=txP (ls++ms):=by simp[txP]
theorem cut_to{α:Type}(xs:List α)(n:Nat):cutL xs none (some (n:Int))=xs.take n:=by
 unfold cutL
 have e1:HT.sIx xs.length 0 none=0:=rfl
 rw[e1,HT.sIx_nat,List.drop_zero,Nat.sub_zero]
 by_cases h:n≤xs.length
 ·rw[Nat.min_eq_left h]
 ·rw[Nat.min_eq_right (by ac_rfl),List.take_of_length_le (Nat.le_refl _),List.take_of_length_le (by ac_rfl)]
theorem cut_from{α:Type}(xs:List α)(n:Nat):cutL xs (some (n:Int)) none=xs.drop n:=by
 unfold cutL
 have e2:HT.sIx xs.length xs.length none=xs.length:=rfl
 rw[e2,HT.sIx_nat]
 by_cases h:n≤xs.length
 ·rw[Nat.min_eq_left h,List.take_of_length_le (by rw[List.length_drop]; ac_rfl)]
 ·rw[Nat.min_eq_right (by ac_rfl),List.drop_of_length_le (by ac_rfl),List.drop_of_length_le (by ac_rfl)]; simp
theorem txP_take(ls:List Tx)(n:Nat):(txP ls).take n=txP (ls.take n):=by simp[txP,List.map_take]
end
end Sh
namespace Sh
open PySem L2 Pu Mx
section
variable{a:Ad}
theorem kit_tt{t T:String}{b:Bool}{x:PV}(h:kindP x=some t)(e:PySem.W.kitOne [] (.type t) (.type T)=some b):isiP [x,.raw (.ty T)]=some (.bl b):=by
 show((kindP x).bind fun t=>(PySem.W.kitOne [] (.type t) (.type T)).map fun b=>PV.bl b)=_
 rw[h,Option.bind_some,e]; rfl
theorem k_int_int:PySem.W.kitOne [] (.type "int") (.type "int")=some true:=by decide +kernel
theorem k_int_bool:PySem.W.kitOne [] (.type "int") (.type "bool")=some false:=by decide +kernel
theorem k_str_str:PySem.W.kitOne [] (.type "str") (.type "str")=some true:=by decide +kernel
theorem bools_map(bs:List Bool):bools (bs.map .bl)=some bs:=by
 induction bs with
 | nil=>rfl
 | cons b bs ih=>show(bools (bs.map .bl)).map (b::·)=_; rw[ih]; rfl
theorem all_bools(bs:List Bool):allP [.lst (bs.map .bl)]=some (.bl (bs.all id)):=by
 show(bools (bs.map .bl)).map _=_
 rw[bools_map]; rfl
theorem has_eq(z s:Tx):g_has_only a [.val (.str z),.val (.str s)] = .ok (.val (.bl (z.all s.contains))) [.val (.str z),.val (.str s)]:=by
 have hc:=compD_pure (cap:=[1]) (dt:=dYes) (de:=(d2 (inP false) (dV 0) (dV 1))) (ε:=[.val (.str z),.val (.str s)]) (fun _=>true) (fun x=>match x with | .str [c]=>.bl (s.contains c) | _=>.non) (z.map fun c=>.str [c])
  (by
   intro x hx
   obtain⟨c,_,rfl⟩:=List.mem_map.mp hx
   refine⟨by simp![dBlk,capA,noE,dYes],fun _=>?_⟩
   have hin:inP false (.str [c]) (.str s)=some (.bl (s.contains c)):=by
    rw[← inS_one]; simp[inP]
   simp![dBlk,capA,noE,hin]) []
 have he:((z.map fun c=>PV.str [c]).filter (fun _=>true)).map (fun x=>match x with | .str [c]=>PV.bl (s.contains c) | _=>.non)=(z.map s.contains).map .bl:=by
  rw[List.filter_eq_self.mpr (by simp),List.map_map,List.map_map]; rfl
 rw[List.nil_append,he]at hc
 have hal:(z.map s.contains).all id=z.all s.contains:=by rw[List.all_map]; rfl
 generalize z.map s.contains=bs at hc hal
 have ha:=all_bools bs
 rw[hal]at ha
 simp![g_has_only,d_has_only,dComp,dItems,itemsP,hc,ha]
theorem eq_txs(ls ms:List Tx):eqPs (txP ls) (txP ms)=some (decide (ls=ms)):=by
 induction ls generalizing ms with
 | nil=>cases ms <;> simp[txP,eqPs]
 | cons x ls ih =>
  cases ms with
  | nil=>simp[txP,eqPs]
  | cons y ms =>
   show(eqP (.str x) (.str y)).bind (fun a=>(eqPs (txP ls) (txP ms)).map fun b=>a && b)=_
   rw[ih]
   have:eqP (.str x) (.str y)=some (decide (x=y)):=by
    show some (tS x == tS y)=_
    by_cases h:x=y
    ·subst h; simp
    ·have:tS x≠tS y:=fun z=>h (tS_inj z)
     simp[h,this]
   rw[this]
   simp[List.cons.injEq]
theorem dep_txs(ls:List Tx):deps (txP ls)=0:=by
 induction ls with
 | nil=>rfl
 | cons x ls ih=>show max (dep (.str x)) (deps (txP ls))=0; rw[ih]; rfl
theorem eqT_lst(neg:Bool)(ls ms:List Tx):Pu.eqT neg (.lst (txP ls)) (.lst (txP ms))=some (.bl (neg ^^ decide (ls=ms))):=by
 show(if dep (.lst (txP ls))≤8 then(eqPs (txP ls) (txP ms)).map (fun k=>PV.bl (neg ^^ k))else none)=_
 rw[if_pos (by show deps (txP ls)+1≤8; rw[dep_txs]; decide),eq_txs]; rfl
theorem whole_int(i:Int):g_is_whole_number a [.val (.int i)] = .ok (.val (.bl true)) [.val (.int i)]:=by
 have h1:isiP [.int i,.raw (.ty "int")]=some (.bl true):=kit_tt rfl k_int_int
 have h2:isiP [.int i,.raw (.ty "bool")]=some (.bl false):=kit_tt rfl k_int_bool
 simp![g_is_whole_number,d_is_whole_number,h1,h2]
theorem width_int(i:Int):g_is_width a [.val (.int i)] = .ok (.val (.bl (decide (1≤i∧i≤4)))) [.val (.int i)]:=by
 have h:=whole_int (a:=a) i
 by_cases c1:1≤i
 ·by_cases c2:i≤4
  ·simp![g_is_width,d_is_width,h,c1,c2]
  ·simp![g_is_width,d_is_width,h,c1,c2]
 ·simp![g_is_width,d_is_width,h,c1]
end
end Sh
namespace Sh
open PySem L2 Pu Mx
def getM(m:List (Tx×Int))(x:Tx):Option Int:=(m.find? fun p=>decide (p.1=x)).map (·.2)
structure MOf(m:List (Tx×Int))(q:List Tx):Prop where
 nd:(m.map (·.1)).Nodup
 get:∀ x,(getM m x).getD 0=(q.count x:Nat)
theorem MOf.mem{m:List (Tx×Int)}{q:List Tx}(h:MOf m q){p:Tx×Int}(hp:p∈m):getM m p.1=some p.2:=by
 have nd:=h.nd
 clear h
 induction m with
 | nil=>cases hp
 | cons r m ih =>
  unfold getM
  rw[List.find?_cons]
  rcases List.mem_cons.mp hp with rfl | hp
  ·simp
  ·rw[List.map_cons,List.nodup_cons]at nd
   have:¬ r.1=p.1:=fun z=>nd.1 (List.mem_map.mpr ⟨p,hp,z.symm⟩)
   simp only[this,decide_false]
   exact ih hp nd.2
theorem MOf.any{m:List (Tx×Int)}{q:List Tx}(h:MOf m q):(m.any fun p=>decide (p.2≠0)) = !q.isEmpty:=by
 cases q with
 | nil =>
  rw[List.isEmpty_nil,Bool.not_true,List.any_eq_false]
  intro p hp
  have h1:=h.get p.1
  rw[h.mem hp]at h1
  simpa using h1
 | cons x q =>
  rw[List.isEmpty_cons,Bool.not_false,List.any_eq_true]
  have h1:=h.get x
  rw[List.count_cons_self]at h1
  cases e:m.find? (fun p=>decide (p.1=x))with
  | none=>unfold getM at h1; rw[e]at h1; simp at h1; ac_rfl
  | some p =>
   unfold getM at h1
   rw[e]at h1
   refine⟨p,List.mem_of_find?_eq_some e,?_⟩
   simp at h1
   simp; ac_rfl
theorem MOf.zero{m:List (Tx×Int)}{q:List Tx}(h:MOf m q){x:Tx}(hx:x∉q):(getM m x).getD 0=0:=by
 rw[h.get,List.count_eq_zero_of_not_mem hx]; rfl
end Sh
namespace Sh
open PySem L2 Pu Mx
section
variable{a:Ad}
noncomputable abbrev vwP(w:Nat)(ls:List Tx):PV:=.tup [.int w,.tup (txP ls)]
theorem flPs_txP(ls:List Tx):flPs (txP ls)=some (tVs ls):=by
 induction ls with
 | nil=>rfl
 | cons x ls ih=>show(flP (.str x)).bind (fun v=>(flPs (txP ls)).map (v::·))=_; rw[ih]; rfl
end
end Sh
namespace Mx
open PySem L2 Pu
def atR(z:Tx)(i:Nat):Nat:=z.getD (i % z.length) 0
def winR(z:Tx)(w i:Nat):Tx:=(List.range w).map fun k=>atR z (i+k)
def cw(z:Tx)(w:Nat):List Tx:=(List.range z.length).map (winR z w)
def unr(z:Tx)(w:Nat):Tx:=((List.replicate w z).flatten).take (z.length+w-1)
theorem atR_lt{z:Tx}{i:Nat}(h:i<z.length):z[i]?=some (atR z i):=by
 unfold atR
 rw[Nat.mod_eq_of_lt h]
 simp[List.getD,h]
theorem atR_add(z:Tx)(i:Nat):atR z (z.length+i)=atR z i:=by unfold atR; rw[Nat.add_mod_left]
theorem rep_get(z:Tx):∀ (w i:Nat),i<w * z.length→(List.replicate w z).flatten[i]?=some (atR z i)
 | 0,i,h=>by ac_rfl
 | w+1,i,h=>by
  rw[List.replicate_succ,List.flatten_cons]
  by_cases c:i<z.length
  ·rw[List.getElem?_append_left c,atR_lt c]
  ·rw[List.getElem?_append_right (by ac_rfl),rep_get z w (i-z.length) (by rw[Nat.succ_mul]at h; ac_rfl)]
   congr 1
   have:=atR_add z (i-z.length)
   rw[show z.length+(i-z.length)=i by ac_rfl]at this
   exact this.symm
theorem rep_len(z:Tx)(w:Nat):(List.replicate w z).flatten.length=w * z.length:=by simp
theorem unr_len{z:Tx}{w:Nat}(hn:1≤z.length)(hw:1≤w):(unr z w).length=z.length+w-1:=by
 unfold unr
 rw[List.length_take,rep_len]
 obtain⟨n,hn'⟩:∃ n,z.length=n+1:=⟨z.length-1,by ac_rfl⟩
 obtain⟨v,rfl⟩:∃ v,w=v+1:=⟨w-1,by ac_rfl⟩
 rw[hn',Nat.add_mul,Nat.mul_add]
 have:=Nat.zero_le (v * n)
 ac_rfl
theorem unr_get{z:Tx}{w:Nat}(hn:1≤z.length)(hw:1≤w){i:Nat}(h:i<z.length+w-1):(unr z w)[i]?=some (atR z i):=by
 have hl:=unr_len hn hw
 unfold unr at hl ⊢
 rw[List.length_take,rep_len]at hl
 rw[List.getElem?_take_of_lt h,rep_get z w i (by ac_rfl)]
theorem wins_unr{z:Tx}{w:Nat}(hn:1≤z.length)(hw:1≤w):wins (unr z w) w=cw z w:=by
 rw[wins_range _ _ hw,unr_len hn hw,show z.length+w-1+1-w=z.length by ac_rfl]
 refine List.map_congr_left fun i hi=>?_
 have hi:i<z.length:=by simpa using hi
 refine List.ext_getElem? fun k=>?_
 unfold winR
 by_cases hk:k<w
 ·rw[List.getElem?_take_of_lt hk,List.getElem?_drop,unr_get hn hw (by ac_rfl),List.getElem?_map,List.getElem?_range hk]; rfl
 ·rw[List.getElem?_eq_none (by rw[List.length_take]; ac_rfl),List.getElem?_eq_none (by simp; ac_rfl)]
theorem unr_take{z:Tx}{w:Nat}(hn:1≤z.length)(hw:1≤w):(unr z w).take z.length=z:=by
 refine List.ext_getElem? fun k=>?_
 by_cases hk:k<z.length
 ·rw[List.getElem?_take_of_lt hk,unr_get hn hw (by ac_rfl),atR_lt hk]
 ·rw[List.getElem?_eq_none (by rw[List.length_take]; ac_rfl),List.getElem?_eq_none (by ac_rfl)]
def rot(i:Nat)(z:Tx):Tx:=z.drop i++z.take i
theorem rot_len{i:Nat}{z:Tx}(h:i≤z.length):(rot i z).length=z.length:=by unfold rot; rw[List.length_append,List.length_drop,List.length_take]; ac_rfl
theorem atR_rot{z:Tx}{i:Nat}(h:i≤z.length)(hn:1≤z.length)(j:Nat):atR (rot i z) j=atR z (i+j):=by
 unfold atR
 rw[rot_len h]
 have hj:j % z.length<z.length:=Nat.mod_lt _ (by ac_rfl)
 rw[Nat.add_mod i j]
 generalize j % z.length=m at hj
 by_cases hi:i=z.length
 ·subst hi
  unfold rot
  rw[List.drop_length,List.nil_append,List.take_length,Nat.mod_self,Nat.zero_add,Nat.mod_eq_of_lt hj]
 ·rw[Nat.mod_eq_of_lt (show i<z.length by ac_rfl)]
  unfold rot
  rw[List.getD_eq_getElem?_getD,List.getD_eq_getElem?_getD]
  congr 1
  by_cases c:i+m<z.length
  ·rw[Nat.mod_eq_of_lt c,List.getElem?_append_left (by rw[List.length_drop]; ac_rfl),List.getElem?_drop]
  ·have e:(i+m) % z.length=i+m-z.length:=by
    rw[Nat.mod_eq_sub_mod (by ac_rfl),Nat.mod_eq_of_lt (by ac_rfl)]
   rw[e,List.getElem?_append_right (by rw[List.length_drop]; ac_rfl),List.length_drop,List.getElem?_take_of_lt (by ac_rfl)]
   congr 1; ac_rfl
theorem ring_ext{x y:Tx}(h:x.length=y.length)(hn:1≤x.length)(ha:∀ k,k<x.length→atR x k=atR y k):x=y:=by
 refine List.ext_getElem? fun k=>?_
 by_cases hk:k<x.length
 ·rw[atR_lt hk,atR_lt (by ac_rfl),ha k hk]
 ·rw[List.getElem?_eq_none (by ac_rfl),List.getElem?_eq_none (by ac_rfl)]
theorem rot_rot{z:Tx}{i j:Nat}(hn:1≤z.length)(hi:i<z.length)(hj:j<z.length):rot j (rot i z)=rot ((i+j) % z.length) z:=by
 have hm:(i+j) % z.length<z.length:=Nat.mod_lt _ (by ac_rfl)
 have h1:(rot i z).length=z.length:=rot_len (by ac_rfl)
 refine ring_ext ?_ ?_ fun k hk=>?_
 ·rw[rot_len (by ac_rfl),h1,rot_len (by ac_rfl)]
 ·rw[rot_len (by ac_rfl),h1]; exact hn
 ·rw[atR_rot (by ac_rfl) (by ac_rfl),atR_rot (by ac_rfl) hn,atR_rot (by ac_rfl) hn]
  unfold atR
  congr 1
  rw[← Nat.add_assoc,Nat.add_mod ((i+j) % z.length) k,Nat.mod_mod,← Nat.add_mod]
theorem rot_zero(z:Tx):rot 0 z=z:=by simp[rot]
theorem shift_perm{f:Nat→Tx}{n:Nat}(hf:∀ i,f (i+n)=f i):∀ i,((List.range n).map fun j=>f (i+j)).Perm ((List.range n).map f)
 | 0=>by simp
 | i+1=>by
  refine List.Perm.trans ?_ (shift_perm hf i)
  cases n with
  | zero=>simp
  | succ m =>
   have eL:(List.range (m+1)).map (fun j=>f (i+1+j))=(List.range m).map (fun j=>f (i+(j+1)))++[f (i+0)]:=by
    rw[List.range_succ,List.map_append]
    congr 1
    ·refine List.map_congr_left fun j _=>?_
     congr 1; ac_rfl
    ·rw[List.map_cons,List.map_nil]
     congr 1
     show f (i+1+m)=f i
     rw[← hf i]
     congr 1; ac_rfl
   have eR:(List.range (m+1)).map (fun j=>f (i+j))=f (i+0)::(List.range m).map (fun j=>f (i+(j+1))):=by
    rw[List.range_succ_eq_map,List.map_cons,List.map_map]; rfl
   rw[eL,eR]
   exact List.perm_append_singleton _ _
theorem winR_add(z:Tx)(w i:Nat):winR z w (i+z.length)=winR z w i:=by
 unfold winR
 refine List.map_congr_left fun k _=>?_
 rw[show i+z.length+k=z.length+(i+k) by ac_rfl,atR_add]
theorem cw_rot{z:Tx}{w i:Nat}(hi:i<z.length):(cw (rot i z) w).Perm (cw z w):=by
 have e:cw (rot i z) w=(List.range z.length).map fun j=>winR z w (i+j):=by
  unfold cw
  rw[rot_len (by ac_rfl)]
  refine List.map_congr_left fun j _=>?_
  unfold winR
  refine List.map_congr_left fun k _=>?_
  rw[atR_rot (by ac_rfl) (by ac_rfl),Nat.add_assoc]
 rw[e]
 exact shift_perm (fun j=>winR_add z w j) i
theorem unr_mem{z:Tx}{w:Nat}{c:Nat}(h:c∈unr z w):c∈z:=by
 have:=List.mem_of_mem_take h
 rw[List.mem_flatten]at this
 obtain⟨l,hl,hc⟩:=this
 rw[List.mem_replicate]at hl
 rw[hl.2]at hc; exact hc
theorem rot_mem{z:Tx}{i c:Nat}(h:c∈rot i z):c∈z:=(List.mem_append.mp h).elim List.mem_of_mem_drop List.mem_of_mem_take
end Mx
namespace Sh
open PySem L2 Pu Mx
section
variable{a:Ad}
theorem txt_yes{z:Tx}(h1:1≤z.length)(h2:z.length≤12)(hc:∀ c∈z,c∈abcs):g_check_text a [.val (.str z)] = .ok (.val .non) [.val (.str z)]:=by
 have k1:isiP [.str z,.raw (.ty "str")]=some (.bl true):=kit_tt rfl k_str_str
 have hh:=has_eq (a:=a) z abcs
 have hal:z.all abcs.contains=true:=by rw[List.all_eq_true]; intro c h; simpa using hc c h
 rw[hal]at hh
 simp only[abcs]at hh
 have hl:lenP [.str z]=some (.int (z.length:Nat)):=rfl
 have c1:(1:Int)≤(z.length:Nat):=by ac_rfl
 have c2:((z.length:Nat):Int)≤12:=by ac_rfl
 have ht:g_is_text_up_to a [.val (.str z),.val (.int 12)] = .ok (.val (.bl true)) [.val (.str z),.val (.int 12)]:=by
  simp![g_is_text_up_to,d_is_text_up_to,k1,hl,c1,c2,hh]
 simp![g_check_text,d_check_text,ht]
theorem wid_yes{w:Nat}(w1:1≤w)(w4:w≤4):g_check_width a [.val (.int w)] = .ok (.val .non) [.val (.int w)]:=by
 have h:=width_int (a:=a) w
 rw[decide_eq_true (show 1≤(w:Int)∧(w:Int)≤4 by ac_rfl)]at h
 simp![g_check_width,d_check_width,h]
def rowT(t:Tx)(v:Nat):List Tx:=(List.range (t.length+1-v)).map fun i=>(t.drop i).take v
theorem rowT_len(t:Tx)(v:Nat):(rowT t v).length=t.length+1-v:=by simp[rowT]
theorem pieces_row{t:Tx}{w:Nat}(hw:w≤t.length+1)(ht:t.length≤60):g_pieces a [.val (.str t),.val (.int w)] = .ok (.own (.lst (txP (rowT t w)))) [.val (.str t),.val (.int w)]:=by
 have hl:lenP [.str t]=some (.int (t.length:Nat)):=rfl
 have hs:subP (.int (t.length:Nat)) (.int w)=some (.int ((t.length:Int)-w)):=rfl
 have ha:addP (.int ((t.length:Int)-w)) (.int 1)=some (.int ((t.length+1-w:Nat):Int)):=by
  show some (PV.int ((t.length:Int)-w+1))=_
  congr 2; ac_rfl
 have hr:range1 [.int ((t.length+1-w:Nat):Int)]=some (rngP 0 (t.length+1-w)):=range1_nat (by ac_rfl)
 have hc:=compD_pure (cap:=[0,1]) (dt:=dYes) (de:=(dSl slP (dV 1) (dPart (dV 0)) (dPart (d2 addP (dV 0) (dV 2))))) (ε:=[.val (.str t),.val (.int w)]) (fun _=>true) (fun x=>match x with | .int i=>.str (cutL t (some i) (some (i+w))) | _=>.non) (rngP 0 (t.length+1-w))
  (by
   intro x hx
   obtain⟨i,_,rfl⟩:=List.mem_map.mp hx
   refine⟨by simp![dBlk,capA,noE,dYes],fun _=>?_⟩
   simp![dBlk,capA,noE,addP,dSl,dPart,slP]) []
 have he:((rngP 0 (t.length+1-w)).filter (fun _=>true)).map (fun x=>match x with | .int i=>PV.str (cutL t (some i) (some (i+w))) | _=>.non)=txP (rowT t w):=by
  rw[List.filter_eq_self.mpr (by simp)]
  unfold rngP txP rowT
  rw[List.map_map,List.map_map]
  refine List.map_congr_left fun i hi=>?_
  have hi:i<t.length+1-w:=by simpa using hi
  simp only[Function.comp,Int.zero_add]
  rw[cut_win (by ac_rfl)]
 rw[List.nil_append,he]at hc
 generalize txP (rowT t w)=T at hc
 generalize rngP 0 (t.length+1-w)=RR at hr hc
 generalize ((t.length+1-w:Nat):Int)=n at ha hr
 simp![g_pieces,d_pieces,dRetN,dComp,hl,hs,ha,hr,hc]
theorem rowT_wins{t:Tx}{w:Nat}(w1:1≤w):rowT t w=wins t w:=(wins_range t w w1).symm
theorem pieces_eq{t:Tx}{w:Nat}(w1:1≤w)(hw:w≤t.length+1)(ht:t.length≤60):g_pieces a [.val (.str t),.val (.int w)] = .ok (.own (.lst (txP (wins t w)))) [.val (.str t),.val (.int w)]:=by
 rw[← rowT_wins w1]; exact pieces_row hw ht
theorem view_of_eq{w:Nat}{ls:List Tx}(h1:1≤ls.length)(h9:ls.length≤9):g_view_of a [.val (.int w),.val (.lst (txP ls))] = .ok (.val (vwP w (sortT ls))) [.val (.int w),.val (.lst (txP ls))]:=by
 have hl:lenP [.lst (txP ls)]=some (.int (ls.length:Nat)):=by simp[lenP,txP_len]
 have c1:(1:Int)≤(ls.length:Nat):=by ac_rfl
 have c2:((ls.length:Nat):Int)≤9:=by ac_rfl
 have hst:sortP2 [.lst (txP ls)]=some (.lst (txP (sortT ls))):=sort2 (by ac_rfl)
 simp only[vwP]
 generalize txP (sortT ls)=T at hst
 generalize txP ls=B at hl hst
 simp![g_view_of,d_view_of,hl,c1,c2,hst,tupleP]
structure Tv(t:Tx)(w:Nat):Prop where
 w1:1≤w
 w4:w≤4
 h1:w≤t.length
 h9:t.length+1≤w+9
 abc:∀ c∈t,c∈abcs
theorem Tv.good{t:Tx}{w:Nat}(h:Tv t w):Good abcs w (wins t w):=by
 have hm:=wins_many (m:=8) h.w1 h.h1 (by have:=h.h9; ac_rfl)
 exact⟨fun x hx=>(wins_good x hx).1,fun x hx c hc=>h.abc c ((wins_good x hx).2 c hc),hm.1,hm.2⟩
theorem text_view_eq{t:Tx}{w:Nat}(h:Tv t w):g_text_view a [.val (.str t),.val (.int w)] = .ok (.val (vwP w (sortT (wins t w)))) [.val (.str t),.val (.int w)]:=by
 have b1:=h.w1
 have b2:=h.w4
 have b3:=h.h1
 have b4:=h.h9
 have e1:=txt_yes (a:=a) (z:=t) (by ac_rfl) (by ac_rfl) h.abc
 have e2:=wid_yes (a:=a) h.w1 h.w4
 have e4:=pieces_eq (a:=a) (t:=t) h.w1 (by ac_rfl) (by ac_rfl)
 have e5:=view_of_eq (a:=a) (w:=w) (ls:=wins t w) h.good.some h.good.few
 generalize vwP w (sortT (wins t w))=V at e5
 generalize txP (wins t w)=C at e4 e5
 simp![g_text_view,d_text_view,e1,e2,e4,e5]
theorem unr_eq{z:Tx}{w:Nat}(w1:1≤w)(w4:w≤4)(hz:z.length≤60):g_unrolled a [.val (.str z),.val (.int w)] = .ok (.val (.str (unr z w))) [.val (.str z),.val (.int w)]:=by
 have hm:mulP (.str z) (.int w)=some (.str (List.replicate w z).flatten):=by
  show(if 0≤(w:Int)∧(w:Int)≤100∧z.length≤100 then some (PV.str (List.replicate (w:Int).toNat z).flatten)else none)=_
  rw[if_pos ⟨by ac_rfl,by ac_rfl,by ac_rfl⟩]; rfl
 have hl:lenP [.str z]=some (.int (z.length:Nat)):=rfl
 have ha:addP (.int (z.length:Nat)) (.int w)=some (.int ((z.length:Int)+w)):=rfl
 have hs:subP (.int ((z.length:Int)+w)) (.int 1)=some (.int ((z.length+w-1:Nat):Int)):=by
  show some (PV.int ((z.length:Int)+w-1))=_
  congr 2; ac_rfl
 have hc:slP (.str (List.replicate w z).flatten) none (some ((z.length+w-1:Nat):Int))=some (.str (unr z w)):=by
  show some (PV.str (cutL _ none (some _)))=_
  rw[cut_to]; rfl
 generalize ((z.length+w-1:Nat):Int)=n at hs hc
 generalize (List.replicate w z).flatten=F at hm hc
 simp![g_unrolled,d_unrolled,dSl,dNo,dPart,hm,hl,ha,hs,hc]
end
end Sh
namespace Sh
open PySem L2 Pu Mx
section
variable{a:Ad}
theorem loop_build{i:Nat}{db:PEnv→R Flw}{σ:Type}(env:List Tx→σ→PEnv)(f:Nat→List Tx)(B:Nat) :
  ∀ (xs:List Nat) (acc:List Tx) (s:σ),(acc++xs.flatMap f).length≤B→(∀ x∈xs,∀ acc s,(acc++f x).length≤B→∃ s',db ((env acc s).set i (.val (.int (x:Nat)))) = .ok .next (env (acc++f x) s')) →
   ∃ s',loopD i db (xs.map fun x=>.int (x:Nat)) (env acc s) = .ok .next (env (acc++xs.flatMap f) s')
 | [],acc,s,_,_=>⟨s,by simp[loopD]⟩
 | x::xs,acc,s,hB,step=>by
  rw[List.flatMap_cons]at hB ⊢
  obtain⟨s1,e1⟩:=step x (by simp) acc s (by simp at hB ⊢; ac_rfl)
  obtain⟨s2,e2⟩:=loop_build env f B xs (acc++f x) s1 (by rw[List.append_assoc]; exact hB) fun y hy=>step y (by simp[hy])
  refine⟨s2,?_⟩
  rw[List.map_cons,loopD,e1]
  simp only
  rw[e2,List.append_assoc]
def rgN(lo hi:Nat):List Nat:=List.range' lo (hi-lo)
theorem rgN_mem{lo hi x:Nat}:x∈rgN lo hi↔lo≤x∧x<hi:=by
 unfold rgN
 rw[List.mem_range'_1]
 ac_rfl
theorem rngP_rg(lo n:Nat):rngP (lo:Nat) n=(List.range' lo n).map fun x=>PV.int (x:Nat):=by
 unfold rngP
 rw[List.range'_eq_map_range,List.map_map]
 refine List.map_congr_left fun x _=>?_
 simp
theorem range2_rg{lo hi:Nat}(h1:lo≤1000)(h2:hi≤1000):range2 [.int (lo:Nat),.int (hi:Nat)]=some ((rgN lo hi).map fun x=>.int (x:Nat)):=by
 show(if _ then _ else _)=_
 rw[if_pos ⟨by ac_rfl,by ac_rfl,by ac_rfl,by ac_rfl⟩]
 congr 1
 rw[show(((hi:Nat):Int)-((lo:Nat):Int)).toNat=hi-lo by ac_rfl]
 exact rngP_rg lo (hi-lo)
theorem range1_rg{n:Nat}(h:n≤1000):range1 [.int (n:Nat)]=some ((rgN 0 n).map fun x=>.int (x:Nat)):=by
 rw[range1_nat (by ac_rfl)]
 congr 1
 exact rngP_rg 0 n
def part(t:Tx)(i j:Nat):Tx:=(t.drop i).take (j-i)
theorem cut_part(t:Tx)(i j:Nat):cutL t (some (i:Nat)) (some (j:Nat))=part t i j:=by
 unfold cutL part
 rw[HT.sIx_nat,HT.sIx_nat]
 by_cases h:i≤t.length
 ·rw[Nat.min_eq_left h]
  by_cases h2:j≤t.length
  ·rw[Nat.min_eq_left h2]
  ·rw[Nat.min_eq_right (by ac_rfl),List.take_of_length_le (by simp),List.take_of_length_le (by simp; ac_rfl)]
 ·rw[show min i t.length=t.length by ac_rfl,List.drop_of_length_le (Nat.le_refl _),List.drop_of_length_le (show t.length≤i by ac_rfl)]
  simp
theorem sl_part(t:Tx)(i j:Nat):slP (.str t) (some (i:Nat)) (some (j:Nat))=some (.str (part t i j)):=by
 show some (PV.str (cutL t (some (i:Nat)) (some (j:Nat))))=_
 rw[cut_part]
theorem sl_to(t:Tx)(j:Nat):slP (.str t) none (some (j:Nat))=some (.str (t.take j)):=by
 show some (PV.str (cutL t none (some (j:Nat))))=_
 rw[cut_to]
theorem sl_fr(t:Tx)(i:Nat):slP (.str t) (some (i:Nat)) none=some (.str (t.drop i)):=by
 show some (PV.str (cutL t (some (i:Nat)) none))=_
 rw[cut_from]
def atR(row:List Tx)(i:Nat):Tx:=row.getD i []
theorem ix_at{row:List Tx}{i:Nat}(h:i<row.length):ixP (.lst (txP row)) (.int (i:Nat))=some (.str (atR row i)):=by
 show atI (txP row) ((i:Nat):Int)=_
 unfold atI
 rw[ixN_of (by ac_rfl) (by rw[txP_len]; ac_rfl)]
 simp[txP,atR,h]
def ex4(t:Tx)(s e g l:Nat):Tx:=t.take s++part t g l++part t e g++part t s e++t.drop l
theorem part_len(t:Tx)(i j:Nat):(part t i j).length≤t.length:=by unfold part; simp; ac_rfl
def exL(t:Tx)(row:List Tx)(s g e:Nat):List Tx:=(rgN (g+1) row.length).flatMap fun l=>if atR row e=atR row l then [ex4 t s e g l] else []
def exF(t:Tx)(row:List Tx)(s g:Nat):List Tx:=(rgN (s+1) (g+1)).flatMap fun e=>exL t row s g e
def bEF:PEnv→R Flw:=dIf (dB (d2 (eqT false) (d2 ixP (dV 1) (dV 5)) (d2 ixP (dV 1) (dV 6)))) (dApp 4 (d2 addP (d2 addP (d2 addP (d2 addP (dSl slP (dV 0) (dNo) (dPart (dV 2))) (dSl slP (dV 0) (dPart (dV 3)) (dPart (dV 6)))) (dSl slP (dV 0) (dPart (dV 5)) (dPart (dV 3)))) (dSl slP (dV 0) (dPart (dV 2)) (dPart (dV 5)))) (dSl slP (dV 0) (dPart (dV 6)) (dNo)))) (dNext)
def iEF:PEnv→R (List PV):=dL range2 (dCons (d2 addP (dV 3) (dC (.int 1))) (dCons (dL lenP (dCons (dV 1) (dNil))) (dNil)))
def bEE:PEnv→R Flw:=dFor 6 iEF bEF
def iEE:PEnv→R (List PV):=dL range2 (dCons (d2 addP (dV 2) (dC (.int 1))) (dCons (d2 addP (dV 3) (dC (.int 1))) (dNil)))
theorem d_from_def:d_exchanges_from a=dSeq (dOwn 4 (dL lstP (dNil))) (dSeq (fun ε=>noEr (dFor 5 iEE bEE ε)) (dRetM 4)):=rfl
theorem from_inner(t:Tx)(row:List Tx)(s g e:Nat)(ht:t.length≤20)(hr:row.length≤20)(he:e<row.length)(acc:List Tx)(s6:Slot)(hB:(acc++exL t row s g e).length≤100000):∃ s6',
  loopD 6 bEF ((rgN (g+1) row.length).map fun x=>.int (x:Nat))
   [.val (.str t),.val (.lst (txP row)),.val (.int (s:Nat)),.val (.int (g:Nat)),.own (.lst (txP acc)),.val (.int (e:Nat)),s6] = .ok .next [.val (.str t),.val (.lst (txP row)),.val (.int (s:Nat)),.val (.int (g:Nat)),.own (.lst (txP (acc++exL t row s g e))),.val (.int (e:Nat)),s6']:=by
 refine loop_build (i:=6) (σ:=Slot) (fun acc s6=>[.val (.str t),.val (.lst (txP row)),.val (.int (s:Nat)),.val (.int (g:Nat)),.own (.lst (txP acc)),.val (.int (e:Nat)),s6]) (fun l=>if atR row e=atR row l then [ex4 t s e g l] else []) 100000 _ acc s6 hB ?_
 intro l hl acc s6 hB
 obtain⟨l1,l2⟩:=rgN_mem.mp hl
 refine⟨.val (.int (l:Nat)),?_⟩
 have i1:=ix_at he
 have i2:=ix_at l2
 have he:=eqS false (atR row e) (atR row l)
 simp only[Bool.false_xor]at he
 by_cases q:atR row e=atR row l
 ·rw[decide_eq_true q]at he
  rw[if_pos q]at hB ⊢
  have c1:=sl_to t s
  have c2:=sl_part t g l
  have c3:=sl_part t e g
  have c4:=sl_part t s e
  have c5:=sl_fr t l
  have p1:=part_len t g l
  have p2:=part_len t e g
  have p3:=part_len t s e
  have a1:addP (.str (t.take s)) (.str (part t g l))=some (.str (t.take s++part t g l)):=addP_str (by unfold maxS; simp; ac_rfl)
  have a2:addP (.str (t.take s++part t g l)) (.str (part t e g))=some (.str (t.take s++part t g l++part t e g)):=addP_str (by unfold maxS; simp; ac_rfl)
  have a3:addP (.str (t.take s++part t g l++part t e g)) (.str (part t s e))=some (.str (t.take s++part t g l++part t e g++part t s e)):=addP_str (by unfold maxS; simp; ac_rfl)
  have a4:addP (.str (t.take s++part t g l++part t e g++part t s e)) (.str (t.drop l))=some (.str (ex4 t s e g l)):=addP_str (by unfold maxS; simp; ac_rfl)
  have hlt:(txP acc).length<maxS:=by rw[txP_len]; simp at hB; unfold maxS; ac_rfl
  rw[show txP (acc++[ex4 t s e g l])=txP acc++[.str (ex4 t s e g l)] by simp[txP]]
  generalize ex4 t s e g l=X at a4
  generalize t.take s++part t g l++part t e g++part t s e=A3 at a3 a4
  generalize t.take s++part t g l++part t e g=A2 at a2 a3
  generalize t.take s++part t g l=A1 at a1 a2
  generalize t.take s=T0 at c1 a1
  generalize t.drop l=T5 at c5 a4
  generalize part t g l=T2 at c2 a1
  generalize part t e g=T3 at c3 a2
  generalize part t s e=T4 at c4 a3
  generalize atR row e=R1 at i1 he
  generalize atR row l=R2 at i2 he
  generalize txP acc=AC at hlt
  generalize txP row=RW at i1 i2
  generalize ((s:Nat):Int)=si at c1 c4
  generalize ((g:Nat):Int)=gi at c2 c3
  generalize ((e:Nat):Int)=ei at c3 c4 i1
  generalize ((l:Nat):Int)=li at c2 c5 i2
  simp![bEF,i1,i2,he,dSl,dPart,dNo,c1,c2,c3,c4,c5,a1,a2,a3,a4,hlt]
 ·rw[decide_eq_false q]at he
  rw[if_neg q,List.append_nil]
  generalize atR row e=R1 at i1 he
  generalize atR row l=R2 at i2 he
  generalize txP acc=AC
  generalize txP row=RW at i1 i2
  generalize ((s:Nat):Int)=si
  generalize ((g:Nat):Int)=gi
  generalize ((e:Nat):Int)=ei at i1
  generalize ((l:Nat):Int)=li at i2
  simp![bEF,i1,i2,he]
theorem grd_ret4{d:PEnv→R Flw}{v0 v1 v2 v3:PV}{sl e4 e5 e6:Slot}(h:d [.val v0,.val v1,.val v2,.val v3,.none,.none,.none] = .ok (.ret sl) [.val v0,.val v1,.val v2,.val v3,e4,e5,e6]):grd 4 [] (fnD 3 d) [.val v0,.val v1,.val v2,.val v3] = .ok sl [.val v0,.val v1,.val v2,.val v3]:=by
 simp[grd,ownsIn,fnD,List.replicate,h,back,lift,R.bind]
theorem own_of{i:Nat}{ε:PEnv}(h:i<ε.length):dOwn i (dL lstP dNil) ε = .ok .next (ε.set i (.own (.lst []))):=by
 simp[dOwn,dL,dNil,lstP,R.bind,lift,h]
theorem retM_of{i:Nat}{ε:PEnv}{po:PO}(h:ε[i]?=some (.own po)):dRetM i ε = .ok (.ret (.own po)) (ε.set i .none):=by
 unfold dRetM; rw[h]
theorem for_of{i:Nat}{di:PEnv→R (List PV)}{db:PEnv→R Flw}{ε ε1 ε2:PEnv}{xs:List PV}(h:di ε = .ok xs ε1)(h2:loopD i db xs ε1 = .ok .next ε2):dFor i di db ε = .ok .next ε2:=by
 unfold dFor; rw[h]; exact h2
theorem nofor_of{i:Nat}{di:PEnv→R (List PV)}{db:PEnv→R Flw}{ε ε1 ε2:PEnv}{xs:List PV}(h:di ε = .ok xs ε1)(h2:loopD i db xs ε1 = .ok .next ε2):(fun ε=>noEr (dFor i di db ε)) ε = .ok .next ε2:=by
 show noEr _=_
 rw[for_of h h2]
 rfl
theorem seqfor_step{i:Nat}{di:PEnv→R (List PV)}{db d2:PEnv→R Flw}{ε ε1 ε2:PEnv}{xs:List PV}(h:di ε = .ok xs ε1)(h2:loopD i db xs ε1 = .ok .next ε2):dSeq (fun ε=>noEr (dFor i di db ε)) d2 ε=d2 ε2 :=
 dSeq_step (d1:=fun ε=>noEr (dFor i di db ε)) (nofor_of h h2)
theorem from_eq(t:Tx)(row:List Tx)(s g:Nat)(ht:t.length≤20)(hr:row.length≤20)(hg:g<row.length)(hsg:s≤g)(hB:(exF t row s g).length≤100000) :
  g_exchanges_from a [.val (.str t),.val (.lst (txP row)),.val (.int (s:Nat)),.val (.int (g:Nat))] = .ok (.own (.lst (txP (exF t row s g)))) [.val (.str t),.val (.lst (txP row)),.val (.int (s:Nat)),.val (.int (g:Nat))]:=by
 have r1:=range2_rg (lo:=s+1) (hi:=g+1) (by ac_rfl) (by ac_rfl)
 have r2:=range2_rg (lo:=g+1) (hi:=row.length) (by ac_rfl) (by ac_rfl)
 have as:addP (.int (s:Nat)) (.int 1)=some (.int ((s+1:Nat):Int)):=by show some (PV.int _)=_; congr 2
 have ag:addP (.int (g:Nat)) (.int 1)=some (.int ((g+1:Nat):Int)):=by show some (PV.int _)=_; congr 2
 have hl:lenP [.lst (txP row)]=some (.int (row.length:Nat)):=by show some (PV.int _)=_; rw[txP_len]
 obtain⟨⟨s5,s6⟩,e1⟩:=loop_build (i:=5) (db:=bEE) (σ:=Slot×Slot)
  (fun acc p=>[.val (.str t),.val (.lst (txP row)),.val (.int (s:Nat)),.val (.int (g:Nat)),.own (.lst (txP acc)),p.1,p.2]) (fun e=>exL t row s g e) 100000 (rgN (s+1) (g+1)) [] (.none,.none) (by rw[List.nil_append]; exact hB)
  (by
   intro e he acc p hB
   obtain⟨e1,e2⟩:=rgN_mem.mp he
   obtain⟨s6',h⟩:=from_inner t row s g e ht hr (by ac_rfl) acc p.2 hB
   refine⟨(.val (.int (e:Nat)),s6'),?_⟩
   have hd:iEF [.val (.str t),.val (.lst (txP row)),.val (.int (s:Nat)),.val (.int (g:Nat)),.own (.lst (txP acc)),.val (.int (e:Nat)),p.2] =
     .ok ((rgN (g+1) row.length).map fun x=>PV.int (x:Nat)) [.val (.str t),.val (.lst (txP row)),.val (.int (s:Nat)),.val (.int (g:Nat)),.own (.lst (txP acc)),.val (.int (e:Nat)),p.2] :=
    dL_of (dCons_of (d2_of (x:=.int (g:Nat)) rfl (dC_of _ _) ag) (dCons_of (dL_of (dCons_of (x:=.lst (txP row)) rfl dNil_of) hl) dNil_of)) r2
   exact for_of hd h)
 have e1':=e1
 dsimp only at e1'
 rw[List.nil_append,show txP ([]:List Tx)=[] from rfl,show(rgN (s+1) (g+1)).flatMap (fun e=>exL t row s g e)=exF t row s g from rfl]at e1'
 clear e1
 have hd:iEE [.val (.str t),.val (.lst (txP row)),.val (.int (s:Nat)),.val (.int (g:Nat)),.own (.lst []),.none,.none] =
   .ok ((rgN (s+1) (g+1)).map fun x=>PV.int (x:Nat)) [.val (.str t),.val (.lst (txP row)),.val (.int (s:Nat)),.val (.int (g:Nat)),.own (.lst []),.none,.none] :=
  dL_of (dCons_of (d2_of (x:=.int (s:Nat)) rfl (dC_of _ _) as) (dCons_of (d2_of (x:=.int (g:Nat)) rfl (dC_of _ _) ag) dNil_of)) r1
 clear r1 r2 as ag hl hB
 have hb:d_exchanges_from a [.val (.str t),.val (.lst (txP row)),.val (.int (s:Nat)),.val (.int (g:Nat)),.none,.none,.none] = .ok (.ret (.own (.lst (txP (exF t row s g))))) [.val (.str t),.val (.lst (txP row)),.val (.int (s:Nat)),.val (.int (g:Nat)),.none,s5,s6]:=by
  rw[d_from_def]
  have h1:=own_of (i:=4) (ε:=[.val (.str t),.val (.lst (txP row)),.val (.int (s:Nat)),.val (.int (g:Nat)),.none,.none,.none]) (by simp)
  refine(dSeq_step h1).trans ?_
  refine(seqfor_step hd e1').trans ?_
  exact retM_of rfl
 exact grd_ret4 hb
end
end Sh
namespace Sh
open PySem L2 Pu Mx
section
variable{a:Ad}
theorem add_one(n:Nat):addP (.int (n:Nat)) (.int 1)=some (.int ((n+1:Nat):Int)):=by show some (PV.int _)=_; congr 2
theorem len_tx(row:List Tx):lenP [.lst (txP row)]=some (.int (row.length:Nat)):=by show some (PV.int _)=_; rw[txP_len]
theorem flat_sum{f:Nat→List Tx}{c:Nat→Nat}:∀ {l:List Nat},(∀ x∈l,(f x).length≤c x)→(l.flatMap f).length≤(l.map c).sum
 | [],_=>by simp
 | x::l,h=>by
  have h1:=h x (by simp)
  have h2:=flat_sum (f:=f) (c:=c) (l:=l) fun y hy=>h y (by simp[hy])
  rw[List.flatMap_cons,List.length_append,List.map_cons,List.sum_cons]
  ac_rfl
theorem sum_const(c:Nat):∀ (l:List Nat),(l.map fun _=>c).sum=l.length * c
 | []=>by simp
 | x::l=>by rw[List.map_cons,List.sum_cons,sum_const c l,List.length_cons,Nat.add_mul]; ac_rfl
theorem flat_mul{f:Nat→List Tx}{c:Nat}{l:List Nat}(h:∀ x∈l,(f x).length≤c):(l.flatMap f).length≤l.length * c:=by
 have:=flat_sum (f:=f) (c:=fun _=>c) h
 rwa[sum_const]at this
theorem rgN_len(lo hi:Nat):(rgN lo hi).length=hi-lo:=by simp[rgN]
theorem one_len{p:Prop}[Decidable p]{x:Tx}:(if p then [x] else []).length≤1:=by split <;> simp
theorem if_len{p:Prop}[Decidable p]{x:List Tx}{n:Nat}(h:x.length≤n):(if p then x else []).length≤n:=by split <;> simp[h]
theorem exL_len(t:Tx)(row:List Tx)(s g e:Nat):(exL t row s g e).length≤row.length-(g+1):=by
 have:=flat_mul (f:=fun l=>if atR row e=atR row l then [ex4 t s e g l] else []) (c:=1) (l:=rgN (g+1) row.length) fun _ _=>one_len
 rw[rgN_len]at this
 unfold exL; ac_rfl
theorem exF_len(t:Tx)(row:List Tx)(s g:Nat):(exF t row s g).length≤(g-s) * (row.length-(g+1)):=by
 have:=flat_mul (f:=exL t row s g) (l:=rgN (s+1) (g+1)) fun e _=>exL_len t row s g e
 rw[rgN_len,show g+1-(s+1)=g-s by ac_rfl]at this
 exact this
def exG(t:Tx)(row:List Tx)(s:Nat):List Tx:=(rgN (s+1) row.length).flatMap fun g=>if atR row s=atR row g then exF t row s g else []
def exA(t:Tx)(row:List Tx):List Tx:=(rgN 0 row.length).flatMap fun s=>exG t row s
def cntA(n:Nat):Nat:=((rgN 0 n).map fun s=>((rgN (s+1) n).map fun g=>(g-s) * (n-(g+1))).sum).sum
theorem cntA_le:∀ n,n≤10→cntA n≤3000:=by decide +kernel
theorem exA_len{t:Tx}{row:List Tx}(h:row.length≤10):(exA t row).length≤3000:=by
 refine Nat.le_trans (flat_sum (c:=fun s=>((rgN (s+1) row.length).map fun g=>(g-s) * (row.length-(g+1))).sum) fun s _=>?_) (cntA_le _ h)
 exact flat_sum fun g _=>if_len (exF_len t row s g)
theorem exF_small{t:Tx}{row:List Tx}(h:row.length≤10){s g:Nat}(hg:g<row.length):(exF t row s g).length≤100:=by
 have:=exF_len t row s g
 have h2:(g-s) * (row.length-(g+1))≤10 * 10:=Nat.mul_le_mul (by ac_rfl) (by ac_rfl)
 ac_rfl
def bX4(a:Ad):PEnv→R Flw:=dIf (dB (d2 (eqT false) (d2 ixP (dV 1) (dV 3)) (d2 ixP (dV 1) (dV 4)))) (dExt 2 (dRE (dCall (g_exchanges_from a) (gV (dV 0) (gV (dV 1) (gV (dV 3) (gV (dV 4) (Pu.gNil)))))))) (dNext)
def iX4:PEnv→R (List PV):=dL range2 (dCons (d2 addP (dV 3) (dC (.int 1))) (dCons (dL lenP (dCons (dV 1) (dNil))) (dNil)))
def bX3(a:Ad):PEnv→R Flw:=dFor 4 iX4 (bX4 a)
def iX3:PEnv→R (List PV):=dL range1 (dCons (dL lenP (dCons (dV 1) (dNil))) (dNil))
theorem d_exch_def:d_exchanges a=dSeq (dOwn 2 (dL lstP (dNil))) (dSeq (fun ε=>noEr (dFor 3 iX3 (bX3 a) ε)) (dRetM 2)):=rfl
theorem dV_of{i:Nat}{ε:PEnv}{v:PV}(h:ε[i]?=some (.val v)):dV i ε = .ok v ε:=by unfold dV; rw[h]
theorem gV_of{d:PEnv→R PV}{dg:PEnv→R (List ASlot)}{ε ε1 ε2:PEnv}{x:PV}{as:List ASlot}(h:d ε = .ok x ε1)(h2:dg ε1 = .ok as ε2):gV d dg ε = .ok (.inl x::as) ε2:=by
 unfold gV; rw[h,R.bind_ok,h2]; rfl
theorem gNil_of{ε:PEnv}:Pu.gNil ε = .ok [] ε:=rfl
theorem call4{G:PEnv→R Slot}{ε:PEnv}{i0 i1 i2 i3:Nat}{v0 v1 v2 v3:PV}{r:Slot}(h0:ε[i0]?=some (.val v0))(h1:ε[i1]?=some (.val v1))(h2:ε[i2]?=some (.val v2))(h3:ε[i3]?=some (.val v3))
  (hG:G [.val v0,.val v1,.val v2,.val v3] = .ok r [.val v0,.val v1,.val v2,.val v3]):dCall G (gV (dV i0) (gV (dV i1) (gV (dV i2) (gV (dV i3) (Pu.gNil))))) ε = .ok r ε:=by
 unfold dCall
 rw[gV_of (dV_of h0) (gV_of (dV_of h1) (gV_of (dV_of h2) (gV_of (dV_of h3) gNil_of))),R.bind_ok]
 simp[owns,argS,R.bind,lift,hG,putR,putS,keptO]
theorem dRE_own{d:PEnv→R Slot}{ε ε1:PEnv}{xs:List PV}(h:d ε = .ok (.own (.lst xs)) ε1):dRE d ε = .ok (.lst xs) ε1:=by unfold dRE; rw[h]; rfl
theorem ext_of{i:Nat}{de:PEnv→R PV}{ε ε1:PEnv}{xs0 xs ys:List PV}(h0:ownL ε i=some xs0)(h:de ε = .ok (.lst ys) ε1)(h1:ownL ε1 i=some xs)(hl:xs.length+ys.length≤maxS):dExt i de ε = .ok .next (ε1.set i (.own (.lst (xs++ys)))):=by
 unfold dExt
 rw[h0]
 simp only[lift_some,R.bind_ok]
 rw[h]
 simp only[R.bind_ok]
 rw[h1]
 simp only[lift_some,R.bind_ok]
 rw[if_pos hl]
theorem if_t{α:Type}{c:PEnv→R Bool}{d1 d2:PEnv→R α}{ε ε1:PEnv}(h:c ε = .ok true ε1):dIf c d1 d2 ε=d1 ε1:=by
 unfold dIf; rw[h]; rfl
theorem if_f{α:Type}{c:PEnv→R Bool}{d1 d2:PEnv→R α}{ε ε1:PEnv}(h:c ε = .ok false ε1):dIf c d1 d2 ε=d2 ε1:=by
 unfold dIf; rw[h]; rfl
theorem dB_of{d:PEnv→R PV}{b:Bool}{ε ε1:PEnv}(h:d ε = .ok (.bl b) ε1):dB d ε = .ok b ε1:=by
 unfold dB; rw[h]; rfl
theorem exch_inner(t:Tx)(row:List Tx)(s:Nat)(ht:t.length≤20)(hr:row.length≤10)(hs:s<row.length)(acc:List Tx)(s4:Slot)(hB:(acc++exG t row s).length≤100000):∃ s4',
  loopD 4 (bX4 a) ((rgN (s+1) row.length).map fun x=>.int (x:Nat)) [.val (.str t),.val (.lst (txP row)),.own (.lst (txP acc)),.val (.int (s:Nat)),s4] =
   .ok .next [.val (.str t),.val (.lst (txP row)),.own (.lst (txP (acc++exG t row s))),.val (.int (s:Nat)),s4']:=by
 refine loop_build (i:=4) (σ:=Slot) (fun acc s4=>[.val (.str t),.val (.lst (txP row)),.own (.lst (txP acc)),.val (.int (s:Nat)),s4]) (fun g=>if atR row s=atR row g then exF t row s g else []) 100000 _ acc s4 hB ?_
 intro g hg acc s4 hB
 obtain⟨l1,l2⟩:=rgN_mem.mp hg
 refine⟨.val (.int (g:Nat)),?_⟩
 have i1:=ix_at hs
 have i2:=ix_at l2
 have he:=eqS false (atR row s) (atR row g)
 simp only[Bool.false_xor]at he
 by_cases q:atR row s=atR row g
 ·rw[decide_eq_true q]at he
  rw[if_pos q]at hB ⊢
  have hc:=from_eq (a:=a) t row s g ht (by ac_rfl) l2 (by ac_rfl) (by have:=exF_small (t:=t) hr (s:=s) l2; ac_rfl)
  have hlt:(txP acc).length+(txP (exF t row s g)).length≤maxS:=by rw[txP_len,txP_len]; simp at hB; unfold maxS; ac_rfl
  rw[← txP_app]
  generalize txP (exF t row s g)=EF at hc hlt
  generalize atR row s=R1 at i1 he
  generalize atR row g=R2 at i2 he
  generalize txP acc=AC at hlt
  generalize txP row=RW at i1 i2 hc
  generalize ((s:Nat):Int)=si at i1 hc
  generalize ((g:Nat):Int)=gi at i2 hc
  have hx:dRE (dCall (g_exchanges_from a) (gV (dV 0) (gV (dV 1) (gV (dV 3) (gV (dV 4) (Pu.gNil)))))) [.val (.str t),.val (.lst RW),.own (.lst AC),.val (.int si),.val (.int gi)] = .ok (.lst EF) [.val (.str t),.val (.lst RW),.own (.lst AC),.val (.int si),.val (.int gi)]:=dRE_own (call4 rfl rfl rfl rfl hc)
  have hcd:dB (d2 (eqT false) (d2 ixP (dV 1) (dV 3)) (d2 ixP (dV 1) (dV 4))) [.val (.str t),.val (.lst RW),.own (.lst AC),.val (.int si),.val (.int gi)] = .ok true [.val (.str t),.val (.lst RW),.own (.lst AC),.val (.int si),.val (.int gi)]:=by
   simp![i1,i2,he]
  unfold bX4
  exact(if_t hcd).trans (ext_of rfl hx rfl hlt)
 ·rw[decide_eq_false q]at he
  rw[if_neg q,List.append_nil]
  generalize atR row s=R1 at i1 he
  generalize atR row g=R2 at i2 he
  generalize txP acc=AC
  generalize txP row=RW at i1 i2
  generalize ((s:Nat):Int)=si at i1
  generalize ((g:Nat):Int)=gi at i2
  simp![bX4,i1,i2,he]
theorem grd_ret2{d:PEnv→R Flw}{v0 v1:PV}{sl e4 e5 e6:Slot}(h:d [.val v0,.val v1,.none,.none,.none] = .ok (.ret sl) [.val v0,.val v1,e4,e5,e6]):grd 2 [] (fnD 3 d) [.val v0,.val v1] = .ok sl [.val v0,.val v1]:=by
 simp[grd,ownsIn,fnD,List.replicate,h,back,lift,R.bind]
theorem exch_eq(t:Tx)(row:List Tx)(ht:t.length≤20)(hr:row.length≤10) :
  g_exchanges a [.val (.str t),.val (.lst (txP row))] = .ok (.own (.lst (txP (exA t row)))) [.val (.str t),.val (.lst (txP row))]:=by
 have r1:=range1_rg (n:=row.length) (by ac_rfl)
 have hl:=len_tx row
 have hB:=exA_len (t:=t) hr
 obtain⟨⟨s3,s4⟩,e1⟩:=loop_build (i:=3) (db:=bX3 a) (σ:=Slot×Slot)
  (fun acc p=>[.val (.str t),.val (.lst (txP row)),.own (.lst (txP acc)),p.1,p.2]) (fun s=>exG t row s) 100000 (rgN 0 row.length) [] (.none,.none) (by rw[List.nil_append]; exact Nat.le_trans hB (by decide))
  (by
   intro s he acc p hB
   obtain⟨e1,e2⟩:=rgN_mem.mp he
   obtain⟨s4',h⟩:=exch_inner (a:=a) t row s ht hr e2 acc p.2 hB
   refine⟨(.val (.int (s:Nat)),s4'),?_⟩
   have r2:=range2_rg (lo:=s+1) (hi:=row.length) (by ac_rfl) (by ac_rfl)
   have hd:iX4 [.val (.str t),.val (.lst (txP row)),.own (.lst (txP acc)),.val (.int (s:Nat)),p.2] =
     .ok ((rgN (s+1) row.length).map fun x=>PV.int (x:Nat)) [.val (.str t),.val (.lst (txP row)),.own (.lst (txP acc)),.val (.int (s:Nat)),p.2] :=
    dL_of (dCons_of (d2_of (x:=.int (s:Nat)) rfl (dC_of _ _) (add_one s)) (dCons_of (dL_of (dCons_of (x:=.lst (txP row)) rfl dNil_of) hl) dNil_of)) r2
   exact for_of hd h)
 have e1':=e1
 dsimp only at e1'
 rw[List.nil_append,show txP ([]:List Tx)=[] from rfl,show(rgN 0 row.length).flatMap (fun s=>exG t row s)=exA t row from rfl]at e1'
 clear e1
 have hd:iX3 [.val (.str t),.val (.lst (txP row)),.own (.lst []),.none,.none] = .ok ((rgN 0 row.length).map fun x=>PV.int (x:Nat)) [.val (.str t),.val (.lst (txP row)),.own (.lst []),.none,.none] :=
  dL_of (dCons_of (dL_of (dCons_of (x:=.lst (txP row)) rfl dNil_of) hl) dNil_of) r1
 have hb:d_exchanges a [.val (.str t),.val (.lst (txP row)),.none,.none,.none] = .ok (.ret (.own (.lst (txP (exA t row))))) [.val (.str t),.val (.lst (txP row)),.none,s3,s4]:=by
  rw[d_exch_def]
  have h1:=own_of (i:=2) (ε:=[.val (.str t),.val (.lst (txP row)),.none,.none,.none]) (by simp)
  refine(dSeq_step h1).trans ?_
  refine(seqfor_step hd e1').trans ?_
  exact retM_of rfl
 exact grd_ret2 hb
theorem ix_last{row:List Tx}(h:1≤row.length):ixP (.lst (txP row)) (.int (-1))=some (.str (atR row (row.length-1))):=by
 show atI (txP row) (-1)=_
 unfold atI
 have:ixN (txP row).length (-1)=some (row.length-1):=by
  unfold ixN
  rw[txP_len,if_neg (by decide),if_pos (by ac_rfl)]
  congr 1; ac_rfl
 rw[this]
 have h2:row.length-1<row.length:=by ac_rfl
 simp[txP,atR,h2]
def trT(t:Tx)(m w:Nat):List Tx:=(rgN 1 m).map fun p=>unr ((t.take m).drop p++(t.take m).take p) w
theorem turn_comp(t:Tx)(m w:Nat)(w1:1≤w)(w4:w≤4)(ht:t.length≤20)(hm:m≤t.length)(RW:PV) :
  compD [3,2] dYes (dRE (dCall (g_unrolled a) (gV (d2 addP (dSl slP (dV 1) (dPart (dV 0)) (dNo)) (dSl slP (dV 1) (dNo) (dPart (dV 0)))) (gV (dV 2) (Pu.gNil))))) ((rgN 1 m).map fun x=>.int (x:Nat)) [] [.val (.str t),.val RW,.val (.int w),.val (.str (t.take m))] =
   .ok (txP (trT t m w)) [.val (.str t),.val RW,.val (.int w),.val (.str (t.take m))]:=by
 have hc:=compD_pure (cap:=[3,2]) (dt:=dYes) (de:=(dRE (dCall (g_unrolled a) (gV (d2 addP (dSl slP (dV 1) (dPart (dV 0)) (dNo)) (dSl slP (dV 1) (dNo) (dPart (dV 0)))) (gV (dV 2) (Pu.gNil)))))) (ε:=[.val (.str t),.val RW,.val (.int w),.val (.str (t.take m))])
  (fun _=>true) (fun x=>match x with | .int i=>.str (unr ((t.take m).drop i.toNat++(t.take m).take i.toNat) w) | _=>.non) ((rgN 1 m).map fun x=>.int (x:Nat))
  (by
   intro x hx
   obtain⟨i,_,rfl⟩:=List.mem_map.mp hx
   refine⟨by simp![dBlk,capA,noE,dYes],fun _=>?_⟩
   have s1:=sl_fr (t.take m) i
   have s2:=sl_to (t.take m) i
   have h1:addP (.str ((t.take m).drop i)) (.str ((t.take m).take i))=some (.str ((t.take m).drop i++(t.take m).take i)):=addP_str (by unfold maxS; simp; ac_rfl)
   have h2:=unr_eq (a:=a) (z:=(t.take m).drop i++(t.take m).take i) w1 w4 (by simp; ac_rfl)
   simp only[Int.toNat_natCast]
   generalize unr ((t.take m).drop i++(t.take m).take i) w=U at h2
   generalize (t.take m).drop i++(t.take m).take i=Y at h1 h2
   generalize (t.take m).drop i=A1 at s1 h1
   generalize (t.take m).take i=A2 at s2 h1
   generalize t.take m=TM at s1 s2
   generalize ((i:Nat):Int)=ii at s1 s2
   simp![dBlk,capA,noE,dSl,dPart,dNo,s1,s2,h1,h2]) []
 rw[hc,List.nil_append,List.filter_eq_self.mpr (by simp)]
 congr 1
 unfold txP trT
 rw[List.map_map,List.map_map]
 refine List.map_congr_left fun i _=>?_
 simp
def trA(t:Tx)(row:List Tx)(w:Nat):List Tx:=if atR row 0=atR row (row.length-1)then trT t (row.length-1) w else []
theorem turns_eq(t:Tx)(row:List Tx)(w:Nat)(w1:1≤w)(w4:w≤4)(ht:t.length≤20)(hr:1≤row.length)(hr2:row.length≤t.length+1) :
  g_turns a [.val (.str t),.val (.lst (txP row)),.val (.int w)] = .ok (.own (.lst (txP (trA t row w)))) [.val (.str t),.val (.lst (txP row)),.val (.int w)]:=by
 have i1:ixP (.lst (txP row)) (.int 0)=some (.str (atR row 0)):=ix_at (i:=0) (by ac_rfl)
 have i2:=ix_last hr
 have he:=eqS true (atR row 0) (atR row (row.length-1))
 have hneg:negP (.int 1)=some (.int (-1)):=rfl
 unfold trA
 by_cases q:atR row 0=atR row (row.length-1)
 ·rw[decide_eq_true q]at he
  rw[if_pos q]
  have hl:=len_tx row
  have hs:subP (.int (row.length:Nat)) (.int 1)=some (.int ((row.length-1:Nat):Int)):=by
   show some (PV.int _)=_
   congr 2; ac_rfl
  have s1:=sl_to t (row.length-1)
  have hl2:lenP [.str (t.take (row.length-1))]=some (.int ((row.length-1:Nat):Int)):=by
   show some (PV.int _)=_
   congr 2; simp; ac_rfl
  have r1:=range2_rg (lo:=1) (hi:=row.length-1) (by ac_rfl) (by ac_rfl)
  have hc:=turn_comp (a:=a) t (row.length-1) w w1 w4 ht (by ac_rfl) (.lst (txP row))
  generalize txP (trT t (row.length-1) w)=TT at hc
  generalize (rgN 1 (row.length-1)).map (fun x=>PV.int (x:Nat))=RG at r1 hc
  generalize t.take (row.length-1)=T1 at s1 hl2 hc
  generalize ((row.length-1:Nat):Int)=m at hs s1 hl2 r1
  generalize ((row.length:Nat):Int)=n at hl hs
  generalize atR row 0=R1 at i1 he
  generalize atR row (row.length-1)=R2 at i2 he
  generalize txP row=RW at i1 i2 hl hc
  simp only[Bool.xor_true,Bool.not_true]at he
  have r1':range2 [.int 1,.int m]=some RG:=r1
  clear r1
  simp![g_turns,d_turns,i1,i2,hneg,he,hl,hs,dSl,dNo,dPart,s1,dRetN,dComp,hl2,r1',hc]
 ·rw[decide_eq_false q]at he
  rw[if_neg q]
  generalize atR row 0=R1 at i1 he
  generalize atR row (row.length-1)=R2 at i2 he
  generalize txP row=RW at i1 i2
  simp only[Bool.xor_false]at he
  simp![g_turns,d_turns,i1,i2,hneg,he,dRetN,show txP ([]:List Tx)=[] from rfl]
def stepL(t:Tx)(w:Nat):List Tx:=exA t (rowT t (w-1))++trA t (rowT t (w-1)) w
def offT(t:Tx)(w:Nat):List Tx:=sortT (lessT (uniqT (stepL t w)) t)
theorem trA_len(t:Tx)(row:List Tx)(w:Nat):(trA t row w).length≤row.length:=by
 unfold trA
 split
 ·unfold trT; rw[List.length_map,rgN_len]; ac_rfl
 ·simp
theorem off_eq(t:Tx)(w:Nat)(h:Tv t w)(h9:t.length+2≤w+10):g_one_step_off a [.val (.str t),.val (.int w)] = .ok (.own (.lst (txP (offT t w)))) [.val (.str t),.val (.int w)]:=by
 have b1:=h.w1
 have b2:=h.w4
 have b3:=h.h1
 have hs:subP (.int w) (.int 1)=some (.int ((w-1:Nat):Int)):=by
  show some (PV.int _)=_
  congr 2; ac_rfl
 have e1:=pieces_row (a:=a) (t:=t) (w:=w-1) (by ac_rfl) (by ac_rfl)
 have hrl:=rowT_len t (w-1)
 have e2:=exch_eq (a:=a) t (rowT t (w-1)) (by ac_rfl) (by ac_rfl)
 have e3:=turns_eq (a:=a) t (rowT t (w-1)) w b1 b2 (by ac_rfl) (by ac_rfl) (by ac_rfl)
 have l1:=exA_len (t:=t) (row:=rowT t (w-1)) (by ac_rfl)
 have l2:=trA_len t (rowT t (w-1)) w
 have hadd:addP (.lst (txP (exA t (rowT t (w-1))))) (.lst (txP (trA t (rowT t (w-1)) w)))=some (.lst (txP (stepL t w))):=by
  show(if _ then _ else _)=_
  rw[if_pos (by rw[txP_len,txP_len]; unfold maxS; ac_rfl),txP_app]
  rfl
 have hu:lsT [.lst (txP (stepL t w))]=some (uniqT (stepL t w)):=by
  show(txs (txP (stepL t w))).bind _=_
  have:=uniqT_len (stepL t w)
  rw[txs_strs,Option.bind_some,if_pos (by unfold stepL at this; rw[List.length_append]at this; unfold stepL; ac_rfl)]
 unfold offT
 generalize uniqT (stepL t w)=UL at hu
 generalize txP (stepL t w)=SL at hadd hu
 generalize txP (exA t (rowT t (w-1)))=EA at e2 hadd
 generalize txP (trA t (rowT t (w-1)) w)=TA at e3 hadd
 generalize txP (rowT t (w-1))=RW at e1 e2 e3
 generalize ((w-1:Nat):Int)=wi at hs e1
 simp![g_one_step_off,d_one_step_off,dRetN,hs,e1,e2,e3,dSortSub,hadd,hu]
theorem exchd_eq(t:Tx)(w:Nat)(h:Tv t w)(h9:t.length+2≤w+10):g_exchanged a [.val (.str t),.val (.int w)] = .ok (.own (.lst (txP (offT t w)))) [.val (.str t),.val (.int w)]:=by
 have e1:=text_view_eq (a:=a) h
 have e2:=off_eq (a:=a) t w h h9
 generalize txP (offT t w)=O at e2
 generalize vwP w (sortT (wins t w))=V at e1
 simp![g_exchanged,d_exchanged,e1,e2]
end
end Sh
namespace Sh
open PySem L2 Pu Mx
section
variable{a:Ad}
def ltT(t:Tx)(m:Nat):List Tx:=(rgN 1 m).map fun p=>part (List.replicate 3 (t.take m)).flatten p (p+t.length)
def ltA(t:Tx)(row:List Tx):List Tx:=if atR row 0=atR row (row.length-1)then ltT t (row.length-1)else []
end
end Sh
namespace Sh
open PySem L2 Pu Mx
theorem mem_if{p:Prop}[Decidable p]{z:Tx}{L:List Tx}:z∈(if p then L else [])↔p∧z∈L:=by split <;> simp[*]
def Quad(t:Tx)(row:List Tx)(z:Tx):Prop:=∃ s e g l,s<e∧e≤g∧g<l∧l<row.length∧atR row s=atR row g∧atR row e=atR row l∧z=ex4 t s e g l
theorem exA_mem{t:Tx}{row:List Tx}{z:Tx}:z∈exA t row↔Quad t row z:=by
 unfold exA exG exF exL Quad
 simp only[List.mem_flatMap,rgN_mem,mem_if,List.mem_singleton]
 constructor
 ·rintro⟨s,hs,g,hg,q1,e,he,l,hl,q2,rfl⟩
  exact⟨s,e,g,l,by ac_rfl,by ac_rfl,by ac_rfl,hl.2,q1,q2,rfl⟩
 ·rintro⟨s,e,g,l,h1,h2,h3,h4,q1,q2,rfl⟩
  exact⟨s,⟨by ac_rfl,by ac_rfl⟩,g,⟨by ac_rfl,by ac_rfl⟩,q1,e,⟨by ac_rfl,by ac_rfl⟩,l,⟨by ac_rfl,h4⟩,q2,rfl⟩
section
variable{a:Ad}
theorem cut_neg{α:Type}(xs:List α)(k:Nat)(h1:1≤k):cutL xs (some (-(k:Int))) none=xs.drop (xs.length-k):=by
 unfold cutL
 rw[show HT.sIx xs.length xs.length none=xs.length from rfl]
 have:HT.sIx xs.length 0 (some (-(k:Int)))=xs.length-k:=by
  show(if(-(k:Int))<0 then((-(k:Int))+(xs.length:Int)).toNat else min (-(k:Int)).toNat xs.length)=_
  rw[if_pos (by ac_rfl)]
  ac_rfl
 rw[this,List.take_of_length_le (by simp)]
def lkB(a:Ad):PEnv→R Flw:=dSet 5 (d2 addP (dV 5) (dRE (dCall (g_law_pick a) (gV (dV 0) (gO 1 (gV (dF (dL lstP (dCons (dSl slP (dV 5) (dNo) (dPart (dC (.int 2)))) (dCons (dSl slP (dV 5) (dNo) (dPart (dC (.int 3)))) (dCons (dSl slP (dV 5) (dPart (dC (.int 1))) (dPart (dC (.int 3)))) (dCons (dC (.str [97])) (dCons (dC (.str [98])) (dCons (dSl slP (dV 5) (dPart (d1 negP (dC (.int 2)))) (dNo)) (dNil))))))))) (Pu.gNil)))))))
def lkC:PEnv→R Bool:=dB (d2 (cmpI fun i j=>decide (i<j)) (dL lenP (dCons (dV 5) (dNil))) (d2 subP (dV 3) (dC (.int 2))))
theorem d_like_def:d_law_like a=dSeq (dSet 4 (d2 addP (dC (.int 1)) (dRE (dCall (g_law_pick a) (gV (dV 0) (gO 1 (gV (dF (dL lstP (dCons (dC (.int 1)) (dCons (dC (.int 1)) (dCons (dC (.int 2)) (dCons (dC (.int 2)) (dCons (dC (.int 3)) (dNil)))))))) (Pu.gNil))))))))
 (dSeq (dSet 5 (dRE (dCall (g_law_text a) (gV (dV 0) (gO 1 (gV (dV 2) (gV (dC (.int 4)) (Pu.gNil))))))))
 (dSeq (fun ε=>noEr (whileD lkC (lkB a) 1000 ε))
 (dRet (dL tupP (dCons (dSl slP (dV 5) (dNo) (dPart (dL max2P (dCons (dV 4) (dCons (d2 subP (dV 3) (dRE (dCall (g_law_draw a) (gV (dV 0) (gO 1 (gV (dC (.int 3)) (Pu.gNil))))))) (dNil)))))) (dCons (dV 4) (dNil))))))):=rfl
theorem lk_body(ns:List Int)(xs:List PV)(L M W:PV)(z:Tx)(hz:2≤z.length)(hz2:z.length≤12)(hc:∀ c∈z,c∈abcs)(hx:xs.length≤900):∃ y:Tx,1≤y.length∧y.length≤3∧(∀ c∈y,c∈abcs) ∧
  lkB a [scr ns,.own (.lst xs),.val L,.val M,.val W,.val (.str z)] = .ok .next [scr ns,.own (.lst (xs++[.int 0])),.val L,.val M,.val W,.val (.str (z++y))]:=by
 obtain⟨x,hm,hp⟩:=pick_eq (a:=a) ns xs [.str (z.take 2),.str (z.take 3),.str (part z 1 3),.str [97],.str [98],.str (z.drop (z.length-2))] (by ac_rfl) (by simp)
 obtain⟨y,rfl,y1,y2,y3⟩:∃ y:Tx,x = .str y∧1≤y.length∧y.length≤3∧∀ c∈y,c∈abcs:=by
  simp only[List.mem_cons,List.not_mem_nil,or_false]at hm
  rcases hm with rfl | rfl | rfl | rfl | rfl | rfl
  ·exact⟨_,rfl,by simp; ac_rfl,by simp; ac_rfl,fun c h=>hc c (List.mem_of_mem_take h)⟩
  ·exact⟨_,rfl,by simp; ac_rfl,by simp; ac_rfl,fun c h=>hc c (List.mem_of_mem_take h)⟩
  ·exact⟨_,rfl,by unfold part; simp; ac_rfl,by unfold part; simp; ac_rfl,fun c h=>hc c (List.mem_of_mem_drop (List.mem_of_mem_take h))⟩
  ·exact⟨_,rfl,by simp,by simp,by simp[abcs]⟩
  ·exact⟨_,rfl,by simp,by simp,by simp[abcs]⟩
  ·exact⟨_,rfl,by simp; ac_rfl,by simp; ac_rfl,fun c h=>hc c (List.mem_of_mem_drop h)⟩
 refine⟨y,y1,y2,y3,?_⟩
 have s1:slP (.str z) none (some 2)=some (.str (z.take 2)):=sl_to z 2
 have s2:slP (.str z) none (some 3)=some (.str (z.take 3)):=sl_to z 3
 have s3:slP (.str z) (some 1) (some 3)=some (.str (part z 1 3)):=sl_part z 1 3
 have s4:slP (.str z) (some (-2)) none=some (.str (z.drop (z.length-2))):=by
  show some (PV.str (cutL z (some (-((2:Nat):Int))) none))=_
  rw[cut_neg _ _ (by decide)]
 have hn:negP (.int 2)=some (.int (-2)):=rfl
 have ha:addP (.str z) (.str y)=some (.str (z++y)):=addP_str (by unfold maxS; ac_rfl)
 generalize z++y=ZY at ha
 generalize z.take 2=Z1 at s1 hp
 generalize z.take 3=Z2 at s2 hp
 generalize part z 1 3=Z3 at s3 hp
 generalize z.drop (z.length-2)=Z4 at s4 hp
 unfold lkB
 generalize g_law_pick a=G at hp ⊢
 have hL:dF (dL lstP (dCons (dSl slP (dV 5) (dNo) (dPart (dC (.int 2)))) (dCons (dSl slP (dV 5) (dNo) (dPart (dC (.int 3)))) (dCons (dSl slP (dV 5) (dPart (dC (.int 1))) (dPart (dC (.int 3)))) (dCons (dC (.str [97])) (dCons (dC (.str [98])) (dCons (dSl slP (dV 5) (dPart (d1 negP (dC (.int 2)))) (dNo)) (dNil)))))))) [scr ns,.own (.lst xs),.val L,.val M,.val W,.val (.str z)] = .ok (.lst [.str Z1,.str Z2,.str Z3,.str [97],.str [98],.str Z4]) [scr ns,.own (.lst xs),.val L,.val M,.val W,.val (.str z)]:=by
  simp![dSl,dPart,dNo,s1,s2,s3,s4,hn]
 have hd:dRE (dCall G (gV (dV 0) (gO 1 (gV (dF (dL lstP (dCons (dSl slP (dV 5) (dNo) (dPart (dC (.int 2)))) (dCons (dSl slP (dV 5) (dNo) (dPart (dC (.int 3)))) (dCons (dSl slP (dV 5) (dPart (dC (.int 1))) (dPart (dC (.int 3)))) (dCons (dC (.str [97])) (dCons (dC (.str [98])) (dCons (dSl slP (dV 5) (dPart (d1 negP (dC (.int 2)))) (dNo)) (dNil))))))))) (Pu.gNil))))) [scr ns,.own (.lst xs),.val L,.val M,.val W,.val (.str z)] = .ok (.str y) [scr ns,.own (.lst (xs++[.int 0])),.val L,.val M,.val W,.val (.str z)]:=by
  generalize dF (dL lstP _)=D at hL ⊢
  simp[dRE,dCall,gV,gO,Pu.gNil,dV,hL,R.bind,lift,owns,argS,hp,putR,putS,keptO,frzS]
 exact dSet_step (d2_of (x:=.str z) rfl hd ha)
theorem lk_cond(ns:List Int)(xs:List PV)(L W:PV)(most:Nat)(z:Tx)(hm:2≤most):lkC [scr ns,.own (.lst xs),.val L,.val (.int most),.val W,.val (.str z)] = .ok (decide (z.length<most-2)) [scr ns,.own (.lst xs),.val L,.val (.int most),.val W,.val (.str z)]:=by
 have hl:lenP [.str z]=some (.int (z.length:Nat)):=rfl
 have hs:subP (.int most) (.int 2)=some (.int ((most-2:Nat):Int)):=by
  show some (PV.int _)=_
  congr 2; ac_rfl
 have hd:decide (((z.length:Nat):Int)<((most-2:Nat):Int))=decide (z.length<most-2):=by
  by_cases q:z.length<most-2
  ·rw[decide_eq_true q,decide_eq_true (by ac_rfl)]
  ·rw[decide_eq_false q,decide_eq_false (by ac_rfl)]
 rw[← hd]
 generalize ((most-2:Nat):Int)=m2 at hs
 generalize ((z.length:Nat):Int)=zl at hl
 simp![lkC,hl,hs]
theorem while_t{t:PEnv→R Bool}{db:PEnv→R Flw}{n:Nat}{ε ε1 ε2:PEnv}(h:t ε = .ok true ε1)(h2:db ε1 = .ok .next ε2):whileD t db (n+1) ε=whileD t db n ε2:=by
 rw[whileD,h,R.bind_ok]
 simp only
 rw[h2]
theorem while_f{t:PEnv→R Bool}{db:PEnv→R Flw}{n:Nat}{ε ε1:PEnv}(h:t ε = .ok false ε1):whileD t db (n+1) ε = .ok .next ε1:=by
 rw[whileD,h,R.bind_ok]
theorem lk_while(ns:List Int)(L W:PV)(most:Nat)(m6:6≤most)(m10:most≤10):∀ (k fuel:Nat) (xs:List PV) (z:Tx),most-2-z.length≤k→k<fuel→2≤z.length→z.length≤most→(∀ c∈z,c∈abcs)→xs.length+k≤900 →
  ∃ (ys:List PV) (y:Tx),most≤y.length+2∧y.length≤most∧(∀ c∈y,c∈abcs)∧ys.length≤xs.length+k∧whileD lkC (lkB a) fuel [scr ns,.own (.lst xs),.val L,.val (.int most),.val W,.val (.str z)] = .ok .next [scr ns,.own (.lst ys),.val L,.val (.int most),.val W,.val (.str y)]:=by
 intro k
 induction k with
 | zero =>
  intro fuel xs z h1 h2 h3 h4 hc hx
  obtain⟨f,rfl⟩:∃ f,fuel=f+1:=⟨fuel-1,by ac_rfl⟩
  have c:=lk_cond ns xs L W most z (by ac_rfl)
  rw[decide_eq_false (by ac_rfl)]at c
  exact⟨xs,z,by ac_rfl,h4,hc,by ac_rfl,while_f c⟩
 | succ k ih =>
  intro fuel xs z h1 h2 h3 h4 hc hx
  obtain⟨f,rfl⟩:∃ f,fuel=f+1:=⟨fuel-1,by ac_rfl⟩
  have c:=lk_cond ns xs L W most z (by ac_rfl)
  by_cases q:z.length<most-2
  ·rw[decide_eq_true q]at c
   obtain⟨y,y1,y2,y3,hb⟩:=lk_body (a:=a) ns xs L (.int most) W z h3 (by ac_rfl) hc (by ac_rfl)
   obtain⟨ys,v,v1,v2,v3,v4,hw⟩:=ih f (xs++[.int 0]) (z++y) (by simp; ac_rfl) (by ac_rfl) (by simp; ac_rfl) (by simp; ac_rfl) (fun d hd=>by
    rcases List.mem_append.mp hd with hd | hd
    ·exact hc d hd
    ·exact y3 d hd) (by simp; ac_rfl)
   refine⟨ys,v,v1,v2,v3,?_,(while_t c hb).trans hw⟩
   simp at v4; ac_rfl
  ·rw[decide_eq_false q]at c
   exact⟨xs,z,by ac_rfl,h4,hc,by ac_rfl,while_f c⟩
theorem like_eq(ns:List Int)(xs:List PV)(low most:Nat)(l2:2≤low)(l4:low≤4)(m6:6≤most)(m10:most≤10)(hx:xs.length≤400):∃ (t:Tx) (w:Nat) (ys:List PV),2≤w∧w≤4∧most≤t.length+2∧t.length≤most∧(∀ c∈t,c∈abcs)∧ys.length≤xs.length+30 ∧
  g_law_like a [scr ns,.own (.lst xs),.val (.int low),.val (.int most)] = .ok (.val (.tup [.str t,.int w])) [scr ns,.own (.lst ys),.val (.int low),.val (.int most)]:=by
 obtain⟨f,hf,hp⟩:=pick_eq (a:=a) ns xs [.int 1,.int 1,.int 2,.int 2,.int 3] (by ac_rfl) (by decide)
 obtain⟨w0,rfl,f0,f1⟩:∃ w0:Nat,f = .int (w0:Nat)∧1≤w0∧w0≤3:=by
  simp only[List.mem_cons,List.not_mem_nil,or_false]at hf
  rcases hf with rfl | rfl | rfl | rfl | rfl
  ·exact⟨1,rfl,by decide,by decide⟩
  ·exact⟨1,rfl,by decide,by decide⟩
  ·exact⟨2,rfl,by decide,by decide⟩
  ·exact⟨2,rfl,by decide,by decide⟩
  ·exact⟨3,rfl,by decide,by decide⟩
 obtain⟨z,y1,z1,z2,zabc,hy1,hz⟩:=text_eq (a:=a) ns (xs++[.int 0]) low 4 l4 (by decide) (by simp; ac_rfl)
 simp only[List.length_append,List.length_singleton]at hy1
 obtain⟨y2,z',c1,c2,c3,hy2,hw⟩:=lk_while (a:=a) ns (.int low) (.int ((w0+1:Nat):Int)) most m6 m10 10 1000 y1 z (by ac_rfl) (by ac_rfl) (by ac_rfl) (by ac_rfl) zabc (by ac_rfl)
 obtain⟨v,v0,v1,hv⟩:=draw_eq (a:=a) ns y2 3 (by decide) (by ac_rfl)
 obtain⟨d,rfl⟩:∃ d:Nat,v=d:=⟨v.toNat,by ac_rfl⟩
 obtain⟨n,hn,n1,n2⟩:∃ n:Nat,max2P [.int ((w0+1:Nat):Int),.int ((most:Int)-d)]=some (.int (n:Nat))∧most≤n+2∧n≤most:=by
  refine⟨most-d,?_,by ac_rfl,by ac_rfl⟩
  show some (PV.int (if((most:Int)-d) > ((w0+1:Nat):Int)then((most:Int)-d)else((w0+1:Nat):Int)))=_
  congr 2
  split <;> ac_rfl
 refine⟨z'.take n,w0+1,y2++[.int 0],by ac_rfl,by ac_rfl,by simp; ac_rfl,by simp; ac_rfl,fun c h=>c3 c (List.mem_of_mem_take h),by simp; ac_rfl,?_⟩
 have hadd:addP (.int 1) (.int (w0:Nat))=some (.int ((w0+1:Nat):Int)):=by
  show some (PV.int _)=_
  congr 2; ac_rfl
 have hsub:subP (.int (most:Nat)) (.int (d:Nat))=some (.int ((most:Int)-d)):=rfl
 have hsl:=sl_to z' n
 have hb:d_law_like a [scr ns,.own (.lst xs),.val (.int low),.val (.int most),.none,.none] = .ok (.ret (.val (.tup [.str (z'.take n),.int ((w0+1:Nat):Int)]))) [scr ns,.own (.lst (y2++[.int 0])),.val (.int low),.val (.int most),.val (.int ((w0+1:Nat):Int)),.val (.str z')]:=by
  rw[d_like_def]
  generalize (most:Int)-d=md at hn hsub
  generalize ((d:Nat):Int)=di at hv hsub
  generalize ((w0+1:Nat):Int)=wi at hn hadd hw ⊢
  generalize z'.take n=ZN at hsl ⊢
  generalize ((n:Nat):Int)=ni at hn hsl
  have k1:dSet 4 (d2 addP (dC (.int 1)) (dRE (dCall (g_law_pick a) (gV (dV 0) (gO 1 (gV (dF (dL lstP (dCons (dC (.int 1)) (dCons (dC (.int 1)) (dCons (dC (.int 2)) (dCons (dC (.int 2)) (dCons (dC (.int 3)) (dNil)))))))) (Pu.gNil))))))) [scr ns,.own (.lst xs),.val (.int low),.val (.int most),.none,.none] = .ok .next [scr ns,.own (.lst (xs++[.int 0])),.val (.int low),.val (.int most),.val (.int wi),.none]:=by
   generalize g_law_pick a=G at hp ⊢
   simp![hp,hadd]
  have k2:dSet 5 (dRE (dCall (g_law_text a) (gV (dV 0) (gO 1 (gV (dV 2) (gV (dC (.int 4)) (Pu.gNil))))))) [scr ns,.own (.lst (xs++[.int 0])),.val (.int low),.val (.int most),.val (.int wi),.none] = .ok .next [scr ns,.own (.lst y1),.val (.int low),.val (.int most),.val (.int wi),.val (.str z)]:=by
   have hz':g_law_text a [scr ns,.own (.lst (xs++[.int 0])),.val (.int low),.val (.int 4)] = .ok (.val (.str z)) [scr ns,.own (.lst y1),.val (.int low),.val (.int 4)]:=hz
   generalize g_law_text a=G at hz' ⊢
   simp![hz']
  refine(dSeq_step k1).trans ?_
  refine(dSeq_step k2).trans ?_
  refine(dSeq_step (d1:=fun ε=>noEr (whileD lkC (lkB a) 1000 ε)) (by show noEr _=_; rw[hw]; rfl)).trans ?_
  generalize g_law_draw a=G at hv ⊢
  simp![hv,hsub,hn,dSl,dPart,dNo,hsl]
 unfold g_law_like
 generalize d_law_like a=D at hb
 simp[grd,ownsIn,fnD,List.replicate,hb,back,lift,R.bind,flatO]
end
end Sh
namespace Sh
open PySem L2 Pu Mx
def sg(s e g l i:Nat):Nat:=if i<s then i else if i<s+(l-g)then g+(i-s)else if i<s+(l-g)+(g-e)then e+(i-(s+(l-g)))else if i<l then s+(i-(s+(l-g)+(g-e)))else i
theorem part_length{t:Tx}{i j:Nat}(h:j≤t.length):(part t i j).length=j-i:=by unfold part; simp; ac_rfl
theorem part_get{t:Tx}{i j k:Nat}(h:k<j-i):(part t i j)[k]?=t[i+k]?:=by
 unfold part
 rw[List.getElem?_take,if_pos h,List.getElem?_drop]
theorem ex4_len{t:Tx}{s e g l:Nat}(h1:s<e)(h2:e≤g)(h3:g<l)(h4:l≤t.length):(ex4 t s e g l).length=t.length:=by
 unfold ex4
 rw[List.length_append,List.length_append,List.length_append,List.length_append,part_length h4,part_length (by ac_rfl),part_length (by ac_rfl),List.length_take,List.length_drop]
 ac_rfl
theorem ex4_get{t:Tx}{s e g l:Nat}(h1:s<e)(h2:e≤g)(h3:g<l)(h4:l≤t.length)(i:Nat):(ex4 t s e g l)[i]?=t[sg s e g l i]?:=by
 have e1:(t.take s).length=s:=by simp; ac_rfl
 have e2:=part_length (t:=t) (i:=g) (j:=l) h4
 have e3:=part_length (t:=t) (i:=e) (j:=g) (by ac_rfl)
 have e4:=part_length (t:=t) (i:=s) (j:=e) (by ac_rfl)
 unfold ex4 sg
 by_cases c1:i<s
 ·rw[if_pos c1,List.append_assoc,List.append_assoc,List.append_assoc,List.getElem?_append_left (by ac_rfl),List.getElem?_take,if_pos c1]
 ·rw[if_neg c1,List.append_assoc,List.append_assoc,List.append_assoc,List.getElem?_append_right (by ac_rfl),e1]
  by_cases c2:i<s+(l-g)
  ·rw[if_pos c2,List.getElem?_append_left (by ac_rfl),part_get (by ac_rfl)]
  ·rw[if_neg c2,List.getElem?_append_right (by ac_rfl),e2]
   by_cases c3:i<s+(l-g)+(g-e)
   ·rw[if_pos c3,List.getElem?_append_left (by ac_rfl),part_get (by ac_rfl),show i-s-(l-g)=i-(s+(l-g)) by ac_rfl]
   ·rw[if_neg c3,List.getElem?_append_right (by ac_rfl),e3]
    by_cases c4:i<l
    ·rw[if_pos c4,List.getElem?_append_left (by ac_rfl),part_get (by ac_rfl)]
     congr 1; ac_rfl
    ·rw[if_neg c4,List.getElem?_append_right (by ac_rfl),e4,List.getElem?_drop]
     congr 1; ac_rfl
theorem sg_step{s e g l:Nat}(h1:s<e)(h2:e≤g)(h3:g<l)(i:Nat):sg s e g l (i+1)=sg s e g l i+1∨(sg s e g l (i+1)=g∧sg s e g l i+1=s)∨(sg s e g l (i+1)=e∧sg s e g l i+1=l)∨(sg s e g l (i+1)=s∧sg s e g l i+1=l∧e=g)∨(sg s e g l (i+1)=s∧sg s e g l i+1=g)∨(sg s e g l (i+1)=l∧sg s e g l i+1=e):=by
 unfold sg
 (repeat' split) <;> ac_rfl
theorem sg_back{s e g l:Nat}(h1:s<e)(h2:e≤g)(h3:g<l)(j:Nat):sg s e g l (sg s (s+(l-g)) (s+(l-g)+(g-e)) l j)=j:=by
 have hj:∀ i,sg s (s+(l-g)) (s+(l-g)+(g-e)) l j=i→sg s e g l i=j:=by
  intro i hi
  unfold sg at hi ⊢
  (repeat' split at hi) <;> (repeat' split) <;> ac_rfl
 exact hj _ rfl
theorem sg_lt{s e g l m:Nat}(h1:s<e)(h2:e≤g)(h3:g<l)(h4:l≤m){i:Nat}(h:i<m):sg s e g l i<m:=by
 unfold sg
 (repeat' split) <;> ac_rfl
theorem sg_inj{s e g l:Nat}(h1:s<e)(h2:e≤g)(h3:g<l){i j:Nat}(h:sg s e g l i=sg s e g l j):i=j:=by
 unfold sg at h
 (repeat' split at h) <;> ac_rfl
theorem sg_perm{s e g l m:Nat}(h1:s<e)(h2:e≤g)(h3:g<l)(h4:l≤m):((List.range m).map (sg s e g l)).Perm (List.range m):=by
 rw[List.perm_ext_iff_of_nodup ?_ List.nodup_range]
 ·intro j
  rw[List.mem_map,List.mem_range]
  constructor
  ·rintro⟨i,hi,rfl⟩
   exact sg_lt h1 h2 h3 h4 (List.mem_range.mp hi)
  ·intro hj
   exact⟨sg s (s+(l-g)) (s+(l-g)+(g-e)) l j,List.mem_range.mpr (sg_lt (by ac_rfl) (by ac_rfl) (by ac_rfl) h4 hj),sg_back h1 h2 h3 j⟩
 ·show List.Pairwise _ _
  rw[List.pairwise_map]
  exact List.Pairwise.imp (fun hne heq=>hne (sg_inj h1 h2 h3 heq)) (List.nodup_range (n:=m))
def Pc(t:Tx)(v i j:Nat):Prop:=∀ k,k<v→t[i+k]?=t[j+k]?
theorem ex_win{t:Tx}{v s e g l:Nat}(h1:s<e)(h2:e≤g)(h3:g<l)(h4:l≤t.length)(p1:Pc t v s g)(p2:Pc t v e l):∀ k,k≤v→∀ i,(ex4 t s e g l)[i+k]?=t[sg s e g l i+k]?
 | 0,_,i=>ex4_get h1 h2 h3 h4 i
 | k+1,hk,i=>by
  have ih:=ex_win h1 h2 h3 h4 p1 p2 k (by ac_rfl) (i+1)
  rw[show i+(k+1)=i+1+k by ac_rfl,ih,show sg s e g l i+(k+1)=sg s e g l i+1+k by ac_rfl]
  rcases sg_step h1 h2 h3 i with q | ⟨q,r⟩ | ⟨q,r⟩ | ⟨q,r,u⟩ | ⟨q,r⟩ | ⟨q,r⟩ <;> rw[q]
  ·rw[r]; exact(p1 k (by ac_rfl)).symm
  ·rw[r]; exact p2 k (by ac_rfl)
  ·rw[r,p1 k (by ac_rfl),← u]; exact p2 k (by ac_rfl)
  ·rw[r]; exact p1 k (by ac_rfl)
  ·rw[r]; exact(p2 k (by ac_rfl)).symm
theorem cut_ext{t z:Tx}{i j w:Nat}(h:∀ k,k<w→z[i+k]?=t[j+k]?):(z.drop i).take w=(t.drop j).take w:=by
 refine List.ext_getElem? fun k=>?_
 rw[List.getElem?_take,List.getElem?_take]
 split
 ·rename_i hk
  rw[List.getElem?_drop,List.getElem?_drop]; exact h k hk
 ·rfl
theorem pc_of{t:Tx}{v i j:Nat}(h:(t.drop i).take v=(t.drop j).take v):Pc t v i j:=fun k hk=>by
 have:=congrArg (fun l:Tx=>l[k]?) h
 simpa[List.getElem?_take,hk,List.getElem?_drop]using this
theorem atR_row{t:Tx}{v i:Nat}(h:i<t.length+1-v):atR (rowT t v) i=(t.drop i).take v:=by
 unfold Sh.atR rowT
 simp[h]
theorem ex_view{t:Tx}{w s e g l:Nat}(w1:1≤w)(h1:s<e)(h2:e≤g)(h3:g<l)(h4:l+w≤t.length+1)(p1:Pc t (w-1) s g)(p2:Pc t (w-1) e l):(wins (ex4 t s e g l) w).Perm (wins t w):=by
 have hl:l≤t.length:=by ac_rfl
 rw[wins_range _ _ w1,wins_range _ _ w1,ex4_len h1 h2 h3 hl]
 have:(List.range (t.length+1-w)).map (fun i=>((ex4 t s e g l).drop i).take w)=((List.range (t.length+1-w)).map (sg s e g l)).map fun j=>(t.drop j).take w:=by
  rw[List.map_map]
  refine List.map_congr_left fun i _=>?_
  exact cut_ext fun k hk=>ex_win h1 h2 h3 hl p1 p2 k (by ac_rfl) i
 rw[this]
 exact(sg_perm h1 h2 h3 (by ac_rfl)).map _
theorem sg_at_s{s e g l:Nat}(h1:s<e)(h2:e≤g)(h3:g<l):sg s e g l s=g:=by unfold sg; (repeat' split) <;> ac_rfl
theorem sg_at_g{s e g l:Nat}(h1:s<e)(h2:e≤g)(h3:g<l):sg s e g l (s+(l-g)+(g-e))=s:=by unfold sg; (repeat' split) <;> ac_rfl
theorem sg_at_l{s e g l:Nat}(h1:s<e)(h2:e≤g)(h3:g<l):sg s e g l l=l:=by unfold sg; (repeat' split) <;> ac_rfl
theorem sg_at_e{s e g l:Nat}(h1:s<e)(h2:e≤g)(h3:g<l):sg s e g l (s+(l-g))=e∨(sg s e g l (s+(l-g))=s∧e=g):=by unfold sg; (repeat' split) <;> ac_rfl
theorem ex_back{t:Tx}{s e g l:Nat}(h1:s<e)(h2:e≤g)(h3:g<l)(h4:l≤t.length):ex4 (ex4 t s e g l) s (s+(l-g)) (s+(l-g)+(g-e)) l=t:=by
 refine List.ext_getElem? fun i=>?_
 rw[ex4_get (by ac_rfl) (by ac_rfl) (by ac_rfl) (by rw[ex4_len h1 h2 h3 h4]; exact h4),ex4_get h1 h2 h3 h4,sg_back h1 h2 h3]
theorem quad_of{t:Tx}{w:Nat}(w1:1≤w){z:Tx}:Quad t (rowT t (w-1)) z↔∃ s e g l,s<e∧e≤g∧g<l∧l+w≤t.length+1∧Pc t (w-1) s g∧Pc t (w-1) e l∧z=ex4 t s e g l:=by
 unfold Quad
 rw[rowT_len]
 constructor
 ·rintro⟨s,e,g,l,h1,h2,h3,h4,q1,q2,rfl⟩
  rw[atR_row (by ac_rfl),atR_row (by ac_rfl)]at q1 q2
  exact⟨s,e,g,l,h1,h2,h3,by ac_rfl,pc_of q1,pc_of q2,rfl⟩
 ·rintro⟨s,e,g,l,h1,h2,h3,h4,q1,q2,rfl⟩
  refine⟨s,e,g,l,h1,h2,h3,by ac_rfl,?_,?_,rfl⟩
  ·rw[atR_row (by ac_rfl),atR_row (by ac_rfl)]; exact cut_ext q1
  ·rw[atR_row (by ac_rfl),atR_row (by ac_rfl)]; exact cut_ext q2
theorem quad_back{t z:Tx}{w:Nat}(w1:1≤w)(h:Quad t (rowT t (w-1)) z):Quad z (rowT z (w-1)) t:=by
 obtain⟨s,e,g,l,h1,h2,h3,h4,q1,q2,rfl⟩:=(quad_of w1).mp h
 have hl:l≤t.length:=by ac_rfl
 have hw:=fun k hk i=>ex_win h1 h2 h3 hl q1 q2 k hk i
 refine(quad_of w1).mpr ⟨s,s+(l-g),s+(l-g)+(g-e),l,by ac_rfl,by ac_rfl,by ac_rfl,by rw[ex4_len h1 h2 h3 hl]; exact h4,fun k hk=>?_,fun k hk=>?_,(ex_back h1 h2 h3 hl).symm⟩
 ·rw[hw k (by ac_rfl),hw k (by ac_rfl),sg_at_s h1 h2 h3,sg_at_g h1 h2 h3]
  exact(q1 k hk).symm
 ·rw[hw k (by ac_rfl),hw k (by ac_rfl),sg_at_l h1 h2 h3]
  rcases sg_at_e h1 h2 h3 with q | ⟨q,r⟩ <;> rw[q]
  ·exact q2 k hk
  ·rw[q1 k hk,← r]; exact q2 k hk
theorem quad_same{t z:Tx}{w:Nat}(w1:1≤w)(h:Quad t (rowT t (w-1)) z):z.length=t.length∧(wins z w).Perm (wins t w)∧∀ c∈z,c∈t:=by
 obtain⟨s,e,g,l,h1,h2,h3,h4,q1,q2,rfl⟩:=(quad_of w1).mp h
 refine⟨ex4_len h1 h2 h3 (by ac_rfl),ex_view w1 h1 h2 h3 h4 q1 q2,fun c hc=>?_⟩
 unfold ex4 part at hc
 simp only[List.mem_append]at hc
 rcases hc with(((hc | hc) | hc) | hc) | hc
 ·exact List.mem_of_mem_take hc
 ·exact List.mem_of_mem_drop (List.mem_of_mem_take hc)
 ·exact List.mem_of_mem_drop (List.mem_of_mem_take hc)
 ·exact List.mem_of_mem_drop (List.mem_of_mem_take hc)
 ·exact List.mem_of_mem_drop hc
theorem ring_text{t:Tx}{m w:Nat}(w1:1≤w)(hm:m+w=t.length+1)(m1:1≤m)(h:Pc t (w-1) 0 m):t=unr (t.take m) w:=by
 have hr:(t.take m).length=m:=by simp; ac_rfl
 have key:∀ i,i<t.length→t[i]?=some (Mx.atR (t.take m) i):=by
  intro i
  induction i using Nat.strongRecOn with
  | ind i ih =>
   intro hi
   by_cases c:i<m
   ·have:=Mx.atR_lt (z:=t.take m) (i:=i) (by ac_rfl)
    rw[← this,List.getElem?_take,if_pos c]
   ·have h1:=h (i-m) (by ac_rfl)
    rw[show 0+(i-m)=i-m by ac_rfl,show m+(i-m)=i by ac_rfl]at h1
    rw[← h1,ih (i-m) (by ac_rfl) (by ac_rfl)]
    have:=Mx.atR_add (t.take m) (i-m)
    rw[hr,show m+(i-m)=i by ac_rfl]at this
    rw[this]
 have hl:(unr (t.take m) w).length=t.length:=by rw[unr_len (by ac_rfl) w1,hr]; ac_rfl
 refine List.ext_getElem? fun i=>?_
 by_cases c:i<t.length
 ·rw[key i c,unr_get (by ac_rfl) w1 (by ac_rfl)]
 ·rw[List.getElem?_eq_none (by ac_rfl),List.getElem?_eq_none (by ac_rfl)]
theorem trA_mem{t:Tx}{w:Nat}(w1:1≤w)(h1:w≤t.length){z:Tx}:z∈trA t (rowT t (w-1)) w↔Pc t (w-1) 0 (t.length+1-w)∧∃ p,1≤p∧p<t.length+1-w∧z=unr (rot p (t.take (t.length+1-w))) w:=by
 unfold trA trT
 rw[mem_if,rowT_len,show t.length+1-(w-1)-1=t.length+1-w by ac_rfl,atR_row (by ac_rfl),atR_row (by ac_rfl),List.mem_map]
 constructor
 ·rintro⟨q,p,hp,rfl⟩
  obtain⟨p1,p2⟩:=rgN_mem.mp hp
  exact⟨pc_of q,p,p1,p2,rfl⟩
 ·rintro⟨q,p,p1,p2,rfl⟩
  exact⟨cut_ext q,p,rgN_mem.mpr ⟨p1,p2⟩,rfl⟩
theorem turn_view{t z:Tx}{w:Nat}(w1:1≤w)(h1:w≤t.length)(h:z∈trA t (rowT t (w-1)) w):z.length=t.length∧(wins z w).Perm (wins t w)∧(∀ c∈z,c∈t)∧t∈trA z (rowT z (w-1)) w:=by
 obtain⟨q,p,p1,p2,rfl⟩:=(trA_mem w1 h1).mp h
 generalize hm:t.length+1-w=m at q p2
 have ht:=ring_text w1 (m:=m) (by ac_rfl) (by ac_rfl) q
 have hr:(t.take m).length=m:=by simp; ac_rfl
 generalize hR:t.take m=R at ht hr
 have hrl:(rot p R).length=m:=by rw[rot_len (by ac_rfl),hr]
 have hzl:(unr (rot p R) w).length=t.length:=by rw[unr_len (by ac_rfl) w1,hrl]; ac_rfl
 refine⟨hzl,?_,fun c hc=>?_,?_⟩
 ·rw[wins_unr (by ac_rfl) w1,ht,wins_unr (by ac_rfl) w1]
  exact cw_rot (by ac_rfl)
 ·have:=rot_mem (unr_mem hc)
  rw[← hR]at this
  exact List.mem_of_mem_take this
 ·rw[trA_mem w1 (by ac_rfl),hzl,hm]
  refine⟨fun k hk=>?_,m-p,by ac_rfl,by ac_rfl,?_⟩
  ·rw[unr_get (by ac_rfl) w1 (by ac_rfl),unr_get (by ac_rfl) w1 (by ac_rfl)]
   have:=Mx.atR_add (rot p R) k
   rw[hrl]at this
   rw[this,Nat.zero_add]
  ·have htk:=unr_take (z:=rot p R) (w:=w) (by ac_rfl) w1
   rw[hrl]at htk
   rw[htk,rot_rot (by ac_rfl) (by ac_rfl) (by ac_rfl),hr,show(p+(m-p)) % m=0 by rw[show p+(m-p)=m by ac_rfl,Nat.mod_self],rot_zero]
   exact ht
theorem offT_mem{t:Tx}{w:Nat}{z:Tx}:z∈offT t w↔z∈stepL t w∧z≠t:=by
 unfold offT
 rw[(sortT_perm _).mem_iff]
 unfold lessT
 rw[List.mem_filter,uniqT_mem,decide_eq_true_eq]
theorem step_good{t z:Tx}{w:Nat}(h:Tv t w)(hz:z∈stepL t w):Tv z w∧z.length=t.length∧(wins z w).Perm (wins t w)∧t∈stepL z w:=by
 unfold stepL at hz ⊢
 rcases List.mem_append.mp hz with hz | hz
 ·rw[exA_mem]at hz
  obtain⟨a1,a2,a3⟩:=quad_same h.w1 hz
  exact⟨⟨h.w1,h.w4,by rw[a1]; exact h.h1,by rw[a1]; exact h.h9,fun c hc=>h.abc c (a3 c hc)⟩,a1,a2,List.mem_append.mpr (.inl (exA_mem.mpr (quad_back h.w1 hz)))⟩
 ·obtain⟨a1,a2,a3,a4⟩:=turn_view h.w1 h.h1 hz
  exact⟨⟨h.w1,h.w4,by rw[a1]; exact h.h1,by rw[a1]; exact h.h9,fun c hc=>h.abc c (a3 c hc)⟩,a1,a2,List.mem_append.mpr (.inr a4)⟩
theorem off_good{t z:Tx}{w:Nat}(h:Tv t w)(hz:z∈offT t w):Tv z w∧z.length=t.length∧sortT (wins z w)=sortT (wins t w)∧z≠t∧t∈offT z w:=by
 obtain⟨h1,h2⟩:=offT_mem.mp hz
 obtain⟨a1,a2,a3,a4⟩:=step_good h h1
 exact⟨a1,a2,eq_sortT ((sortT_perm _).trans a3) (sortT_rises _),h2,offT_mem.mpr ⟨a4,fun e=>h2 e.symm⟩⟩
end Sh
namespace K17
open PySem L2 Pu Mx Sh
section
variable{a:Ad}
theorem call2{G:PEnv→R Slot}{ε:PEnv}{i0 i1:Nat}{v0 v1:PV}{r:Slot}(h0:ε[i0]?=some (.val v0))(h1:ε[i1]?=some (.val v1))
  (hG:G [.val v0,.val v1] = .ok r [.val v0,.val v1]):dCall G (gV (dV i0) (gV (dV i1) (Pu.gNil))) ε = .ok r ε:=by
 unfold dCall
 rw[gV_of (dV_of h0) (gV_of (dV_of h1) gNil_of),R.bind_ok]
 simp[owns,argS,R.bind,lift,hG,putR,putS,keptO]
theorem ret_of{d:PEnv→R PV}{ε ε1:PEnv}{x:PV}(h:d ε = .ok x ε1):dRet d ε = .ok (.ret (.val x)) ε1:=by unfold dRet; rw[h]; rfl
theorem eqT_vws(neg:Bool)(w:Nat)(ls ms:List Tx):Pu.eqT neg (vwP w ls) (vwP w ms)=some (.bl (neg ^^ decide (ls=ms))):=by
 have d:dep (vwP w ls)≤8:=by
  simp[vwP,dep,deps,dep_txs]
 have e:eqP (vwP w ls) (vwP w ms)=some (decide (ls=ms)):=by
  show(eqP (.int w) (.int w)).bind (fun a=>((eqP (.tup (txP ls)) (.tup (txP ms))).bind (fun a=>(some ([]:List PV).isEmpty).map fun b=>a && b)).map fun b=>a && b)=_
  have h1:eqP (.int w) (.int w)=some true:=by show some ((w:Int) == w)=_; simp
  have h2:eqP (.tup (txP ls)) (.tup (txP ms))=some (decide (ls=ms)):=by show eqPs _ _=_; rw[eq_txs]
  rw[h1,h2]; simp
 show(if dep (vwP w ls)≤8 then(eqP (vwP w ls) (vwP w ms)).map (fun k=>PV.bl (neg ^^ k))else none)=_
 rw[if_pos d,e]
 rfl
theorem alike_eq{t u:Tx}{w:Nat}(h:Tv t w)(g:Tv u w):g_alike a [.val (.str t),.val (.str u),.val (.int w)] = .ok (.val (.bl (decide (sortT (wins t w)=sortT (wins u w))))) [.val (.str t),.val (.str u),.val (.int w)]:=by
 have e1:=text_view_eq (a:=a) h
 have e2:=text_view_eq (a:=a) g
 have e3:Pu.eqT false (vwP w (sortT (wins t w))) (vwP w (sortT (wins u w)))=some (.bl (decide (sortT (wins t w)=sortT (wins u w)))):=by
  rw[eqT_vws]; simp
 generalize vwP w (sortT (wins t w))=V at e1 e3
 generalize vwP w (sortT (wins u w))=W at e2 e3
 simp![g_alike,d_alike,e1,e2,e3]
theorem in_lst(neg:Bool)(x:Tx)(ls:List Tx):inP neg (.str x) (.lst (txP ls))=some (.bl (neg ^^ decide (x∈ls))):=by
 have hv:inV (tV x) (tVs ls)=decide (x∈ls):=by
  unfold inV tVs
  rw[Bool.eq_iff_iff,List.any_eq_true,decide_eq_true_eq]
  constructor
  ·rintro⟨y,hy,e⟩
   obtain⟨z,hz,rfl⟩:=List.mem_map.mp hy
   have:z=x:=tS_inj (by simpa[eqV,tV]using e)
   rwa[← this]
  ·intro h
   exact⟨tV x,List.mem_map.mpr ⟨x,h,rfl⟩,by simp[eqV,tV]⟩
 show(flP (.str x)).bind (fun v=>(flPs (txP ls)).map fun ws=>PV.bl (neg ^^ inV v ws))=_
 rw[flPs_txP]
 show some (PV.bl (neg ^^ inV (tV x) (tVs ls)))=_
 rw[hv]
theorem comp_none{cap:List Nat}{dt:PEnv→R Bool}{de:PEnv→R PV}{ε:PEnv}(ls:List Tx)(h:∀ z∈ls,noE (dBlk cap dt (.str z) ε) = .ok false ε):compD cap dt de (txP ls) [] ε = .ok [] ε:=by
 have hc:=compD_pure (cap:=cap) (dt:=dt) (de:=de) (ε:=ε) (fun _=>false) (fun x=>x) (txP ls) (by
  intro x hx
  obtain⟨z,hz,rfl⟩:=List.mem_map.mp hx
  exact⟨h z hz,fun q=>by cases q⟩) []
 rw[hc]
 simp
theorem comp_cd{cap:List Nat}{di:PEnv→R (List PV)}{dt:PEnv→R Bool}{de:PEnv→R PV}{ε:PEnv}{ls:List Tx}(hi:di ε = .ok (txP ls) ε)(h:∀ z∈ls,noE (dBlk cap dt (.str z) ε) = .ok false ε) :
  dIf (dB (d2 (eqT true) (dF (dComp cap di dt de)) (dF (dL lstP (dNil))))) (dRet (dC (.bl false))) (dNext) ε = .ok .next ε:=by
 have h1:dF (dComp cap di dt de) ε = .ok (.lst []) ε:=by
  unfold dF dComp
  rw[hi,R.bind_ok,comp_none ls h]
  rfl
 have h2:dF (dL lstP (dNil)) ε = .ok (.lst []) ε:=rfl
 have he:Pu.eqT true (.lst []) (.lst [])=some (.bl false):=rfl
 exact(if_f (dB_of (d2_of h1 h2 he))).trans rfl
theorem law_eq(ns:List Int):g_law a [scr ns] = .ok (.val (.bl true)) [scr ns]:=by
 obtain⟨t,w,ys,w2,w4,t1,t2,tc,hy,hl⟩:=like_eq (a:=a) ns [] 2 10 (by decide) (by decide) (by decide) (by decide) (by decide)
 have hl':g_law_like a [scr ns,.own (.lst []),.val (.int 2),.val (.int 10)] = .ok (.val (.tup [.str t,.int w])) [scr ns,.own (.lst ys),.val (.int 2),.val (.int 10)]:=hl
 have tv:Tv t w:=⟨by ac_rfl,w4,by ac_rfl,by ac_rfl,tc⟩
 have hex:∀ {z:Tx},Tv z w→z.length=t.length→g_exchanged a [.val (.str z),.val (.int w)] = .ok (.own (.lst (txP (offT z w)))) [.val (.str z),.val (.int w)]:=fun {z} hz e=>exchd_eq (a:=a) z w hz (by ac_rfl)
 have he:=hex tv rfl
 have k1:dOwn 1 (dL lstP dNil) [scr ns,.none,.none,.none,.none,.none] = .ok .next [scr ns,.own (.lst []),.none,.none,.none,.none]:=own_of (by simp)
 have k2:dSet2 2 3 (dRE (dCall (g_law_like a) (gV (dV 0) (gO 1 (gV (dC (.int 2)) (gV (dC (.int 10)) (Pu.gNil))))))) [scr ns,.own (.lst []),.none,.none,.none,.none] = .ok .next [scr ns,.own (.lst ys),.val (.str t),.val (.int w),.none,.none]:=by
  generalize g_law_like a=G at hl' ⊢
  simp![dSet2,hl']
 have k3:dSet 4 (dRE (dCall (g_exchanged a) (gV (dV 2) (gV (dV 3) (Pu.gNil))))) [scr ns,.own (.lst ys),.val (.str t),.val (.int w),.none,.none] = .ok .next [scr ns,.own (.lst ys),.val (.str t),.val (.int w),.val (.lst (txP (offT t w))),.none] :=
  dSet_step (dRE_own (call2 rfl rfl he))
 have k4:dIf (dB (d2 (eqT true) (dF (dComp [2,3] (dItems (dV 4)) (dOr (dNot (dB (dRE (dCall (g_alike a) (gV (dV 1) (gV (dV 0) (gV (dV 2) (Pu.gNil)))))))) (dB (d2 (eqT false) (dV 0) (dV 1)))) (dV 0))) (dF (dL lstP (dNil))))) (dRet (dC (.bl false))) (dNext) [scr ns,.own (.lst ys),.val (.str t),.val (.int w),.val (.lst (txP (offT t w))),.none] = .ok .next [scr ns,.own (.lst ys),.val (.str t),.val (.int w),.val (.lst (txP (offT t w))),.none]:=by
  refine comp_cd (ls:=offT t w) rfl fun z hz=>?_
  obtain⟨z1,z2,z3,z4,z5⟩:=off_good tv hz
  have ha:=alike_eq (a:=a) tv z1
  rw[decide_eq_true z3.symm]at ha
  have hq:=eqS false z t
  rw[decide_eq_false z4]at hq
  simp only[Bool.false_xor]at hq
  generalize txP (offT t w)=O
  generalize g_alike a=G at ha ⊢
  simp![dBlk,capA,noE,ha,hq]
 have k5:dIf (dB (d2 (eqT true) (dF (dComp [2,3] (dItems (dSl slP (dV 4) (dNo) (dPart (dC (.int 6))))) (dB (d2 (inP true) (dV 1) (dRE (dCall (g_exchanged a) (gV (dV 0) (gV (dV 2) (Pu.gNil))))))) (dV 0))) (dF (dL lstP (dNil))))) (dRet (dC (.bl false))) (dNext) [scr ns,.own (.lst ys),.val (.str t),.val (.int w),.val (.lst (txP (offT t w))),.none] = .ok .next [scr ns,.own (.lst ys),.val (.str t),.val (.int w),.val (.lst (txP (offT t w))),.none]:=by
  have hs:slP (.lst (txP (offT t w))) none (some 6)=some (.lst (txP ((offT t w).take 6))):=by
   show some (PV.lst (cutL (txP (offT t w)) none (some ((6:Nat):Int))))=_
   rw[cut_to,txP_take]
  refine comp_cd (ls:=(offT t w).take 6) ?_ fun z hz=>?_
  ·generalize txP ((offT t w).take 6)=O6 at hs ⊢
   generalize txP (offT t w)=O at hs ⊢
   simp[dItems,itemsP,dSl,dNo,dPart,dV,dC,R.bind,lift,hs,isI]
  ·obtain⟨z1,z2,z3,z4,z5⟩:=off_good tv (List.mem_of_mem_take hz)
   have hz':=hex z1 z2
   have hi:=in_lst true t (offT z w)
   rw[decide_eq_true z5]at hi
   generalize txP (offT t w)=O
   generalize txP (offT z w)=OZ at hz' hi
   generalize g_exchanged a=G at hz' ⊢
   simp only[Bool.xor_true,Bool.not_true]at hi
   simp![dBlk,capA,noE,hz',hi]
 have k6:dOwn 5 (dRN (dCall (g_exchanged a) (gV (dV 2) (gV (dV 3) (Pu.gNil))))) [scr ns,.own (.lst ys),.val (.str t),.val (.int w),.val (.lst (txP (offT t w))),.none] = .ok .next [scr ns,.own (.lst ys),.val (.str t),.val (.int w),.val (.lst (txP (offT t w))),.own (.lst (txP (offT t w)))]:=by
  unfold dOwn dRN
  rw[call2 (v0:=.str t) (v1:=.int w) rfl rfl he]
  rfl
 have hlen:(txP (offT t w)).length<maxS:=by
  have h1:(offT t w).length≤3000+(t.length+1):=by
   unfold offT
   rw[sortT_len]
   have b1:(lessT (uniqT (stepL t w)) t).length≤(uniqT (stepL t w)).length:=List.length_filter_le _ _
   have b2:=uniqT_len (stepL t w)
   have b3:(stepL t w).length=(exA t (rowT t (w-1))).length+(trA t (rowT t (w-1)) w).length:=by unfold stepL; rw[List.length_append]
   have b4:=rowT_len t (w-1)
   have b5:=exA_len (t:=t) (row:=rowT t (w-1)) (by ac_rfl)
   have b6:=trA_len t (rowT t (w-1)) w
   ac_rfl
  rw[txP_len]; unfold maxS; ac_rfl
 have k7:dApp 5 (dC (.str [97])) [scr ns,.own (.lst ys),.val (.str t),.val (.int w),.val (.lst (txP (offT t w))),.own (.lst (txP (offT t w)))] = .ok .next [scr ns,.own (.lst ys),.val (.str t),.val (.int w),.val (.lst (txP (offT t w))),.own (.lst (txP (offT t w)++[.str [97]]))]:=by
  generalize txP (offT t w)=O at hlen ⊢
  simp![hlen]
 have k8:dRet (d2 (eqT false) (dRE (dCall (g_exchanged a) (gV (dV 2) (gV (dV 3) (Pu.gNil))))) (dV 4)) [scr ns,.own (.lst ys),.val (.str t),.val (.int w),.val (.lst (txP (offT t w))),.own (.lst (txP (offT t w)++[.str [97]]))] = .ok (.ret (.val (.bl true))) [scr ns,.own (.lst ys),.val (.str t),.val (.int w),.val (.lst (txP (offT t w))),.own (.lst (txP (offT t w)++[.str [97]]))]:=by
  have hq:=eqT_lst false (offT t w) (offT t w)
  rw[decide_eq_true rfl]at hq
  exact ret_of (d2_of (dRE_own (call2 (v0:=.str t) (v1:=.int w) rfl rfl he)) (dV_of rfl) hq)
 have hb:d_law a [scr ns,.none,.none,.none,.none,.none] = .ok (.ret (.val (.bl true))) [scr ns,.own (.lst ys),.val (.str t),.val (.int w),.val (.lst (txP (offT t w))),.own (.lst (txP (offT t w)++[.str [97]]))]:=by
  unfold d_law
  refine(dSeq_step k1).trans ?_
  refine(dSeq_step k2).trans ?_
  refine(dSeq_step k3).trans ?_
  refine(dSeq_step k4).trans ?_
  refine(dSeq_step k5).trans ?_
  refine(dSeq_step k6).trans ?_
  refine(dSeq_step k7).trans ?_
  exact k8
 unfold g_law
 generalize d_law a=D at hb
 simp[grd,ownsIn,fnD,List.replicate,hb,back,lift,R.bind,flatO]
end
end K17
namespace K17
open PySem PySem.Spec PyProof.Rows L2 Pu Sh
def excChk(K:PySem.W.Frag)(a:Ad):Bool:=PySem.W.excIn K a.SlitError veB "ValueError.__new__" && (clsL a).all (fun x=>PySem.W.excIn K x veB "ValueError.__new__" && subB K a.SlitError x && excKB K x && (clsL a).all (fun d=>PySem.W.kitOne K (.ref x) (.ref d) == some (x == d)) && PySem.W.kitOne K (.ref x) (.type "ValueError") == some true) && noList K && decide (clsL a).Nodup
section
variable{K:PySem.W.Frag}{h base:Heap}{mg:Str→Option Value}{a:Ad}
theorem chk_all(h:excChk K a=true):PySem.W.excIn K a.SlitError veB "ValueError.__new__" = true∧(∀ x∈clsL a,PySem.W.excIn K x veB "ValueError.__new__" = true∧subB K a.SlitError x=true∧excKB K x=true∧(∀ d∈clsL a,PySem.W.kitOne K (.ref x) (.ref d)=some (x == d))∧PySem.W.kitOne K (.ref x) (.type "ValueError")=some true)∧noList K=true∧(clsL a).Nodup:=by
 unfold excChk at h
 simp only[Bool.and_eq_true,List.all_eq_true,beq_iff_eq,decide_eq_true_eq]at h
 obtain⟨⟨⟨h1,h2⟩,h3⟩,h4⟩:=h
 exact⟨h1,fun x hx=>⟨(h2 x hx).1.1.1.1,(h2 x hx).1.1.1.2,(h2 x hx).1.1.2,(h2 x hx).1.2,(h2 x hx).2⟩,h3,h4⟩
structure Top(K:PySem.W.Frag)(a:Ad):Prop where
 d_law_cell_at:Def0 K "_law_cell_at" s_law_cell_at
 d_law_mixed:Def0 K "_law_mixed" s_law_mixed
 d_law_draw:Def0 K "_law_draw" s_law_draw
 d_law_pick:Def0 K "_law_pick" s_law_pick
 d_law_text:Def0 K "_law_text" s_law_text
 d_law_like:Def0 K "_law_like" s_law_like
 d_has_only:Def0 K "has_only" s_has_only
 d_is_text_up_to:Def0 K "is_text_up_to" s_is_text_up_to
 d_check_text:Def0 K "check_text" s_check_text
 d_is_whole_number:Def0 K "is_whole_number" s_is_whole_number
 d_is_width:Def0 K "is_width" s_is_width
 d_check_width:Def0 K "check_width" s_check_width
 d_view_of:Def0 K "view_of" s_view_of
 d_pieces:Def0 K "pieces" s_pieces
 d_text_view:Def0 K "text_view" s_text_view
 d_exchanges_from:Def0 K "exchanges_from" s_exchanges_from
 d_exchanges:Def0 K "exchanges" s_exchanges
 d_unrolled:Def0 K "unrolled" s_unrolled
 d_turns:Def0 K "turns" s_turns
 d_one_step_off:Def0 K "one_step_off" s_one_step_off
 d_exchanged:Def0 K "exchanged" s_exchanged
 d_alike:Def0 K "alike" s_alike
 d_law:Def0 K "law" s_law
 m_all:PySem.W.nsIn K mainGlobals "all" = some none
 m_bool:PySem.W.nsIn K mainGlobals "bool" = some none
 m_int:PySem.W.nsIn K mainGlobals "int" = some none
 m_isinstance:PySem.W.nsIn K mainGlobals "isinstance" = some none
 m_len:PySem.W.nsIn K mainGlobals "len" = some none
 m_max:PySem.W.nsIn K mainGlobals "max" = some none
 m_range:PySem.W.nsIn K mainGlobals "range" = some none
 m_set:PySem.W.nsIn K mainGlobals "set" = some none
 m_sorted:PySem.W.nsIn K mainGlobals "sorted" = some none
 m_str:PySem.W.nsIn K mainGlobals "str" = some none
 m_tuple:PySem.W.nsIn K mainGlobals "tuple" = some none
 v_LETTERS:∃ t,PySem.W.nsIn K mainGlobals "LETTERS" = some (some (.str (tS [97,98,99]) t))
 v_MOST_LETTERS:∃ t,PySem.W.nsIn K mainGlobals "MOST_LETTERS" = some (some (.int 12 t))
 v_MOST_WINDOWS:∃ t,PySem.W.nsIn K mainGlobals "MOST_WINDOWS" = some (some (.int 9 t))
 v_WIDEST:∃ t,PySem.W.nsIn K mainGlobals "WIDEST" = some (some (.int 4 t))
 c_SlitError:PySem.W.nsIn K mainGlobals "SlitError" = some (some (.ref a.SlitError))
 c_NoText:PySem.W.nsIn K mainGlobals "NoText" = some (some (.ref a.NoText))
 c_NoWidth:PySem.W.nsIn K mainGlobals "NoWidth" = some (some (.ref a.NoWidth))
 c_NoView:PySem.W.nsIn K mainGlobals "NoView" = some (some (.ref a.NoView))
 ck:excChk K a=true
theorem facts_of(T:Top K a)(X:K.In base)(G:base.Ns mainGlobals mg):Facts K mg base a where
 d_law_cell_at:=T.d_law_cell_at.at X G
 d_law_mixed:=T.d_law_mixed.at X G
 d_law_draw:=T.d_law_draw.at X G
 d_law_pick:=T.d_law_pick.at X G
 d_law_text:=T.d_law_text.at X G
 d_law_like:=T.d_law_like.at X G
 d_has_only:=T.d_has_only.at X G
 d_is_text_up_to:=T.d_is_text_up_to.at X G
 d_check_text:=T.d_check_text.at X G
 d_is_whole_number:=T.d_is_whole_number.at X G
 d_is_width:=T.d_is_width.at X G
 d_check_width:=T.d_check_width.at X G
 d_view_of:=T.d_view_of.at X G
 d_pieces:=T.d_pieces.at X G
 d_text_view:=T.d_text_view.at X G
 d_exchanges_from:=T.d_exchanges_from.at X G
 d_exchanges:=T.d_exchanges.at X G
 d_unrolled:=T.d_unrolled.at X G
 d_turns:=T.d_turns.at X G
 d_one_step_off:=T.d_one_step_off.at X G
 d_exchanged:=T.d_exchanged.at X G
 d_alike:=T.d_alike.at X G
 d_law:=T.d_law.at X G
 m_all:=PySem.W.mg_none_of X G T.m_all
 m_bool:=PySem.W.mg_none_of X G T.m_bool
 m_int:=PySem.W.mg_none_of X G T.m_int
 m_isinstance:=PySem.W.mg_none_of X G T.m_isinstance
 m_len:=PySem.W.mg_none_of X G T.m_len
 m_max:=PySem.W.mg_none_of X G T.m_max
 m_range:=PySem.W.mg_none_of X G T.m_range
 m_set:=PySem.W.mg_none_of X G T.m_set
 m_sorted:=PySem.W.mg_none_of X G T.m_sorted
 m_str:=PySem.W.mg_none_of X G T.m_str
 m_tuple:=PySem.W.mg_none_of X G T.m_tuple
 v_LETTERS:=T.v_LETTERS.imp fun _ e=>PySem.W.mg_of X G e
 v_MOST_LETTERS:=T.v_MOST_LETTERS.imp fun _ e=>PySem.W.mg_of X G e
 v_MOST_WINDOWS:=T.v_MOST_WINDOWS.imp fun _ e=>PySem.W.mg_of X G e
 v_WIDEST:=T.v_WIDEST.imp fun _ e=>PySem.W.mg_of X G e
 c_SlitError:=PySem.W.mg_of X G T.c_SlitError
 c_NoText:=PySem.W.mg_of X G T.c_NoText
 c_NoWidth:=PySem.W.mg_of X G T.c_NoWidth
 c_NoView:=PySem.W.mg_of X G T.c_NoView
 o_NoText:=own_at_in X (PySem.W.mg_of X G T.c_NoText) ((chk_all T.ck).2.1 a.NoText (by simp[clsL])).1
 o_NoWidth:=own_at_in X (PySem.W.mg_of X G T.c_NoWidth) ((chk_all T.ck).2.1 a.NoWidth (by simp[clsL])).1
 o_NoView:=own_at_in X (PySem.W.mg_of X G T.c_NoView) ((chk_all T.ck).2.1 a.NoView (by simp[clsL])).1
theorem all_mk{l:PySem.W.OpenLaw}{w:World}{fa:Addr}(X:K.In h)(G:h.Ns mainGlobals mg)(hfa:mg "law" = some (.ref fa))(T:Top K a) :
  ∃ fd:FuncData,(∀ (s:Shared) (v:Value),BindsTo s fd ⟨[v],[]⟩ [("_law_script",v)])∧∀ base:Heap,K.In base→base.Ns mainGlobals mg→FnOk l.prog w K mg base (CXE l.prog w) 7 fa fd ["_law_script"] (spG K (g_law a)):=by
 obtain⟨f,oc,od,kV,dc,pm,an,cd,ct,sl,e1,e2,e3,e4⟩:=T.d_law
 have e:=hfa.symm.trans (PySem.W.mg_of X G e1)
 cases e
 exact⟨_,fun s v=>.of_eq rfl,fun base XB GB=>f_law (facts_of T XB GB) (fun_mk e2 e3 e4)⟩
theorem walk{l:PySem.W.OpenLaw}{q:Program}{loose:List Str}{XP:(Str→Option Value)→Heap→Prop}{YP:World→Heap→Prop}{d:DefRec}{K:Params→PySem.W.Frag}(hn:l.most=some 63)(hdf:d.params.defaults=[])(hnm:d.name = "law")
  (hY:∀ (w:World) (h:Heap),YP w h→(K w.params).In h) {a:Ad} (T:∀ w:World,Top (K w.params) a):PySem.W.WalkO q loose XP YP l.row.toRowW d [] (fun f vs=>PySem.call f vs) :=
 L2.walk_of (n:=63) (k:=7) (x:="_law_script") (K:=K) (CX:=fun w=>CXE l.prog w) (sp:=fun w=>spG (K w.params) (g_law a)) hn (by decide) hdf ⟨rfl,by decide,by decide⟩ hY
  (fun w mg fa h KX G hmg=>all_mk KX G (by rw[← hnm]; exact hmg) (T w))
  (fun w H b ns hl _ hS=>spG_script (noList_rd (chk_all (T w).ck).2.2.1 hS) (law_eq  ns))
  (fun w H s e s' z=>by obtain⟨_,_,_,_,_,_,_,_,_,_,_,f⟩:=z; exact f)
theorem walk_at{l:PySem.W.OpenLaw}{q:Program}{loose:List Str}{XP:(Str→Option Value)→Heap→Prop}{YP:World→Heap→Prop}{d:DefRec}{K:Params→PySem.W.Frag}{c_SlitError c_NoText c_NoWidth c_NoView:Addr}(hn:l.most=some 63)(hdf:d.params.defaults=[])(hnm:d.name = "law")
  (hY:∀ (w:World) (h:Heap),YP w h→(K w.params).In h) (T:∀ w:World,Top (K w.params) ⟨c_SlitError,c_NoText,c_NoWidth,c_NoView,0,0,0,0,0,0,0,0,0,0⟩):PySem.W.WalkO q loose XP YP l.row.toRowW d [] (fun f vs=>PySem.call f vs):=walk hn hdf hnm hY T
end
end K17
noncomputable def PySem.W.Fast.tw16830280412580696801:Nat:=0
noncomputable def PySem.W.Fast.tw7528922186598295139:Nat:=0
noncomputable def PySem.W.Fast.tw4125365194836868936:Nat:=0
noncomputable def PySem.W.Fast.tw12563746102902216401:Nat:=0
noncomputable def PySem.W.Fast.tw6891536663552144670:Nat:=0
noncomputable def PySem.W.Fast.tw10361139284496440061:Nat:=0
noncomputable def PySem.W.Fast.tw9988115263347156315:Nat:=0
noncomputable def PySem.W.Fast.tw1955025841860861816:Nat:=0
noncomputable def PySem.W.Fast.tw3933263637729765950:Nat:=0
noncomputable def PySem.W.Fast.tw15108165044890861048:Nat:=0
noncomputable def PySem.W.Fast.tw2665340466585191603:Nat:=0
noncomputable def PySem.W.Fast.tw10418560936175220882:Nat:=0
noncomputable def PySem.W.Fast.tw11289470717209567054:Nat:=0
noncomputable def PySem.W.Fast.tw12050040686725893465:Nat:=0
noncomputable def PySem.W.Fast.tw1292237319907760165:Nat:=0
noncomputable def PySem.W.Fast.tw10870510694645562062:Nat:=0
noncomputable def PySem.W.Fast.tw15821009911697007862:Nat:=0
noncomputable def PySem.W.Fast.tw11270827505604690340:Nat:=0
noncomputable def PySem.W.Fast.tw8250572069319784101:Nat:=0
noncomputable def PySem.W.Fast.tw6281961443194225440:Nat:=0
open PySem PySem.W PyProof.Rows
set_option maxRecDepth 100000 in
set_option maxHeartbeats 0 in
theorem PySem.Challenge.cw_slitview_k17_whole_same_view_holds : PySem.Challenge.rw_slitview_k17_whole_same_view.Holds := by
 w_on; o_law; k_head; (case hw=>w_witness2)
 k_fill
 refine' K17.walk_at (l:=PySem.Challenge.rw_slitview_k17_whole_same_view) rfl rfl rfl (fun w h Y=>PySem.W.kIn_of Y) ?T
 case T =>
  intro w
  refine' { d_law_cell_at:=?d_law_cell_at,d_law_mixed:=?d_law_mixed,d_law_draw:=?d_law_draw,d_law_pick:=?d_law_pick,d_law_text:=?d_law_text,d_law_like:=?d_law_like,d_has_only:=?d_has_only,d_is_text_up_to:=?d_is_text_up_to,d_check_text:=?d_check_text,d_is_whole_number:=?d_is_whole_number,d_is_width:=?d_is_width,d_check_width:=?d_check_width,d_view_of:=?d_view_of,d_pieces:=?d_pieces,d_text_view:=?d_text_view,d_exchanges_from:=?d_exchanges_from,d_exchanges:=?d_exchanges,d_unrolled:=?d_unrolled,d_turns:=?d_turns,d_one_step_off:=?d_one_step_off,d_exchanged:=?d_exchanged,d_alike:=?d_alike,d_law:=?d_law,m_all:=?m_all,m_bool:=?m_bool,m_int:=?m_int,m_isinstance:=?m_isinstance,m_len:=?m_len,m_max:=?m_max,m_range:=?m_range,m_set:=?m_set,m_sorted:=?m_sorted,m_str:=?m_str,m_tuple:=?m_tuple,v_LETTERS:=?v_LETTERS,v_MOST_LETTERS:=?v_MOST_LETTERS,v_MOST_WINDOWS:=?v_MOST_WINDOWS,v_WIDEST:=?v_WIDEST,c_SlitError:=?c_SlitError,c_NoText:=?c_NoText,c_NoWidth:=?c_NoWidth,c_NoView:=?c_NoView,ck:=?ck }
  (case c_SlitError=>k_is)
  (case c_NoText=>k_is)
  (case c_NoWidth=>k_is)
  (case c_NoView=>k_is)
  (case d_law_cell_at=>refine' Pu.def0_mk ?a ?l ?c ?k; (case a=>k_is); (case l=>k_is); (case c=>k_is); (case k=>k_is))
  (case d_law_mixed=>refine' Pu.def0_mk ?a ?l ?c ?k; (case a=>k_is); (case l=>k_is); (case c=>k_is); (case k=>k_is))
  (case d_law_draw=>refine' Pu.def0_mk ?a ?l ?c ?k; (case a=>k_is); (case l=>k_is); (case c=>k_is); (case k=>k_is))
  (case d_law_pick=>refine' Pu.def0_mk ?a ?l ?c ?k; (case a=>k_is); (case l=>k_is); (case c=>k_is); (case k=>k_is))
  (case d_law_text=>refine' Pu.def0_mk ?a ?l ?c ?k; (case a=>k_is); (case l=>k_is); (case c=>k_is); (case k=>k_is))
  (case d_law_like=>refine' Pu.def0_mk ?a ?l ?c ?k; (case a=>k_is); (case l=>k_is); (case c=>k_is); (case k=>k_is))
  (case d_has_only=>refine' Pu.def0_mk ?a ?l ?c ?k; (case a=>k_is); (case l=>k_is); (case c=>k_is); (case k=>k_is))
  (case d_is_text_up_to=>refine' Pu.def0_mk ?a ?l ?c ?k; (case a=>k_is); (case l=>k_is); (case c=>k_is); (case k=>k_is))
  (case d_check_text=>refine' Pu.def0_mk ?a ?l ?c ?k; (case a=>k_is); (case l=>k_is); (case c=>k_is); (case k=>k_is))
  (case d_is_whole_number=>refine' Pu.def0_mk ?a ?l ?c ?k; (case a=>k_is); (case l=>k_is); (case c=>k_is); (case k=>k_is))
  (case d_is_width=>refine' Pu.def0_mk ?a ?l ?c ?k; (case a=>k_is); (case l=>k_is); (case c=>k_is); (case k=>k_is))
  (case d_check_width=>refine' Pu.def0_mk ?a ?l ?c ?k; (case a=>k_is); (case l=>k_is); (case c=>k_is); (case k=>k_is))
  (case d_view_of=>refine' Pu.def0_mk ?a ?l ?c ?k; (case a=>k_is); (case l=>k_is); (case c=>k_is); (case k=>k_is))
  (case d_pieces=>refine' Pu.def0_mk ?a ?l ?c ?k; (case a=>k_is); (case l=>k_is); (case c=>k_is); (case k=>k_is))
  (case d_text_view=>refine' Pu.def0_mk ?a ?l ?c ?k; (case a=>k_is); (case l=>k_is); (case c=>k_is); (case k=>k_is))
  (case d_exchanges_from=>refine' Pu.def0_mk ?a ?l ?c ?k; (case a=>k_is); (case l=>k_is); (case c=>k_is); (case k=>k_is))
  (case d_exchanges=>refine' Pu.def0_mk ?a ?l ?c ?k; (case a=>k_is); (case l=>k_is); (case c=>k_is); (case k=>k_is))
  (case d_unrolled=>refine' Pu.def0_mk ?a ?l ?c ?k; (case a=>k_is); (case l=>k_is); (case c=>k_is); (case k=>k_is))
  (case d_turns=>refine' Pu.def0_mk ?a ?l ?c ?k; (case a=>k_is); (case l=>k_is); (case c=>k_is); (case k=>k_is))
  (case d_one_step_off=>refine' Pu.def0_mk ?a ?l ?c ?k; (case a=>k_is); (case l=>k_is); (case c=>k_is); (case k=>k_is))
  (case d_exchanged=>refine' Pu.def0_mk ?a ?l ?c ?k; (case a=>k_is); (case l=>k_is); (case c=>k_is); (case k=>k_is))
  (case d_alike=>refine' Pu.def0_mk ?a ?l ?c ?k; (case a=>k_is); (case l=>k_is); (case c=>k_is); (case k=>k_is))
  (case d_law=>refine' Pu.def0_mk ?a ?l ?c ?k; (case a=>k_is); (case l=>k_is); (case c=>k_is); (case k=>k_is))
  (case m_all=>k_is)
  (case m_bool=>k_is)
  (case m_int=>k_is)
  (case m_isinstance=>k_is)
  (case m_len=>k_is)
  (case m_max=>k_is)
  (case m_range=>k_is)
  (case m_set=>k_is)
  (case m_sorted=>k_is)
  (case m_str=>k_is)
  (case m_tuple=>k_is)
  (case v_LETTERS=>refine' Pu.vs_mk ?e; (case e=>k_is))
  (case v_MOST_LETTERS=>refine' Pu.vi_mk ?e; (case e=>k_is))
  (case v_MOST_WINDOWS=>refine' Pu.vi_mk ?e; (case e=>k_is))
  (case v_WIDEST=>refine' Pu.vi_mk ?e; (case e=>k_is))
  (case ck=>kernel_rfl)
