import PyProof.Rows.All
import Wide.All
import OpenK.AllK
import Wide.FinOn
import Lean
import PyProof.EqAt
import PyProof.EqKinds
import PyProof.TupleCall
import KE.KIntText
import KE.KDictList
import KE.KDictSum
import PyProof.Rows.Range3
import PySem.Challenge.RW_slitview_k34_seekers_refused
noncomputable section
local macro_rules | `(tactic| ac_rfl) => `(tactic| first | lia | omega)
set_option Elab.async false
set_option bootstrap.genMatcherCode false
set_option genSizeOf false
set_option linter.all false
set_option maxRecDepth 100000
namespace L2
open PySem PySem.Spec PyProof.Rows
noncomputable abbrev Key:=Sum Int Str
def keyIs:Key→Value→Bool
 | .inl k,v=>Value.isInt k v
 | .inr x,v=>Value.isStrOf x v
def keyH(w:World):Key→Int
 | .inl k=>hashInt k
 | .inr x=>hashStr w x
theorem keyIs_shape:∀ {k:Key} {v:Value},keyIs k v=true→(∃ i t,k=Sum.inl i∧v=Value.int i t)∨(∃ x t,k=Sum.inr x∧v=Value.str x t)
 | .inl i,v,h=>by
  obtain⟨t,e⟩:=Value.isInt_shape (k:=i) (v:=v) h
  exact .inl ⟨i,t,rfl,e⟩
 | .inr x,v,h=>by
  obtain⟨t,e⟩:=Value.isStrOf_shape (x:=x) (v:=v) h
  exact .inr ⟨x,t,rfl,e⟩
theorem keyIs_int(i:Int)(t:Tok):keyIs (.inl i) (.int i t)=true:=by simp[keyIs,Value.isInt]
theorem keyIs_str(x:Str)(t:Tok):keyIs (.inr x) (.str x t)=true:=by simp[keyIs,Value.isStrOf]
theorem key_ll(a b:Int):decide ((Sum.inl a:Key)=Sum.inl b)=(a == b):=by
 by_cases e:a=b
 ·subst e; simp
 ·have h:¬ (Sum.inl a:Key)=Sum.inl b:=fun q=>e (Sum.inl.inj q)
  rw[decide_eq_false h]
  exact(beq_eq_false_iff_ne.mpr e).symm
theorem key_rr(a b:Str):decide ((Sum.inr a:Key)=Sum.inr b)=decide (a=b):=by
 by_cases e:a=b
 ·subst e; simp
 ·have h:¬ (Sum.inr a:Key)=Sum.inr b:=fun q=>e (Sum.inr.inj q)
  rw[decide_eq_false h,decide_eq_false e]
theorem key_lr(a:Int)(b:Str):decide ((Sum.inl a:Key)=Sum.inr b)=false:=decide_eq_false (fun q=>nomatch q)
theorem key_rl(a:Str)(b:Int):decide ((Sum.inr a:Key)=Sum.inl b)=false:=decide_eq_false (fun q=>nomatch q)
def mixKind(prog:Program)(w:World):PySem.KeyKind prog w Key where
 is:=keyIs
 hash:=keyH w
 inj:=fun v a b ha hb=>by
  rcases keyIs_shape ha with⟨i,t,rfl,rfl⟩ | ⟨x,t,rfl,rfl⟩
  ·rcases keyIs_shape hb with⟨j,u,rfl,e⟩ | ⟨y,u,rfl,e⟩
   ·injection e with e1 _; rw[e1]
   ·exact nomatch e
  ·rcases keyIs_shape hb with⟨j,u,rfl,e⟩ | ⟨y,u,rfl,e⟩
   ·exact nomatch e
   ·injection e with e1 _; rw[e1]
 byValue:=fun k v h=>by
  rcases keyIs_shape h with⟨i,t,rfl,rfl⟩ | ⟨x,t,rfl,rfl⟩ <;> rfl
 pyHash:=fun hv h=>by
  rcases keyIs_shape hv with⟨i,t,rfl,rfl⟩ | ⟨x,t,rfl,rfl⟩
  ·exact wpAny_pyHash_int h
  ·exact wpAny_pyHash_str h
 eqBool:=fun hu hv h=>by
  rcases keyIs_shape hu with⟨i,t,rfl,rfl⟩ | ⟨x,t,rfl,rfl⟩
  ·rcases keyIs_shape hv with⟨j,u,rfl,rfl⟩ | ⟨y,u,rfl,rfl⟩
   ·rw[key_ll]at h; exact wpAny_eqBool_int h
   ·rw[key_lr]at h; exact SeqAt.EqAt.int_str i t y u _ _ _ _ h
  ·rcases keyIs_shape hv with⟨j,u,rfl,rfl⟩ | ⟨y,u,rfl,rfl⟩
   ·rw[key_rl]at h; exact SeqAt.EqAt.str_int x t j u _ _ _ _ h
   ·rw[key_rr]at h; exact wpAny_eqBool_str h
 «strs»:=fun k x t v h=>by
  rcases keyIs_shape h with⟨i,u,rfl,e⟩ | ⟨y,u,rfl,e⟩
  ·exact nomatch e
  ·injection e with e1 _
   subst e1
   cases v <;> rfl
theorem mixKind_int(prog:Program)(w:World)(i:Int)(t:Tok):(mixKind prog w).is (.inl i) (.int i t)=true:=keyIs_int i t
theorem mixKind_str(prog:Program)(w:World)(x:Str)(t:Tok):(mixKind prog w).is (.inr x) (.str x t)=true:=keyIs_str x t
end L2
namespace L2
open PySem PySem.Spec PyProof.Rows
inductive V where
 | non | bl (b:Bool) | int (i:Int) | str (x:Str) | byt (b:Array UInt8) | flt (b:UInt64) | ref (a:Addr) | ty (n:String)
 deriving DecidableEq
def RelV:V→Value→Prop
 | .non,u=>u=Value.none
 | .bl b,u=>u=Value.bool b
 | .int i,u=>∃ t,u=Value.int i t
 | .str x,u=>∃ t,u=Value.str x t
 | .byt b,u=>∃ t,u=Value.bytes b t
 | .flt b,u=>∃ t,u=Value.float b t
 | .ref a,u=>u=Value.ref a
 | .ty n,u=>u=Value.type n
noncomputable abbrev Vals:List V→List Value→Prop:=Paired RelV
theorem Vals.length{xs:List V}{us:List Value}(r:Vals xs us):xs.length=us.length:=Paired.length r
theorem Vals.get:∀ {xs:List V} {us:List Value} {i:Nat} {x:V},Vals xs us→xs[i]?=some x→∃ u,us[i]?=some u∧RelV x u
 | _,_,_,_,.nil,e=>by simp at e
 | _,_,0,_,.cons r _,e=>by simp at e; subst e; exact⟨_,rfl,r⟩
 | _,_,i+1,x,.cons _ t,e=>by
  obtain⟨u,h1,h2⟩:=Vals.get (i:=i) (x:=x) t (by simpa using e)
  exact⟨u,by simpa using h1,h2⟩
theorem Vals.set{x:V}{u:Value}(r:RelV x u):∀ {xs:List V} {us:List Value} (i:Nat),Vals xs us→Vals (xs.set i x) (us.set i u)
 | _,_,_,.nil=>.nil
 | _,_,0,.cons _ t=>.cons r t
 | _,_,i+1,.cons q t=>.cons q (Vals.set r i t)
theorem Vals.append:∀ {xs ys:List V} {us ws:List Value},Vals xs us→Vals ys ws→Vals (xs++ys) (us++ws)
 | _,_,_,_,.nil,s=>s
 | _,_,_,_,.cons r t,s=>.cons r (Vals.append t s)
theorem Vals.take:∀ {xs:List V} {us:List Value} (n:Nat),Vals xs us→Vals (xs.take n) (us.take n)
 | _,_,0,_=>.nil
 | _,_,_+1,.nil=>.nil
 | _,_,n+1,.cons r t=>.cons r (Vals.take n t)
theorem Vals.drop:∀ {xs:List V} {us:List Value} (n:Nat),Vals xs us→Vals (xs.drop n) (us.drop n)
 | _,_,0,r=>r
 | _,_,_+1,.nil=>.nil
 | _,_,n+1,.cons _ t=>Vals.drop n t
def RelO:Option V→Option Value→Prop
 | some v,some u=>RelV v u
 | none,none=>True
 | _,_=>False
def KV{κ:Type}:List (κ×V)→List (κ×Value)→Prop:=Paired fun(p:κ×V) (q:κ×Value)=>p.1=q.1∧RelV p.2 q.2
def kV:Key→V
 | .inl i=>.int i
 | .inr x=>.str x
inductive HO where
 /-- a list -/
 | lst (xs:List V)
 /-- a tuple (never changes) -/
 | tup (xs:List V)
 /-- a dict whose keys are ints and texts; one whose keys are tuples of ints and texts (the empty one is both) -/
 | dK (kvs:List (Key×V)) | dT (kvs:List (List Key×V))
 /-- a set of ints: its members,its size -/
 | set (S:Int→Bool) (n:Nat)
 /-- an instance of the class at C,its dict at dx,its attributes -/
 | ins (C dx:Addr) (fs:List (Str×V))
 /-- the dict of the instance at x -/
 | own (x:Addr)
 /-- the dict of an exception -/
 | xd (fs:List (Str×V))
 /-- a bound method,f of x -/
 | met (f x:Addr)
 /-- a range object lo,lo+1,.. below hi -/
 | rng (lo hi:Int)
 /-- a thing that is known to the object (the script; a dict while a loop walks it): read,never written while it is so -/
 | frz (o:Obj) (u:HO)
 /-- a code object's table -/
 | tbl (ps:Array Value)
 /-- any other thing,by what is true of its one object (a def of one's own: SetO a S n:=HO.ext fun h=>..) -/
 | ext (φ:Heap→Prop)
noncomputable abbrev Hp:=Addr→Option HO
def upd(H:Hp)(a:Addr)(o:HO):Hp:=fun b=>if b=a then some o else H b
theorem upd_same{H:Hp}{a:Addr}{o:HO}:upd H a o a=some o:=by unfold upd; rw[if_pos rfl]
theorem upd_ne{H:Hp}{a b:Addr}{o:HO}(h:b≠a):upd H a o b=H b:=by unfold upd; rw[if_neg h]
theorem ne_of{H:Hp}{a b:Addr}{o u:HO}(h:H a=some o)(h':H b=some u)(d:o≠u):a≠b:=by
 intro e; subst e; rw[h]at h'; exact d (Option.some.inj h')
theorem ne_of_none{H:Hp}{a b:Addr}{o:HO}(h:H a=some o)(h':H b=none):a≠b:=by
 intro e; subst e; rw[h]at h'; cases h'
def IsTupD(h:Heap)(a:Addr)(items:Array Value):Prop:=IsTup h a items∧∃ o,h.get? a=some o∧o.dict=none
theorem IsTupD.new(h:Heap)(its:Array Value):IsTupD (h.push { cls:=.type "tuple",data:=.seq its }) h.objs.size its:=⟨IsTup.new _ _,_,Heap.get?_push_size _ rfl,rfl⟩
section
variable(P:Program)(w:World)
def ObjOk(H:Hp)(h:Heap)(a:Addr):HO→Prop
 | .lst xs=>xs.length≤sizeLine∧∃ (its:List Value) (n:Nat),Vals xs its∧h.get? a=some { cls:=.type "list",data:=.seq its.toArray n }
 | .tup xs=>xs.length≤sizeLine∧∃ its:List Value,Vals xs its∧IsTupD h a its.toArray
 | .dK kvs=>kvs.length≤sizeLine∧(a == sysModules)=false∧∃ vs,KV kvs vs∧h.DictOf (mixKind P w) a vs
 | .dT kvs=>kvs.length≤sizeLine∧(a == sysModules)=false∧∃ xs:List (List Key×Addr×Value),
   Paired (fun(p:List Key×V) (q:List Key×Addr×Value)=>p.1=q.1∧H q.2.1=some (.tup (p.1.map kV))∧RelV p.2 q.2.2) kvs xs ∧
   ∃ o es ep,h.get? a=some o∧o.ExactDict∧o.data = .dict es ep∧es.toList=xs.map (entryOfKey (tupleKind (mixKind P w)))∧(xs.map (·.1)).Nodup
 | .set S n=>h.SetOf (intKind P w) a S n
 | .ins C dx fs=>H dx=some (.own a)∧fs.length≤1000∧dx≠a∧h.get? a=some (PySem.W.instObj C dx) ∧
   ∃ mA,h.Ns1 dx mA∧(∀ f,RelO (fs.lookup f) (mA f))∧PySem.Within mA (fs.map (·.1))
 | .own _=>∃ o,h.get? a=some o
 | .xd fs=>∃ mA,h.Ns1 a mA∧∀ f,RelO (fs.lookup f) (mA f)
 | .rng lo hi=>∃ t u v,h.get? a=some { cls:=.type "range",data:=.fields #[.int lo t,.int hi u,.int 1 v] }
 | .frz o u=>h.get? a=some o∧ObjOk H h a u
 | .tbl ps=>h.get? a=some { cls:=.none,data:=.fields ps }
 | .met f x=>h.get? a=some (PySem.W.methodObj (.ref f) (.ref x))
 | .ext φ=>φ h∧(∃ o,h.get? a=some o)∧∀ h1 h2:Heap,φ h1→(∀ o,h1.get? a=some o→h2.get? a=some o)→φ h2
def HOk(H:Hp)(h:Heap):Prop:=∀ a o,H a=some o→ObjOk P w H h a o
end
section
variable{P:Program}{w:World}{H H':Hp}{h h':Heap}{a:Addr}{o:HO}
theorem ObjOk.lt(x:ObjOk P w H h a o):a<h.objs.size:=by
 cases o with
 | lst xs=>obtain⟨_,_,_,_,e⟩:=x; exact Heap.lt_size e
 | tup xs=>obtain⟨_,_,_,p,_⟩:=x; exact p.lt
 | dK kvs=>obtain⟨_,_,_,_,o,_,_,e,_⟩:=x; exact Heap.lt_size e
 | dT kvs=>obtain⟨_,_,_,_,o,_,_,e,_⟩:=x; exact Heap.lt_size e
 | set S n=>obtain⟨o,_,_,_,e,_⟩:=x; exact Heap.lt_size e
 | ins C dx fs=>obtain⟨_,_,_,e,_⟩:=x; exact Heap.lt_size e
 | own y=>obtain⟨_,e⟩:=x; exact Heap.lt_size e
 | xd fs=>obtain⟨_,⟨_,_,_,e,_⟩,_⟩:=x; exact Heap.lt_size e
 | rng lo hi=>obtain⟨_,_,_,e⟩:=x; exact Heap.lt_size e
 | frz ob u=>obtain⟨e,_⟩:=x; exact Heap.lt_size e
 | tbl ps=>exact Heap.lt_size (show h.get? a=some _ from x)
 | met f y=>exact Heap.lt_size (show h.get? a=some _ from x)
 | ext φ=>obtain⟨_,⟨_,e⟩,_⟩:=x; exact Heap.lt_size e
theorem Paired.mapP{α β:Type}{F G:α→β→Prop}:∀ {l₁:List α} {l₂:List β},Paired F l₁ l₂→(∀ a b,F a b→G a b)→Paired G l₁ l₂
 | _,_,.nil,_=>.nil
 | _,_,.cons r t,f=>.cons (f _ _ r) (Paired.mapP t f)
theorem ObjOk.stay(x:ObjOk P w H h a o)(k:∀ b u,(b=a∨H b=some (.own a))→h.get? b=some u→h'.get? b=some u)
  (ho:∀ b,H b=some (.own a)→H' b=some (.own a)) (ht:∀ b xs,H b=some (.tup xs)→H' b=some (.tup xs)):ObjOk P w H' h' a o:=by
 induction o with
 | lst xs=>obtain⟨z,its,n,r,e⟩:=x; exact⟨z,its,n,r,k _ _ (.inl rfl) e⟩
 | tup xs=>obtain⟨z,its,r,⟨ob,e,c⟩,o2,e2,c2⟩:=x; exact⟨z,its,r,⟨ob,k _ _ (.inl rfl) e,c⟩,o2,k _ _ (.inl rfl) e2,c2⟩
 | dK kvs=>obtain⟨z,y,vs,r,ob,es,ep,e,c⟩:=x; exact⟨z,y,vs,r,ob,es,ep,k _ _ (.inl rfl) e,c⟩
 | dT kvs =>
  obtain⟨z,y,xs,r,ob,es,ep,e,c⟩:=x
  exact⟨z,y,xs,Paired.mapP r fun p q z=>⟨z.1,ht _ _ z.2.1,z.2.2⟩,ob,es,ep,k _ _ (.inl rfl) e,c⟩
 | set S n=>obtain⟨ob,es,ep,t,e,c⟩:=x; exact⟨ob,es,ep,t,k _ _ (.inl rfl) e,c⟩
 | ins C dx fs =>
  obtain⟨d,z,ne,e,mA,⟨od,es,ep,e2,c⟩,r⟩:=x
  exact⟨ho _ d,z,ne,k _ _ (.inl rfl) e,mA,⟨od,es,ep,k _ _ (.inr d) e2,c⟩,r⟩
 | own y=>obtain⟨ob,e⟩:=x; exact⟨ob,k _ _ (.inl rfl) e⟩
 | xd fs=>obtain⟨mA,⟨od,es,ep,e,c⟩,r⟩:=x; exact⟨mA,⟨od,es,ep,k _ _ (.inl rfl) e,c⟩,r⟩
 | rng lo hi=>obtain⟨t,u,v,e⟩:=x; exact⟨t,u,v,k _ _ (.inl rfl) e⟩
 | frz ob u ih=>obtain⟨e,q⟩:=x; exact⟨k _ _ (.inl rfl) e,ih q⟩
 | tbl ps =>
  have e:h.get? a=some { cls:=.none,data:=.fields ps }:=x
  show h'.get? a=some { cls:=.none,data:=.fields ps }
  exact k a _ (.inl rfl) e
 | met f y =>
  have e:h.get? a=some (PySem.W.methodObj (.ref f) (.ref y)):=x
  show h'.get? a=some (PySem.W.methodObj (.ref f) (.ref y))
  exact k a _ (.inl rfl) e
 | ext φ=>obtain⟨p,⟨o,e⟩,st⟩:=x; exact⟨st _ _ p fun o q=>k _ _ (.inl rfl) q,⟨o,k _ _ (.inl rfl) e⟩,st⟩
theorem HOk.lt(x:HOk P w H h)(e:H a=some o):a<h.objs.size:=(x a o e).lt
theorem HOk.fresh(x:HOk P w H h)(e:h.objs.size≤a):H a=none:=by
 cases q:H a with
 | none=>rfl
 | some u=>exact absurd (Nat.lt_of_lt_of_le (x.lt q) e) (Nat.lt_irrefl _)
theorem HOk.kept(x:HOk P w H h)(k:∀ b u,h.get? b=some u→h'.get? b=some u):HOk P w H h':=fun a o e =>
 (x a o e).stay (fun b u _ q=>k b u q) (fun _ q=>q) fun _ _ q=>q
theorem HOk.laid(x:HOk P w H h)(k:∀ b u,h.get? b=some u→h'.get? b=some u)(hp:h.objs.size≤a)(new:ObjOk P w (upd H a o) h' a o):HOk P w (upd H a o) h':=fun b u e=>by
 have hn:=x.fresh hp
 by_cases hb:b=a
 ·subst hb; rw[upd_same]at e; cases e; exact new
 ·rw[upd_ne hb]at e
  exact(x b u e).stay (fun c v _ q=>k c v q) (fun c q=>by rw[upd_ne (ne_of_none q hn)]; exact q) fun c xs q=>by rw[upd_ne (ne_of_none q hn)]; exact q
end
def Rd(H:Hp)(a:Addr)(u:HO):Prop:=H a=some u∨∃ o,H a=some (.frz o u)
theorem Rd.ok{P:Program}{w:World}{H:Hp}{h:Heap}{a:Addr}{u:HO}(r:Rd H a u)(x:HOk P w H h):ObjOk P w H h a u:=by
 rcases r with r | ⟨o,r⟩
 ·exact x a u r
 ·obtain⟨_,q⟩:=x a _ r
  exact q
def Mut:Option HO→Prop
 | some (.lst _)=>True
 | some (.dK _)=>True
 | some (.dT _)=>True
 | some (.set _ _)=>True
 | some (.ins _ _ _)=>True
 | some (.ext _)=>True
 | _=>False
section
variable{P:Program}{w:World}{H:Hp}{h h':Heap}{x e:Addr}{o':HO}
theorem HOk.write(ok:HOk P w H h)(mu:Mut (H x))(he:e=x∨H e=some (.own x))(k:∀ b u,b≠e→h.get? b=some u→h'.get? b=some u)(heo:∃ u,h'.get? e=some u)
  (new:ObjOk P w (upd H x o') h' x o'):HOk P w (upd H x o') h':=fun b u q=>by
 have nown:∀ c y,H c=some (.own y)→c≠x:=fun c y r z=>by subst z; rw[r]at mu; exact mu
 have ntup:∀ c xs,H c=some (.tup xs)→c≠x:=fun c xs r z=>by subst z; rw[r]at mu; exact mu
 by_cases hb:b=x
 ·subst hb; rw[upd_same]at q; cases q; exact new
 ·rw[upd_ne hb]at q
  by_cases hbe:b=e
  ·have q':H b=some (.own x):=by
    rcases he with z | z
    ·exact absurd (hbe.trans z) hb
    ·rw[hbe]; exact z
   rw[q]at q'; cases q'
   obtain⟨v,hv⟩:=heo
   exact⟨v,by rw[hbe]; exact hv⟩
  ·refine(ok b u q).stay (fun c v hc r=>k c v ?_ r) (fun c r=>by rw[upd_ne (nown c b r)]; exact r) fun c xs r=>by rw[upd_ne (ntup c xs r)]; exact r
   rcases hc with rfl | hc
   ·exact hbe
   ·rintro rfl
    rcases he with z | z
    ·exact nown c b hc z
    ·rw[hc]at z; cases z; exact hb rfl
end
structure Un(fs ex:List Addr)(H H':Hp)(h h':Heap):Prop where
 keep:∀ b o,h.get? b=some o→H b=none→b∉fs→b∉ex→h'.get? b=some o
 slot:∀ b o,h.get? b=some o→H b=none→b∈fs→b∉ex→∃ sl,h'.get? b=some { o with slots:=sl }
 free:∀ b o,h.get? b=some o→H b=none→b∉ex→H' b=none
 there:∀ b o,h.get? b=some o→b∉ex→∃ o',h'.get? b=some o'
 tups:∀ b xs,H b=some (.tup xs)→H' b=some (.tup xs)
 frzs:∀ b o u,H b=some (.frz o u)→H' b=some (.frz o u)
 tbls:∀ b ps,H b=some (.tbl ps)→∃ more,H' b=some (.tbl (ps++more))
section
variable{fs fs' ex ex':List Addr}{H H1 H2:Hp}{h h1 h2 h':Heap}{a x e:Addr}{o:HO}
theorem Un.any(u:Un fs ex H H1 h h1){b:Addr}{ob:Obj}(q:h.get? b=some ob)(n:H b=none)(hx:b∉ex):∃ sl,h1.get? b=some { ob with slots:=sl }:=by
 by_cases hb:b∈fs
 ·exact u.slot b ob q n hb hx
 ·exact⟨ob.slots,u.keep b ob q n hb hx⟩
theorem Un.kept(k:∀ b u,h.get? b=some u→h'.get? b=some u):Un fs ex H H h h' :=
 ⟨fun b ob q _ _ _=>k b ob q,fun b ob q _ _ _=>⟨ob.slots,k b ob q⟩,fun _ _ _ n _=>n,fun b ob q _=>⟨ob,k b ob q⟩,fun _ _ q=>q,fun _ _ _ q=>q,fun _ ps q=>⟨#[],by rw[q]; simp⟩⟩
theorem Un.refl:Un fs ex H H h h:=Un.kept fun _ _ q=>q
theorem Un.laid(k:∀ b u,h.get? b=some u→h'.get? b=some u)(hp:h.objs.size≤a)(hn:H a=none):Un fs ex H (upd H a o) h h' where
 keep:=fun b u q _ _ _=>k b u q
 slot:=fun b u q _ _ _=>⟨u.slots,k b u q⟩
 free:=fun b u q n _=>by rw[upd_ne (Nat.ne_of_lt (Nat.lt_of_lt_of_le (Heap.lt_size q) hp))]; exact n
 there:=fun b u q _=>⟨u,k b u q⟩
 tups:=fun b xs q=>by rw[upd_ne (ne_of_none q hn)]; exact q
 frzs:=fun b u xs q=>by rw[upd_ne (ne_of_none q hn)]; exact q
 tbls:=fun b ps q=>⟨#[],by rw[upd_ne (ne_of_none q hn),q]; simp⟩
theorem Un.write(mu:Mut (H x))(he:e=x∨H e=some (.own x))(k:∀ b u,b≠e→h.get? b=some u→h'.get? b=some u)(heo:∃ u,h'.get? e=some u):Un fs ex H (upd H x o) h h':=by
 have hx:∀ b,H b=none→b≠x:=fun b n z=>by subst z; rw[n]at mu; exact mu
 have hb:∀ b,H b=none→b≠e:=fun b n z=>by
  subst z
  rcases he with r | r
  ·exact hx b n r
  ·rw[n]at r; cases r
 have hm:∀ b u,H b=some u→¬ Mut (some u)→b≠x:=fun b u q nm z=>by subst z; rw[q]at mu; exact nm mu
 refine⟨fun b u q n _ _=>k b u (hb b n) q,fun b u q n _ _=>⟨u.slots,k b u (hb b n) q⟩,fun b u q n _=>by rw[upd_ne (hx b n)]; exact n,fun b u q _=>?_,
  fun b xs q=>by rw[upd_ne (hm b _ q fun z=>z)]; exact q,fun b u xs q=>by rw[upd_ne (hm b _ q fun z=>z)]; exact q,fun b ps q=>⟨#[],by rw[upd_ne (hm b _ q fun z=>z),q]; simp⟩⟩
 by_cases hbe:b=e
 ·subst hbe; exact heo
 ·exact⟨u,k b u hbe q⟩
theorem Un.mono(u:Un fs ex H H1 h h1)(hs:∀ b∈fs,b∈fs')(hx:∀ b∈ex,b∈ex'):Un fs' ex' H H1 h h1 :=
 ⟨fun b ob q n hb he=>u.keep b ob q n (fun z=>hb (hs b z)) fun z=>he (hx b z),fun _ _ q n _ he=>u.any q n fun z=>he (hx _ z),fun b ob q n he=>u.free b ob q n fun z=>he (hx b z),fun b ob q he=>u.there b ob q fun z=>he (hx b z),u.tups,u.frzs,u.tbls⟩
end
def trk(h:Heap)(H:Hp):List Addr:=(List.range h.objs.size).filter fun a=>(H a).isSome
def hidT(h:Heap)(H:Hp):Heap:=PySem.W.hideAll h (trk h H)
theorem hidT_size(h:Heap)(H:Hp):(hidT h H).objs.size=h.objs.size:=PySem.W.hideAll_size _ _
theorem hidT_get{h:Heap}{H:Hp}{b:Addr}{o:Obj}(e:h.get? b=some o)(n:H b=none):(hidT h H).get? b=some o :=
 PySem.W.hideAll_get _ e fun hm=>by
  have q:(H b).isSome=true:=(List.mem_filter.mp hm).2
  rw[n]at q; simp at q
theorem of_hidT{h:Heap}{H:Hp}{b:Addr}{o:Obj}(e:(hidT h H).get? b=some o):h.get? b=some o∧H b=none:=by
 have e':h.get? b=some o:=PySem.W.of_hideAll (trk h H) e
 refine⟨e',?_⟩
 cases q:H b with
 | none=>rfl
 | some x =>
  have hm:b∈trk h H:=List.mem_filter.mpr ⟨List.mem_range.mpr (Heap.lt_size e'),by simp[q]⟩
  have z:(hidT h H).get? b=none:=PySem.W.hideAll_none (trk h H) hm
  rw[z]at e; cases e
def allNews(g h:Heap)(L:Addr):List (Addr×Obj):=(List.range h.objs.size).filterMap fun a=>if a=L∨(g.get? a).isSome=true then none else(h.get? a).map fun o=>(a,o)
def rest(g h:Heap)(L d:Addr):List (Addr×Obj):=(allNews g h L).filter fun p=>decide (p.1≠d)
end L2
namespace L2
open PySem PySem.Spec PyProof.Rows
structure Mod(K:PySem.W.Frag)(mg:Str→Option Value)(base:Heap):Prop where
 kin:K.In base
 glob:base.Ns mainGlobals mg
 blt:∃ mb,base.Ns builtinsNs mb∧∀ x:Str,x≠"__name__"→mb x=bootBuiltins x
 nolimit:base.NoLimit
set_option genInjectivity false in
structure Cx where
 prog:Program
 w:World
 K:PySem.W.Frag
 mg:Str→Option Value
 base:Heap
 A:Around
 N:List Str
 s₀:Shared
 H₀:Hp
 env:Env
 outer:List Env
 stack:List Env
 ex:List Addr
 fn:Str→Bool
 calm:Bool
 pn:List (Addr×Obj)
 xe:Value→Shared→Prop
def frs(l:List Env):List Addr:=l.filterMap (·.frame)
noncomputable abbrev Cx.fs(X:Cx):List Addr:=frs X.outer
def Vis(sc:Scope)(x:Str):Prop:=sc.names.lookup x=some .local∨sc.names.lookup x=some .cell∨sc.names.lookup x=some .free
def Loc(sc:Scope)(x:Str):Prop:=sc.names.lookup x=some .local∨sc.names.lookup x=some .cell
def Look(env:Env)(h:Heap)(m:Str→Option Value)(x:Str)(u:Value):Prop :=
 (env.kindOf x=some .local∧m x=some u)∨((env.kindOf x=some .cell∨env.kindOf x=some .free)∧∃ c,env.cells.lookup x=some c∧h.IsCell c (some u))
set_option genInjectivity false in
structure Cx.Ok(X:Cx):Prop where
 mod:Mod X.K X.mg X.base
 kind:X.env.scope.kind = .function
 glob:X.env.globals=mainGlobals
 blt:X.env.builtins=builtinsNs
 above:X.s₀.heap.objs.size≤X.env.locals
 inj:∀ x y c,X.env.cells.lookup x=some c→X.env.cells.lookup y=some c→x=y
 has:∀ x,(X.env.kindOf x=some .cell∨X.env.kindOf x=some .free)→∃ c,X.env.cells.lookup x=some c
 cab:∀ x c,X.fn x=true→X.env.cells.lookup x=some c→X.s₀.heap.objs.size≤c
 hd:X.calm=true→X.A.handled=none
 frames:X.A.frames=some X.stack
 stk:X.stack=X.outer∨(X.stack=X.env::X.outer∧X.env.frame=some X.env.locals)
 exf:∀ b∈X.ex,b≠X.env.locals∧∀ x c,X.env.cells.lookup x=some c→c≠b
 bs:∀ b o,X.base.get? b=some o→X.s₀.heap.get? b=some o∧X.H₀ b=none
 bsz:X.base.objs.size≤X.s₀.heap.objs.size
 noex:∀ b o,X.base.get? b=some o→b∉X.ex
 exfs:∀ b∈X.ex,b∉X.fs
 funs:X.s₀.heap.FunFrames X.base X.outer
 frf:∀ b∈X.fs,X.H₀ b=none
structure Inv(X:Cx)(pins:List (Addr×Obj))(σ:List (Option V))(H:Hp)(s:Shared):Prop where
 ok:X.Ok
 os:s.os=X.s₀.os
 bare:AllBare s.gens
 base:Un X.fs X.ex X.H₀ H X.s₀.heap s.heap
 loc:∃ m,s.heap.Ns X.env.locals m∧∀ (i:Nat) (x:Str) (v:V),X.N[i]?=some x→σ[i]?=some (some v)→Vis X.env.scope x→∃ u,RelV v u∧Look X.env s.heap m x u
 cell:∀ x c,X.env.cells.lookup x=some c→∃ v,s.heap.IsCell c v
 free:H X.env.locals=none
 freeC:∀ x c,X.env.cells.lookup x=some c→H c=none
 pin:∀ p∈X.pn++pins,s.heap.get? p.1=some p.2∧H p.1=none∧p.1≠X.env.locals∧p.1∉X.fs∧∀ v,p.2.data≠.cell v
 hok:HOk X.prog X.w H s.heap
 len:σ.length=X.N.length
section
variable{X:Cx}{pins:List (Addr×Obj)}{σ:List (Option V)}{H H':Hp}{s:Shared}{h':Heap}
theorem Cx.Ok.nofr(ok:X.Ok){b:Addr}{o:Obj}(e:X.base.get? b=some o):b∉X.fs:=fun hb=>by
 have:=(ok.funs.mem hb).1
 rw[e]at this; cases this
theorem Inv.bs(I:Inv X pins σ H s):∀ b o,X.base.get? b=some o→s.heap.get? b=some o∧H b=none:=fun b o e =>
 ⟨I.base.keep b o (I.ok.bs b o e).1 (I.ok.bs b o e).2 (I.ok.nofr e) (I.ok.noex b o e),I.base.free b o (I.ok.bs b o e).1 (I.ok.bs b o e).2 (I.ok.noex b o e)⟩
theorem Inv.bk(I:Inv X pins σ H s):∀ b o,X.base.get? b=some o→s.heap.get? b=some o:=fun b o e=>(I.bs b o e).1
theorem Inv.mod(I:Inv X pins σ H s):Mod X.K X.mg X.base:=I.ok.mod
theorem Inv.kIn(I:Inv X pins σ H s):X.K.In s.heap:=I.ok.mod.kin.keeps I.bk
theorem Inv.nolimit(I:Inv X pins σ H s):s.heap.NoLimit:=I.ok.mod.nolimit.keeps I.bk
theorem Inv.fr(I:Inv X pins σ H s):∃ m,Fr X.base X.env.locals s.heap m :=
 let ⟨m,hn,_⟩:=I.loc
 ⟨m,hn,I.bk,Nat.le_trans I.ok.bsz I.ok.above⟩
theorem Inv.lt(I:Inv X pins σ H s):X.env.locals<s.heap.objs.size:=let ⟨_,hn,_⟩:=I.loc; hn.lt
theorem Inv.sz(I:Inv X pins σ H s):X.s₀.heap.objs.size≤s.heap.objs.size:=Nat.le_trans I.ok.above (Nat.le_of_lt I.lt)
theorem Inv.nofs(I:Inv X pins σ H s){a:Addr}(h:s.heap.objs.size≤a):a∉X.fs:=fun hb=>by
 obtain⟨_,o,ho,_⟩:=I.ok.funs.mem hb
 exact absurd (Nat.lt_of_lt_of_le (Heap.lt_size ho) (Nat.le_trans I.sz h)) (Nat.lt_irrefl _)
theorem Inv.cne(I:Inv X pins σ H s):∀ x c,X.env.cells.lookup x=some c→c≠X.env.locals:=fun x c e z=>by
 obtain⟨v,o,ho,hd⟩:=I.cell x c e
 obtain⟨m,⟨o',es,ep,ho',hd',_⟩,_⟩:=I.loc
 rw[z,ho']at ho; cases ho; rw[hd']at hd; cases hd
theorem Inv.funs(I:Inv X pins σ H s):s.heap.FunFrames X.base X.outer:=by
 have all:∀ (l:List Env),(∀ b∈frs l,b∈X.fs)→X.s₀.heap.FunFrames X.base l→s.heap.FunFrames X.base l:=by
  intro l
  induction l with
  | nil=>intro _ _; trivial
  | cons env r ih =>
   intro hs hl
   obtain⟨hk,⟨L,o,hf,hn,ho,hd⟩,hr⟩:=hl
   have hL:L∈X.fs:=hs L (by unfold frs; rw[List.filterMap_cons,hf]; exact List.mem_cons_self)
   obtain⟨sl,e⟩:=I.base.slot L o ho (I.ok.frf L hL) hL fun z=>I.ok.exfs L z hL
   exact⟨hk,⟨L,_,hf,hn,e,hd⟩,ih (fun b hb=>hs b (by unfold frs; rw[List.filterMap_cons,hf]; exact List.mem_cons_of_mem _ hb)) hr⟩
 exact all X.outer (fun _ hb=>hb) I.ok.funs
theorem Inv.stack(I:Inv X pins σ H s):s.heap.FunFrames X.base X.stack:=by
 rcases I.ok.stk with e | ⟨e,hf⟩
 ·rw[e]; exact I.funs
 ·rw[e]
  obtain⟨m,hn,_⟩:=I.loc
  refine .cons (by rw[I.ok.kind]; decide) hf hn ?_ I.funs
  exact Heap.get?_none_of_le (Nat.le_trans I.ok.bsz I.ok.above)
theorem Inv.stkSub(I:Inv X pins σ H s):∀ b∈frs X.stack,b∈X.env.locals::X.fs:=fun b hb=>by
 rcases I.ok.stk with e | ⟨e,hf⟩
 ·rw[e]at hb; exact List.mem_cons_of_mem _ hb
 ·rw[e]at hb
  unfold frs at hb
  rw[List.filterMap_cons,hf]at hb
  exact hb
theorem Inv.stkFree(I:Inv X pins σ H s):∀ b∈frs X.stack,H b=none:=fun b hb=>by
 rcases List.mem_cons.mp (I.stkSub b hb)with e | hb
 ·rw[e]; exact I.free
 ·obtain⟨_,o,ho,_⟩:=I.ok.funs.mem hb
  exact I.base.free b o ho (I.ok.frf b hb) fun z=>I.ok.exfs b z hb
theorem Inv.step{g':Array GenState}{t':Nat}{d':Drawn}{ch:List Addr}(I:Inv X pins σ H s)
  (hch:∀ b∈ch,(b∈X.ex∨X.s₀.heap.objs.size≤b)∧b≠X.env.locals∧(∀ x c,X.env.cells.lookup x=some c→c≠b)∧∀ p∈X.pn++pins,p.1≠b)
  (keep:∀ b o,b≠X.env.locals→b∉X.fs→b∉ch→s.heap.get? b=some o→H b=none→h'.get? b=some o)
  (slot:∀ b o,b≠X.env.locals→b∈X.fs→b∉ch→s.heap.get? b=some o→H b=none→∃ sl,h'.get? b=some { o with slots:=sl }) (free:∀ b o,b∉ch→s.heap.get? b=some o→H b=none→H' b=none)
  (there:∀ b o,b∉ch→s.heap.get? b=some o→∃ o',h'.get? b=some o')
  (tups:∀ b xs,H b=some (.tup xs)→H' b=some (.tup xs)) (frzs:∀ b o u,H b=some (.frz o u)→H' b=some (.frz o u)) (tbls:∀ b ps,H b=some (.tbl ps)→∃ more,H' b=some (.tbl (ps++more)))
  (ns:∀ m,s.heap.Ns X.env.locals m→h'.Ns X.env.locals m) (hok:HOk X.prog X.w H' h') (hg:AllBare g') :
  Inv X pins σ H' { s with heap:=h',gens:=g',drawn:=d',toks:=t' }:=by
 have neL:∀ b o,X.s₀.heap.get? b=some o→b≠X.env.locals:=fun b o e=>Nat.ne_of_lt (Nat.lt_of_lt_of_le (Heap.lt_size e) I.ok.above)
 have neC:∀ b o,X.s₀.heap.get? b=some o→b∉X.ex→b∉ch:=fun b o e hx hb=>by
  rcases(hch b hb).1 with z | z
  ·exact hx z
  ·exact absurd (Nat.lt_of_lt_of_le (Heap.lt_size e) z) (Nat.lt_irrefl _)
 have cellK:∀ x c,X.env.cells.lookup x=some c→∀ v,s.heap.IsCell c v→h'.IsCell c v:=fun x c e v ⟨o,ho,hd⟩=>by
  have nch:c∉ch:=fun z=>(hch c z).2.2.1 x c e rfl
  by_cases hc:c∈X.fs
  ·obtain⟨sl,q⟩:=slot c o (I.cne x c e) hc nch ho (I.freeC x c e)
   exact⟨_,q,hd⟩
  ·exact⟨o,keep c o (I.cne x c e) hc nch ho (I.freeC x c e),hd⟩
 refine⟨I.ok,I.os,hg,⟨fun b o e n hb hx=>?_,fun b o e n hb hx=>?_,fun b o e n hx=>?_,fun b o e hx=>?_,fun b xs e=>tups b xs (I.base.tups b xs e),fun b o xs e=>frzs b o xs (I.base.frzs b o xs e),fun b ps e=>?_⟩,?_,fun x c e=>?_,?_,fun x c e=>?_,fun p hp=>?_,hok,I.len⟩
 ·exact keep b o (neL b o e) hb (neC b o e hx) (I.base.keep b o e n hb hx) (I.base.free b o e n hx)
 ·obtain⟨sl,e1⟩:=I.base.slot b o e n hb hx
  obtain⟨sl',e2⟩:=slot b _ (neL b o e) hb (neC b o e hx) e1 (I.base.free b o e n hx)
  exact⟨sl',e2⟩
 ·obtain⟨o',e1⟩:=I.base.there b o e hx
  exact free b o' (neC b o e hx) e1 (I.base.free b o e n hx)
 ·obtain⟨o',e1⟩:=I.base.there b o e hx
  exact there b o' (neC b o e hx) e1
 ·obtain⟨m1,e1⟩:=I.base.tbls b ps e
  obtain⟨m2,e2⟩:=tbls b _ e1
  exact⟨m1++m2,by rw[e2,Array.append_assoc]⟩
 ·obtain⟨m,hn,hl⟩:=I.loc
  refine⟨m,ns m hn,fun i x v e1 e2 e3=>?_⟩
  obtain⟨u,r,l⟩:=hl i x v e1 e2 e3
  refine⟨u,r,?_⟩
  rcases l with l | ⟨k,c,e,z⟩
  ·exact .inl l
  ·exact .inr ⟨k,c,e,cellK x c e _ z⟩
 ·obtain⟨v,z⟩:=I.cell x c e
  exact⟨v,cellK x c e v z⟩
 ·obtain⟨m,⟨o,_,_,ho,_⟩,_⟩:=I.loc
  exact free _ o (fun z=>(hch _ z).2.1 rfl) ho I.free
 ·obtain⟨v,o,ho,hd⟩:=I.cell x c e
  exact free c o (fun z=>(hch c z).2.2.1 x c e rfl) ho (I.freeC x c e)
 ·obtain⟨e,n,ne,nf,d⟩:=I.pin p hp
  have nch:p.1∉ch:=fun z=>(hch p.1 z).2.2.2 p hp rfl
  exact⟨keep p.1 p.2 ne nf nch e n,free p.1 p.2 nch e n,ne,nf,d⟩
theorem Inv.un{t':Nat}(I:Inv X pins σ H s)(u:Un X.fs [] H H' s.heap h')(hok:HOk X.prog X.w H' h'):Inv X pins σ H' { s with heap:=h',toks:=t' }:=by
 obtain⟨m,⟨o,es,ep,ho,r⟩,_⟩:=id I.loc
 obtain⟨sl,hL⟩:=u.any ho I.free (by simp)
 exact I.step (g':=s.gens) (d':=s.drawn) (ch:=[]) (fun _ z=>nomatch z) (fun b o _ hb _ e n=>u.keep b o e n hb (by simp)) (fun b o _ hb _ e n=>u.slot b o e n hb (by simp)) (fun b o _ e n=>u.free b o e n (by simp)) (fun b o _ e=>u.there b o e (by simp)) u.tups u.frzs u.tbls (fun m' hm=>by
  obtain⟨o',es',ep',ho',r'⟩:=hm
  rw[ho]at ho'; cases ho'
  exact⟨_,es',ep',hL,r'⟩) hok I.bare
theorem Inv.call{g':Array GenState}{t':Nat}{d':Drawn}{ch:List Addr}(I:Inv X pins σ H s)(u:Un (frs X.stack) ch H H' s.heap h')(hok:HOk X.prog X.w H' h')(hg:AllBare g')
  (hch:∀ b∈ch,(b∈X.ex∨X.s₀.heap.objs.size≤b)∧b≠X.env.locals∧(∀ x c,X.env.cells.lookup x=some c→c≠b)∧∀ p∈X.pn++pins,p.1≠b) :
  Inv X pins σ H' { s with heap:=h',gens:=g',drawn:=d',toks:=t' }:=by
 obtain⟨m,⟨o,es,ep,ho,r⟩,_⟩:=id I.loc
 obtain⟨sl,hL⟩:=u.any ho I.free fun z=>(hch _ z).2.1 rfl
 exact I.step (ch:=ch) hch (fun b o hL hb hc e n=>u.keep b o e n (fun z=>(List.mem_cons.mp (I.stkSub b z)).elim hL hb) hc) (fun b o _ _ hc e n=>u.any e n hc) (fun b o hc e n=>u.free b o e n hc) (fun b o hc e=>u.there b o e hc) u.tups u.frzs u.tbls (fun m' hm=>by
  obtain⟨o',es',ep',ho',r'⟩:=hm
  rw[ho]at ho'; cases ho'
  exact⟨_,es',ep',hL,r'⟩) hok hg
theorem Inv.turned{t':Nat}{it:Addr}(I:Inv X pins σ H s)(k:∀ b o,b≠it→s.heap.get? b=some o→h'.get? b=some o)(hn:H it=none)(hL:it≠X.env.locals)
  (h1:it∈X.ex∨X.s₀.heap.objs.size≤it) (h2:∀ x c,X.env.cells.lookup x=some c→c≠it) (h3:∀ p∈X.pn++pins,p.1≠it):Inv X pins σ H { s with heap:=h',toks:=t' }:=by
 have nit:∀ b u,H b=some u→b≠it:=fun b u e z=>by rw[z,hn]at e; cases e
 refine I.step (g':=s.gens) (d':=s.drawn) (ch:=[it]) (fun b hb=>?_) (fun b o _ _ hc e _=>k b o (fun z=>hc (by simp[z])) e) (fun b o _ _ hc e _=>⟨o.slots,k b o (fun z=>hc (by simp[z])) e⟩) (fun _ _ _ _ n=>n)
  (fun b o hc e=>⟨o,k b o (fun z=>hc (by simp[z])) e⟩) (fun _ _ e=>e) (fun _ _ _ e=>e) (fun b ps e=>⟨#[],by rw[e]; simp⟩) (fun m hm=>?_) (fun b u e=>?_) I.bare
 ·have e:b=it:=by simpa using hb
  subst e
  exact⟨h1,hL,h2,h3⟩
 ·obtain⟨o,es,ep,ho,r⟩:=hm
  exact⟨o,es,ep,k _ o (Ne.symm hL) ho,r⟩
 ·refine(I.hok b u e).stay (fun c v hc q=>k c v ?_ q) (fun _ q=>q) fun _ _ q=>q
  rcases hc with z | z
  ·rw[z]; exact nit b u e
  ·exact nit c _ z
theorem Inv.tok(I:Inv X pins σ H s)(t:Nat):Inv X pins σ H { s with toks:=t }:=I.un (h':=s.heap) (t':=t) Un.refl I.hok
theorem Inv.kept{t':Nat}(I:Inv X pins σ H s)(k:∀ b u,s.heap.get? b=some u→h'.get? b=some u):Inv X pins σ H { s with heap:=h',toks:=t' }:=I.un (Un.kept k) (I.hok.kept k)
theorem Inv.laid{a:Addr}{o:HO}{t':Nat}(I:Inv X pins σ H s)(k:∀ b u,s.heap.get? b=some u→h'.get? b=some u)(hp:s.heap.objs.size≤a)(new:ObjOk X.prog X.w (upd H a o) h' a o) :
  Inv X pins σ (upd H a o) { s with heap:=h',toks:=t' }:=I.un (Un.laid k hp (I.hok.fresh hp)) (I.hok.laid k hp new)
theorem Inv.write{x e:Addr}{o:HO}{t':Nat}(I:Inv X pins σ H s)(mu:Mut (H x))(he:e=x∨H e=some (.own x))(k:∀ b u,b≠e→s.heap.get? b=some u→h'.get? b=some u)(heo:∃ u,h'.get? e=some u)
  (new:ObjOk X.prog X.w (upd H x o) h' x o):Inv X pins σ (upd H x o) { s with heap:=h',toks:=t' }:=I.un (Un.write mu he k heo) (I.hok.write mu he k heo new)
theorem Inv.pins_of{pins':List (Addr×Obj)}(I:Inv X pins σ H s)(h:∀ p∈pins',s.heap.get? p.1=some p.2∧H p.1=none∧p.1≠X.env.locals∧p.1∉X.fs∧∀ v,p.2.data≠.cell v):Inv X pins' σ H s :=
 ⟨I.ok,I.os,I.bare,I.base,I.loc,I.cell,I.free,I.freeC,fun p hp=>(List.mem_append.mp hp).elim (fun z=>I.pin p (List.mem_append_left _ z)) (h p),I.hok,I.len⟩
theorem nodup_ix{N:List Str}(hN:N.Nodup){i j:Nat}{x:Str}(a:N[i]?=some x)(b:N[j]?=some x):i=j:=by
 obtain⟨h1,e1⟩:=List.getElem?_eq_some_iff.mp a
 obtain⟨h2,e2⟩:=List.getElem?_eq_some_iff.mp b
 exact(List.getElem_inj hN).mp (e1.trans e2.symm)
theorem store_ok2{M:Model}{A:Around}{E:Value→Shared→Prop}{i:Nat}{x:Str}{v:V}{u:Value}{Q:Unit→Shared→Prop}(I:Inv X pins σ H s)(hN:X.N.Nodup)(hi:X.N[i]?=some x)(hx:Loc X.env.scope x)(r:RelV v u)
  (h:∀ s',Inv X pins (σ.set i (some v)) H s'→(∃ a,Heap.SameBut a s.heap s'.heap∧(a=X.env.locals∨X.env.cells.lookup x=some a))→Q () s') (hf:X.fn x=true∨X.env.scope.names.lookup x=some .local:=by first | exact .inl rfl | exact .inr rfl | assumption):wpAny M A (storeName X.env x u) Q E s:=by
 obtain⟨m,hn,hl⟩:=id I.loc
 have hcls:(X.env.scope.kind == .class || (X.env.scope.kind == .module && X.env.locals != X.env.globals))=false:=by rw[I.ok.kind]; rfl
 have hiσ:i<σ.length:=by rw[I.len]; exact(List.getElem?_eq_some_iff.mp hi).1
 have cne:=I.cne
 have tracked:∀ {a:Addr} {h':Heap},(∃ o,s.heap.get? a=some o∧H a=none)→Heap.SameBut a s.heap h'→HOk X.prog X.w H h':=fun {a h'} ha hs b ob e=>by
  obtain⟨_,_,hfree⟩:=ha
  refine(I.hok b ob e).stay (fun c w' hc q=>(hs.2 c ?_).trans q) (fun _ q=>q) fun _ _ q=>q
  rintro rfl
  rcases hc with rfl | hc
  ·rw[hfree]at e; cases e
  ·rw[hfree]at hc; cases hc
 rcases hx with hk | hk
 ·refine wpAny_storeName_local hk hn (fun h' hn' hs=>?_) hcls
  obtain⟨oL,_,_,hoL,_⟩:=id hn
  refine h _ ⟨I.ok,I.os,I.bare,⟨fun b o e n hb hx=>?_,fun b o e n hb hx=>?_,I.base.free,fun b o e hx=>?_,I.base.tups,I.base.frzs,I.base.tbls⟩,⟨_,hn',fun j y v' e1 e2 e3=>?_⟩,fun y c e=>?_,I.free,I.freeC,fun p hp=>?_,tracked ⟨oL,hoL,I.free⟩ hs,by simpa using I.len⟩ ⟨_,hs,.inl rfl⟩
  ·exact(hs.2 b (Nat.ne_of_lt (Nat.lt_of_lt_of_le (Heap.lt_size e) I.ok.above))).trans (I.base.keep b o e n hb hx)
  ·obtain⟨sl,e1⟩:=I.base.slot b o e n hb hx
   exact⟨sl,(hs.2 b (Nat.ne_of_lt (Nat.lt_of_lt_of_le (Heap.lt_size e) I.ok.above))).trans e1⟩
  ·obtain⟨o',e1⟩:=I.base.there b o e hx
   exact⟨o',(hs.2 b (Nat.ne_of_lt (Nat.lt_of_lt_of_le (Heap.lt_size e) I.ok.above))).trans e1⟩
  ·by_cases hj:j=i
   ·subst hj
    rw[hi]at e1; cases e1
    rw[List.getElem?_set_self hiσ]at e2
    cases e2
    exact⟨u,r,.inl ⟨hk,by simp⟩⟩
   ·rw[List.getElem?_set_ne (Ne.symm hj)]at e2
    obtain⟨u',r',q⟩:=hl j y v' e1 e2 e3
    refine⟨u',r',?_⟩
    rcases q with⟨k,e⟩ | ⟨k,c,e,z⟩
    ·refine .inl ⟨k,?_⟩
     have:y≠x:=fun e=>hj (nodup_ix hN e1 (e ▸ hi))
     simp[this,e]
    ·exact .inr ⟨k,c,e,z.sameBut hs (cne y c e)⟩
  ·obtain⟨w',z⟩:=I.cell y c e
   exact⟨w',z.sameBut hs (cne y c e)⟩
  ·obtain⟨e,n,ne,nf,d⟩:=I.pin p hp
   exact⟨(hs.2 p.1 ne).trans e,n,ne,nf,d⟩
 ·have hfn:X.fn x=true:=by
   rcases hf with z | z
   ·exact z
   ·rw[z]at hk; cases hk
  obtain⟨c,hc⟩:=I.ok.has x (.inl hk)
  obtain⟨w',z⟩:=I.cell x c hc
  refine wpAny_storeName_cell I.ok.kind hk hc z (fun h' hc' hs=>?_)
  obtain⟨oc,hoc,hocd⟩:=id z
  refine h { s with heap:=h' } ⟨I.ok,I.os,I.bare,⟨fun b o e n hb hx=>?_,fun b o e n hb hx=>?_,I.base.free,fun b o e hx=>?_,I.base.tups,I.base.frzs,I.base.tbls⟩,⟨m,hn.sameBut hs (Ne.symm (cne x c hc)),fun j y v' e1 e2 e3=>?_⟩,fun y c' e=>?_,I.free,I.freeC,fun p hp=>?_,tracked ⟨oc,hoc,I.freeC x c hc⟩ hs,by simpa using I.len⟩ ⟨c,hs,.inr hc⟩
  ·exact(hs.2 b (Nat.ne_of_lt (Nat.lt_of_lt_of_le (Heap.lt_size e) (I.ok.cab x c hfn hc)))).trans (I.base.keep b o e n hb hx)
  ·obtain⟨sl,e1⟩:=I.base.slot b o e n hb hx
   exact⟨sl,(hs.2 b (Nat.ne_of_lt (Nat.lt_of_lt_of_le (Heap.lt_size e) (I.ok.cab x c hfn hc)))).trans e1⟩
  ·obtain⟨o',e1⟩:=I.base.there b o e hx
   exact⟨o',(hs.2 b (Nat.ne_of_lt (Nat.lt_of_lt_of_le (Heap.lt_size e) (I.ok.cab x c hfn hc)))).trans e1⟩
  ·by_cases hj:j=i
   ·subst hj
    rw[hi]at e1; cases e1
    rw[List.getElem?_set_self hiσ]at e2
    cases e2
    exact⟨u,r,.inr ⟨.inl hk,c,hc,hc'⟩⟩
   ·rw[List.getElem?_set_ne (Ne.symm hj)]at e2
    obtain⟨u',r',q⟩:=hl j y v' e1 e2 e3
    refine⟨u',r',?_⟩
    rcases q with q | ⟨k,c',e,z'⟩
    ·exact .inl q
    ·refine .inr ⟨k,c',e,z'.sameBut hs ?_⟩
     rintro rfl
     exact hj (nodup_ix hN e1 (I.ok.inj _ _ _ e hc ▸ hi))
  ·by_cases hcc:c'=c
   ·subst hcc; exact⟨_,hc'⟩
   ·obtain⟨w2,z2⟩:=I.cell y c' e
    exact⟨w2,z2.sameBut hs hcc⟩
  ·obtain⟨e,n,ne,nf,d⟩:=I.pin p hp
   refine⟨(hs.2 p.1 ?_).trans e,n,ne,nf,d⟩
   intro q
   rw[q,hoc]at e
   have q':oc=p.2:=Option.some.inj e
   exact d w' (by rw[← q']; exact hocd)
theorem store_ok{M:Model}{A:Around}{E:Value→Shared→Prop}{i:Nat}{x:Str}{v:V}{u:Value}{Q:Unit→Shared→Prop}(I:Inv X pins σ H s)(hN:X.N.Nodup)(hi:X.N[i]?=some x)(hx:Loc X.env.scope x)(r:RelV v u)
  (h:∀ s',Inv X pins (σ.set i (some v)) H s'→Q () s') (hf:X.fn x=true∨X.env.scope.names.lookup x=some .local:=by first | exact .inl rfl | exact .inr rfl | assumption):wpAny M A (storeName X.env x u) Q E s :=
 store_ok2 I hN hi hx r (fun s' I' _=>h s' I') hf
theorem Inv.call'{s':Shared}{ch:List Addr}(I:Inv X pins σ H s)(ho:s'.os=s.os)(u:Un (frs X.stack) ch H H' s.heap s'.heap)(hok:HOk X.prog X.w H' s'.heap)(hg:AllBare s'.gens)
  (hch:∀ b∈ch,(b∈X.ex∨X.s₀.heap.objs.size≤b)∧b≠X.env.locals∧(∀ x c,X.env.cells.lookup x=some c→c≠b)∧∀ p∈X.pn++pins,p.1≠b):Inv X pins σ H' s':=by
 obtain⟨h',g',d',t',o'⟩:=s'
 have e:o'=s.os:=ho
 subst e
 exact I.call (g':=g') (t':=t') (d':=d') u hok hg hch
end
noncomputable abbrev XK:=Value→Option Addr→Hp→Prop
noncomputable abbrev St:=List (Option V)
noncomputable abbrev VK:=V→Hp→Prop
noncomputable abbrev TE:=St→Hp→VK→Prop
noncomputable abbrev TT:=St→Hp→(Bool→Hp→Prop)→Prop
noncomputable abbrev TA:=St→Hp→(List V→Hp→Prop)→Prop
structure Ends where
 nx:St→Hp→Prop
 rt:VK
 bk:St→Hp→Prop:=fun _ _=>False
 ct:St→Hp→Prop:=fun _ _=>False
noncomputable abbrev TS:=Ends→St→Hp→Prop
def EP(X:Cx)(pins:List (Addr×Obj))(σ:St)(Q:VK)(u:Value)(s':Shared):Prop:=∃ v H',Inv X pins σ H' s'∧RelV v u∧Q v H'
def TP(X:Cx)(pins:List (Addr×Obj))(σ:St)(Q:Bool→Hp→Prop)(b:Bool)(s':Shared):Prop:=∃ H',Inv X pins σ H' s'∧Q b H'
def AP(X:Cx)(pins:List (Addr×Obj))(σ:St)(Q:List V→Hp→Prop)(us:List Value)(s':Shared):Prop:=∃ vs H',Inv X pins σ H' s'∧Vals vs us∧Q vs H'
def SP(X:Cx)(pins:List (Addr×Obj))(D:Ends)(f:Flow)(s':Shared):Prop :=
 match f with
 | .next=>∃ σ' H',Inv X pins σ' H' s'∧D.nx σ' H'
 | .brk=>∃ σ' H',Inv X pins σ' H' s'∧D.bk σ' H'
 | .cont=>∃ σ' H',Inv X pins σ' H' s'∧D.ct σ' H'
 | .ret u=>∃ v σ' H',Inv X pins σ' H' s'∧RelV v u∧D.rt v H'
def PE(X:Cx)(e:Expr)(t:TE):Prop :=
 ∀ (pins:List (Addr×Obj)) (s:Shared) (σ:St) (H:Hp) (Q:VK),Inv X pins σ H s→t σ H Q→wpAny (model X.prog X.w) X.A (eval e X.env) (EP X pins σ Q) X.xe s
def PT(X:Cx)(e:Expr)(t:TT):Prop :=
 ∀ (pins:List (Addr×Obj)) (s:Shared) (σ:St) (H:Hp) (Q:Bool→Hp→Prop),Inv X pins σ H s→t σ H Q→wpAny (model X.prog X.w) X.A (isTrue e X.env (eval e X.env)) (TP X pins σ Q) X.xe s
def PW(X:Cx)(e:Expr)(t:TT):Prop :=
 ∀ (whole:Sem Value) (pins:List (Addr×Obj)) (s:Shared) (σ:St) (H:Hp) (Q:Bool→Hp→Prop),Inv X pins σ H s→t σ H Q→wpAny (model X.prog X.w) X.A (isTrue e X.env whole) (TP X pins σ Q) X.xe s
def PA(X:Cx)(es:List Expr)(t:TA):Prop :=
 ∀ (pos:Pos) (pins:List (Addr×Obj)) (s:Shared) (σ:St) (H:Hp) (Q:List V→Hp→Prop),Inv X pins σ H s→t σ H Q→wpAny (model X.prog X.w) X.A (spliced (backTo pos (starEach es X.env))) (AP X pins σ Q) X.xe s
def PS(X:Cx)(st:Stmt)(t:TS):Prop :=
 ∀ (pins:List (Addr×Obj)) (s:Shared) (σ:St) (H:Hp) (D:Ends),Inv X pins σ H s→t D σ H→wpAny (model X.prog X.w) X.A (exec st X.env) (SP X pins D) X.xe s
def PSs(X:Cx)(st:List Stmt)(t:TS):Prop :=
 ∀ (pins:List (Addr×Obj)) (s:Shared) (σ:St) (H:Hp) (D:Ends),Inv X pins σ H s→t D σ H→wpAny (model X.prog X.w) X.A (execs st X.env) (SP X pins D) X.xe s
theorem thn{α:Type}{t:Sem α}{Q Q':α→Shared→Prop}{M:Model}{A:Around}{E:Value→Shared→Prop}{s:Shared}(h:wpAny M A t Q E s)(hQ:∀ a s,Q a s→Q' a s):wpAny M A t Q' E s:=wpAny_mono h hQ fun _ _ x=>x
end L2
namespace L2
open PySem PySem.Spec PyProof.Rows
section
variable{X:Cx}
def tVar(i:Nat):TE:=fun σ H Q=>∃ v,σ[i]?=some (some v)∧Q v H
def tC(v:V):TE:=fun _ H Q=>Q v H
theorem pe_var{i:Nat}{x:Str}{pos:Pos}(hN:X.N[i]?=some x)(hv:Vis X.env.scope x)(hd:(x == ("__debug__" : Str))=false:=by decide)(hcd:(x == ("__classdict__" : Str))=false:=by decide):PE X (.Name x pos) (tVar i):=by
 intro pins s σ H Q I h
 obtain⟨v,e,h⟩:=h
 obtain⟨m,hn,hl⟩:=I.loc
 obtain⟨u,r,l⟩:=hl i x v hN e hv
 have fin:EP X pins σ Q u s:=⟨v,H,I,r,h⟩
 rcases l with⟨hk,hm⟩ | ⟨hk,c,hc,hcell⟩
 ·exact wpAny_Name (wpAny_loadName_local I.ok.kind hk hn hm fin) hd
 ·rcases hk with hk | hk
  ·exact wpAny_Name (wpAny_loadName_cell I.ok.kind hk hc hcell fin) hd
  ·exact wpAny_Name (wpAny_loadName_free I.ok.kind hk hc hcell fin hcd) hd
theorem pe_int{i j pos}:PE X (.Constant (.int i) j pos) (tC (.int i)):=fun _ _ _ H _ I h=>wpAny_Constant_int ⟨.int i,H,I.tok _,⟨_,rfl⟩,h⟩
theorem pe_bl{b j pos}:PE X (.Constant (.bool b) j pos) (tC (.bl b)):=fun _ _ _ H _ I h=>Constant_bool ⟨.bl b,H,I,rfl,h⟩
theorem pe_non{j pos}:PE X (.Constant .none j pos) (tC .non):=fun _ _ _ H _ I h=>Constant_none ⟨.non,H,I,rfl,h⟩
theorem pe_str{x j pos}:PE X (.Constant (.str x) j pos) (tC (.str x)):=fun _ _ _ H _ I h=>Calls.Constant_str ⟨.str x,H,I.tok _,⟨_,rfl⟩,h⟩
def Gl(X:Cx)(x:Str):Prop:=X.env.kindOf x=some .globalImplicit
theorem ld_glob{E:Value→Shared→Prop}{pins:List (Addr×Obj)}{s:Shared}{σ:St}{H:Hp}{x:Str}{u:Value}{pos:Pos}{Q:Value→Shared→Prop}(I:Inv X pins σ H s)(hg:Gl X x)(hm:X.mg x=some u)(h:Q u s)
  (hd:(x == ("__debug__" : Str))=false:=by decide):wpAny (model X.prog X.w) X.A (eval (.Name x pos) X.env) Q E s :=
 Calls.Name_function_global I.ok.kind hg (Calls.loadGlobal_global (by rw[I.ok.glob]; exact I.mod.glob.keeps I.bk) hm h) hd
theorem ld_blt{E:Value→Shared→Prop}{pins:List (Addr×Obj)}{s:Shared}{σ:St}{H:Hp}{x:Str}{u:Value}{pos:Pos}{Q:Value→Shared→Prop}(I:Inv X pins σ H s)(hg:Gl X x)(hm:X.mg x=none)(hv:bootBuiltins x=some u)(h:Q u s)
  (hn:x≠"__name__":=by decide) (hd:(x == ("__debug__" : Str))=false:=by decide):wpAny (model X.prog X.w) X.A (eval (.Name x pos) X.env) Q E s:=by
 obtain⟨mb,h1,h2⟩:=I.mod.blt
 exact Calls.Name_function_global I.ok.kind hg (Calls.loadGlobal_builtin (by rw[I.ok.glob]; exact I.mod.glob.keeps I.bk) hm (by rw[I.ok.blt]; exact h1.keeps I.bk) ((h2 x hn).trans hv) h) hd
theorem pe_glob{x:Str}{v:V}{u:Value}{pos:Pos}(hg:Gl X x)(hm:X.mg x=some u)(r:RelV v u)(hd:(x == ("__debug__" : Str))=false:=by decide):PE X (.Name x pos) (tC v) :=
 fun _ _ _ H _ I h=>ld_glob I hg hm ⟨v,H,I,r,h⟩ hd
theorem pe_bltn{x:Str}{v:V}{u:Value}{pos:Pos}(hg:Gl X x)(hm:X.mg x=none)(hv:bootBuiltins x=some u)(r:RelV v u)(hn:x≠"__name__":=by decide)(hd:(x == ("__debug__" : Str))=false:=by decide):PE X (.Name x pos) (tC v) :=
 fun _ _ _ H _ I h=>ld_blt I hg hm hv ⟨v,H,I,r,h⟩ hn hd
variable{a b:Expr}{ta tb:TE}{pos:Pos}
def tB(t:TE):TT:=fun σ H Q=>t σ H fun x H1=>∃ c,x = .bl c∧Q c H1
theorem pt_val{e:Expr}{t:TE}(h:PE X e t)(he:∀ whole,isTrue e X.env whole=(do let v ← whole; standAt e.pos; holding [v] (truthy v)):=by intro _; rfl):PT X e (tB t):=by
 intro pins s σ H Q I hw
 refine isTrue_plain (thn (h pins s σ H _ I hw) fun v s1 ⟨x,H1,I1,r1,q1⟩=>?_) (he _)
 obtain⟨d,rfl,q⟩:=q1
 cases r1
 exact wpAny_truthy_bool ⟨H1,I1,q⟩
variable{tA tB':TT}{rest:List Expr}
def tOr(t u:TT):TT:=fun σ H Q=>t σ H fun c H1=>if c=true then Q true H1 else u σ H1 Q
def tNot(t:TT):TT:=fun σ H Q=>t σ H fun c H1=>Q (!c) H1
theorem pw_or1(ha:PT X a tA):PW X (.BoolOp .Or [a] pos) tA:=by
 intro wh pins s σ H Q I h
 refine isTrue_or (thn (ha pins s σ H Q I h) fun c s1 e=>?_)
 cases c with
 | false=>exact isTrue_or_nil e
 | true=>exact e
theorem pw_or(ha:PT X a tA)(hb:PW X (.BoolOp .Or (b::rest) pos) tB'):PW X (.BoolOp .Or (a::b::rest) pos) (tOr tA tB'):=by
 intro wh pins s σ H Q I h
 refine isTrue_or (thn (ha pins s σ H _ I h) fun c s1 ⟨H1,I1,q1⟩=>?_)
 cases c with
 | true=>exact⟨H1,I1,q1⟩
 | false=>exact hb wh pins s1 σ H1 Q I1 q1
theorem pt_not(ha:PT X a tA):PT X (.UnaryOp .Not a pos) (tNot tA):=by
 intro pins s σ H Q I h
 exact isTrue_not (ha pins s σ H (fun c H1=>Q (!c) H1) I h)
def tAndV(ta tb:TE):TE:=fun σ H Q=>ta σ H fun x H1=>∃ c,x = .bl c∧if c=true then tb σ H1 Q else Q (.bl false) H1
def tNotV(ta:TE):TE:=fun σ H Q=>ta σ H fun x H1=>∃ c,x = .bl c∧Q (.bl (!c)) H1
theorem pe_one{op}{t:TE}(h:PE X a t):PE X (.BoolOp op [a] pos) t:=fun pins s σ H Q I hw=>BoolOp_one (h pins s σ H Q I hw)
theorem pe_and(ha:PE X a ta)(hb:PE X (.BoolOp .And (b::rest) pos) tb):PE X (.BoolOp .And (a::b::rest) pos) (tAndV ta tb):=by
 intro pins s σ H Q I h
 refine BoolOp_and (thn (ha pins s σ H _ I h) fun v s1 ⟨x,H1,I1,r1,q1⟩=>?_)
 obtain⟨c,rfl,q1⟩:=q1
 cases r1
 refine wpAny_truthy_bool ?_
 cases c with
 | true=>exact hb pins s1 σ H1 Q I1 q1
 | false=>exact⟨.bl false,H1,I1,rfl,q1⟩
theorem pe_not(ha:PE X a ta):PE X (.UnaryOp .Not a pos) (tNotV ta):=by
 intro pins s σ H Q I h
 refine UnaryOp_ (thn (ha pins s σ H _ I h) fun v s1 ⟨x,H1,I1,r1,q1⟩=>?_)
 obtain⟨c,rfl,q1⟩:=q1
 cases r1
 exact not_of (wpAny_truthy_bool ⟨.bl (!c),H1,I1,rfl,q1⟩)
def tIf(t:TT)(ta tb:TE):TE:=fun σ H Q=>t σ H fun c H1=>if c=true then ta σ H1 Q else tb σ H1 Q
theorem pe_ifExp{c:Expr}(hc:PT X c tA)(ha:PE X a ta)(hb:PE X b tb):PE X (.IfExp c a b pos) (tIf tA ta tb):=by
 intro pins s σ H Q I h
 refine wpAny_IfExp (thn (hc pins s σ H _ I h) fun d s1 ⟨H1,I1,q1⟩=>?_)
 cases d with
 | true=>exact ha pins s1 σ H1 Q I1 q1
 | false=>exact hb pins s1 σ H1 Q I1 q1
end
end L2
namespace L2
open PySem PySem.Spec PyProof.Rows
def SqL(K:PySem.W.Frag)(H:Hp)(a:Addr)(xs:List V):Prop :=
 Rd H a (.lst xs) ∨
  ∃ (o:Obj) (its:Array Value) (n:Nat),K.lookup a=some o∧o.cls = .type "list"∧o.dict=none∧o.data = .seq its n∧its.size≤sizeLine∧Vals xs its.toList
def SqT(K:PySem.W.Frag)(H:Hp)(a:Addr)(xs:List V):Prop :=
 Rd H a (.tup xs) ∨
  ∃ (o:Obj) (its:Array Value) (n:Nat),K.lookup a=some o∧o.cls = .type "tuple"∧o.data = .seq its n∧its.size≤sizeLine∧Vals xs its.toList
def absV:Value→Option V
 | .none=>some .non
 | .bool b=>some (.bl b)
 | .int i _=>some (.int i)
 | .str x _=>some (.str x)
 | .bytes b _=>some (.byt b)
 | .float b _=>some (.flt b)
 | .ref a=>some (.ref a)
 | .type n=>some (.ty n)
 | _=>none
theorem RelV.abs{x:V}{u:Value}(r:RelV x u):absV u=some x:=by
 cases x with
 | non=>cases r; rfl
 | bl _=>cases r; rfl
 | int _=>obtain⟨t,rfl⟩:=r; rfl
 | str _=>obtain⟨t,rfl⟩:=r; rfl
 | byt _=>obtain⟨t,rfl⟩:=r; rfl
 | flt _=>obtain⟨t,rfl⟩:=r; rfl
 | ref _=>cases r; rfl
 | ty _=>cases r; rfl
theorem RelV.inj{x y:V}{u:Value}(r:RelV x u)(q:RelV y u):x=y:=Option.some.inj (r.abs.symm.trans q.abs)
theorem Vals.inj:∀ {xs ys:List V} {us:List Value},Vals xs us→Vals ys us→xs=ys
 | _,_,_,.nil,.nil=>rfl
 | _,_,_,.cons r t,.cons r' t'=>by rw[r.inj r',Vals.inj t t']
section
variable{X:Cx}{pins:List (Addr×Obj)}{σ:St}{H:Hp}{s:Shared}{a:Addr}{xs ys:List V}
theorem SqL.of{K:PySem.W.Frag}(h:H a=some (.lst xs)):SqL K H a xs:=.inl (.inl h)
theorem SqT.of{K:PySem.W.Frag}(h:H a=some (.tup xs)):SqT K H a xs:=.inl (.inl h)
theorem Inv.list(I:Inv X pins σ H s)(h:SqL X.K H a xs):∃ its:List Value,Vals xs its∧PlainL s.heap a its.toArray∧xs.length≤sizeLine:=by
 rcases h with h | ⟨o,its,n,hk,hc,hd,hs,hz,r⟩
 ·obtain⟨z,its,n,r,e⟩:=h.ok I.hok
  exact⟨its,r,⟨_,n,e,rfl,rfl,rfl⟩,z⟩
 ·refine⟨its.toList,r,⟨o,n,I.kIn a o hk,hc,hd,by simpa using hs⟩,?_⟩
  have e:=r.length
  simp only[Array.length_toList]at e
  ac_rfl
theorem Inv.tuple(I:Inv X pins σ H s)(h:SqT X.K H a xs):∃ its:List Value,Vals xs its∧IsTup s.heap a its.toArray∧xs.length≤sizeLine:=by
 rcases h with h | ⟨o,its,n,hk,hc,hs,hz,r⟩
 ·obtain⟨z,its,r,p,_⟩:=h.ok I.hok
  exact⟨its,r,p,z⟩
 ·refine⟨its.toList,r,⟨o,I.kIn a o hk,hc,n,by simpa using hs⟩,?_⟩
  have e:=r.length
  simp only[Array.length_toList]at e
  ac_rfl
theorem Inv.list_inj(I:Inv X pins σ H s)(h:SqL X.K H a xs)(h':SqL X.K H a ys):xs=ys:=by
 obtain⟨its,r,⟨o,n,e,_,_,d⟩,_⟩:=I.list h
 obtain⟨its',r',⟨o',n',e',_,_,d'⟩,_⟩:=I.list h'
 rw[e]at e'; cases e'
 rw[d]at d'
 injection d' with d1 _
 have:its=its':=by simpa using congrArg Array.toList d1
 subst this
 exact r.inj r'
theorem Inv.tuple_inj(I:Inv X pins σ H s)(h:SqT X.K H a xs)(h':SqT X.K H a ys):xs=ys:=by
 obtain⟨its,r,⟨o,e,_,n,d⟩,_⟩:=I.tuple h
 obtain⟨its',r',⟨o',e',_,n',d'⟩,_⟩:=I.tuple h'
 rw[e]at e'; cases e'
 rw[d]at d'
 injection d' with d1 _
 have:its=its':=by simpa using congrArg Array.toList d1
 subst this
 exact r.inj r'
end
noncomputable abbrev Cx.wish(X:Cx)(E:Value→Shared→Prop):Cx:={ X with xe:=E }
noncomputable abbrev Cx.nox(X:Cx):Cx:=X.wish fun _ _=>False
theorem Cx.Ok.wish{X:Cx}(ok:X.Ok)(E:Value→Shared→Prop):(X.wish E).Ok :=
 ⟨ok.mod,ok.kind,ok.glob,ok.blt,ok.above,ok.inj,ok.has,ok.cab,ok.hd,ok.frames,ok.stk,ok.exf,ok.bs,ok.bsz,ok.noex,ok.exfs,ok.funs,ok.frf⟩
theorem Cx.Ok.unwish{X:Cx}{E:Value→Shared→Prop}(ok:(X.wish E).Ok):X.Ok :=
 ⟨ok.mod,ok.kind,ok.glob,ok.blt,ok.above,ok.inj,ok.has,ok.cab,ok.hd,ok.frames,ok.stk,ok.exf,ok.bs,ok.bsz,ok.noex,ok.exfs,ok.funs,ok.frf⟩
section
variable{X:Cx}{pins:List (Addr×Obj)}{σ:St}{H:Hp}{s:Shared}{E:Value→Shared→Prop}
theorem Inv.wish(I:Inv X pins σ H s)(E:Value→Shared→Prop):Inv (X.wish E) pins σ H s:=⟨I.ok.wish E,I.os,I.bare,I.base,I.loc,I.cell,I.free,I.freeC,I.pin,I.hok,I.len⟩
theorem Inv.unwish(I:Inv (X.wish E) pins σ H s):Inv X pins σ H s:=⟨I.ok.unwish,I.os,I.bare,I.base,I.loc,I.cell,I.free,I.freeC,I.pin,I.hok,I.len⟩
theorem SP.unwish{D:Ends}{f:Flow}{s':Shared}(h:SP (X.wish E) pins D f s'):SP X pins D f s':=by
 cases f with
 | next=>obtain⟨σ',H',I,q⟩:=h; exact⟨σ',H',I.unwish,q⟩
 | brk=>obtain⟨σ',H',I,q⟩:=h; exact⟨σ',H',I.unwish,q⟩
 | cont=>obtain⟨σ',H',I,q⟩:=h; exact⟨σ',H',I.unwish,q⟩
 | ret u=>obtain⟨v,σ',H',I,r,q⟩:=h; exact⟨v,σ',H',I.unwish,r,q⟩
theorem PE.nox{e:Expr}{t:TE}(h:PE X.nox e t):PE X e t:=fun pins s σ H Q I hw =>
 wpAny_mono (h pins s σ H Q (I.wish _) hw) (fun _ _ ⟨v,H',I',r,q⟩=>⟨v,H',I'.unwish,r,q⟩) fun _ _ z=>False.elim z
theorem PT.nox{e:Expr}{t:TT}(h:PT X.nox e t):PT X e t:=fun pins s σ H Q I hw =>
 wpAny_mono (h pins s σ H Q (I.wish _) hw) (fun _ _ ⟨H',I',q⟩=>⟨H',I'.unwish,q⟩) fun _ _ z=>False.elim z
theorem PSs.nox{st:List Stmt}{t:TS}(h:PSs X.nox st t):PSs X st t:=fun pins s σ H D I hw =>
 wpAny_mono (h pins s σ H D (I.wish _) hw) (fun _ _ q=>q.unwish) fun _ _ z=>False.elim z
end
section
variable{X:Cx}{st:Stmt}{rest:List Stmt}{t u:TS}{e:Expr}{te:TE}{pos:Pos}
def tNext:TS:=fun D σ H=>D.nx σ H
def tSeq(t u:TS):TS:=fun D σ H=>t { D with nx:=u D } σ H
theorem pss_nil:PSs X [] tNext:=fun _ _ σ H _ I h=>wpAny_execs_nil ⟨σ,H,I,h⟩
theorem pss_cons(h1:PS X st t)(h2:PSs X rest u):PSs X (st::rest) (tSeq t u):=by
 intro pins s σ H D I h
 refine wpAny_execs_cons (thn (h1 pins s σ H { D with nx:=u D } I h) fun f s1 q=>?_)
 cases f with
 | next =>
  obtain⟨σ',H',I',q⟩:=q
  exact h2 pins s1 σ' H' D I' q
 | ret v=>exact q
 | brk=>exact q
 | cont=>exact q
theorem pss_one(h1:PS X st t):PSs X [st] t:=by
 intro pins s σ H D I h
 refine wpAny_execs_cons (thn (h1 pins s σ H D I h) fun f s1 q=>?_)
 cases f with
 | next=>exact wpAny_execs_nil q
 | ret v=>exact q
 | brk=>exact q
 | cont=>exact q
theorem Inv.quiet{pins:List (Addr×Obj)}{σ:St}{H:Hp}{s:Shared}(I:Inv X pins σ H s):interactive X.env=false:=by simp[interactive,I.ok.kind]
def tDrop(te:TE):TS:=fun D σ H=>te σ H fun _ H1=>D.nx σ H1
theorem ps_expr(he:PE X e te)(hs:swapsWith e none pos.line X.env=pure false:=by rfl):PS X (.Expr e pos) (tDrop te):=by
 intro pins s σ H D I h
 exact wpAny_Expr_any (thn (he pins s σ H _ I h) fun v s1 ⟨x,H1,I1,r1,q1⟩=>⟨σ,H1,I1,q1⟩) I.quiet hs
def tRet(te:TE):TS:=fun D σ H=>te σ H D.rt
theorem ps_ret(he:PE X e te):PS X (.Return (some e) pos) (tRet te):=by
 intro pins s σ H D I h
 exact wpAny_Return_some (thn (he pins s σ H _ I h) fun v s1 ⟨x,H1,I1,r1,q1⟩=>⟨x,σ,H1,I1,r1,q1⟩)
def tRetN:TS:=fun D _ H=>D.rt .non H
theorem ps_retN:PS X (.Return none pos) tRetN:=fun _ _ σ H _ I h=>wpAny_Return_none ⟨.non,σ,H,I,rfl,h⟩
def tIfS(c:TT)(t u:TS):TS:=fun D σ H=>c σ H fun b H1=>if b=true then t D σ H1 else u D σ H1
theorem ps_if{c:Expr}{a b:List Stmt}{tc:TT}(hc:PT X c tc)(ha:PSs X a t)(hb:PSs X b u):PS X (.If c a b pos) (tIfS tc t u):=by
 intro pins s σ H D I h
 refine wpAny_If (thn (hc pins s σ H _ I h) fun d s1 ⟨H1,I1,q1⟩=>?_)
 cases d with
 | true=>exact ha pins s1 σ H1 D I1 q1
 | false=>exact hb pins s1 σ H1 D I1 q1
end
noncomputable abbrev TG:=V→St→Hp→(St→Hp→Prop)→Prop
noncomputable abbrev TGs:=List V→St→Hp→(St→Hp→Prop)→Prop
def PG(X:Cx)(target:Expr)(t:TG):Prop :=
 ∀ (pins:List (Addr×Obj)) (s:Shared) (σ:St) (H:Hp) (v:V) (u:Value) (Q:St→Hp→Prop),Inv X pins σ H s→RelV v u→t v σ H Q →
  wpAny (model X.prog X.w) X.A (assign target X.env u) (fun _ s'=>∃ σ' H',Inv X pins σ' H' s'∧Q σ' H') X.xe s
def PGs(X:Cx)(ts:List Expr)(t:TGs):Prop :=
 ∀ (pins:List (Addr×Obj)) (s:Shared) (σ:St) (H:Hp) (vs:List V) (us:List Value) (Q:St→Hp→Prop),Inv X pins σ H s→Vals vs us→t vs σ H Q →
  wpAny (model X.prog X.w) X.A (assignInOrder ((assignEach ts X.env).map (·.2)) us) (fun _ s'=>∃ σ' H',Inv X pins σ' H' s'∧Q σ' H') X.xe s
noncomputable abbrev TSet:=V→V→V→Hp→(Hp→Prop)→Prop
def PSet(X:Cx)(t:TSet):Prop :=
 ∀ (pins:List (Addr×Obj)) (s:Shared) (σ:St) (H:Hp) (o i v:V) (ov iv u:Value) (Q:Hp→Prop),Inv X pins σ H s→RelV o ov→RelV i iv→RelV v u→t o i v H Q →
  wpAny (model X.prog X.w) X.A (setItem ov iv u) (fun _ s'=>∃ H',Inv X pins σ H' s'∧Q H') X.xe s
section
variable{X:Cx}{pos:Pos}
def gName(i:Nat):TG:=fun v σ H Q=>Q (σ.set i (some v)) H
theorem pg_name{i:Nat}{x:Str}(hN:X.N.Nodup)(hi:X.N[i]?=some x)(hx:Loc X.env.scope x)(hf:X.fn x=true∨X.env.scope.names.lookup x=some .local:=by first | exact .inl rfl | exact .inr rfl | assumption):PG X (.Name x pos) (gName i):=by
 intro pins s σ H v u Q I r h
 exact wpAny_assign_Name (store_ok I hN hi hx r (fun s' I'=>⟨_,H,I',h⟩) hf)
def gNil:TGs:=fun vs σ H Q=>vs=[]∧Q σ H
def gCons(t:TG)(u:TGs):TGs:=fun vs σ H Q=>∃ v r,vs=v::r∧t v σ H fun σ' H'=>u r σ' H' Q
theorem pgs_nil:PGs X [] gNil:=by
 intro pins s σ H vs us Q I r h
 obtain⟨e,h⟩:=h
 subst e
 cases r
 exact assignInOrder_nil ⟨σ,H,I,h⟩
theorem pgs_cons{e:Expr}{es:List Expr}{t:TG}{u:TGs}(h1:PG X e t)(h2:PGs X es u)
  (hs:(assignEach (e::es) X.env).map (·.2)=assign e X.env::(assignEach es X.env).map (·.2):=by rfl):PGs X (e::es) (gCons t u):=by
 intro pins s σ H vs us Q I r h
 obtain⟨v,vr,e1,h⟩:=h
 subst e1
 cases r with
 | cons r rr =>
  rw[hs]
  refine assignInOrder_cons (thn (h1 pins s σ H _ _ _ I r h) fun _ s1 ⟨σ1,H1,I1,q1⟩=>?_)
  exact h2 pins s1 σ1 H1 _ _ Q I1 rr q1
def gTup(K:PySem.W.Frag)(n:Nat)(t:TGs):TG:=fun v σ H Q=>∃ a xs,v = .ref a∧SqT K H a xs∧xs.length=n∧t xs σ H Q
theorem pg_tup{es:List Expr}{k:Nat}{t:TGs}{n:Nat}(hc:X.calm=true)(h:PGs X es t)
  (hn:(assignEach es X.env).length=n:=by rfl) (hst:(assignEach es X.env).findIdx? (·.1)=none:=by rfl):PG X (.Tuple es k pos) (gTup X.K n t):=by
 intro pins s σ H v u Q I r hw
 obtain⟨a,xs,e1,hq,hl,hw⟩:=hw
 subst e1
 cases r
 obtain⟨its,rv,ht,hz⟩:=I.tuple hq
 refine assign_Tuple_tuple (I.ok.hd hc) ht (by simp[hn,← hl,rv.length]) hst fun h' hx=>?_
 have I1:Inv X pins σ H { s with heap:=h' }:=I.kept (t':=s.toks) fun b o e=>hx b o (Nat.ne_of_lt (Heap.lt_size e)) e
 exact h pins _ σ H xs _ Q I1 (by simpa using rv) hw
def gSub(to ti:TE)(t:TSet):TG:=fun v σ H Q=>to σ H fun o H1=>ti σ H1 fun i H2=>t o i v H2 fun H3=>Q σ H3
theorem pg_sub{o i:Expr}{to ti:TE}{t:TSet}(ho:PE X o to)(hi:PE X i ti)(hs:PSet X t)
  (ha:∀ v,assign (.Subscript o i pos) X.env v=(do
   let ov ← holding [v] (eval o X.env)
   let iv ← holding [v,ov] (eval i X.env)
   standAt pos
   holding [v,ov,iv] (setItem ov iv v)
   release [v,ov,iv] []):=by intro _; rfl):PG X (.Subscript o i pos) (gSub to ti t):=by
 intro pins s σ H v u Q I r h
 rw[ha]
 refine wpAny_bind (wpAny_holding (thn (ho pins s σ H _ I h) fun ov s1 ⟨x,H1,I1,r1,q1⟩=>?_))
 refine wpAny_bind (wpAny_holding (thn (hi pins s1 σ H1 _ I1 q1) fun iv s2 ⟨y,H2,I2,r2,q2⟩=>?_))
 refine wpAny_bind (wpAny_standAt (wpAny_bind (wpAny_holding (thn (hs pins s2 σ H2 x y v ov iv u _ I2 r1 r2 r q2) fun _ s3 ⟨H3,I3,q3⟩=>?_))))
 exact wpAny_release ⟨σ,H3,I3,q3⟩
def tAsg(te:TE)(g:TG):TS:=fun D σ H=>te σ H fun x H1=>g x σ H1 D.nx
theorem ps_asg{tg e:Expr}{te:TE}{g:TG}(he:PE X e te)(hg:PG X tg g)(hs:swapsWithSole [tg] e pos.line X.env=pure false:=by rfl)(hw:swappedStores [tg] e X.env=pure none:=by rfl)
  (h1:(assignEach [tg] X.env).map (·.2)=[assign tg X.env]:=by rfl):PS X (.Assign [tg] e pos) (tAsg te g):=by
 intro pins s σ H D I h
 refine wpAny_Assign_stores (thn (he pins s σ H _ I h) fun v s1 ⟨x,H1,I1,r1,q1⟩=>?_) hs hw
 rw[h1]
 exact thn (hg pins s1 σ H1 x v _ I1 r1 q1) fun _ s2 q=>q
theorem ps_set{i:Nat}{x:Str}{e:Expr}{te:TE}{pos':Pos}(hN:X.N.Nodup)(hi:X.N[i]?=some x)(hx:Loc X.env.scope x)(he:PE X e te)(hs:swapsWith e (some (.Name x pos')) pos.line X.env=pure false:=by rfl)(hf:X.fn x=true∨X.env.scope.names.lookup x=some .local:=by first | exact .inl rfl | exact .inr rfl | assumption) :
  PS X (.Assign [.Name x pos'] e pos) (tAsg te (gName i)):=by
 intro pins s σ H D I h
 refine wpAny_Assign_Name (thn (he pins s σ H _ I h) fun v s1 ⟨y,H1,I1,r1,q1⟩=>?_) hs
 exact store_ok I1 hN hi hx r1 (fun s2 I2=>⟨_,H1,I2,q1⟩) hf
end
structure It where
 go:Nat→Hp→Prop
 yld:Nat→Hp→V→Hp→Prop
 stop:Nat→Hp→Prop
def FpOk(X:Cx)(pins:List (Addr×Obj))(H:Hp)(b:Addr):Prop :=
 H b=none∧b≠X.env.locals∧b∉X.fs∧(b∈X.ex∨X.s₀.heap.objs.size≤b)∧(∀ x c,X.env.cells.lookup x=some c→c≠b)∧∀ p∈X.pn++pins,p.1≠b
theorem Inv.fpOk{X:Cx}{pins:List (Addr×Obj)}{σ:St}{H H':Hp}{s:Shared}{b:Addr}(I:Inv X pins σ H s)(hb:s.heap.objs.size≤b)(hn:H' b=none):FpOk X pins H' b:=by
 refine⟨hn,Nat.ne_of_gt (Nat.lt_of_lt_of_le I.lt hb),I.nofs hb,.inr (Nat.le_trans I.sz hb),fun x c e z=>?_,fun p hp z=>?_⟩
 ·obtain⟨v,q⟩:=I.cell x c e
  exact absurd (Nat.lt_of_lt_of_le q.lt (by rw[z]; exact hb)) (Nat.lt_irrefl _)
 ·exact absurd (Nat.lt_of_lt_of_le (Heap.lt_size (I.pin p hp).1) (by rw[z]; exact hb)) (Nat.lt_irrefl _)
structure Turn(P:Program)(w:World)(K:PySem.W.Frag)(tg:Expr)(J:It)(fp:List Addr)(it:Addr)(tn:Nat→Heap→Prop):Prop where
 mem:it∈fp
 obj:∀ i h,tn i h→∀ b∈fp,∃ o,h.get? b=some o∧∀ v,o.data≠.cell v
 keep:∀ i h h',tn i h→(∀ b∈fp,∀ o,h.get? b=some o→h'.get? b=some o)→tn i h'
 item:∀ (X:Cx),X.prog=P→X.w=w→X.K=K→X.calm=true→∀ (i:Nat) (pins:List (Addr×Obj)) (s:Shared) (σ:St) (H:Hp) (E:Value→Shared→Prop),Inv X pins σ H s→(∀ b∈fp,FpOk X pins H b)→tn i s.heap→J.go i H →
  wpAny (model P w) X.A (pyNext (.ref it)) (fun r s1=>∃ u,r=some u ∧
   wpAny (model P w) X.A (letOwnedTupleGo tg (.ref it) u) (fun _ s2=>∃ x H',Inv X pins σ H' s2∧RelV x u∧J.yld i H x H'∧tn (i+1) s2.heap∧∀ b∈fp,H' b=none) E s1) E s
 done:∀ (X:Cx),X.prog=P→X.w=w→X.K=K→X.calm=true→∀ (i:Nat) (pins:List (Addr×Obj)) (s:Shared) (σ:St) (H:Hp) (E:Value→Shared→Prop),Inv X pins σ H s→(∀ b∈fp,FpOk X pins H b)→tn i s.heap→J.stop i H →
  wpAny (model P w) X.A (pyNext (.ref it)) (fun r s1=>r=none∧Inv X pins σ H s1) E s
 self:∀ (A:Around) (i:Nat) (s:Shared) (Q:Value→Shared→Prop) (E:Value→Shared→Prop),tn i s.heap→Q (.ref it) s→wpAny (model P w) A (pyIter (.ref it)) Q E s
noncomputable abbrev TI:=St→Hp→(It→Hp→Prop)→Prop
def PIE(X:Cx)(pins:List (Addr×Obj))(σ:St)(tg:Expr)(R:It→Hp→Prop)(itv:Value)(s2:Shared):Prop :=
 ∃ (it:Addr) (fp:List Addr) (tn:Nat→Heap→Prop) (J:It) (H':Hp),itv = .ref it∧Inv X pins σ H' s2∧Turn X.prog X.w X.K tg J fp it tn∧tn 0 s2.heap∧(∀ b∈fp,FpOk X pins H' b)∧R J H'
def PI(X:Cx)(tg iter:Expr)(wi:TI):Prop :=
 ∀ (pins:List (Addr×Obj)) (s:Shared) (σ:St) (H:Hp) (R:It→Hp→Prop),Inv X pins σ H s→wi σ H R →
  wpAny (model X.prog X.w) X.A (eval iter X.env) (fun v s1=>wpAny (model X.prog X.w) X.A (pyIter v) (PIE X pins σ tg R) X.xe s1) X.xe s
theorem go_of{M:Model}{A:Around}{E:Value→Shared→Prop}{s:Shared}{tg:Expr}{it:Addr}{u:Value}{o:Obj}{n:String}{vs:Array Value}{Q:Unit→Shared→Prop}(ho:s.heap.get? it=some o)(hc:o.cls = .type n)(hd:o.data = .fields vs)
  (hn:["enumerate","zip","dict_itemiterator","dict_reverseitemiterator","odict_iterator","itertools.zip_longest","itertools.pairwise"].contains n=false) (hQ:Q () s):wpAny M A (letOwnedTupleGo tg (.ref it) u) Q E s:=by
 unfold letOwnedTupleGo
 cases tg <;> first
  | exact wpAny_pure hQ
  | (cases u <;> first
    | exact wpAny_pure hQ
    | (refine wpAny_bind (wpAny_load ho ?_)
       rw[hc,hd]
       show wpAny M A (if(["enumerate","zip","dict_itemiterator","dict_reverseitemiterator","odict_iterator","itertools.zip_longest","itertools.pairwise"].contains n && vs[0]? == some (rawInt _))=true then _ else _) Q E s
       rw[if_neg (by intro h; rw[hn,Bool.false_and]at h; cases h)]
       exact wpAny_pure hQ))
def Itl(K:PySem.W.Frag)(a:Addr):It :=
 ⟨fun i H=>∃ xs x,SqL K H a xs∧xs[i]?=some x,fun i H x H'=>H'=H∧∀ xs,SqL K H a xs→xs[i]?=some x,fun i H=>∃ xs,SqL K H a xs∧xs.length≤i⟩
def Itt(K:PySem.W.Frag)(a:Addr):It :=
 ⟨fun i H=>∃ xs x,SqT K H a xs∧xs[i]?=some x,fun i H x H'=>H'=H∧∀ xs,SqT K H a xs→xs[i]?=some x,fun i H=>∃ xs,SqT K H a xs∧xs.length≤i⟩
def Itr(lo:Int)(n:Nat):It:=⟨fun i _=>i<n,fun i H x H'=>H'=H∧x = .int (lo+i),fun i _=>n≤i⟩
theorem turn_list{P:Program}{w:World}{K:PySem.W.Frag}{tg:Expr}(a it:Addr):Turn P w K tg (Itl K a) [it] it (fun i h=>h.IsListIter it a i) where
 mem:=by simp
 obj:=fun i h st b hb=>by
  have e:b=it:=by simpa using hb
  subst e
  obtain⟨o,e,c,d⟩:=st
  exact⟨o,e,fun v z=>by rw[d]at z; cases z⟩
 keep:=fun i h h' st k=>st.at fun o e=>k it (by simp) o e
 item:=by
  intro X hP hw hK hc i pins s σ H E I hf st hg
  subst hP hw hK
  obtain⟨xs,x,hq,hx⟩:=hg
  obtain⟨its,rv,p,hz⟩:=I.list hq
  obtain⟨u,hu,ru⟩:=rv.get hx
  obtain⟨f0,f1,f2,f3,f4,f5⟩:=hf it (by simp)
  refine wpAny_pyNext_list_item st p.isList (x:=u) (by simpa using hu) fun h' st' sb=>?_
  have I1:Inv X pins σ H { s with heap:=h' }:=I.turned (t':=s.toks) (fun b o hb e=>(sb.2 b hb).trans e) f0 f1 f3 f4 f5
  obtain⟨o,e,c,d⟩:=id st'
  exact⟨u,rfl,go_of (s:={ s with heap:=h' }) e c d (by decide) ⟨x,H,I1,ru,⟨rfl,fun ys hy=>by rw[I.list_inj hy hq]; exact hx⟩,st',fun b hb=>(hf b hb).1⟩⟩
 done:=by
  intro X hP hw hK hc i pins s σ H E I hf st hg
  subst hP hw hK
  obtain⟨xs,hq,hx⟩:=hg
  obtain⟨its,rv,p,hz⟩:=I.list hq
  obtain⟨f0,f1,f2,f3,f4,f5⟩:=hf it (by simp)
  have hl:=rv.length
  exact wpAny_pyNext_list_end (I.ok.hd hc) st p.isList (by simp; ac_rfl) fun h' eb=>⟨rfl,I.turned (t':=s.toks) (fun b o hb e=>eb b o hb e) f0 f1 f3 f4 f5⟩
 self:=fun _ _ _ _ _ st h=>wpAny_pyIter_listiter st h
theorem turn_tuple{P:Program}{w:World}{K:PySem.W.Frag}{tg:Expr}(a it:Addr):Turn P w K tg (Itt K a) [it] it (fun i h=>h.IsTupleIter it a i) where
 mem:=by simp
 obj:=fun i h st b hb=>by
  have e:b=it:=by simpa using hb
  subst e
  obtain⟨o,e,c,d⟩:=st
  exact⟨o,e,fun v z=>by rw[d]at z; cases z⟩
 keep:=fun i h h' st k=>st.at fun o e=>k it (by simp) o e
 item:=by
  intro X hP hw hK hc i pins s σ H E I hf st hg
  subst hP hw hK
  obtain⟨xs,x,hq,hx⟩:=hg
  obtain⟨its,rv,p,hz⟩:=I.tuple hq
  obtain⟨u,hu,ru⟩:=rv.get hx
  obtain⟨f0,f1,f2,f3,f4,f5⟩:=hf it (by simp)
  refine wpAny_pyNext_tuple_item st (show s.heap.IsTuple a its.toArray from p) (x:=u) (by simpa using hu) fun h' st' sb=>?_
  have I1:Inv X pins σ H { s with heap:=h' }:=I.turned (t':=s.toks) (fun b o hb e=>(sb.2 b hb).trans e) f0 f1 f3 f4 f5
  obtain⟨o,e,c,d⟩:=id st'
  exact⟨u,rfl,go_of (s:={ s with heap:=h' }) e c d (by decide) ⟨x,H,I1,ru,⟨rfl,fun ys hy=>by rw[I.tuple_inj hy hq]; exact hx⟩,st',fun b hb=>(hf b hb).1⟩⟩
 done:=by
  intro X hP hw hK hc i pins s σ H E I hf st hg
  subst hP hw hK
  obtain⟨xs,hq,hx⟩:=hg
  obtain⟨its,rv,p,hz⟩:=I.tuple hq
  obtain⟨f0,f1,f2,f3,f4,f5⟩:=hf it (by simp)
  have hl:=rv.length
  exact wpAny_pyNext_tuple_end (I.ok.hd hc) st (show s.heap.IsTuple a its.toArray from p) (by simp; ac_rfl) fun h' eb=>⟨rfl,I.turned (t':=s.toks) (fun b o hb e=>eb b o hb e) f0 f1 f3 f4 f5⟩
 self:=fun _ _ _ _ _ st h=>wpAny_pyIter_tupleiter st h
theorem turn_range{P:Program}{w:World}{K:PySem.W.Frag}{tg:Expr}(it:Addr)(lo:Int)(n:Nat):Turn P w K tg (Itr lo n) [it] it (fun i h=>IsRangeIter h it (lo+(i:Nat) * 1) ((n:Int)-(i:Nat)) 1) where
 mem:=by simp
 obj:=fun i h st b hb=>by
  have e:b=it:=by simpa using hb
  subst e
  exact⟨_,st,fun v z=>by
   have z':Data.fields _=Data.cell v:=z
   cases z'⟩
 keep:=fun i h h' st k=>k it (by simp) _ st
 item:=by
  intro X hP hw hK hc i pins s σ H E I hf st hg
  subst hP hw hK
  obtain⟨f0,f1,f2,f3,f4,f5⟩:=hf it (by simp)
  have W:=Walks.range (prog:=X.prog) (w:=X.w) (I.ok.hd hc) it lo 1 n
  refine W.item i s _ _ hg st fun v h' tk hv st' kk=>?_
  obtain⟨t,rfl⟩:=hv
  have I1:Inv X pins σ H { s with heap:=h',toks:=tk }:=I.turned (fun b o hb e=>kk b o (by simpa using hb) e) f0 f1 f3 f4 f5
  refine⟨_,rfl,go_of (s:={ s with heap:=h',toks:=tk }) (n:="range_iterator") st' rfl rfl (by decide) ⟨.int (lo+i),H,I1,⟨t,?_⟩,⟨rfl,rfl⟩,st',fun b hb=>(hf b hb).1⟩⟩
  rw[Int.mul_one]
 done:=by
  intro X hP hw hK hc i pins s σ H E I hf st hg
  subst hP hw hK
  obtain⟨f0,f1,f2,f3,f4,f5⟩:=hf it (by simp)
  exact wpAny_pyNext_range_end (I.ok.hd hc) st (by have:n≤i:=hg; ac_rfl) fun h' eb=>⟨rfl,I.turned (t':=s.toks) (fun b o hb e=>eb b o hb e) f0 f1 f3 f4 f5⟩
 self:=fun _ _ _ _ _ st h=>wpAny_pyIter_rangeiter st h
end L2
namespace L2
open PySem PySem.Spec PyProof.Rows
section
variable{X:Cx}{tg:Expr}
theorem range_it{pins:List (Addr×Obj)}{σ:St}{H:Hp}{s:Shared}{R:It→Hp→Prop}{E:Value→Shared→Prop}{lo hi:Int}{t u v:Tok}{tk:Nat}(I:Inv X pins σ H s)(h1 : -(2 ^ 62)≤lo)(h2:lo<2 ^ 62)(h3 : -(2 ^ 62)≤hi)(h4:hi<2 ^ 62)
  (q:R (Itr lo (hi-lo).toNat) H):wpAny (model X.prog X.w) X.A (pyIter (.ref s.heap.objs.size)) (PIE X pins σ tg R) E { s with heap:=s.heap.push { cls:=.type "range",data:=.fields #[.int lo t,.int hi u,.int 1 v] },toks:=tk }:=by
 refine wpAny_pyIter_range (IsRange.new ..) (small_one h1 h2 h3 h4) ?_
 have I1:Inv X pins σ H { s with heap:=s.heap.push { cls:=.type "range",data:=.fields #[.int lo t,.int hi u,.int 1 v] },toks:=tk }:=I.kept fun b o e=>Heap.get?_push_of_some _ e
 refine⟨(s.heap.push { cls:=.type "range",data:=.fields #[.int lo t,.int hi u,.int 1 v] }).objs.size,[(s.heap.push { cls:=.type "range",data:=.fields #[.int lo t,.int hi u,.int 1 v] }).objs.size],_,_,H,rfl,
  I1.kept (t':=tk) fun b o e=>Heap.get?_push_of_some _ e,turn_range _ lo (hi-lo).toNat,?_,fun b hb=>?_,q⟩
 ·have e1:lo+((0:Nat):Int) * 1=lo:=by simp
  have e2:(((hi-lo).toNat:Nat):Int)-((0:Nat):Int)=Builtin.Range.rangeSize lo hi 1:=by rw[rangeSize_one]; split <;> ac_rfl
  show IsRangeIter _ _ (lo+((0:Nat):Int) * 1) ((((hi-lo).toNat:Nat):Int)-((0:Nat):Int)) 1
  rw[e1,e2]
  exact Heap.get?_push_size _ rfl
 ·have e:b=(s.heap.push { cls:=.type "range",data:=.fields #[.int lo t,.int hi u,.int 1 v] }).objs.size:=by simpa using hb
  subst e
  exact I1.fpOk (Nat.le_refl _) (I1.hok.fresh (Nat.le_refl _))
def iRng1(ta:TA):TI:=fun σ H R=>ta σ H fun vs H1=>∃ j:Int,vs=[.int j]∧-(2 ^ 62)≤j∧j<2 ^ 62∧R (Itr 0 j.toNat) H1
theorem pi_range1{a:Expr}{ta:TA}{p pos:Pos}(hg:Gl X "range")(hm:X.mg "range" = none)(ha:PA X [a] ta)(hs:starEach [a] X.env=[(false,eval a X.env)]:=by rfl):PI X tg (.Call (.Name "range" p) [a] [] pos) (iRng1 ta):=by
 intro pins s σ H R I h
 refine Call_ (ld_blt I hg hm boot_range (PyProof.Rows.callWith_type1 (thn (ha pos pins s σ H _ I h) fun us s1 ⟨vs,H1,I1,r1,q1⟩=>?_) hs rfl))
 obtain⟨j,e,q1,q2,q⟩:=q1
 subst e
 cases r1 with
 | cons r rr =>
  cases rr
  obtain⟨t,rfl⟩:=r
  exact call_range_1 (range_it I1 (by ac_rfl) (by ac_rfl) q1 q2 (by simpa using q))
def tFor(wi:TI)(g:TG)(tb:TS):TS:=fun D σ H=>wi σ H fun J H1=>∃ W:Nat→Nat→St→Hp→Prop,(∃ m,W 0 m σ H1)∧∀ i m σ H,W i m σ H →
 (J.stop i H∧D.nx σ H)∨(J.go i H∧∃ N:St→Hp→Prop,(∀ σ' H',N σ' H'→∃ m',m'<m∧W (i+1) m' σ' H')∧∀ x H',J.yld i H x H'→g x σ H' fun σ2 H2=>tb { D with nx:=N,ct:=N,bk:=D.nx } σ2 H2)
def pinsAt(fp:List Addr)(h:Heap):List (Addr×Obj):=fp.filterMap fun b=>(h.get? b).map fun o=>(b,o)
theorem mem_pinsAt{fp:List Addr}{h:Heap}{b:Addr}{o:Obj}(hb:b∈fp)(e:h.get? b=some o):(b,o)∈pinsAt fp h:=List.mem_filterMap.mpr ⟨b,hb,by rw[e]; rfl⟩
theorem of_pinsAt{fp:List Addr}{h:Heap}{p:Addr×Obj}(hp:p∈pinsAt fp h):p.1∈fp∧h.get? p.1=some p.2:=by
 obtain⟨b,hb,e⟩:=List.mem_filterMap.mp hp
 cases q:h.get? b with
 | none=>rw[q]at e; cases e
 | some o =>
  rw[q]at e
  have e':(b,o)=p:=Option.some.inj e
  subst e'
  exact⟨hb,q⟩
theorem Inv.pinned{pins:List (Addr×Obj)}{σ:St}{H:Hp}{s:Shared}{fp:List Addr}(I:Inv X pins σ H s)(hf:∀ b∈fp,FpOk X pins H b)(ho:∀ b∈fp,∃ o,s.heap.get? b=some o∧∀ v,o.data≠.cell v):Inv X (pins++pinsAt fp s.heap) σ H s :=
 I.pins_of fun p hp=>(List.mem_append.mp hp).elim (fun z=>I.pin p (List.mem_append_right _ z)) fun z=>by
  obtain⟨hb,e⟩:=of_pinsAt z
  obtain⟨f0,f1,f2,_⟩:=hf p.1 hb
  obtain⟨o,e',d⟩:=ho p.1 hb
  rw[e]at e'; cases e'
  exact⟨e,f0,f1,f2,d⟩
theorem Inv.unpinned{pins pl:List (Addr×Obj)}{σ:St}{H:Hp}{s:Shared}(I:Inv X (pins++pl) σ H s):Inv X pins σ H s:=I.pins_of fun p hp=>I.pin p (List.mem_append_right _ (List.mem_append_left _ hp))
theorem ps_for{iter:Expr}{body:List Stmt}{wi:TI}{g:TG}{tb:TS}{pos:Pos}(hp:PassesOwn (model X.prog X.w) X.A X.env X.xe)(hc:X.calm=true)(hi:PI X tg iter wi)(hg:PG X tg g)(hb:PSs X body tb)
  (hs:∀ x,foldedSetIterable iter X.env x=pure x:=by intro _; rfl):PS X (.For tg iter body [] pos) (tFor wi g tb):=by
 intro pins s σ H D I h
 refine wpAny_For (thn (hi pins s σ H _ I h) fun v s1 h1=>thn h1 fun itv s2 h2=>?_) hs
 obtain⟨it,fp,tn,J,H2,e,I2,T,st2,f2,W,⟨m0,w0⟩,turn⟩:=h2
 subst e
 -- what stays true of the iterator's objects through the loop
 have stat:∀ {H':Hp},(∀ b∈fp,H' b=none)→∀ b∈fp,FpOk X pins H' b:=fun hn b hb=>⟨hn b hb,(f2 b hb).2⟩
 refine codeAny_forLoop_any (fun n s'=>∃ i σ' H',Inv X pins σ' H' s'∧tn i s'.heap∧(∀ b∈fp,H' b=none)∧W i n σ' H') ?_ m0 ⟨0,σ,H2,I2,st2,fun b hb=>(f2 b hb).1,w0⟩
 rintro n s3 ⟨i,σ3,H3,I3,st3,fr3,w3⟩
 rcases turn i n σ3 H3 w3 with⟨stop,qn⟩ | ⟨go,N,hN,step⟩
 ·refine wpAny_passesOwn hp (thn (T.done X rfl rfl rfl hc i pins s3 σ3 H3 X.xe I3 (stat fr3) st3 stop) fun r s4 ⟨hr,I4⟩=>?_)
  subst hr
  exact wpAny_execs_nil ⟨σ3,H3,I4,qn⟩
 ·refine wpAny_passesOwn hp (thn (T.item X rfl rfl rfl hc i pins s3 σ3 H3 X.xe I3 (stat fr3) st3 go) fun r s4 ⟨u,hr,h4⟩=>?_)
  subst hr
  refine wpAny_passesOwn hp (thn h4 fun _ s5 ⟨x,H5,I5,r5,y5,st5,fr5⟩=>?_)
  have I5':=I5.pinned (stat fr5) (T.obj _ _ st5)
  refine wpAny_passesOwn hp (thn (hg _ s5 σ3 H5 x u _ I5' r5 (step x H5 y5)) fun _ s6 ⟨σ6,H6,I6,q6⟩=>?_)
  refine wpAny_passesOwn hp (thn (hb _ s6 σ6 H6 _ I6 q6) fun f s7 q7=>?_)
  have again:∀ {σ7:St} {H7:Hp},Inv X (pins++pinsAt fp s5.heap) σ7 H7 s7→N σ7 H7→∃ m,m<n∧∃ i σ' H',Inv X pins σ' H' s7∧tn i s7.heap∧(∀ b∈fp,H' b=none)∧W i m σ' H':=fun {σ7 H7} I7 n7=>by
   obtain⟨m',hm,w7⟩:=hN σ7 H7 n7
   refine⟨m',hm,i+1,σ7,H7,I7.unpinned,T.keep _ _ _ st5 fun b hb o e=>(I7.pin (b,o) (List.mem_append_right _ (List.mem_append_right _ (mem_pinsAt hb e)))).1,fun b hb=>?_,w7⟩
   obtain⟨o,e,d⟩:=T.obj _ _ st5 b hb
   exact(I7.pin (b,o) (List.mem_append_right _ (List.mem_append_right _ (mem_pinsAt hb e)))).2.1
  cases f with
  | next=>obtain⟨σ7,H7,I7,n7⟩:=q7; exact again I7 n7
  | cont=>obtain⟨σ7,H7,I7,n7⟩:=q7; exact again I7 n7
  | brk=>obtain⟨σ7,H7,I7,q7⟩:=q7; exact⟨σ7,H7,I7.unpinned,q7⟩
  | ret v=>obtain⟨x7,σ7,H7,I7,r7,q7⟩:=q7; exact⟨x7,σ7,H7,I7.unpinned,r7,q7⟩
end
end L2
namespace L2
open PySem PySem.Spec PyProof.Rows
noncomputable abbrev R2:=V→V→Hp→VK→Prop
def OpR(X:Cx)(f:Value→Value→Sem Value)(r:R2):Prop :=
 ∀ (pins:List (Addr×Obj)) (s:Shared) (σ:St) (H:Hp) (x y:V) (v u:Value) (Q:VK),Inv X pins σ H s→RelV x v→RelV y u→r x y H Q →
  wpAny (model X.prog X.w) X.A (f v u) (EP X pins σ Q) X.xe s
def UnR(X:Cx)(f:Value→Sem Value)(r:V→Hp→VK→Prop):Prop :=
 ∀ (pins:List (Addr×Obj)) (s:Shared) (σ:St) (H:Hp) (x:V) (v:Value) (Q:VK),Inv X pins σ H s→RelV x v→r x H Q →
  wpAny (model X.prog X.w) X.A (f v) (EP X pins σ Q) X.xe s
def CallR(X:Cx)(f:Value)(r:List V→Hp→VK→Prop):Prop :=
 ∀ (pins:List (Addr×Obj)) (s:Shared) (σ:St) (H:Hp) (xs:List V) (us:List Value) (Q:VK),Inv X pins σ H s→Vals xs us→r xs H Q →
  wpAny (model X.prog X.w) X.A (call f us) (EP X pins σ Q) X.xe s
def tOp(r:R2)(ta tb:TE):TE:=fun σ H Q=>ta σ H fun x H1=>tb σ H1 fun y H2=>r x y H2 Q
def tUn(r:V→Hp→VK→Prop)(ta:TE):TE:=fun σ H Q=>ta σ H fun x H1=>r x H1 Q
def rI(C:Int→Int→Prop)(g:Int→Int→V):R2:=fun x y H Q=>∃ i j,x = .int i∧y = .int j∧C i j∧Q (g i j) H
def rI0(g:Int→Int→V):R2:=fun x y H Q=>∃ i j,x = .int i∧y = .int j∧Q (g i j) H
def rU(g:Int→V):V→Hp→VK→Prop:=fun x H Q=>∃ i,x = .int i∧Q (g i) H
section
variable{X:Cx}{a b c:Expr}{ta tb tc:TE}{pos:Pos}
theorem binT(ha:PE X a ta)(hb:PE X b tb){pins:List (Addr×Obj)}{s:Shared}{σ:St}{H:Hp}{R:V→V→Hp→Prop}(I:Inv X pins σ H s)
  (h:ta σ H fun x H1=>tb σ H1 fun y H2=>R x y H2) {Q:Value→Shared→Prop} {f:Value→Value→Sem Value}
  (hf:∀ v u s2 x y H2,Inv X pins σ H2 s2→RelV x v→RelV y u→R x y H2→wpAny (model X.prog X.w) X.A (f v u) Q X.xe s2) :
  wpAny (model X.prog X.w) X.A (eval a X.env) (fun v s₁=>wpAny (model X.prog X.w) X.A (eval b X.env) (fun u s₂=>wpAny (model X.prog X.w) X.A (f v u) Q X.xe s₂) X.xe s₁) X.xe s:=by
 refine thn (ha pins s σ H _ I h) fun v s1 ⟨x,H1,I1,r1,q1⟩=>?_
 refine thn (hb pins s1 σ H1 _ I1 q1) fun u s2 ⟨y,H2,I2,r2,q2⟩=>?_
 exact hf v u s2 x y H2 I2 r1 r2 q2
theorem pe_op{op:Operator}{r:R2}(ho:OpR X (binaryOp op) r)(ha:PE X a ta)(hb:PE X b tb):PE X (.BinOp a op b pos) (tOp r ta tb):=by
 intro pins s σ H Q I h
 exact wpAny_BinOp (binT ha hb I h fun v u s2 x y H2 I2 rx ry q=>ho pins s2 σ H2 x y v u Q I2 rx ry q)
theorem pe_un{op:UnaryOp}{r:V→Hp→VK→Prop}(ho:UnR X (unaryOp op) r)(ha:PE X a ta):PE X (.UnaryOp op a pos) (tUn r ta):=by
 intro pins s σ H Q I h
 exact UnaryOp_ (thn (ha pins s σ H _ I h) fun v s1 ⟨x,H1,I1,r1,q1⟩=>ho pins s1 σ H1 x v Q I1 r1 q1)
theorem opI{f:Value→Value→Sem Value}{C:Int→Int→Prop}{g:Int→Int→Int}
  (rule:∀ (i j:Int) (t u:Tok) (s:Shared) (Q:Value→Shared→Prop) (E:Value→Shared→Prop),C i j→Q (.int (g i j) s.toks) { s with toks:=s.toks+1 }→wpAny (model X.prog X.w) X.A (f (.int i t) (.int j u)) Q E s) :
  OpR X f (rI C fun i j=>.int (g i j)):=by
 intro pins s σ H x y v u Q I rx ry h
 obtain⟨i,j,rfl,rfl,hc,q⟩:=h
 obtain⟨t,rfl⟩:=rx
 obtain⟨t',rfl⟩:=ry
 exact rule i j t t' s _ _ hc ⟨.int (g i j),H,I.tok _,⟨_,rfl⟩,q⟩
theorem opI0{f:Value→Value→Sem Value}{g:Int→Int→Int}
  (rule:∀ (i j:Int) (t u:Tok) (s:Shared) (Q:Value→Shared→Prop) (E:Value→Shared→Prop),Q (.int (g i j) s.toks) { s with toks:=s.toks+1 }→wpAny (model X.prog X.w) X.A (f (.int i t) (.int j u)) Q E s) :
  OpR X f (rI0 fun i j=>.int (g i j)):=by
 intro pins s σ H x y v u Q I rx ry h
 obtain⟨i,j,rfl,rfl,q⟩:=h
 obtain⟨t,rfl⟩:=rx
 obtain⟨t',rfl⟩:=ry
 exact rule i j t t' s _ _ ⟨.int (g i j),H,I.tok _,⟨_,rfl⟩,q⟩
theorem opB0{f:Value→Value→Sem Value}{g:Int→Int→Bool}
  (rule:∀ (i j:Int) (t u:Tok) (s:Shared) (Q:Value→Shared→Prop) (E:Value→Shared→Prop),Q (.bool (g i j)) s→wpAny (model X.prog X.w) X.A (f (.int i t) (.int j u)) Q E s) :
  OpR X f (rI0 fun i j=>.bl (g i j)):=by
 intro pins s σ H x y v u Q I rx ry h
 obtain⟨i,j,rfl,rfl,q⟩:=h
 obtain⟨t,rfl⟩:=rx
 obtain⟨t',rfl⟩:=ry
 exact rule i j t t' s _ _ ⟨.bl (g i j),H,I,rfl,q⟩
def CPow(i j:Int):Prop:=0≤j∧j≤1000000∧i.natAbs<2 ^ 64
def CMul(i j:Int):Prop:=(-(2 ^ 64)<i∧i<2 ^ 64)∨(-(2 ^ 64)<j∧j<2 ^ 64)
theorem CMul.ok{i j:Int}(h:CMul i j):IntMulOk i j:=by
 rcases h with⟨h1,h2⟩ | ⟨h1,h2⟩
 ·exact .of_left (intBits_le_64 h1 h2)
 ·exact .of_right (intBits_le_64 h1 h2)
theorem op_add:OpR X (binaryOp .Add) (rI0 fun i j=>.int (i+j)):=opI0 fun _ _ _ _ _ _ _ q=>add_int q
theorem op_sub:OpR X (binaryOp .Sub) (rI0 fun i j=>.int (i-j)):=opI0 fun _ _ _ _ _ _ _ q=>sub_int q
theorem op_mul:OpR X (binaryOp .Mult) (rI CMul fun i j=>.int (i * j)):=opI fun _ _ _ _ _ _ _ hc q=>mul_int q hc.ok
theorem op_mod:OpR X (binaryOp .Mod) (rI (fun _ j=>0<j) fun i j=>.int (i % j)):=opI fun i j _ _ _ _ _ hc q=>by
 have h1:(0:Int)<j:=hc
 exact mod_int' (by ac_rfl) (by rw[Int.fmod_eq_emod_of_nonneg i (by ac_rfl)]; exact q)
theorem op_pow:OpR X (binaryOp .Pow) (rI CPow fun i j=>.int (i ^ j.toNat)):=opI fun _ _ _ _ _ _ _ hc q=>pow_int_small hc.1 hc.2.1 hc.2.2 q
theorem unI{f:Value→Sem Value}{g:Int→Int}
  (rule:∀ (i:Int) (t:Tok) (s:Shared) (Q:Value→Shared→Prop) (E:Value→Shared→Prop),Q (.int (g i) s.toks) { s with toks:=s.toks+1 }→wpAny (model X.prog X.w) X.A (f (.int i t)) Q E s) :
  UnR X f (rU fun i=>.int (g i)):=by
 intro pins s σ H x v Q I rx h
 obtain⟨i,rfl,q⟩:=h
 obtain⟨t,rfl⟩:=rx
 exact rule i t s _ _ ⟨.int (g i),H,I.tok _,⟨_,rfl⟩,q⟩
theorem un_neg:UnR X (unaryOp .USub) (rU fun i=>.int (-i)):=unI fun _ _ _ _ _ q=>neg_int q
end
def scal:V→V→Bool
 | .non,.non=>true | .non,.int _=>true | .int _,.non=>true | .non,.bl _=>true | .bl _,.non=>true | .non,.str _=>true | .str _,.non=>true
 | .int _,.int _=>true | .bl _,.bl _=>true | .str _,.str _=>true | .byt _,.byt _=>true
 | .int _,.str _=>true | .str _,.int _=>true | .bl _,.str _=>true | .str _,.bl _=>true
 | _,_=>false
def rEq:R2:=fun x y H Q=>scal x y=true∧Q (.bl (decide (x=y))) H
def rNe:R2:=fun x y H Q=>scal x y=true∧Q (.bl (!decide (x=y))) H
theorem dec_int{i j:Int}:decide (V.int i=V.int j)=(i == j):=by
 rw[Bool.eq_iff_iff]
 simp
theorem dec_bl{i j:Bool}:decide (V.bl i=V.bl j)=(i == j):=by
 rw[Bool.eq_iff_iff]
 simp
theorem dec_str{i j:Str}:decide (V.str i=V.str j)=(i == j):=by
 rw[Bool.eq_iff_iff]
 simp
theorem dec_byt{i j:Array UInt8}:decide (V.byt i=V.byt j)=(i.toList == j.toList):=by
 rw[Bool.eq_iff_iff]
 cases i
 cases j
 simp
section
variable{X:Cx}{a b c:Expr}{ta tb tc:TE}{pos:Pos}
theorem fin_bl{pins:List (Addr×Obj)}{σ:St}{H:Hp}{s:Shared}{Q:VK}{k k':Bool}(I:Inv X pins σ H s)(q:Q (.bl k) H)(e:k=k'):EP X pins σ Q (.bool k') s:=by
 subst e
 exact⟨.bl k,H,I,rfl,q⟩
theorem op_eq:OpR X (compareOp .Eq) rEq:=by
 intro pins s σ H x y v u Q I rx ry h
 obtain⟨hs,q⟩:=h
 cases x with
 | non =>
  cases rx
  cases y with
  | non=>cases ry; exact PySem.EqNone.eq_none_none (fin_bl I q (by simp))
  | bl j=>cases ry; exact PySem.EqNone.eq_none_bool (fin_bl I q (by simp))
  | int j=>obtain⟨t',rfl⟩:=ry; exact PySem.EqNone.eq_none_int (fin_bl I q (by simp))
  | str j=>obtain⟨t',rfl⟩:=ry; exact PySem.EqNone.eq_none_str (fin_bl I q (by simp))
  | _=>exact absurd (show false=true from hs) Bool.false_ne_true
 | bl i =>
  cases rx
  cases y with
  | non=>cases ry; exact PySem.EqNone.eq_bool_none (fin_bl I q (by simp))
  | bl j=>cases ry; exact eq_bool (fin_bl I q dec_bl)
  | str j=>obtain⟨t',rfl⟩:=ry; exact PySem.EqMixed.eq_bool_str (fin_bl I q (by simp))
  | _=>exact absurd (show false=true from hs) Bool.false_ne_true
 | int i =>
  obtain⟨t,rfl⟩:=rx
  cases y with
  | non=>cases ry; exact PySem.EqNone.eq_int_none (fin_bl I q (by simp))
  | int j=>obtain⟨t',rfl⟩:=ry; exact eq_int (fin_bl I q dec_int)
  | str j=>obtain⟨t',rfl⟩:=ry; exact PySem.EqMixed.eq_int_str (fin_bl I q (by simp))
  | _=>exact absurd (show false=true from hs) Bool.false_ne_true
 | str i =>
  obtain⟨t,rfl⟩:=rx
  cases y with
  | non=>cases ry; exact PySem.EqNone.eq_str_none (fin_bl I q (by simp))
  | bl j=>cases ry; exact PySem.EqMixed.eq_str_bool (fin_bl I q (by simp))
  | int j=>obtain⟨t',rfl⟩:=ry; exact PySem.EqMixed.eq_str_int (fin_bl I q (by simp))
  | str j=>obtain⟨t',rfl⟩:=ry; exact eq_str (fin_bl I q dec_str)
  | _=>exact absurd (show false=true from hs) Bool.false_ne_true
 | byt i =>
  obtain⟨t,rfl⟩:=rx
  cases y with
  | byt j=>obtain⟨t',rfl⟩:=ry; exact PySem.W.eq_bytes (fin_bl I q dec_byt)
  | _=>exact absurd (show false=true from hs) Bool.false_ne_true
 | _=>cases y <;> exact absurd (show false=true from hs) Bool.false_ne_true
theorem op_ne:OpR X (compareOp .NotEq) rNe:=by
 intro pins s σ H x y v u Q I rx ry h
 obtain⟨hs,q⟩:=h
 cases x with
 | non =>
  cases rx
  cases y with
  | non=>cases ry; exact PySem.EqNone.ne_none_none (fin_bl I q (by simp))
  | bl j=>cases ry; exact PySem.EqNone.ne_none_bool (fin_bl I q (by simp))
  | int j=>obtain⟨t',rfl⟩:=ry; exact PySem.EqNone.ne_none_int (fin_bl I q (by simp))
  | str j=>obtain⟨t',rfl⟩:=ry; exact PySem.EqNone.ne_none_str (fin_bl I q (by simp))
  | _=>exact absurd (show false=true from hs) Bool.false_ne_true
 | bl i =>
  cases rx
  cases y with
  | non=>cases ry; exact PySem.EqNone.ne_bool_none (fin_bl I q (by simp))
  | bl j=>cases ry; exact ne_bool (fin_bl I q (congrArg not dec_bl))
  | str j=>obtain⟨t',rfl⟩:=ry; exact PySem.EqMixed.ne_bool_str (fin_bl I q (by simp))
  | _=>exact absurd (show false=true from hs) Bool.false_ne_true
 | int i =>
  obtain⟨t,rfl⟩:=rx
  cases y with
  | non=>cases ry; exact PySem.EqNone.ne_int_none (fin_bl I q (by simp))
  | int j=>obtain⟨t',rfl⟩:=ry; exact ne_int (fin_bl I q (congrArg not dec_int))
  | str j=>obtain⟨t',rfl⟩:=ry; exact PySem.EqMixed.ne_int_str (fin_bl I q (by simp))
  | _=>exact absurd (show false=true from hs) Bool.false_ne_true
 | str i =>
  obtain⟨t,rfl⟩:=rx
  cases y with
  | non=>cases ry; exact PySem.EqNone.ne_str_none (fin_bl I q (by simp))
  | bl j=>cases ry; exact PySem.EqMixed.ne_str_bool (fin_bl I q (by simp))
  | int j=>obtain⟨t',rfl⟩:=ry; exact PySem.EqMixed.ne_str_int (fin_bl I q (by simp))
  | str j=>obtain⟨t',rfl⟩:=ry; exact ne_str (fin_bl I q (congrArg not dec_str))
  | _=>exact absurd (show false=true from hs) Bool.false_ne_true
 | byt i =>
  obtain⟨t,rfl⟩:=rx
  cases y with
  | byt j=>obtain⟨t',rfl⟩:=ry; exact PySem.W.ne_bytes (fin_bl I q (congrArg not dec_byt))
  | _=>exact absurd (show false=true from hs) Bool.false_ne_true
 | _=>cases y <;> exact absurd (show false=true from hs) Bool.false_ne_true
theorem op_lt:OpR X (compareOp .Lt) (rI0 fun i j=>.bl (decide (i<j))):=opB0 fun _ _ _ _ _ _ _ q=>lt_int q
theorem op_le:OpR X (compareOp .LtE) (rI0 fun i j=>.bl (decide (i≤j))):=opB0 fun _ _ _ _ _ _ _ q=>le_int q
theorem op_gt:OpR X (compareOp .Gt) (rI0 fun i j=>.bl (decide (j<i))):=opB0 fun _ _ _ _ _ _ _ q=>gt_int q
theorem op_in_str:OpR X (compareOp .In) (fun x y H Q=>∃ i j,x = .str i∧y = .str j∧Q (.bl (!(Builtin.Str.occurrences j i 0 j.length 1).isEmpty)) H):=by
 intro pins s σ H x y v u Q I rx ry h
 obtain⟨i,j,rfl,rfl,q⟩:=h
 obtain⟨t,rfl⟩:=rx
 obtain⟨t',rfl⟩:=ry
 exact in_str (fin_bl I q rfl)
theorem OpR.or{f:Value→Value→Sem Value}{r r':R2}(h:OpR X f r)(h':OpR X f r'):OpR X f (fun x y H Q=>r x y H Q∨r' x y H Q):=by
 intro pins s σ H x y v u Q I rx ry q
 rcases q with q | q
 ·exact h pins s σ H x y v u Q I rx ry q
 ·exact h' pins s σ H x y v u Q I rx ry q
theorem pe_cmpR{op:CmpOp}{r:R2}(ho:OpR X (compareOp op) r)(ha:PE X a ta)(hb:PE X b tb)(hm:behindInMarks op b=false):PE X (.Compare a [op] [b] pos) (tOp r ta tb):=by
 intro pins s σ H Q I h
 exact wpAny_Compare1 (binT ha hb I h fun v u s2 x y H2 I2 rx ry q=>ho pins s2 σ H2 x y v u Q I2 rx ry q) hm
def tTest(t:TE):TT:=fun σ H Q=>t σ H fun x H'=>∃ k,x = .bl k∧Q k H'
theorem pt_cmpR{op:CmpOp}{r:R2}(ho:OpR X (compareOp op) r)(ha:PE X a ta)(hb:PE X b tb)(hm:behindInMarks op b=false):PT X (.Compare a [op] [b] pos) (tTest (tOp r ta tb)):=by
 intro pins s σ H Q I h
 refine wpAny_isTrue_Compare1 (thn (ha pins s σ H _ I h) fun v s1 ⟨x,H1,I1,r1,q1⟩=>thn (hb pins s1 σ H1 _ I1 q1) fun u s2 ⟨y,H2,I2,r2,q2⟩ =>
  thn (ho pins s2 σ H2 x y v u _ I2 r1 r2 q2) fun c s3 ⟨z,H3,I3,r3,k,e,q3⟩=>?_) hm
 subst e
 cases r3
 exact wpAny_truthy_bool ⟨H3,I3,q3⟩
def tChain(r r':R2)(ta tb tc:TE):TE:=fun σ H Q=>ta σ H fun x H1=>tb σ H1 fun y H2=>r x y H2 fun z H3=>∃ k,z = .bl k ∧
 (if k=true then tc σ H3 fun w' H4=>r' y w' H4 Q else Q (.bl false) H3)
theorem pe_chain{op op':CmpOp}{r r':R2}(ho:OpR X (compareOp op) r)(ho':OpR X (compareOp op') r')(ha:PE X a ta)(hb:PE X b tb)(hc:PE X c tc)
  (hm:lastMarks [op,op'] [b,c]=false:=by with_unfolding_all rfl):PE X (.Compare a [op,op'] [b,c] pos) (tChain r r' ta tb tc):=by
 intro pins s σ H Q I h
 refine Compare_chain (thn (ha pins s σ H _ I h) fun v s1 ⟨x,H1,I1,r1,q1⟩=>chain_link (thn (hb pins s1 σ H1 _ I1 q1) fun u s2 ⟨y,H2,I2,r2,q2⟩ =>
  thn (ho pins s2 σ H2 x y v u _ I2 r1 r2 q2) fun d s3 ⟨z,H3,I3,r3,k,e,q3⟩=>?_)) hm
 subst e
 cases r3
 refine wpAny_truthy_bool ?_
 cases k with
 | false=>exact ite_ff ⟨.bl false,H3,I3,rfl,q3⟩
 | true=>exact ite_tt (chain_last (thn (hc pins s3 σ H3 _ I3 q3) fun w' s4 ⟨z',H4,I4,r4,q4⟩=>ho' pins s4 σ H4 y z' u w' Q I4 r2 r4 q4))
theorem pt_chain{op op':CmpOp}{r r':R2}(ho:OpR X (compareOp op) r)(ho':OpR X (compareOp op') r')(ha:PE X a ta)(hb:PE X b tb)(hc:PE X c tc)
  (hm:lastMarks [op,op'] [b,c]=false:=by with_unfolding_all rfl):PT X (.Compare a [op,op'] [b,c] pos) (tTest (tChain r r' ta tb tc)):=by
 intro pins s σ H Q I h
 refine isTrue_chain (thn (ha pins s σ H _ I h) fun v s1 ⟨x,H1,I1,r1,q1⟩=>test_link (thn (hb pins s1 σ H1 _ I1 q1) fun u s2 ⟨y,H2,I2,r2,q2⟩ =>
  thn (ho pins s2 σ H2 x y v u _ I2 r1 r2 q2) fun d s3 ⟨z,H3,I3,r3,k,e,q3⟩=>?_)) hm
 subst e
 cases r3
 refine wpAny_truthy_bool ?_
 cases k with
 | false =>
  obtain⟨k',e',q'⟩:=q3
  cases e'
  exact ite_ff ⟨H3,I3,q'⟩
 | true =>
  refine ite_tt (test_last (thn (hc pins s3 σ H3 _ I3 q3) fun w' s4 ⟨z',H4,I4,r4,q4⟩=>thn (ho' pins s4 σ H4 y z' u w' _ I4 r2 r4 q4) fun d' s5 ⟨z2,H5,I5,r5,k2,e2,q5⟩=>?_))
  subst e2
  cases r5
  exact wpAny_truthy_bool ⟨H5,I5,q5⟩
theorem line63:(sizeLine:Nat)<2 ^ 63:=by rw[sizeLine_eq]; decide
theorem op_add_str:OpR X (binaryOp .Add) (fun x y H Q=>∃ i j,x = .str i∧y = .str j∧i.length+j.length≤sizeLine∧Q (.str (i++j)) H):=by
 intro pins s σ H x y v u Q I rx ry h
 obtain⟨i,j,rfl,rfl,hz,q⟩:=h
 obtain⟨t,rfl⟩:=rx
 obtain⟨t',rfl⟩:=ry
 exact add_str (fun t' tk=>⟨.str (i++j),H,I.tok _,⟨_,rfl⟩,q⟩) hz
theorem vals1{x:V}{us:List Value}(r:Vals [x] us):∃ u,us=[u]∧RelV x u:=by
 cases r with
 | cons r1 r2=>cases r2; exact⟨_,rfl,r1⟩
def LenV(K:PySem.W.Frag)(x:V)(H:Hp)(n:Nat):Prop :=
 match x with
 | .str y=>y.length≤sizeLine∧n=y.length
 | .byt y=>y.size≤sizeLine∧n=y.size
 | .ref p=>(∃ xs,SqL K H p xs∧n=xs.length)∨∃ xs,SqT K H p xs∧n=xs.length
 | _=>False
theorem call_len:CallR X (.builtin "len") (fun xs H Q=>∃ x n,xs=[x]∧LenV X.K x H n∧Q (.int n) H):=by
 intro pins s σ H xs us Q I r h
 obtain⟨x,n,rfl,e,q⟩:=h
 obtain⟨u,rfl,rx⟩:=vals1 r
 have hl:=line63
 have hs:sizeLine=16777216:=sizeLine_eq
 cases x with
 | str y =>
  obtain⟨t,rfl⟩:=rx
  obtain⟨hy,e'⟩:y.length≤sizeLine∧n=y.length:=e
  subst e'
  exact len_str (by ac_rfl) ⟨.int _,H,I.tok _,⟨_,rfl⟩,q⟩
 | byt y =>
  obtain⟨t,rfl⟩:=rx
  obtain⟨hy,e'⟩:y.size≤sizeLine∧n=y.size:=e
  subst e'
  exact PySem.W.len_bytes (by ac_rfl) ⟨.int _,H,I.tok _,⟨_,rfl⟩,q⟩
 | ref p =>
  cases rx
  have e':(∃ xs,SqL X.K H p xs∧n=xs.length)∨∃ xs,SqT X.K H p xs∧n=xs.length:=e
  rcases e' with⟨xs,hx,e'⟩ | ⟨xs,hx,e'⟩
  ·subst e'
   obtain⟨its,r',pl,hz⟩:=I.list hx
   have hlen:=r'.length
   exact Calls.call_len_list pl.isList (by simp only[List.size_toArray]; ac_rfl) ⟨.int xs.length,H,I.tok _,⟨_,by simp only[List.size_toArray]; rw[hlen]⟩,q⟩
  ·subst e'
   obtain⟨its,r',pl,hz⟩:=I.tuple hx
   have hlen:=r'.length
   exact len_tuple pl (by simp only[List.size_toArray]; ac_rfl) ⟨.int xs.length,H,I.tok _,⟨_,by simp only[List.size_toArray]; rw[hlen]⟩,q⟩
 | _=>exact(show False from e).elim
end
end L2
namespace L2
open PySem PySem.Spec PyProof.Rows
structure ObjM(h:Heap)(x dx C:Addr)(mA:Str→Option Value):Prop where
 obj:h.get? x=some (PySem.W.instObj C dx)
 ns:h.Ns1 dx mA
 ne:dx≠x
theorem lookIn_ns{h:Heap}{dx:Addr}{mA:Str→Option Value}(n:h.Ns1 dx mA):∃ od,h.get? dx=some od∧∀ name,PySem.W.lookIn name od=some (mA name):=by
 obtain⟨o,es,ep,ho,hd,hk,_,hm⟩:=n
 refine⟨o,ho,fun name=>?_⟩
 have e:=hm name
 unfold nsFind findBy at e
 rw[← Array.find?_toList]at e
 unfold PySem.W.lookIn
 rw[hd]
 dsimp only
 split
 ·rename_i y q
  rw[q]at e
  exact congrArg some e
 ·rename_i q
  rw[q]at e
  have a:es.toList.any (·.refKey)=false:=by
   rw[List.any_eq_false]
   intro y hy
   obtain⟨z,t,hkey⟩:=hk y (Array.mem_toList_iff.mp hy)
   simp[DictEntry.refKey,hkey]
  have a':¬ es.toList.any (·.refKey)=true:=by rw[a]; exact Bool.false_ne_true
  rw[if_neg a']
  exact congrArg some e
theorem ObjM.look{h:Heap}{x dx C:Addr}{mA:Str→Option Value}(I:ObjM h x dx C mA):∃ od,PySem.W.InstAt h x (PySem.W.instObj C dx) C (some od)∧∀ name,PySem.W.lookIn name od=some (mA name) :=
 let ⟨od,ho,hl⟩:=lookIn_ns I.ns
 ⟨od,⟨I.obj,rfl,rfl,ho⟩,hl⟩
section
variable{prog:Program}{w:World}{A:Around}{E:Value→Shared→Prop}{s:Shared}{K:PySem.W.Frag}{x dx C f:Addr}{mA:Str→Option Value}{name:Str}{v:Value}
theorem get_map{expr:Bool}{Q:Value→Shared→Prop}(X:K.In s.heap)(I:ObjM s.heap x dx C mA)(hg:PySem.W.plainGet K C name=true)(hh:PySem.W.hasDictIn K C=true)
  (ha:PySem.W.findIn K (.ref C) name=some none) (hv:mA name=some v) (hv':PySem.W.handedIn v=true) (h:Q v { s with toks:=s.toks+1 }) :
  wpAny (model prog w) A (getAttr (.ref x) name expr) Q E s:=by
 obtain⟨od,J,hl⟩:=I.look
 exact PySem.W.get_value X J (PySem.W.plainGet_of hg).1 (PySem.W.findObj_own hh ha rfl (by rw[hl,hv])) hv' h
theorem get_meth{pl:Sem Bool}{Q:Value×List Value→Shared→Prop}(X:K.In s.heap)(I:ObjM s.heap x dx C mA)(hg:PySem.W.plainGet K C name=true)
  (hf:PySem.W.findIn K (.ref C) name=some (some (.ref f))) (ht:PySem.W.isFn K (.ref f)=true) (hv:mA name=none) (h:Q (.ref f,[.ref x]) s) :
  wpAny (model prog w) A (getMethod (.ref x) name pl) Q E s:=by
 obtain⟨od,J,hl⟩:=I.look
 exact PySem.W.method_fn X J (PySem.W.plainGet_of hg).1 (PySem.W.plainGet_of hg).2 hf (beq_iff_eq.mp ht) (by show(PySem.W.lookIn name od).map (·.isSome)=some false; rw[hl,hv]; rfl) h
theorem set_map{ns:List Str}{Q:Unit→Shared→Prop}(X:K.In s.heap)(I:ObjM s.heap x dx C mA)
  (hs:PySem.W.findIn K (.ref C) "__setattr__" = some (some (.builtin "object.__setattr__"))) (hp:PySem.W.plainOver K C=true) (ht:PySem.W.takerIn K C name=some none) (hh:PySem.W.hasDictIn K C=true)
  (hw:PySem.Within mA ns) (hsz:ns.length≤sizeLine)
  (h:∀ h',ObjM h' x dx C (fun y=>if y=name then some v else mA y)→Heap.SameBut dx s.heap h'→Q () { s with heap:=h',toks:=s.toks+2 }) :
  wpAny (model prog w) A (setAttr (.ref x) name v) Q E s:=by
 obtain⟨od,J,hl⟩:=I.look
 refine PySem.W.set_plain X J hs (PySem.W.osa_open (s:={ s with toks:=s.toks+1 }) (r:=none) X J hp ht fun b=>?_)
 obtain⟨cd,hc,hd'⟩:=PySem.W.any_some hh
 have hx:s.heap.get? x=some ⟨.ref C,some dx,.plain,#[]⟩:=I.obj
 refine wpAny_bind (wpAny_pure (wpAny_bind (wpAny_bind (wpAny_loadPart hx (wpAny_bind (PySem.W.Looks.here (s:={ s with toks:=s.toks+1 }) (PySem.W.looks_clsIn X hc) ?_))))))
 rw[hd']
 refine wpAny_pure (a:=some dx) (wpAny_bind (wpAny_pure (wpAny_bind ?_)))
 refine wpAny_nsSet1 (s:={ s with toks:=s.toks+1 }) I.ns fun h' hn2 hs2=>?_
 obtain⟨oD,esD,epD,hoD,hdD,hcD⟩:=hn2.count (PySem.Within.cons name v hw)
 refine wpAny_bind (wpAny_lookBehind hoD (by rw[hdD]; exact pastItsLine_dict (Nat.le_trans hcD (by rw[List.length_cons]; ac_rfl))) ?_)
 exact wpAny_pure (h _ ⟨(hs2.2 _ (Ne.symm I.ne)).trans I.obj,hn2,I.ne⟩ hs2)
theorem make_map{R:Result→Shared→Prop}{vs:List Value}{kw:List (Str×Value)}(X:K.In s.heap)(hm:PySem.W.makesIn K C=true)
  (hi:PySem.W.findIn K (.ref C) "__init__" = some (some (.ref f))) (hf:PySem.W.typeIn K (.ref f)=some (.type "function"))
  (h:codeAny (model prog w) (A.under (.builtin "type.__call__" ⟨.ref C::vs,kw⟩)) (.call (.ref f) ⟨.ref (s.heap.objs.size+1)::vs,kw⟩) (PySem.W.InitBack (s.heap.objs.size+1) R)
   { s with heap:=(s.heap.push PySem.W.emptyDict).push (PySem.W.instObj C s.heap.objs.size) }) :
  codeAny (model prog w) A (.call (.ref C) ⟨vs,kw⟩) R s:=by
 obtain⟨hh,g,d,t,os⟩:=s
 exact PySem.W.make_core (PySem.W.makes_of X hm) (PySem.W.looks_findIn X hi) (fun self=>PySem.W.bind_fn X self hf) (.inl rfl) h
end
def putF(f:Str)(v:V):List (Str×V)→List (Str×V)
 | []=>[(f,v)]
 | (g,x)::r=>if g=f then(g,v)::r else(g,x)::putF f v r
theorem lookup_putF(f g:Str)(v:V):∀ fs:List (Str×V),(putF f v fs).lookup g=if g=f then some v else fs.lookup g
 | []=>by
  show List.lookup g [(f,v)]=_
  by_cases h:g=f
  ·have hb:(g == f)=true:=beq_iff_eq.mpr h
   simp only[List.lookup,hb,if_pos h]
  ·have hb:(g == f)=false:=beq_eq_false_iff_ne.mpr h
   simp only[List.lookup,hb,if_neg h]
 | (k,x)::r=>by
  have ih:=lookup_putF f g v r
  rw[show putF f v ((k,x)::r)=(if k=f then(k,v)::r else(k,x)::putF f v r)from rfl]
  by_cases hk:k=f
  ·rw[if_pos hk]
   by_cases h:g=k
   ·have hb:(g == k)=true:=beq_iff_eq.mpr h
    simp only[List.lookup,hb,if_pos (h.trans hk)]
   ·have hb:(g == k)=false:=beq_eq_false_iff_ne.mpr h
    simp only[List.lookup,hb,if_neg (fun e:g=f=>h (e.trans hk.symm))]
  ·rw[if_neg hk]
   by_cases h:g=k
   ·have hb:(g == k)=true:=beq_iff_eq.mpr h
    simp only[List.lookup,hb,if_neg (fun e:g=f=>hk (h.symm.trans e))]
   ·have hb:(g == k)=false:=beq_eq_false_iff_ne.mpr h
    simp only[List.lookup,hb]
    exact ih
theorem keys_putF(f:Str)(v:V):∀ fs:List (Str×V),f∈(putF f v fs).map (·.1)∧∀ g,g∈fs.map (·.1)→g∈(putF f v fs).map (·.1)
 | []=>⟨by simp[putF],fun g h=>by simp at h⟩
 | (k,x)::r=>by
  obtain⟨i1,i2⟩:=keys_putF f v r
  rw[show putF f v ((k,x)::r)=(if k=f then(k,v)::r else(k,x)::putF f v r)from rfl]
  by_cases hk:k=f
  ·rw[if_pos hk]
   subst hk
   exact⟨by simp,fun g h=>by simpa using h⟩
  ·rw[if_neg hk]
   refine⟨?_,fun g h=>?_⟩
   ·rw[List.map_cons]
    exact List.mem_cons_of_mem _ i1
   ·rw[List.map_cons]at h ⊢
    rcases List.mem_cons.mp h with e | e
    ·exact List.mem_cons.mpr (.inl e)
    ·exact List.mem_cons_of_mem _ (i2 g e)
theorem length_putF(f:Str)(v:V):∀ fs:List (Str×V),(putF f v fs).length≤fs.length+1
 | []=>by simp[putF]
 | (k,x)::r=>by
  have ih:=length_putF f v r
  rw[show putF f v ((k,x)::r)=(if k=f then(k,v)::r else(k,x)::putF f v r)from rfl]
  by_cases hk:k=f
  ·rw[if_pos hk,List.length_cons,List.length_cons]; ac_rfl
  ·rw[if_neg hk,List.length_cons,List.length_cons]; ac_rfl
theorem RelO.some_of{v:V}{o:Option Value}(r:RelO (some v) o):∃ u,o=some u∧RelV v u:=by
 cases o with
 | none=>exact(show False from r).elim
 | some u=>exact⟨u,rfl,r⟩
theorem RelO.none_of{o:Option Value}(r:RelO none o):o=none:=by
 cases o with
 | none=>rfl
 | some u=>exact(show False from r).elim
theorem handed_of{v:V}{u:Value}(r:RelV v u):PySem.W.handedIn u=true:=by
 cases v with
 | non=>cases (show u=Value.none from r); rfl
 | bl b=>cases (show u=Value.bool b from r); rfl
 | int i=>obtain⟨t,e⟩:=(show ∃ t,u=Value.int i t from r); cases e; rfl
 | str x=>obtain⟨t,e⟩:=(show ∃ t,u=Value.str x t from r); cases e; rfl
 | byt b=>obtain⟨t,e⟩:=(show ∃ t,u=Value.bytes b t from r); cases e; rfl
 | flt b=>obtain⟨t,e⟩:=(show ∃ t,u=Value.float b t from r); cases e; rfl
 | ref a=>cases (show u=Value.ref a from r); rfl
 | ty n=>cases (show u=Value.type n from r); rfl
section
variable{P:Program}{w:World}{H H':Hp}{h h':Heap}{a C dx:Addr}{fs fs':List (Str×V)}
theorem ins_get(hok:HOk P w H h)(e:H a=some (.ins C dx fs)):∃ mA,ObjM h a dx C mA∧(∀ f,RelO (fs.lookup f) (mA f))∧PySem.Within mA (fs.map (·.1))∧fs.length≤1000∧H dx=some (.own a):=by
 obtain⟨d,z,ne,ob,mA,n,r,q⟩:=(show ObjOk P w H h a (.ins C dx fs)from hok a _ e)
 exact⟨mA,⟨ob,n,ne⟩,r,q,z,d⟩
end
structure Cls(K:PySem.W.Frag)(C:Addr):Prop where
 pg:PySem.W.plainGet K C Str.empty=true
 hd:PySem.W.hasDictIn K C=true
 po:PySem.W.plainOver K C=true
 sa:PySem.W.findIn K (.ref C) "__setattr__" = some (some (.builtin "object.__setattr__"))
theorem Cls.get{K:PySem.W.Frag}{C:Addr}(c:Cls K C)(f:Str):PySem.W.plainGet K C f=true:=c.pg
def NoAttr(K:PySem.W.Frag)(C:Addr)(f:Str):Prop:=PySem.W.findIn K (.ref C) f=some none
theorem NoAttr.taker{K:PySem.W.Frag}{C:Addr}{f:Str}(n:NoAttr K C f):PySem.W.takerIn K C f=some none:=by
 unfold PySem.W.takerIn
 rw[show PySem.W.findIn K (.ref C) f=some none from n]
 rfl
structure Meth(K:PySem.W.Frag)(C:Addr)(m:Str)(f:Addr):Prop where
 at_:PySem.W.findIn K (.ref C) m=some (some (.ref f))
 fn:PySem.W.isFn K (.ref f)=true
 kp:PySem.W.keepIn K (.ref f)=true
section
variable{X:Cx}{pins:List (Addr×Obj)}{σ:St}{H:Hp}{s:Shared}{a C dx:Addr}{fs:List (Str×V)}{f:Str}{v:V}{A:Around}{E:Value→Shared→Prop}
theorem getattr_ok{b:Bool}{Q:Value→Shared→Prop}(I:Inv X pins σ H s)(e:H a=some (.ins C dx fs))(c:Cls X.K C)(n:NoAttr X.K C f)(l:fs.lookup f=some v)
  (h:∀ u s',Inv X pins σ H s'→RelV v u→Q u s'):wpAny (model X.prog X.w) A (getAttr (.ref a) f b) Q E s:=by
 obtain⟨mA,O,r,_,_,_⟩:=ins_get I.hok e
 obtain⟨u,hu,ru⟩:=RelO.some_of (v:=v) (o:=mA f) (by rw[← l]; exact r f)
 exact get_map I.kIn O (c.get f) c.hd n hu (handed_of ru) (h u _ (I.tok _) ru)
theorem getmeth_ok{m:Str}{g:Addr}{pl:Sem Bool}{Q:Value×List Value→Shared→Prop}(I:Inv X pins σ H s)(e:H a=some (.ins C dx fs))(c:Cls X.K C)(k:Meth X.K C m g)(l:fs.lookup m=none)
  (h:Q (.ref g,[.ref a]) s):wpAny (model X.prog X.w) A (getMethod (.ref a) m pl) Q E s:=by
 obtain⟨mA,O,r,_,_,_⟩:=ins_get I.hok e
 have hn:mA m=none:=RelO.none_of (by rw[← l]; exact r m)
 exact get_meth I.kIn O (c.get m) k.at_ k.fn hn h
theorem setattr_ok{y:V}{u:Value}{Q:Unit→Shared→Prop}(I:Inv X pins σ H s)(e:H a=some (.ins C dx fs))(c:Cls X.K C)(n:NoAttr X.K C f)(hl:fs.length<1000)(ry:RelV y u)
  (h:∀ s',Inv X pins σ (upd H a (.ins C dx (putF f y fs))) s'→Q () s'):wpAny (model X.prog X.w) A (setAttr (.ref a) f u) Q E s:=by
 obtain⟨mA,O,r,wi,_,ho⟩:=ins_get I.hok e
 have hz:(fs.map (·.1)).length≤sizeLine:=by rw[List.length_map,sizeLine_eq]; ac_rfl
 refine set_map I.kIn O c.sa c.po n.taker c.hd wi hz fun h' O' sb=>h _ ?_
 have hd:∃ o,h'.get? dx=some o:=let ⟨o,_,_,e',_⟩:=O'.ns; ⟨o,e'⟩
 refine I.write (x:=a) (e:=dx) (by rw[e]; exact True.intro) (.inr ho) (fun b q hb z=>(sb.2 b hb).trans z) hd ?_
 refine⟨by rw[upd_ne O.ne]; exact ho,?_,O.ne,O'.obj,_,O'.ns,fun g=>?_,fun g hg=>?_⟩
 ·have:=length_putF f y fs; ac_rfl
 ·show RelO ((putF f y fs).lookup g) (if g=f then some u else mA g)
  rw[lookup_putF]
  by_cases q:g=f
  ·rw[if_pos q,if_pos q]; exact ry
  ·rw[if_neg q,if_neg q]; exact r g
 ·by_cases q:g=f
  ·rw[q]; exact(keys_putF f y fs).1
  ·refine(keys_putF f y fs).2 g (wi g fun z=>hg ?_)
   show(if g=f then some u else mA g)=none
   rw[if_neg q]; exact z
theorem Inv.made(I:Inv X pins σ H s):Inv X pins σ (upd (upd H s.heap.objs.size (.own (s.heap.objs.size+1))) (s.heap.objs.size+1) (.ins C s.heap.objs.size []))
  { s with heap:=(s.heap.push PySem.W.emptyDict).push (PySem.W.instObj C s.heap.objs.size) }:=by
 have e1:(s.heap.push PySem.W.emptyDict).get? s.heap.objs.size=some PySem.W.emptyDict:=Heap.get?_push_size s.heap rfl
 have e2:((s.heap.push PySem.W.emptyDict).push (PySem.W.instObj C s.heap.objs.size)).get? (s.heap.objs.size+1)=some (PySem.W.instObj C s.heap.objs.size):=by
  have:=Heap.get?_push_size (s.heap.push PySem.W.emptyDict) (o:=PySem.W.instObj C s.heap.objs.size) rfl
  rwa[Heap.size_push]at this
 have e3:(s.heap.push PySem.W.emptyDict).Ns s.heap.objs.size (fun _=>none):=⟨PySem.W.emptyDict,#[],_,e1,rfl,(fun e he=>absurd he (by simp)),fun _=>rfl⟩
 have I1:=I.laid (a:=s.heap.objs.size) (o:=.own (s.heap.objs.size+1)) (h':=s.heap.push PySem.W.emptyDict) (t':=s.toks) (fun b u q=>Heap.get?_push_of_some _ q) (Nat.le_refl _) ⟨_,e1⟩
 refine I1.laid (a:=s.heap.objs.size+1) (o:=.ins C s.heap.objs.size []) (t':=s.toks) (fun b u q=>Heap.get?_push_of_some _ q) (Nat.le_of_eq (Heap.size_push _ _)) ?_
 have ne:s.heap.objs.size≠s.heap.objs.size+1:=Nat.ne_of_lt (Nat.lt_succ_self _)
 refine⟨by rw[upd_ne ne,upd_same],Nat.zero_le _,ne,e2,fun _=>none,(Heap.Ns1.of_empty e3).at fun o q=>Heap.get?_push_of_some _ q,fun _=>True.intro,fun y hy=>absurd rfl hy⟩
theorem attr_of{prog:Program}{w:World}{env:Env}{e:Expr}{f:Str}{pos:Pos}{s:Shared}{Q:Value→Shared→Prop}(hb:attributeBase e f env (eval e env)=eval e env)
  (h:wpAny (model prog w) A (eval e env) (fun o s₁=>wpAny (model prog w) A (getAttr o f true) Q E s₁) E s):wpAny (model prog w) A (eval (.Attribute e f pos) env) Q E s :=
 Attribute_any_ h (by rw[arm_eval_Attribute,hb])
end
def tFld(K:PySem.W.Frag)(ta:TE)(f:Str):TE:=fun σ H Q=>ta σ H fun x H1=>∃ a C dx fs v,x = .ref a∧H1 a=some (.ins C dx fs)∧Cls K C∧NoAttr K C f∧fs.lookup f=some v∧Q v H1
def sFld(K:PySem.W.Frag)(ta tv:TE)(f:Str):TS:=fun D σ H=>tv σ H fun y H1=>ta σ H1 fun x H2=>∃ a C dx fs,x = .ref a∧H2 a=some (.ins C dx fs)∧Cls K C∧NoAttr K C f∧fs.length<1000 ∧
 D.nx σ (upd H2 a (.ins C dx (putF f y fs)))
section
variable{X:Cx}{o e value:Expr}{f:Str}{pos pos' tpos:Pos}{ta tv:TE}
theorem pe_fld(he:PE X e ta)(hb:attributeBase e f X.env (eval e X.env)=eval e X.env):PE X (.Attribute e f pos) (tFld X.K ta f):=by
 intro pins s σ H Q I h
 refine attr_of hb (thn (he pins s σ H _ I h) fun u s1 ⟨x,H1,I1,rx,a,C,dx,fs,v,ex,ea,c,n,l,q⟩=>?_)
 subst ex
 obtain rfl:u=Value.ref a:=rx
 exact getattr_ok I1 ea c n l fun u' s2 I2 ru=>⟨v,H1,I2,ru,q⟩
theorem ps_fld(ha:PE X o ta)(hv:PE X value tv)(hs:swapsWith value (some (.Attribute o f pos')) pos.line X.env=pure false):PS X (.Assign [.Attribute o f pos'] value pos) (sFld X.K ta tv f):=by
 intro pins s σ H D I h
 refine plainObj_wpAny_Assign_Attribute (thn (hv pins s σ H _ I h) fun u s1 ⟨y,H1,I1,ry,q⟩=>thn (ha pins s1 σ H1 _ I1 q) fun ov s2 ⟨x,H2,I2,rx,a,C,dx,fs,ex,ea,c,n,l,q2⟩=>?_) hs
 subst ex
 obtain rfl:ov=Value.ref a:=rx
 exact setattr_ok I2 ea c n l ry fun s3 I3=>⟨σ,_,I3,q2⟩
end
section
variable{X:Cx}{pins:List (Addr×Obj)}{σ:St}{H:Hp}{s:Shared}{A:Around}{E:Value→Shared→Prop}{Q:Value→Shared→Prop}{c:Value}{b:Bool}
inductive TyOf(K:PySem.W.Frag)(H:Hp):V→Value→Prop where
 | non:TyOf K H .non (.type "NoneType")
 | bl (x:Bool):TyOf K H (.bl x) (.type "bool")
 | int (i:Int):TyOf K H (.int i) (.type "int")
 | str (x:Str):TyOf K H (.str x) (.type "str")
 | flt (x:UInt64):TyOf K H (.flt x) (.type "float")
 | lst {a:Addr} {xs:List V} (e:H a=some (.lst xs)):TyOf K H (.ref a) (.type "list")
 | frz {a:Addr} {o:Obj} {xs:List V} (e:H a=some (.frz o (.lst xs))):TyOf K H (.ref a) (.type "list")
 | tup {a:Addr} {xs:List V} (e:H a=some (.tup xs)):TyOf K H (.ref a) (.type "tuple")
 | dK {a:Addr} {kvs:List (Key×V)} (e:H a=some (.dK kvs)):TyOf K H (.ref a) (.type "dict")
 | dT {a:Addr} {kvs:List (List Key×V)} (e:H a=some (.dT kvs)):TyOf K H (.ref a) (.type "dict")
 | ins {a C dx:Addr} {fs:List (Str×V)} (e:H a=some (.ins C dx fs)) (cl:Cls K C) (ha:PySem.W.findIn K (.ref C) "__class__" = some (some (.builtin "object.__class__")))
   (hn:PySem.W.specialIn K (.builtin "object.__class__") "__get__" = some (some (.builtin "getset_descriptor.__get__"))) (htk:PySem.W.takesIn K (.builtin "object.__class__")=some true)
   (hm:PySem.W.mroIn K C (.type "object")=some true):TyOf K H (.ref a) (.ref C)
theorem isinst_ok{x:V}{u t:Value}(I:Inv X pins σ H s)(rx:RelV x u)(ty:TyOf X.K H x t)(e:PySem.W.kitOne X.K t c=some b)(h:∀ tk,Q (.bool b) { s with toks:=tk }) :
  wpAny (model X.prog X.w) A (call (.builtin "isinstance") [u,c]) Q E s:=by
 cases ty with
 | non=>cases (show u=Value.none from rx); exact PySem.W.kia_one PySem.W.kitx_none I.kIn True.intro e (fun z=>nomatch z) h
 | bl y=>cases (show u=Value.bool y from rx); exact PySem.W.kia_one PySem.W.kitx_bool I.kIn True.intro e (fun z=>nomatch z) h
 | int i=>obtain⟨t,q⟩:=(show ∃ t,u=Value.int i t from rx); cases q; exact PySem.W.kia_one PySem.W.kitx_int I.kIn True.intro e (fun z=>nomatch z) h
 | str y=>obtain⟨t,q⟩:=(show ∃ t,u=Value.str y t from rx); cases q; exact PySem.W.kia_one PySem.W.kitx_str I.kIn True.intro e (fun z=>nomatch z) h
 | flt y=>obtain⟨t,q⟩:=(show ∃ t,u=Value.float y t from rx); cases q; exact PySem.W.kia_one PySem.W.kitx_float I.kIn True.intro e (fun z=>nomatch z) h
 | @lst a xs ea =>
  cases (show u=Value.ref a from rx)
  obtain⟨_,_,n,_,h1⟩:=(show ObjOk X.prog X.w H s.heap a (.lst xs)from I.hok a _ ea)
  exact PySem.W.kia_one PySem.W.kitx_list I.kIn ⟨_,h1,rfl⟩ e (fun z=>nomatch z) h
 | @frz a ob xs ea =>
  cases (show u=Value.ref a from rx)
  obtain⟨_,_,_,n,_,h1⟩:=(show ObjOk X.prog X.w H s.heap a (.frz ob (.lst xs))from I.hok a _ ea)
  exact PySem.W.kia_one PySem.W.kitx_list I.kIn ⟨_,h1,rfl⟩ e (fun z=>nomatch z) h
 | @tup a xs ea =>
  cases (show u=Value.ref a from rx)
  obtain⟨_,_,_,p,_⟩:=(show ObjOk X.prog X.w H s.heap a (.tup xs)from I.hok a _ ea)
  obtain⟨o,h1,h2,_⟩:=p
  exact PySem.W.kia_one PySem.W.kitx_tuple I.kIn ⟨o,h1,h2⟩ e (fun z=>nomatch z) h
 | @dK a kvs ea =>
  cases (show u=Value.ref a from rx)
  obtain⟨_,_,vs,_,p⟩:=(show ObjOk X.prog X.w H s.heap a (.dK kvs)from I.hok a _ ea)
  obtain⟨o,es,ep,h1,h2,_⟩:=p
  exact PySem.W.kia_one PySem.W.kitx_dict I.kIn ⟨o,h1,h2.1⟩ e (fun z=>nomatch z) h
 | @dT a kvs ea =>
  cases (show u=Value.ref a from rx)
  obtain⟨_,_,xs,_,o,es,ep,h1,h2,_⟩:=(show ObjOk X.prog X.w H s.heap a (.dT kvs)from I.hok a _ ea)
  exact PySem.W.kia_one PySem.W.kitx_dict I.kIn ⟨o,h1,h2.1⟩ e (fun z=>nomatch z) h
 | @ins a C dx fs ea cl ha hn htk hm =>
  cases (show u=Value.ref a from rx)
  obtain⟨mA,O,_⟩:=ins_get I.hok ea
  obtain⟨od,J,_⟩:=O.look
  exact PySem.W.kia_one (PySem.W.kitx_own (cl.get _) cl.hd ha hn htk hm) I.kIn J e (fun z=>nomatch z) h
end
end L2
namespace L2
open PySem PySem.Spec PyProof.Rows
structure Room(k:Nat)(A:Around):Prop where
 hd:A.handled=none
 dp:A.depth+3 * k+5<recursionLimit
 un:A.units+16 * k+200<cLine
theorem Room.mono{j k:Nat}{A:Around}(r:Room k A)(h:j≤k):Room j A:=⟨r.hd,by have:=r.dp; ac_rfl,by have:=r.un; ac_rfl⟩
theorem Room.deeper{k:Nat}{A:Around}(r:Room (k+1) A)(env:Env):Room k (A.deeper env) :=
 ⟨r.hd,by have:=r.dp; show A.depth+1+3 * k+5<_; ac_rfl,by have:=r.un; show A.units+3+16 * k+200<_; ac_rfl⟩
theorem Room.in1{k:Nat}{A:Around}(r:Room (k+1) A):Room k A.in1 :=
 ⟨r.hd,by have:=r.dp; show A.depth+3 * k+5<_; ac_rfl,by have:=r.un; show A.units+1+16 * k+200<_; ac_rfl⟩
theorem make_depth{A:Around}{C:Addr}{us:List Value}{kw:List (Str×Value)}:(A.under (.builtin "type.__call__" ⟨.ref C::us,kw⟩)).depth=A.depth+1:=by
 first | rfl | simp[Around.under,Code.weight,Code.isCreation,Code.isGuard,Code.isCaller,Code.frames,Code.isFrame,guardIds]
theorem make_units{A:Around}{C:Addr}{us:List Value}{kw:List (Str×Value)}:(A.under (.builtin "type.__call__" ⟨.ref C::us,kw⟩)).units=A.units+1:=by
 first | rfl | simp[Around.under,Code.cUnits,Code.frames,Code.isFrame]
theorem Room.make{k:Nat}{A:Around}(r:Room (k+1) A)(C:Addr)(us:List Value)(kw:List (Str×Value)):Room k (A.under (.builtin "type.__call__" ⟨.ref C::us,kw⟩)) :=
 ⟨r.hd,by have:=r.dp; rw[make_depth]; ac_rfl,by have:=r.un; rw[make_units]; ac_rfl⟩
theorem Room.depth{k:Nat}{A:Around}(r:Room k A):A.depth<recursionLimit:=by have:=r.dp; ac_rfl
theorem Room.units{k:Nat}{A:Around}(r:Room k A):A.units+64<cLine:=by have:=r.un; ac_rfl
def tNil:TA:=fun _ H Q=>Q [] H
def tCons(ta:TE)(tr:TA):TA:=fun σ H Q=>ta σ H fun x H1=>tr σ H1 fun xs H2=>Q (x::xs) H2
section
variable{X:Cx}{e:Expr}{es:List Expr}{te:TE}{t:TA}{pos:Pos}
theorem pa_nil:PA X [] tNil:=fun _ _ _ _ H Q I h=>Calls.spliced_nil ⟨[],H,I,.nil,h⟩
theorem pa_cons(ha:PE X e te)(hr:PA X es t)(hs:starEach (e::es) X.env=(false,eval e X.env)::starEach es X.env:=by rfl):PA X (e::es) (tCons te t):=by
 intro pos pins s σ H Q I h
 rw[hs]
 show wpAny _ _ (spliced ((false,eval e X.env)::backTo pos (starEach es X.env))) _ _ s
 refine Calls.spliced_cons (thn (ha pins s σ H _ I h) fun u s1 ⟨x,H1,I1,r1,q1⟩=>?_)
 exact thn (hr pos pins s1 σ H1 _ I1 q1) fun us s2 ⟨xs,H2,I2,r2,q2⟩=>⟨x::xs,H2,I2,.cons r1 r2,q2⟩
def tTup(t:TA):TE:=fun σ H Q=>t σ H fun xs H1=>xs.length≤sizeLine∧∀ p,H1 p=none→Q (.ref p) (upd H1 p (.tup xs))
def tLst(t:TA):TE:=fun σ H Q=>t σ H fun xs H1=>xs.length≤sizeLine∧∀ p,H1 p=none→Q (.ref p) (upd H1 p (.lst xs))
theorem pe_tup{x1}(h:PA X es t):PE X (.Tuple es x1 pos) (tTup t):=by
 intro pins s σ H Q I hq
 refine wpAny_Tuple_spliced (thn (h pos pins s σ H _ I hq) fun us s1 ⟨xs,H1,I1,r,z,q⟩=>⟨by rw[← r.length]; exact z,?_⟩)
 have hf:H1 s1.heap.objs.size=none:=I1.hok.fresh (Nat.le_refl _)
 refine⟨.ref s1.heap.objs.size,upd H1 s1.heap.objs.size (.tup xs),I1.laid (t':=s1.toks) (fun b u e=>Heap.get?_push_of_some _ e) (Nat.le_refl _) ?_,rfl,q _ hf⟩
 exact⟨z,us,r,⟨⟨_,Heap.get?_push_size _ rfl,rfl,_,rfl⟩,_,Heap.get?_push_size _ rfl,rfl⟩⟩
theorem pe_lst(h:PA X es t):PE X (.List es pos) (tLst t):=by
 intro pins s σ H Q I hq
 refine wpAny_List_spliced (thn (h pos pins s σ H _ I hq) fun us s1 ⟨xs,H1,I1,r,z,q⟩=>⟨by rw[← r.length]; exact z,?_⟩)
 have hf:H1 s1.heap.objs.size=none:=I1.hok.fresh (Nat.le_refl _)
 refine⟨.ref s1.heap.objs.size,upd H1 s1.heap.objs.size (.lst xs),I1.laid (t':=s1.toks) (fun b u e=>Heap.get?_push_of_some _ e) (Nat.le_refl _) ?_,rfl,q _ hf⟩
 exact⟨z,us,0,r,Heap.get?_push_size _ rfl⟩
end
noncomputable abbrev Sp:=List V→Hp→VK→XK→Prop
noncomputable abbrev CXT:=List Env→Hp→Shared→XK→Value→Shared→Prop
structure Env0(P:Program)(w:World)(K:PySem.W.Frag)(mg:Str→Option Value)(base:Heap)(A:Around)(outer:List Env)(s:Shared)(H:Hp):Prop where
 frames:A.frames=some outer
 mod:Mod K mg base
 bs:∀ b o,base.get? b=some o→s.heap.get? b=some o∧H b=none
 bsz:base.objs.size≤s.heap.objs.size
 funs:s.heap.FunFrames base outer
 frf:∀ b∈frs outer,H b=none
 hok:HOk P w H s.heap
 bare:AllBare s.gens
def CE(outer:List Env)(P:Program)(w:World)(H:Hp)(s:Shared)(Q:VK)(u:Value)(s':Shared):Prop :=
 ∃ v H',s'.os=s.os∧AllBare s'.gens∧Un (frs outer) [] H H' s.heap s'.heap∧HOk P w H' s'.heap∧RelV v u∧Q v H'
def CR(CX:CXT)(outer:List Env)(P:Program)(w:World)(H:Hp)(s:Shared)(Q:VK)(E:XK)(r:Result)(s':Shared):Prop :=
 match r with
 | .ok (.ret u)=>CE outer P w H s Q u s'
 | .ok _=>False
 | .error e=>CX outer H s E e s'
structure FnOk(P:Program)(w:World)(K:PySem.W.Frag)(mg:Str→Option Value)(base:Heap)(CX:CXT)(k:Nat)(f:Addr)(fd:FuncData)(ps:List Str)(sp:Sp):Prop where
 len:∀ vs H Q E,sp vs H Q E→vs.length=ps.length
 run:∀ (A:Around) (outer:List Env) (s:Shared) (H:Hp) (args:Args) (us:List Value) (vs:List V) (Q:VK) (E:XK),Room k A→Env0 P w K mg base A outer s H→BindsTo s fd args (ps.zip us)→Vals vs us→sp vs H Q E →
  codeAny (model P w) A (.call (.ref f) args) (CR CX outer P w H s Q E) s
theorem FnOk.mono{P:Program}{w:World}{K:PySem.W.Frag}{mg:Str→Option Value}{base:Heap}{CX:CXT}{j k:Nat}{f:Addr}{fd:FuncData}{ps:List Str}{sp:Sp}(F:FnOk P w K mg base CX j f fd ps sp)(h:j≤k) :
  FnOk P w K mg base CX k f fd ps sp:=⟨F.len,fun A outer s H args us vs Q E hr=>F.run A outer s H args us vs Q E (hr.mono h)⟩
theorem Env0.make{P:Program}{w:World}{K:PySem.W.Frag}{mg:Str→Option Value}{base:Heap}{A:Around}{outer:List Env}{s:Shared}{H:Hp}(e:Env0 P w K mg base A outer s H)(C:Addr)(us:List Value)(kw:List (Str×Value)) :
  Env0 P w K mg base (A.under (.builtin "type.__call__" ⟨.ref C::us,kw⟩)) outer s H:=⟨by first | exact e.frames | (simpa[Around.under,Code.envs,Code.isFrame,pushEnvs]using e.frames),e.mod,e.bs,e.bsz,e.funs,e.frf,e.hok,e.bare⟩
theorem Env0.in1{P:Program}{w:World}{K:PySem.W.Frag}{mg:Str→Option Value}{base:Heap}{A:Around}{outer:List Env}{s:Shared}{H:Hp}(e:Env0 P w K mg base A outer s H) :
  Env0 P w K mg base A.in1 outer s H:=⟨e.frames,e.mod,e.bs,e.bsz,e.funs,e.frf,e.hok,e.bare⟩
section
variable{X:Cx}{pins:List (Addr×Obj)}{σ:St}{H:Hp}{s s':Shared}
theorem Inv.env0(I:Inv X pins σ H s):Env0 X.prog X.w X.K X.mg X.base X.A X.stack s H :=
 ⟨I.ok.frames,I.ok.mod,I.bs,Nat.le_trans I.ok.bsz I.sz,I.stack,I.stkFree,I.hok,I.bare⟩
theorem Inv.after{Q:VK}{u:Value}(I:Inv X pins σ H s)(h:CE X.stack X.prog X.w H s Q u s'):EP X pins σ Q u s':=by
 obtain⟨v,H',os,bare,un,hok,r,q⟩:=h
 obtain⟨hh,g,d,t,os'⟩:=s'
 obtain rfl:os'=s.os:=os
 exact⟨v,H',I.call (h':=hh) (g':=g) (d':=d) (t':=t) (ch:=[]) un hok bare (fun b z=>absurd z (by simp)),r,q⟩
end
def tCall(sp:Sp)(dvs:List V)(E:XK)(t:TA):TE:=fun σ H Q=>t σ H fun vs H1=>sp (vs++dvs) H1 Q E
def Binds(K:PySem.W.Frag)(fd:FuncData)(ps:List Str)(ds:List Value):Prop :=
 ∀ (s:Shared) (us:List Value),K.In s.heap→(us++ds).length=ps.length→BindsTo s fd ⟨us,[]⟩ (ps.zip (us++ds))
theorem Binds.all{K:PySem.W.Frag}{fd:FuncData}{ps:List Str}(h:∀ us:List Value,us.length=ps.length→bindArgs fd ⟨us,[]⟩=pure (ps.zip us)):Binds K fd ps []:=fun s us _ hl=>by
 rw[List.append_nil]at hl ⊢
 exact .of_eq (h us hl)
def Passes(CX:CXT)(X:Cx)(E:XK):Prop:=∀ (pins:List (Addr×Obj)) (σ:St) (H:Hp) (s:Shared) (e:Value) (s':Shared),Inv X pins σ H s→CX X.stack H s E e s'→X.xe e s'
section
variable{X:Cx}{CX:CXT}{k:Nat}{f C:Addr}{fd:FuncData}{ps:List Str}{sp:Sp}{dvs:List V}{ds:List Value}{E:XK}{x m:Str}{p pos apos:Pos}{e o:Expr}{es:List Expr}{ta:TE}{t:TA}
theorem run_fn{pins:List (Addr×Obj)}{σ:St}{H:Hp}{s:Shared}{Q:VK}{us:List Value}{vs:List V}(F:FnOk X.prog X.w X.K X.mg X.base CX k f fd ps sp)(hr:Room k X.A)(hb:Binds X.K fd ps ds)(hd:Vals dvs ds)(hx:Passes CX X E)
  (I:Inv X pins σ H s) (r:Vals vs us) (h:sp (vs++dvs) H Q E):wpAny (model X.prog X.w) X.A (call (.ref f) us) (EP X pins σ Q) X.xe s:=by
 have r2:Vals (vs++dvs) (us++ds):=r.append hd
 have hl:(us++ds).length=ps.length:=by rw[← r2.length]; exact F.len _ _ _ _ h
 refine wpAny_call (codeAny_mono (F.run X.A X.stack s H ⟨us,[]⟩ (us++ds) (vs++dvs) Q E hr I.env0 (hb s us I.kIn hl) r2 h) fun r s' hq=>?_)
 cases r with
 | error e=>exact hx pins σ H s e s' I hq
 | ok fl =>
  cases fl with
  | ret u=>exact I.after hq
  | next=>exact False.elim hq
  | brk=>exact False.elim hq
  | cont=>exact False.elim hq
theorem pe_call(F:FnOk X.prog X.w X.K X.mg X.base CX k f fd ps sp)(hr:Room k X.A)(hg:Gl X x)(hm:X.mg x=some (.ref f))(hk:PySem.W.keepIn X.K (.ref f)=true)(hb:Binds X.K fd ps ds)(hd:Vals dvs ds)(hx:Passes CX X E)
  (ha:PA X (e::es) t) (hdb:(x == ("__debug__" : Str))=false:=by decide) (he:starEach (e::es) X.env=(false,eval e X.env)::starEach es X.env:=by rfl) (hpl:(backTo pos (starEach es X.env)).any (·.1)=false:=by rfl) :
  PE X (.Call (.Name x p) (e::es) [] pos) (tCall sp dvs E t):=by
 intro pins s σ H Q I h
 refine wpAny_Call_Name_kw (ld_glob I hg hm ?_ hdb)
 refine PySem.W.callWith_K (h₀:=X.base) I.ok.mod.kin hk (thn (ha pos pins s σ H _ I h) fun us s1 ⟨vs,H1,I1,r,q⟩=>⟨I1.kIn,?_⟩) he hpl
 exact run_fn F hr hb hd hx I1 r q
structure Mk(K:PySem.W.Frag)(C f:Addr):Prop where
 makes:PySem.W.makesIn K C=true
 init:PySem.W.findIn K (.ref C) "__init__" = some (some (.ref f))
 fn:PySem.W.isFn K (.ref f)=true
 kp:PySem.W.keepIn K (.ref C)=true
end
structure FnScope(N P:List Str)(sc:Scope):Prop where
 kind:sc.kind = .function
 co:sc.isCoroutine=false
 gen:sc.isGenerator=false
 nd:N.Nodup
 pre:N.take P.length=P
 par:∀ x∈P,sc.names.lookup x=some .local∨sc.names.lookup x=some .cell
 nofree:∀ y∈sc.names,y.2≠.free
theorem bindL_out{kindOf:Str→Option NameKind}{x:Str}:∀ {binds:List (Str×Value)} {m:Str→Option Value},(∀ v,(x,v)∉binds)→bindL kindOf binds m x=m x
 | [],_,_=>rfl
 | (n,v)::r,m,h=>by
  unfold bindL
  rw[bindL_out fun w hw=>h w (List.mem_cons_of_mem _ hw)]
  split
  ·have:x≠n:=by rintro rfl; exact h v List.mem_cons_self
   simp[this]
  ·rfl
theorem bindC_out{kindOf:Str→Option NameKind}{x:Str}:∀ {binds:List (Str×Value)} {m:Str→Option Value},(∀ v,(x,v)∉binds)→bindC kindOf binds m x=m x
 | [],_,_=>rfl
 | (n,v)::r,m,h=>by
  unfold bindC
  rw[bindC_out fun w hw=>h w (List.mem_cons_of_mem _ hw)]
  split
  ·rfl
  ·have:x≠n:=by rintro rfl; exact h v List.mem_cons_self
   simp[this]
theorem bindL_get{kindOf:Str→Option NameKind}{x:Str}{v:Value}:∀ {P:List Str} {vs:List Value} {i:Nat} {m:Str→Option Value},P.Nodup→P[i]?=some x→vs[i]?=some v→kindOf x=some .local →
  bindL kindOf (P.zip vs) m x=some v
 | [],_,_,_,_,h,_,_=>by simp at h
 | _::_,[],_,_,_,_,h,_=>by simp at h
 | p::P,w::vs,0,m,nd,h1,h2,hk=>by
  simp at h1 h2; subst h1; subst h2
  show bindL kindOf ((p,w)::P.zip vs) m p=_
  unfold bindL
  rw[bindL_out fun v hv=>(List.nodup_cons.mp nd).1 (List.of_mem_zip hv).1,if_pos hk]
  simp
 | p::P,w::vs,i+1,m,nd,h1,h2,hk=>by
  show bindL kindOf ((p,w)::P.zip vs) m x=_
  unfold bindL
  exact bindL_get (i:=i) (List.nodup_cons.mp nd).2 (by simpa using h1) (by simpa using h2) hk
theorem bindC_get{kindOf:Str→Option NameKind}{x:Str}{v:Value}:∀ {P:List Str} {vs:List Value} {i:Nat} {m:Str→Option Value},P.Nodup→P[i]?=some x→vs[i]?=some v→kindOf x≠some .local →
  bindC kindOf (P.zip vs) m x=some v
 | [],_,_,_,_,h,_,_=>by simp at h
 | _::_,[],_,_,_,_,h,_=>by simp at h
 | p::P,w::vs,0,m,nd,h1,h2,hk=>by
  simp at h1 h2; subst h1; subst h2
  show bindC kindOf ((p,w)::P.zip vs) m p=_
  unfold bindC
  rw[bindC_out fun v hv=>(List.nodup_cons.mp nd).1 (List.of_mem_zip hv).1,if_neg hk]
  simp
 | p::P,w::vs,i+1,m,nd,h1,h2,hk=>by
  show bindC kindOf ((p,w)::P.zip vs) m x=_
  unfold bindC
  exact bindC_get (i:=i) (List.nodup_cons.mp nd).2 (by simpa using h1) (by simpa using h2) hk
def start(N:List Str)(vs:List V):St:=vs.map some++List.replicate (N.length-vs.length) none
def cxOf(CX:CXT)(P:Program)(w:World)(K:PySem.W.Frag)(mg:Str→Option Value)(base:Heap)(N:List Str)(qual:Str)(scope:Scope)(f:Addr)(cd:Value)(A:Around)(outer:List Env)(s:Shared)(H:Hp)(E:XK):Cx where
 prog:=P
 w:=w
 K:=K
 mg:=mg
 base:=base
 A:=A.deeper (envOfC qual scope s.heap.objs.size f cd)
 N:=N
 s₀:=s
 H₀:=H
 env:=envOfC qual scope s.heap.objs.size f cd
 outer:=outer
 stack:=envOfC qual scope s.heap.objs.size f cd::outer
 ex:=[]
 calm:=true
 fn:=fun _=>true
 pn:=[]
 xe:=fun e s'=>wpAny (model P w) (A.deeper (envOfC qual scope s.heap.objs.size f cd)) (leaving (envOfC qual scope s.heap.objs.size f cd) e) (fun _ s''=>CX outer H s E e s'') (fun e' s''=>CX outer H s E e' s'') s'
theorem cell_has{sc:Scope}{n:Nat}{x:Str}(h:sc.names.lookup x=some .cell):∃ c,(cellsFrom n sc.names []).lookup x=some c:=by
 have q:=PySem.W.cellsFrom_some sc.names n [] (.inl h)
 exact Option.isSome_iff_exists.mp q
theorem inv_start{CX:CXT}{P:Program}{w:World}{K:PySem.W.Frag}{mg:Str→Option Value}{base:Heap}{N ps:List Str}{qual:Str}{scope:Scope}{f:Addr}{cd:Value}{A:Around}{outer:List Env}{s s1:Shared}{H:Hp}{E:XK}{us:List Value}{vs:List V}
  (S:FnScope N ps scope) (hd:A.handled=none) (e0:Env0 P w K mg base A outer s H) (hl:vs.length=ps.length) (r:Vals vs us)
  (x:InCallC s s.heap.objs.size (bindL (envOfC qual scope s.heap.objs.size f cd).kindOf (ps.zip us) fun _=>none) (cellsFrom (s.heap.objs.size+1) scope.names []) (bindC (envOfC qual scope s.heap.objs.size f cd).kindOf (ps.zip us) fun _=>none) s1) :
  Inv (cxOf CX P w K mg base N qual scope f cd A outer s H E) [] (start N vs) H s1:=by
 have hpl:ps.length≤N.length:=by have:=congrArg List.length S.pre; rw[List.length_take]at this; ac_rfl
 obtain⟨h1,tk,rfl,hk⟩:=x.done
 have noA:∀ b:Addr,b∉(cxOf CX P w K mg base N qual scope f cd A outer s H E).ex:=fun b z=>absurd (show b∈([]:List Addr)from z) (by simp)
 refine⟨⟨e0.mod,S.kind,rfl,rfl,Nat.le_refl _,fun y z c h1 h2=>?_,fun y hy=>?_,fun y c _ h=>?_,fun _=>hd,Around.frames_deeper e0.frames,.inr ⟨rfl,rfl⟩,fun b z=>absurd z (noA b),e0.bs,e0.bsz,fun b _ _=>noA b,fun b z=>absurd z (noA b),e0.funs,e0.frf⟩,
  rfl,e0.bare,Un.kept hk,⟨_,x.toInCall.ns,fun i y v h1 h2 h3=>?_⟩,fun y c h=>⟨_,x.cell y c h⟩,e0.hok.fresh (Nat.le_refl _),fun y c h=>?_,fun p hp=>absurd (show p∈([]:List (Addr×Obj))from hp) (by simp),e0.hok.kept hk,?_⟩
 ·exact name_of_addr x.apart (PySem.mem_of_lookup h1) (PySem.mem_of_lookup h2)
 ·have hy:scope.names.lookup y=some .cell∨scope.names.lookup y=some .free:=hy
  rcases hy with hy | hy
  ·exact cell_has hy
  ·exact absurd rfl (S.nofree _ (PySem.mem_of_lookup hy))
 ·exact Nat.le_of_lt (x.above y c (PySem.mem_of_lookup h))
 ·have hi:i<vs.length:=by
   unfold start at h2
   by_cases hi:i<vs.length
   ·exact hi
   ·rw[List.getElem?_append_right (by simpa using hi)]at h2
    rw[List.getElem?_replicate]at h2
    split at h2 <;> cases h2
  have ha:vs[i]?=some v:=by
   unfold start at h2
   rw[List.getElem?_append_left (by simpa using hi),List.getElem?_map]at h2
   cases e:vs[i]? with
   | none=>rw[e]at h2; cases h2
   | some a=>rw[e]at h2; cases h2; rfl
  obtain⟨u,hu,rv⟩:=r.get ha
  have hp:ps[i]?=some y:=by
   rw[← S.pre,List.getElem?_take_of_lt (by ac_rfl)]; exact h1
  have ndP:ps.Nodup:=by rw[← S.pre]; exact S.nd.sublist (List.take_sublist _ _)
  refine⟨u,rv,?_⟩
  rcases S.par y (List.mem_of_getElem? hp)with k | k
  ·exact .inl ⟨k,bindL_get ndP hp hu k⟩
  ·obtain⟨c,e⟩:=cell_has (n:=s.heap.objs.size+1) k
   refine .inr ⟨.inl k,c,e,?_⟩
   have q:=x.cell y c e
   rw[bindC_get ndP hp hu (by show scope.names.lookup y≠_; rw[k]; decide)]at q
   exact q
 ·exact e0.hok.fresh (Nat.le_of_lt (x.above y c (PySem.mem_of_lookup h)))
 ·unfold start
  show _=N.length
  rw[List.length_append,List.length_map,List.length_replicate]
  ac_rfl
theorem fn_of{CX:CXT}{P:Program}{w:World}{K:PySem.W.Frag}{mg:Str→Option Value}{base:Heap}{k:Nat}{f:Addr}{name qual:Str}{params:Arguments}{body:List Stmt}{scope:Scope}{dV kV doc pm cdv ct oc:Value}{an od:Option Addr}
  {osl:Array (Option Value)} {N ps:List Str} {sp:Sp} (lk:K.lookup f=some ⟨oc,od,.func (PySem.W.fnOf name qual params body scope dV kV doc pm an cdv ct),osl⟩) (hcd:PySem.W.codeIn K cdv qual=true) (S:FnScope N ps scope)
  (len:∀ vs H Q E,sp vs H Q E→vs.length=ps.length)
  (hbody:∀ (A:Around) (outer:List Env) (s:Shared) (H:Hp) (vs:List V) (Q:VK) (E:XK),Room k (A.deeper (envOfC qual scope s.heap.objs.size f cdv))→sp vs H Q E →
   ∃ t,PSs (cxOf CX P w K mg base N qual scope f cdv A outer s H E) body t∧t { nx:=fun _ H'=>Q .non H',rt:=Q } (start N vs) H) :
  FnOk P w K mg base CX (k+1) f (PySem.W.fnOf name qual params body scope dV kV doc pm an cdv ct) ps sp:=by
 refine⟨len,fun A outer s H args us vs Q E hr e0 hb r hsp=>?_⟩
 have hl:=len _ _ _ _ hsp
 have KX:K.In s.heap:=e0.mod.kin.keeps fun b o e=>(e0.bs b o e).1
 have lim:s.heap.NoLimit:=e0.mod.nolimit.keeps fun b o e=>(e0.bs b o e).1
 have hkind:∀ y∈ps.zip us,scope.names.lookup y.1=some .local∨(scope.names.lookup y.1=some .cell∧((cellsFrom (s.heap.objs.size+1) scope.names []).lookup y.1).isSome=true):=fun⟨n,v⟩ hy=>by
  rcases S.par n (List.of_mem_zip hy).1 with q | q
  ·exact .inl q
  ·exact .inr ⟨q,PySem.W.cellsFrom_some _ _ _ (.inl q)⟩
 refine codeAny_call_function hr.depth (KX _ _ lk) rfl S.co S.gen rfl (PySem.W.codeRec_of KX hcd) (hb _ _ _ _ ?_)
 refine wpAny_newFunctionEnv_cells S.kind hkind fun env he s1 x=>?_
 subst he
 refine⟨lim.keeps x.toInCall.keep,codeAny_func ?_⟩
 obtain⟨t,ht,hq⟩:=hbody A outer s H vs Q E (hr.deeper _) hsp
 have I:Inv (cxOf CX P w K mg base N qual scope f cdv A outer s H E) [] (start N vs) H s1:=inv_start S hr.hd e0 hl r x
 refine wpAny_mono (ht [] s1 (start N vs) H _ I hq) (fun fl s' hs=>?_) fun e s' hs=>hs
 have fin:∀ {σ':St} {H':Hp} {v:V} {u:Value},Inv (cxOf CX P w K mg base N qual scope f cdv A outer s H E) [] σ' H' s'→RelV v u→Q v H'→CE outer P w H s Q u s' :=
  fun {σ' H' v u} J rv q=>⟨v,H',J.os,J.bare,J.base,J.hok,rv,q⟩
 cases fl with
 | ret u =>
  obtain⟨v,σ',H',J,rv,q⟩:=hs
  exact fin J rv q
 | next =>
  obtain⟨σ',H',J,q⟩:=hs
  exact fin (v:=V.non) (u:=Value.none) J rfl q
 | brk =>
  obtain⟨_,_,_,q⟩:=hs
  exact False.elim q
 | cont =>
  obtain⟨_,_,_,q⟩:=hs
  exact False.elim q
end L2
namespace L2
open PySem PySem.Spec PyProof.Rows
section
variable{X:Cx}{x:Str}{p pos:Pos}{e:Expr}{es:List Expr}{t:TA}{id T:String}{r:List V→Hp→VK→Prop}
def tCB(r:List V→Hp→VK→Prop)(t:TA):TE:=fun σ H Q=>t σ H fun vs H1=>r vs H1 Q
theorem pe_callB(hc:CallR X (.builtin id) r)(hg:Gl X x)(hm:X.mg x=none)(hv:bootBuiltins x=some (.builtin id))(ha:PA X (e::es) t)(hn:x≠"__name__":=by decide)(hdb:(x == ("__debug__" : Str))=false:=by decide)
  (he:starEach (e::es) X.env=(false,eval e X.env)::starEach es X.env:=by rfl) (hpl:(backTo pos (starEach es X.env)).any (·.1)=false:=by rfl):PE X (.Call (.Name x p) (e::es) [] pos) (tCB r t):=by
 intro pins s σ H Q I h
 refine wpAny_Call_Name_kw (ld_blt I hg hm hv ?_ hn hdb)
 exact PyProof.Rows.callWith_builtin1 (thn (ha pos pins s σ H _ I h) fun us s1 ⟨vs,H1,I1,r1,q1⟩=>hc pins s1 σ H1 vs us Q I1 r1 q1) he hpl
theorem pe_callTy(hc:CallR X (.type T) r)(hg:Gl X x)(hm:X.mg x=none)(hv:bootBuiltins x=some (.type T))(ha:PA X (e::es) t)(hn:x≠"__name__":=by decide)(hdb:(x == ("__debug__" : Str))=false:=by decide)
  (he:starEach (e::es) X.env=(false,eval e X.env)::starEach es X.env:=by rfl) (hpl:(backTo pos (starEach es X.env)).any (·.1)=false:=by rfl):PE X (.Call (.Name x p) (e::es) [] pos) (tCB r t):=by
 intro pins s σ H Q I h
 refine wpAny_Call_Name_kw (ld_blt I hg hm hv ?_ hn hdb)
 exact PyProof.Rows.callWith_type1 (thn (ha pos pins s σ H _ I h) fun us s1 ⟨vs,H1,I1,r1,q1⟩=>hc pins s1 σ H1 vs us Q I1 r1 q1) he hpl
end
end L2
namespace HT
open PySem PyProof.Rows
section
open PySem.SeqAt
open PySem.AutoSeq1 (wpAny_loadPart')
open PySem.MeetsSeq PySem.MeetsSeq2 PySem.MeetsSeq3
end
section
variable{prog:Program}{w:World}{A:Around}{E:Value→Shared→Prop}{s:Shared}
theorem cat_tup{t b:Addr}{vs ws:List Value}{Q:Value→Shared→Prop}(ht:IsTup s.heap t vs.toArray)(hb:IsTup s.heap b ws.toArray)(hv:vs≠[])
  (h1:ws=[]→Q (.ref t) s) (h2:ws≠[]→Q (.ref s.heap.objs.size) { s with heap:=s.heap.push { cls:=.type "tuple",data:=.seq (vs++ws).toArray } })
  (hsz:vs.length+ws.length≤sizeLine):wpAny (model prog w) A (binaryOp .Add (.ref t) (.ref b)) Q E s:=by
 obtain⟨⟨cls,dd,data,sl⟩,ho,hc,n,hd⟩:=id ht
 obtain⟨⟨cls2,dd2,data2,sl2⟩,ho2,hc2,n2,hd2⟩:=id hb
 simp only at hc hd hc2 hd2
 subst hc hd hc2 hd2
 have e:vs.toArray++ws.toArray=(vs++ws).toArray:=by simp
 by_cases hw:ws=[]
 ·exact concat_meets ⟨_,ho,rfl⟩ ⟨_,ho2,rfl⟩ noFill_tuple_add seq_tuple_add PySem.F.slot_tuple_add PySem.F.entry_tuple_add (PySem.F.args_tuple_add_2 _ _)
   (tuple_addW1 t b vs.toArray ws.toArray n n2 dd dd2 sl sl2 (by simpa using hv) (by simp[hw])) ⟨ho,ho2,h1 hw⟩
 ·refine concat_meets ⟨_,ho,rfl⟩ ⟨_,ho2,rfl⟩ noFill_tuple_add seq_tuple_add PySem.F.slot_tuple_add PySem.F.entry_tuple_add (PySem.F.args_tuple_add_2 _ _)
   (tuple_addW2 t b vs.toArray ws.toArray n n2 dd dd2 sl sl2 (by simpa using hv) (by simpa using hw) (by rw[List.size_toArray,List.size_toArray]; exact hsz)) ⟨ho,ho2,?_⟩
  rw[e]
  exact h2 hw
def sIx(n d:Nat):Option Int→Nat
 | none=>d
 | some v=>if v<0 then(v+(n:Int)).toNat else min v.toNat n
theorem sIx_nat(n d k:Nat):sIx n d (some (k:Int))=min k n:=by
 show(if(k:Int)<0 then((k:Int)+(n:Int)).toNat else min (k:Int).toNat n)=min k n
 rw[if_neg (by ac_rfl),Int.toNat_natCast]
theorem sIx_le(n d:Nat)(hd:d≤n)(o:Option Int):sIx n d o≤n:=by
 cases o with
 | none=>exact hd
 | some v =>
  show(if v<0 then(v+(n:Int)).toNat else min v.toNat n)≤n
  by_cases hv:v<0
  ·rw[if_pos hv]; ac_rfl
  ·rw[if_neg hv]; exact Nat.min_le_right _ _
theorem clip_eq(v:Int)(n d:Nat):(if v<0 then max (v+(n:Int)) 0 else min v (n:Int))=((sIx n d (some v):Nat):Int):=by
 show(if v<0 then max (v+(n:Int)) 0 else min v (n:Int))=(((if v<0 then(v+(n:Int)).toNat else min v.toNat n):Nat):Int)
 by_cases hv:v<0
 ·simp only[if_pos hv]; ac_rfl
 ·simp only[if_neg hv]; ac_rfl
theorem adjust_gen(lo hi:Option Int)(n:Nat):Builtin.Slice.sliceAdjust lo hi 1 (n:Int)=(((sIx n 0 lo:Nat):Int),((sIx n n hi:Nat):Int)):=by
 have h1:¬ ((1:Int)<0):=by ac_rfl
 unfold Builtin.Slice.sliceAdjust
 simp only[h1,if_false]
 refine Prod.ext ?_ ?_
 ·cases lo with
  | none=>rfl
  | some v=>exact clip_eq v n 0
 ·cases hi with
  | none=>rfl
  | some v=>exact clip_eq v n n
theorem places_gen(i j:Nat):Builtin.Slice.slicePlaces (i:Int) (j:Int) 1=j-i:=by
 unfold Builtin.Slice.slicePlaces
 have h1:(1:Int) > 0:=by ac_rfl
 simp only[h1,if_true,Int.ediv_one]
 split <;> ac_rfl
theorem slicePart_{v:Value}{o:Option Int}{Q:Option Int→Shared→Prop}(p:IsPart v o)(h:Q o s):wpAny (model prog w) A (Builtin.Slice.slicePartIndex v) Q E s:=by
 cases p with
 | none=>exact slicePart_none h
 | int i t=>exact slicePart_int h
theorem sliceApplied_gen{sl:Addr}{vl vu:Value}{lo hi:Option Int}{n:Nat}{Q:Int×Int×Nat→Shared→Prop}(hs:s.heap.IsSliceOf sl vl vu .none)(pl:IsPart vl lo)(pu:IsPart vu hi)
  (h:Q (((sIx n 0 lo:Nat):Int),1,sIx n n hi-sIx n 0 lo) s):wpAny (model prog w) A (Builtin.Slice.sliceApplied (.ref sl) (pure (n:Int))) Q E s:=by
 obtain⟨os,hos,hcs,hds⟩:=id hs
 unfold Builtin.Slice.sliceApplied Builtin.Slice.sliceFields
 refine wpAny_bind (wpAny_bind (wpAny_field hos hds (x:=vl) rfl (wpAny_bind (wpAny_field hos hds (x:=vu) rfl (wpAny_bind (wpAny_field hos hds (x:=.none) rfl (wpAny_pure ?_)))))))
 refine wpAny_bind (slicePart_none ?_)
 show wpAny _ _ (if((1:Int) == 0)=true then _ else _) _ _ s
 rw[if_neg (by decide)]
 refine wpAny_bind (slicePart_ pl (wpAny_bind (slicePart_ pu (wpAny_bind (wpAny_pure ?_)))))
 show wpAny _ _ (match Builtin.Slice.sliceAdjust lo hi 1 (n:Int)with | (lo,hi)=>pure (lo,(1:Int),Builtin.Slice.slicePlaces lo hi 1)) _ _ s
 rw[adjust_gen lo hi n]
 show wpAny _ _ (pure (((sIx n 0 lo:Nat):Int),(1:Int),Builtin.Slice.slicePlaces ((sIx n 0 lo:Nat):Int) ((sIx n n hi:Nat):Int) 1)) _ _ s
 rw[places_gen]
 exact wpAny_pure h
theorem pick_gen(xs:Array Value)(i k:Nat):((List.range k).filterMap fun(m:Nat)=>xs[((i:Int)+(m:Int) * 1).toNat]?).toArray=((xs.toList.drop i).take k).toArray:=by
 have e:(fun(m:Nat)=>xs[((i:Int)+(m:Int) * 1).toNat]?)=fun m=>xs[i+m]?:=by
  funext m
  have:((i:Int)+(m:Int) * 1).toNat=i+m:=by ac_rfl
  rw[this]
 rw[e]
 have:=pick_run xs i k
 rw[List.filterMap_map]at this
 have e2:((fun x=>xs[x]?) ∘ fun x=>i+x)=fun m=>xs[i+m]?:=rfl
 rw[e2]at this
 rw[this]
theorem getItem_tuple_cut{t sl:Addr}{items:Array Value}{vl vu:Value}{lo hi:Option Int}{Q:Value→Shared→Prop}(ht:IsTup s.heap t items)(hs:s.heap.IsSliceOf sl vl vu .none)(pl:IsPart vl lo)(pu:IsPart vu hi)
  (hw:¬ (sIx items.size 0 lo=0∧sIx items.size items.size hi=items.size))
  (h:Q (.ref s.heap.objs.size) { s with heap:=s.heap.push { cls:=.type "tuple",data:=.seq ((items.toList.drop (sIx items.size 0 lo)).take (sIx items.size items.size hi-sIx items.size 0 lo)).toArray } })
  (hsz:items.size≤sizeLine):wpAny (model prog w) A (getItem (.ref t) (.ref sl)) Q E s:=by
 have htake:sizeOk (.seq ((items.toList.drop (sIx items.size 0 lo)).take (sIx items.size items.size hi-sIx items.size 0 lo)).toArray):=by
  show((items.toList.drop (sIx items.size 0 lo)).take (sIx items.size items.size hi-sIx items.size 0 lo)).toArray.size≤sizeLine
  rw[List.size_toArray,List.length_take,List.length_drop,Array.length_toList]
  ac_rfl
 have hj:sIx items.size items.size hi≤items.size:=sIx_le _ _ (Nat.le_refl _) hi
 obtain⟨os,hos,hcs,hds⟩:=id hs
 have hTs:s.TypeIs (.ref sl) "slice":=⟨os,hos,hcs⟩
 unfold getItem
 try with_reducible refine wpAny_holding ?_
 first | refine wpAny_bind (wpAny_pure ?_) | skip
 refine wpAny_bind (wpAny_sequenceKey ht.typeIs (by decide) ?_)
 refine wpAny_bind (wpAny_callSpecial?_slot (name:=Str.ofString "__getitem__") ht.typeIs PyProof.Rows.slot_tuple_getitem
  (wpAny_call_entry PyProof.Rows.slot_tuple_getitem ht.typeIs entry_tuple_getitem ?_ (args_tuple_getitem _ _)))
 show wpAny _ _ (Builtin.Tuple.tupleItemsOf (.ref t) >>= _) _ _ s
 refine wpAny_bind (tupleItemsOf_ ht ?_)
 refine wpAny_bind (wpAny_typeOf hTs ?_)
 rw[if_pos (by decide)]
 refine wpAny_bind (sliceApplied_gen hs pl pu ?_)
 have hno:¬ ((((sIx items.size 0 lo:Nat):Int) == 0 && (1:Int) == 1 && (sIx items.size items.size hi-sIx items.size 0 lo) == items.size)=true):=by
  intro q
  rw[Bool.and_eq_true,Bool.and_eq_true]at q
  have q1:((sIx items.size 0 lo:Nat):Int)=0:=eq_of_beq q.1.1
  have q2:sIx items.size items.size hi-sIx items.size 0 lo=items.size:=eq_of_beq q.2
  exact hw ⟨by ac_rfl,by ac_rfl⟩
 show wpAny _ _ (if(((sIx items.size 0 lo:Nat):Int) == 0 && (1:Int) == 1 && (sIx items.size items.size hi-sIx items.size 0 lo) == items.size)=true then _ else _) _ _ s
 rw[if_neg hno,pick_gen]
 first
  | exact wpAny_bind (m:=Builtin.Tuple.tupleExact _) (wpAny_newObj_type (wpAny_pure ⟨_,rfl,wpAny_pure h⟩) htake)
  | exact wpAny_bind (m:=Builtin.Tuple.tupleExact _) (wpAny_newObj_type (wpAny_bind (wpAny_pure (wpAny_pure ⟨_,rfl,wpAny_pure h⟩))) htake)
  | exact wpAny_bind (wpAny_bind (m:=Builtin.Tuple.tupleExact _) (wpAny_newObj_type (wpAny_pure (wpAny_pure ⟨_,rfl,wpAny_pure h⟩)) htake))
  | exact wpAny_bind (wpAny_bind (m:=Builtin.Tuple.tupleExact _) (wpAny_newObj_type (wpAny_pure ⟨_,rfl,wpAny_pure h⟩) htake))
end
end HT
namespace L2
open PySem PySem.Spec PyProof.Rows
noncomputable abbrev TO:=St→Hp→(Option Int→Hp→Prop)→Prop
def PO(X:Cx)(e:Option Expr)(t:TO):Prop :=
 ∀ (pins:List (Addr×Obj)) (s:Shared) (σ:St) (H:Hp) (Q:Option Int→Hp→Prop),Inv X pins σ H s→t σ H Q →
  wpAny (model X.prog X.w) X.A (evalPart e X.env) (fun u s'=>∃ o H',Inv X pins σ H' s'∧IsPart u o∧Q o H') X.xe s
def tNoPart:TO:=fun _ H Q=>Q none H
def tPart(t:TE):TO:=fun σ H Q=>t σ H fun x H1=>∃ i,x = .int i∧Q (some i) H1
section
variable{X:Cx}{e:Expr}{te:TE}{lo hi:Option Expr}{tl th:TO}{pos p2:Pos}
theorem po_none:PO X none tNoPart:=by
 intro pins s σ H Q I h
 rw[evalPart_none]
 exact wpAny_pure ⟨none,H,I,.none,h⟩
theorem po_some(h:PE X e te):PO X (some e) (tPart te):=by
 intro pins s σ H Q I hw
 rw[evalPart_some]
 refine thn (h pins s σ H _ I hw) fun u s1 ⟨x,H1,I1,r1,q1⟩=>?_
 obtain⟨i,rfl,q⟩:=q1
 obtain⟨t,rfl⟩:=r1
 exact⟨some i,H1,I1,.int i t,q⟩
def SlR(X:Cx)(r:V→Option Int→Option Int→Hp→VK→Prop):Prop :=
 ∀ (pins:List (Addr×Obj)) (s:Shared) (σ:St) (H:Hp) (x:V) (v vl vu:Value) (lo hi:Option Int) (sl:Addr) (Q:VK),Inv X pins σ H s→RelV x v→s.heap.IsSliceOf sl vl vu .none→IsPart vl lo→IsPart vu hi→r x lo hi H Q →
  ∃ T id,typeLookup (.type T) "__getitem__" = pure (some (.builtin id))∧s.TypeIs v T∧wpAny (model X.prog X.w) X.A (getItem v (.ref sl)) (EP X pins σ Q) X.xe s
theorem SlR.or{r r':V→Option Int→Option Int→Hp→VK→Prop}(h:SlR X r)(h':SlR X r'):SlR X (fun x lo hi H Q=>r x lo hi H Q∨r' x lo hi H Q):=by
 intro pins s σ H x v vl vu lo hi sl Q I rx hs pl pu q
 rcases q with q | q
 ·exact h pins s σ H x v vl vu lo hi sl Q I rx hs pl pu q
 ·exact h' pins s σ H x v vl vu lo hi sl Q I rx hs pl pu q
def tSl(r:V→Option Int→Option Int→Hp→VK→Prop)(te:TE)(tl th:TO):TE:=fun σ H Q=>te σ H fun x H1=>tl σ H1 fun l H2=>th σ H2 fun u H3=>r x l u H3 Q
theorem pe_slice{r:V→Option Int→Option Int→Hp→VK→Prop}(hr:SlR X r)(he:PE X e te)(hl:PO X lo tl)(hu:PO X hi th):PE X (.Subscript e (.Slice lo hi none p2) pos) (tSl r te tl th):=by
 intro pins s σ H Q I h
 refine Subscript_ (thn (he pins s σ H _ I h) fun v s1 ⟨x,H1,I1,r1,q1⟩=>?_)
 refine wpAny_Slice (thn (hl pins s1 σ H1 _ I1 q1) fun vl s2 ⟨l,H2,I2,pl,q2⟩=>thn (hu pins s2 σ H2 _ I2 q2) fun vu s3 ⟨u,H3,I3,pu,q3⟩=>?_)
 rw[evalPart_none]
 refine wpAny_pure ?_
 have I4:Inv X pins σ H3 { s3 with heap:=s3.heap.push { cls:=.type "slice",data:=.fields #[vl,vu,.none] } }:=I3.kept (t':=s3.toks) fun b ob q=>Heap.get?_push_of_some _ q
 obtain⟨T,id,hT,ht,hg⟩:=hr pins { s3 with heap:=s3.heap.push { cls:=.type "slice",data:=.fields #[vl,vu,.none] } } σ H3 x v vl vu l u s3.heap.objs.size Q I4 r1 (Heap.IsSliceOf.new ..) pl pu q3
 show wpAny (model X.prog X.w) X.A (subscriptTail e (.Slice lo hi none p2) v (.ref s3.heap.objs.size)) (EP X pins σ Q) X.xe { s3 with heap:=s3.heap.push { cls:=.type "slice",data:=.fields #[vl,vu,.none] } }
 exact tail_any (ops:=[.ref s3.heap.objs.size,v]) ht hT hg (by with_unfolding_all rfl)
def cutV(xs:List V)(lo hi:Option Int):List V:=(xs.drop (HT.sIx xs.length 0 lo)).take (HT.sIx xs.length xs.length hi-HT.sIx xs.length 0 lo)
theorem cutV_length(xs:List V)(lo hi:Option Int):(cutV xs lo hi).length≤xs.length:=by
 unfold cutV
 rw[List.length_take,List.length_drop]
 ac_rfl
def rSlT(K:PySem.W.Frag):V→Option Int→Option Int→Hp→VK→Prop:=fun x lo hi H Q=>∃ a xs,x = .ref a∧SqT K H a xs ∧
 ¬ (HT.sIx xs.length 0 lo=0∧HT.sIx xs.length xs.length hi=xs.length)∧∀ p,H p=none→Q (.ref p) (upd H p (.tup (cutV xs lo hi)))
theorem sl_tup:SlR X (rSlT X.K):=by
 intro pins s σ H x v vl vu lo hi sl Q I rx hs pl pu h
 obtain⟨a,xs,rfl,hx,hw,q⟩:=h
 cases rx
 obtain⟨its,r,ht,hz⟩:=I.tuple hx
 have hlen:its.toArray.size=xs.length:=by rw[List.size_toArray]; exact r.length.symm
 refine⟨"tuple",_,PyProof.Rows.slot_tuple_getitem.lookup,ht.typeIs,?_⟩
 refine HT.getItem_tuple_cut ht hs pl pu (by rw[hlen]; exact hw) ?_ (by rw[hlen]; exact hz)
 rw[hlen]
 refine⟨.ref s.heap.objs.size,_,I.laid (t':=s.toks) (o:=.tup (cutV xs lo hi)) (fun b ob q=>Heap.get?_push_of_some _ q) (Nat.le_refl _) ?_,rfl,q _ (I.hok.fresh (Nat.le_refl _))⟩
 exact⟨Nat.le_trans (cutV_length xs lo hi) hz,_,(r.drop (HT.sIx xs.length 0 lo)).take (HT.sIx xs.length xs.length hi-HT.sIx xs.length 0 lo),IsTupD.new _ _⟩
def rCatT(K:PySem.W.Frag):R2:=fun x y H Q=>∃ a b xs ys,x = .ref a∧y = .ref b∧SqT K H a xs∧SqT K H b ys∧xs≠[]∧xs.length+ys.length≤sizeLine ∧
 (ys=[]→Q (.ref a) H)∧(ys≠[]→∀ p,H p=none→Q (.ref p) (upd H p (.tup (xs++ys))))
theorem Vals.nil_iff{xs:List V}{us:List Value}(r:Vals xs us):us=[]↔xs=[]:=by
 cases r with
 | nil=>simp
 | cons _ _=>simp
theorem op_catT:OpR X (binaryOp .Add) (rCatT X.K):=by
 intro pins s σ H x y v u Q I rx ry h
 obtain⟨a,b,xs,ys,rfl,rfl,ha,hb,hx,hz,q1,q2⟩:=h
 cases rx
 cases ry
 obtain⟨its,r1,p1,_⟩:=I.tuple ha
 obtain⟨its2,r2,p2,_⟩:=I.tuple hb
 refine HT.cat_tup p1 p2 (fun z=>hx (r1.nil_iff.mp z)) (fun z=>⟨.ref a,H,I,rfl,q1 (r2.nil_iff.mp z)⟩) (fun z=>?_) (by rw[← r1.length,← r2.length]; exact hz)
 refine⟨.ref s.heap.objs.size,_,I.laid (t':=s.toks) (o:=.tup (xs++ys)) (fun b ob q=>Heap.get?_push_of_some _ q) (Nat.le_refl _) ?_,rfl,q2 (fun w=>z (r2.nil_iff.mpr w)) _ (I.hok.fresh (Nat.le_refl _))⟩
 exact⟨by rw[List.length_append]; exact hz,_,r1.append r2,IsTupD.new _ _⟩
end
end L2
namespace L2
open PySem PySem.Spec PyProof.Rows
def ixN(n:Nat)(i:Int):Option Nat:=if 0≤i then(if i<n then some i.toNat else none)else if -(n:Int)≤i then some (i+n).toNat else none
def atI{α:Type}(xs:List α)(i:Int):Option α:=(ixN xs.length i).bind fun j=>xs[j]?
theorem ixN_seq{n:Nat}{i:Int}{j:Nat}(h:ixN n i=some j):seqIndex? i n=some j∧j<n∧-(n:Int)≤i∧i<n:=by
 unfold ixN at h
 by_cases h0:0≤i
 ·rw[if_pos h0]at h
  by_cases h1:i<n
  ·rw[if_pos h1]at h
   have e:i.toNat=j:=Option.some.inj h
   exact⟨by rw[seqIndex_of h0 h1,e],by ac_rfl,by ac_rfl,h1⟩
  ·rw[if_neg h1]at h; cases h
 ·rw[if_neg h0]at h
  by_cases h1 : -(n:Int)≤i
  ·rw[if_pos h1]at h
   have e:(i+n).toNat=j:=Option.some.inj h
   exact⟨by rw[seqIndex_neg (by ac_rfl) h1,e],by ac_rfl,h1,by ac_rfl⟩
  ·rw[if_neg h1]at h; cases h
theorem atI_get{α:Type}{xs:List α}{i:Int}{v:α}(h:atI xs i=some v):∃ j,seqIndex? i xs.length=some j∧xs[j]?=some v∧j<xs.length∧-(xs.length:Int)≤i∧i<xs.length:=by
 unfold atI at h
 cases e:ixN xs.length i with
 | none=>rw[e]at h; cases h
 | some j =>
  rw[e]at h
  obtain⟨h1,h2,h3,h4⟩:=ixN_seq e
  exact⟨j,h1,h,h2,h3,h4⟩
theorem atI_nat{α:Type}{xs:List α}{j:Nat}{v:α}(h:xs[j]?=some v):atI xs (j:Int)=some v:=by
 have hj:j<xs.length:=(List.getElem?_eq_some_iff.mp h).1
 have e:ixN xs.length (j:Int)=some j:=by
  unfold ixN
  rw[if_pos (by ac_rfl),if_pos (by ac_rfl)]; simp
 unfold atI; rw[e]; exact h
def PlainIx(b:Expr):Prop:=∀ o i,subscripted b false o i=operate [o,i] (getItem o i)
def IxR(X:Cx)(r:R2):Prop :=
 ∀ (value slice:Expr) (pins:List (Addr×Obj)) (s:Shared) (σ:St) (H:Hp) (x y:V) (v u:Value) (Q:VK),Inv X pins σ H s→RelV x v→RelV y u→r x y H Q →
  subscripted slice false v u=operate [v,u] (getItem v u)→wpAny (model X.prog X.w) X.A (subscriptTail value slice v u) (EP X pins σ Q) X.xe s
def MtR(X:Cx)(id:String)(r:V→List V→Hp→VK→Prop):Prop :=
 ∀ (pins:List (Addr×Obj)) (s:Shared) (σ:St) (H:Hp) (x:V) (xs:List V) (v:Value) (us:List Value) (Q:VK),Inv X pins σ H s→RelV x v→Vals xs us→r x xs H Q →
  wpAny (model X.prog X.w) X.A (call (.builtin id) (v::us)) (EP X pins σ Q) X.xe s
section
variable{X:Cx}{a b:Expr}{ta tb:TE}{pos:Pos}
theorem IxR.or{r r':R2}(h:IxR X r)(h':IxR X r'):IxR X (fun x y H Q=>r x y H Q∨r' x y H Q):=by
 intro value slice pins s σ H x y v u Q I rx ry q hs
 rcases q with q | q
 ·exact h value slice pins s σ H x y v u Q I rx ry q hs
 ·exact h' value slice pins s σ H x y v u Q I rx ry q hs
theorem pe_ix{r:R2}(hr:IxR X r)(ha:PE X a ta)(hb:PE X b tb)(hs:PlainIx b):PE X (.Subscript a b pos) (tOp r ta tb):=by
 intro pins s σ H Q I h
 exact Subscript_ (binT ha hb I h fun v u s2 x y H2 I2 rx ry q=>hr a b pins s2 σ H2 x y v u Q I2 rx ry q (hs _ _))
def rIxL(K:PySem.W.Frag):R2:=fun x y H Q=>∃ p xs i v,x = .ref p∧y = .int i∧SqL K H p xs∧atI xs i=some v∧Q v H
def rIxT(K:PySem.W.Frag):R2:=fun x y H Q=>∃ p xs i v,x = .ref p∧y = .int i∧SqT K H p xs∧atI xs i=some v∧Q v H
def rIxS:R2:=fun x y H Q=>∃ z i c,x = .str z∧y = .int i∧z.length≤sizeLine∧atI z.cps.toList i=some c∧Q (.str ⟨#[c]⟩) H
theorem ix_list:IxR X (rIxL X.K):=by
 intro value slice pins s σ H x y v u Q I rx ry h hs
 obtain⟨p,xs,i,z,rfl,rfl,hq,he,q⟩:=h
 cases rx
 obtain⟨t,rfl⟩:=ry
 obtain⟨its,r,pl,hz⟩:=I.list hq
 obtain⟨j,h1,h2,h3,h4,h5⟩:=atI_get he
 obtain⟨w,ew,rw'⟩:=r.get h2
 have hl:=r.length
 have hn:=line63
 have fin:EP X pins σ Q w s:=⟨z,H,I,rw',q⟩
 by_cases h0:0≤i
 ·have hj:i.toNat=j:=by
   rw[seqIndex_of h0 h5]at h1
   exact Option.some.inj h1
  exact item_listR pl.isList h0 (by ac_rfl) (by rw[hj]; simpa using ew) fin hs
 ·have hj:(i+(its.toArray.size:Int)).toNat=j:=by
   rw[seqIndex_neg (by ac_rfl) h4]at h1
   rw[List.size_toArray,← hl]
   exact Option.some.inj h1
  exact subscriptTail_builtinR (x:=w) pl.isList.typeIs slot_list_getitem.lookup
   (wpAny_getItem_list_neg (Q:=fun r s'=>r=w∧EP X pins σ Q r s') pl.isList (by ac_rfl) (by rw[List.size_toArray] <;> ac_rfl) (by ac_rfl) (by rw[hj]; simpa using ew) ⟨rfl,fin⟩) hs
theorem ix_tup:IxR X (rIxT X.K):=by
 intro value slice pins s σ H x y v u Q I rx ry h hs
 obtain⟨p,xs,i,z,rfl,rfl,hq,he,q⟩:=h
 cases rx
 obtain⟨t,rfl⟩:=ry
 obtain⟨its,r,pl,hz⟩:=I.tuple hq
 obtain⟨j,h1,h2,h3,h4,h5⟩:=atI_get he
 obtain⟨w,ew,rw'⟩:=r.get h2
 have hl:=r.length
 have hn:=line63
 have fin:EP X pins σ Q w s:=⟨z,H,I,rw',q⟩
 exact subscriptTail_builtinR (x:=w) pl.typeIs slot_tuple_getitem.lookup
  (getItem_tuple (j:=j) (Q:=fun r s'=>r=w∧EP X pins σ Q r s') pl (by ac_rfl) (by ac_rfl) (by rw[List.size_toArray,← hl]; exact h1) (by simpa using ew) ⟨rfl,fin⟩) hs
theorem ix_str:IxR X rIxS:=by
 intro value slice pins s σ H x y v u Q I rx ry h hs
 obtain⟨z,i,c,rfl,rfl,hz,he,q⟩:=h
 obtain⟨t,rfl⟩:=rx
 obtain⟨t',rfl⟩:=ry
 obtain⟨j,h1,h2,h3,h4,h5⟩:=atI_get he
 have hl:z.cps.toList.length=z.length:=by simp[Str.length]
 rw[hl]at h1 h4 h5
 have hn:=line63
 exact tail_any (typeIs_str s z t) slot_str_getitem.lookup (getItem_str (c:=c) (by
  have e1:decide (i < -(2 ^ 63:Int))=false:=decide_eq_false (by ac_rfl)
  have e2:decide (i ≥ 2 ^ 63)=false:=decide_eq_false (by ac_rfl)
  rw[e1,e2,Bool.or_false]) (by rw[h1]; simpa using h2) ⟨.str ⟨#[c]⟩,H,I.tok _,⟨_,rfl⟩,q⟩) hs
def rIx(K:PySem.W.Frag):R2:=fun x y H Q=>rIxL K x y H Q∨rIxT K x y H Q∨rIxS x y H Q
theorem ix_seq:IxR X (rIx X.K):=ix_list.or (ix_tup.or ix_str)
theorem mapSeq_set(its:List Value)(n j:Nat)(u:Value):Obj.mapSeq (·.setIfInBounds j u) { cls:=.type "list",data:=.seq its.toArray n }={ cls:=.type "list",data:=.seq (its.set j u).toArray n }:=by
 simp[Obj.mapSeq]
theorem Inv.lst{pins:List (Addr×Obj)}{σ:St}{H:Hp}{s:Shared}{p:Addr}{xs:List V}(I:Inv X pins σ H s)(h:H p=some (.lst xs)) :
  ∃ (its:List Value) (n:Nat),Vals xs its∧s.heap.get? p=some { cls:=.type "list",data:=.seq its.toArray n }∧xs.length≤sizeLine:=by
 obtain⟨z,its,n,r,e⟩:=I.hok p _ h
 exact⟨its,n,r,e,z⟩
theorem Inv.lstUpd{pins:List (Addr×Obj)}{σ:St}{H:Hp}{s:Shared}{p:Addr}{xs ys:List V}{its its':List Value}{n n':Nat}{f:Obj→Obj}(I:Inv X pins σ H s)(h:H p=some (.lst xs))
  (ho:s.heap.get? p=some { cls:=.type "list",data:=.seq its.toArray n }) (hf:f { cls:=.type "list",data:=.seq its.toArray n }={ cls:=.type "list",data:=.seq its'.toArray n' }) (r:Vals ys its') (hz:ys.length≤sizeLine) (t:Nat) :
  Inv X pins σ (upd H p (.lst ys)) { s with heap:=s.heap.update p f,toks:=t }:=by
 have e:(s.heap.update p f).get? p=some { cls:=.type "list",data:=.seq its'.toArray n' }:=by
  rw[Heap.get?_update_self f ho (by rw[hf] <;> rfl),hf]
 refine I.write (x:=p) (e:=p) (by rw[h]; trivial) (.inl rfl) (fun b u hb q=>(Heap.get?_update_other _ _ (Ne.symm hb)).trans q) ⟨_,e⟩ ?_
 exact⟨hz,its',n',r,e⟩
def rSetL:V→V→V→Hp→(Hp→Prop)→Prop:=fun o i v H Q=>∃ p xs k j,o = .ref p∧i = .int k∧H p=some (.lst xs)∧ixN xs.length k=some j∧Q (upd H p (.lst (xs.set j v)))
theorem set_list:PSet X rSetL:=by
 intro pins s σ H o i v ov iv u Q I ro ri rv h
 obtain⟨p,xs,k,j,rfl,rfl,hp,hj,q⟩:=h
 cases ro
 obtain⟨t,rfl⟩:=ri
 obtain⟨its,n,r,ho,hz⟩:=I.lst hp
 obtain⟨h1,h2,h3,h4⟩:=ixN_seq hj
 have hl:=r.length
 have hn:=line63
 have I':Inv X pins σ (upd H p (.lst (xs.set j v))) { s with heap:=s.heap.update p (Obj.mapSeq (·.setIfInBounds j u)) } :=
  I.lstUpd hp ho (mapSeq_set its n j u) (r.set rv j) (by rw[List.length_set]; exact hz) s.toks
 by_cases h0:0≤k
 ·have hk:k.toNat=j:=by
   rw[seqIndex_of h0 h4]at h1
   exact Option.some.inj h1
  exact PySem.W.ki_setAt ho h0 (by ac_rfl) (by rw[List.size_toArray,← hl]; exact h4) (by rw[hk]; exact⟨_,I',q⟩)
 ·have hk:(k+(its.toArray.size:Int)).toNat=j:=by
   rw[seqIndex_neg (by ac_rfl) h3]at h1
   rw[List.size_toArray,← hl]
   exact Option.some.inj h1
  exact PySem.W.ki_setBack ho (by ac_rfl) (by rw[List.size_toArray,← hl]; exact h3) (by ac_rfl) (by rw[hk]; exact⟨_,I',q⟩)
theorem slice_bounds(lo hi:Option Int)(n:Nat):(sliceBounds lo hi none n).1=((HT.sIx n 0 lo:Nat):Int)∧(sliceBounds lo hi none n).2.1=((HT.sIx n n hi:Nat):Int)∧(sliceBounds lo hi none n).2.2=1:=by
 refine⟨?_,?_,rfl⟩
 ·cases lo with
  | none=>simp[sliceBounds,HT.sIx]
  | some i =>
   simp only[sliceBounds,HT.sIx,Option.getD_none,show(1:Int) > 0 by decide,if_true]
   by_cases h:i<0
   ·simp only[h,if_true] <;> ac_rfl
   ·simp only[h,if_false] <;> ac_rfl
 ·cases hi with
  | none=>simp[sliceBounds,HT.sIx]
  | some i =>
   simp only[sliceBounds,HT.sIx,Option.getD_none,show(1:Int) > 0 by decide,if_true]
   by_cases h:i<0
   ·simp only[h,if_true] <;> ac_rfl
   ·simp only[h,if_false] <;> ac_rfl
theorem slicePick_cut(its:List Value)(lo hi:Option Int):slicePick its.toArray lo hi none=((its.drop (HT.sIx its.length 0 lo)).take (HT.sIx its.length its.length hi-HT.sIx its.length 0 lo)).toArray:=by
 obtain⟨h1,h2,h3⟩:=slice_bounds lo hi its.toArray.size
 unfold slicePick
 rw[h1,h2,h3]
 simp only[sliceRange_one,pick_run,List.size_toArray] <;> rfl
def rSlL(K:PySem.W.Frag):V→Option Int→Option Int→Hp→VK→Prop:=fun x lo hi H Q=>∃ a xs,x = .ref a∧SqL K H a xs∧∀ p,H p=none→Q (.ref p) (upd H p (.lst (cutV xs lo hi)))
theorem sl_list:SlR X (rSlL X.K):=by
 intro pins s σ H x v vl vu lo hi sl Q I rx hs pl pu h
 obtain⟨a,xs,rfl,hx,q⟩:=h
 cases rx
 obtain⟨its,r,ht,hz⟩:=I.list hx
 have hlen:=r.length
 refine⟨"list",_,slot_list_getitem.lookup,ht.isList.typeIs,?_⟩
 refine wpAny_getItem_list_slice ht.isList hs pl pu .none (by simp) ?_ (by rw[List.size_toArray] <;> ac_rfl)
 rw[slicePick_cut,← hlen]
 refine⟨.ref s.heap.objs.size,_,I.laid (t':=s.toks) (o:=.lst (cutV xs lo hi)) (fun b ob q=>Heap.get?_push_of_some _ q) (Nat.le_refl _) ?_,rfl,q _ (I.hok.fresh (Nat.le_refl _))⟩
 exact⟨Nat.le_trans (cutV_length xs lo hi) hz,_,0,(r.drop (HT.sIx xs.length 0 lo)).take (HT.sIx xs.length xs.length hi-HT.sIx xs.length 0 lo),Heap.get?_push_size _ rfl⟩
def flatV:V→Bool
 | .non=>true
 | .bl _=>true
 | .int _=>true
 | .str _=>true
 | _=>false
def eqV:V→V→Bool
 | .non,.non=>true
 | .bl a,.bl b=>a == b
 | .bl a,.int b=>(if a then 1 else 0) == b
 | .int a,.bl b=>a == (if b then 1 else 0)
 | .int a,.int b=>a == b
 | .str a,.str b=>a == b
 | _,_=>false
theorem eqAt_V{A:Around}{s:Shared}{y x:V}{u v:Value}(ry:RelV y u)(rx:RelV x v)(fy:flatV y=true)(fx:flatV x=true):SeqAt.EqAt A s u v (eqV y x):=by
 cases y with
 | non =>
  cases ry
  cases x with
  | non=>cases rx; exact SeqAt.EqAt.same _
  | bl b=>cases rx; exact SeqAt.EqAt.none_bool b
  | int b=>obtain⟨t,rfl⟩:=rx; exact SeqAt.EqAt.none_int b t
  | str b=>obtain⟨t,rfl⟩:=rx; exact SeqAt.EqAt.none_str b t
  | _=>exact absurd (show false=true from fx) Bool.false_ne_true
 | bl a =>
  cases ry
  cases x with
  | non=>cases rx; exact SeqAt.EqAt.bool_none a
  | bl b=>cases rx; exact SeqAt.EqAt.bool_bool a b
  | int b=>obtain⟨t,rfl⟩:=rx; exact SeqAt.EqAt.bool_int a b t
  | str b=>obtain⟨t,rfl⟩:=rx; exact SeqAt.EqAt.bool_str a b t
  | _=>exact absurd (show false=true from fx) Bool.false_ne_true
 | int a =>
  obtain⟨t',rfl⟩:=ry
  cases x with
  | non=>cases rx; exact SeqAt.EqAt.int_none a t'
  | bl b=>cases rx; exact SeqAt.EqAt.int_bool a t' b
  | int b=>obtain⟨t,rfl⟩:=rx; exact SeqAt.EqAt.int_int a t' b t
  | str b=>obtain⟨t,rfl⟩:=rx; exact SeqAt.EqAt.int_str a t' b t
  | _=>exact absurd (show false=true from fx) Bool.false_ne_true
 | str a =>
  obtain⟨t',rfl⟩:=ry
  cases x with
  | non=>cases rx; exact SeqAt.EqAt.str_none a t'
  | bl b=>cases rx; exact SeqAt.EqAt.str_bool a t' b
  | int b=>obtain⟨t,rfl⟩:=rx; exact SeqAt.EqAt.str_int a t' b t
  | str b=>obtain⟨t,rfl⟩:=rx; exact SeqAt.EqAt.str_str a t' b t
  | _=>exact absurd (show false=true from fx) Bool.false_ne_true
 | _=>exact absurd (show false=true from fy) Bool.false_ne_true
def eqU(x:V)(u:Value):Bool:=match u with
 | .none=>eqV .non x
 | .bool b=>eqV (.bl b) x
 | .int i _=>eqV (.int i) x
 | .str z _=>eqV (.str z) x
 | _=>false
theorem eqU_of{x y:V}{u:Value}(r:RelV y u)(f:flatV y=true):eqU x u=eqV y x:=by
 cases y with
 | non=>cases r; rfl
 | bl b=>cases r; rfl
 | int i=>obtain⟨t,rfl⟩:=r; rfl
 | str z=>obtain⟨t,rfl⟩:=r; rfl
 | _=>exact absurd (show false=true from f) Bool.false_ne_true
theorem any_eqU{x:V}:∀ {xs:List V} {us:List Value},Vals xs us→xs.all flatV=true→us.any (eqU x)=xs.any fun y=>eqV y x
 | _,_,.nil,_=>rfl
 | y::xs,u::us,.cons r t,f=>by
  rw[List.all_cons,Bool.and_eq_true]at f
  rw[List.any_cons,List.any_cons,eqU_of r f.1,any_eqU t f.2]
theorem mem_eqAt{A:Around}{s:Shared}{x:V}{v:Value}(rx:RelV x v)(fx:flatV x=true):∀ {xs:List V} {us:List Value},Vals xs us→xs.all flatV=true→∀ u∈us,SeqAt.EqAt A s u v (eqU x u)
 | _,_,.nil,_=>fun u hu=>by cases hu
 | y::xs,u::us,.cons r t,f=>fun u' hu=>by
  rw[List.all_cons,Bool.and_eq_true]at f
  rcases List.mem_cons.mp hu with rfl | hu
  ·rw[eqU_of r f.1]; exact eqAt_V r rx f.1 fx
  ·exact mem_eqAt rx fx t f.2 u' hu
def inV(x:V)(xs:List V):Bool:=xs.any fun y=>eqV y x
def rIn(K:PySem.W.Frag)(neg:Bool):R2:=fun x y H Q=>∃ p xs,y = .ref p∧(SqL K H p xs∨SqT K H p xs)∧flatV x=true∧xs.all flatV=true∧Q (.bl (if neg then !inV x xs else inV x xs)) H
theorem op_in_seq:OpR X (compareOp .In) (rIn X.K false):=by
 intro pins s σ H x y v u Q I rx ry h
 obtain⟨p,xs,rfl,hq,fx,fs,q⟩:=h
 cases ry
 rcases hq with hq | hq
 ·obtain⟨its,r,pl,hz⟩:=I.list hq
  refine SeqAt.in_listAt (eqU x) pl.isList (fun w hw=>mem_eqAt rx fx r fs w (by simpa using hw)) ⟨.bl _,H,I,rfl,?_⟩
  rw[show its.toArray.any (eqU x)=its.any (eqU x) by simp,any_eqU r fs]
  exact q
 ·obtain⟨its,r,pl,hz⟩:=I.tuple hq
  refine SeqAt.in_tupleAt (eqU x) pl (fun w hw=>mem_eqAt rx fx r fs w (by simpa using hw)) ⟨.bl _,H,I,rfl,?_⟩
  rw[show its.toArray.any (eqU x)=its.any (eqU x) by simp,any_eqU r fs]
  exact q
theorem CallR.or{f:Value}{r r':List V→Hp→VK→Prop}(h:CallR X f r)(h':CallR X f r'):CallR X f (fun xs H Q=>r xs H Q∨r' xs H Q):=by
 intro pins s σ H xs us Q I rs q
 rcases q with q | q
 ·exact h pins s σ H xs us Q I rs q
 ·exact h' pins s σ H xs us Q I rs q
theorem call_list_of:CallR X (.type "list") (fun xs H Q=>∃ p ys,xs=[.ref p]∧(SqL X.K H p ys∨SqT X.K H p ys)∧∀ l,H l=none→Q (.ref l) (upd H l (.lst ys))):=by
 intro pins s σ H xs us Q I r h
 obtain⟨p,ys,rfl,hq,q⟩:=h
 obtain⟨u,rfl,rx⟩:=vals1 r
 cases rx
 have fin:∀ (its:List Value),Vals ys its→ys.length≤sizeLine→∀ (h':Heap) (c':Nat),(∀ b o',s.heap.get? b=some o'→h'.get? b=some o') →
   h'.get? s.heap.objs.size=some { cls:=.type "list",dict:=none,data:=.seq its.toArray c',slots:=#[] }→EP X pins σ Q (.ref s.heap.objs.size) { s with heap:=h' }:=fun its r' hz h' c' kp e =>
  ⟨.ref s.heap.objs.size,_,I.laid (t':=s.toks) kp (Nat.le_refl _) (show ObjOk X.prog X.w _ h' _ (.lst ys)from⟨hz,its,c',r',e⟩),rfl,q _ (I.hok.fresh (Nat.le_refl _))⟩
 rcases hq with hq | hq
 ·obtain⟨its,r',pl,hz⟩:=I.list hq
  have hlen:=r'.length
  obtain⟨o,ho,hc,n,hd⟩:=pl.isList
  exact call_list_seq p (.inl rfl) ho hc hd (fun h' c' kp e=>fin its r' hz h' c' kp e) (by simp only[List.size_toArray] <;> ac_rfl)
 ·obtain⟨its,r',pl,hz⟩:=I.tuple hq
  have hlen:=r'.length
  obtain⟨o,ho,hc,n,hd⟩:=pl
  exact call_list_seq p (.inr rfl) ho hc hd (fun h' c' kp e=>fin its r' hz h' c' kp e) (by simp only[List.size_toArray] <;> ac_rfl)
theorem call_tuple_of:CallR X (.type "tuple") (fun xs H Q=>∃ p ys,xs=[.ref p]∧((SqL X.K H p ys∧∀ l,H l=none→Q (.ref l) (upd H l (.tup ys)))∨(SqT X.K H p ys∧Q (.ref p) H))):=by
 intro pins s σ H xs us Q I r h
 obtain⟨p,ys,rfl,h⟩:=h
 obtain⟨u,rfl,rx⟩:=vals1 r
 cases rx
 rcases h with⟨hq,q⟩ | ⟨hq,q⟩
 ·obtain⟨its,r',pl,hz⟩:=I.list hq
  have hlen:=r'.length
  refine call_tuple_list pl.isList (fun h' kp=>?_) (by simp only[List.size_toArray] <;> ac_rfl)
  have I1:Inv X pins σ H { s with heap:=h' }:=I.kept (t':=s.toks) kp
  have I2:Inv X pins σ (upd H h'.objs.size (.tup ys)) { s with heap:=h'.push { cls:=.type "tuple",data:=.seq its.toArray } } :=
   I1.laid (t':=s.toks) (fun b o e=>Heap.get?_push_of_some _ e) (Nat.le_refl _) (show ObjOk X.prog X.w _ _ _ (.tup ys)from⟨hz,its,r',IsTupD.new _ _⟩)
  exact⟨.ref h'.objs.size,_,I2,rfl,q _ (I1.hok.fresh (Nat.le_refl _))⟩
 ·obtain⟨its,r',pl,hz⟩:=I.tuple hq
  exact call_tuple_same pl ⟨.ref p,H,I,rfl,q⟩
def tyV(K:PySem.W.Frag)(T:String)(x:V)(H:Hp):Prop:=match x with
 | .str _=>T = "str"
 | .int _=>T = "int"
 | .ref p=>(T = "list"∧∃ xs,SqL K H p xs)∨(T = "tuple"∧∃ o,K.lookup p=some o∧o.cls = .type "tuple"∧o.dict=none) ∨
   (T = "dict"∧((∃ kvs,H p=some (.dK kvs))∨∃ kvs,H p=some (.dT kvs)))∨(T = "set"∧∃ S n,H p=some (.set S n))
 | _=>False
theorem tyV_is{pins:List (Addr×Obj)}{σ:St}{H:Hp}{s:Shared}{T:String}{x:V}{v:Value}(I:Inv X pins σ H s)(r:RelV x v)(ty:tyV X.K T x H) :
  s.TypeIs v T∧∀ a,v = .ref a→∃ ob,s.heap.get? a=some ob∧ob.dict=none:=by
 cases x with
 | str z =>
  obtain⟨t,rfl⟩:=r
  cases (show T = "str" from ty)
  exact⟨typeIs_str s z t,fun _ e=>nomatch e⟩
 | int i =>
  obtain⟨t,rfl⟩:=r
  cases (show T = "int" from ty)
  exact⟨typeIs_int s i t,fun _ e=>nomatch e⟩
 | ref p =>
  cases r
  rcases ty with⟨rfl,xs,hq⟩ | ⟨rfl,o,hk,hc,hd⟩ | ⟨rfl,hk⟩ | ⟨rfl,S,n,hk⟩
  ·obtain⟨its,_,pl,_⟩:=I.list hq
   refine⟨pl.isList.typeIs,fun a e=>?_⟩
   cases e
   obtain⟨o,n,e,c,hd,_⟩:=pl
   exact⟨o,e,hd⟩
  ·refine⟨⟨o,I.kIn p o hk,hc⟩,fun a e=>?_⟩
   cases e
   exact⟨o,I.kIn _ o hk,hd⟩
  ·have z:∃ o,s.heap.get? p=some o∧o.ExactDict:=by
    rcases hk with⟨kvs,hk⟩ | ⟨kvs,hk⟩
    ·obtain⟨_,_,_,_,o,_,_,e,ex,_⟩:=I.hok p _ hk
     exact⟨o,e,ex⟩
    ·obtain⟨_,_,_,_,o,_,_,e,ex,_⟩:=I.hok p _ hk
     exact⟨o,e,ex⟩
   obtain⟨o,e,ex⟩:=z
   refine⟨⟨o,e,ex.1⟩,fun a e2=>?_⟩
   cases e2
   exact⟨o,e,ex.2.1⟩
  ·obtain⟨o,_,_,_,e,ex,_⟩:=I.hok p _ hk
   refine⟨⟨o,e,ex.1⟩,fun a e2=>?_⟩
   cases e2
   exact⟨o,e,ex.2.1⟩
 | _=>exact False.elim ty
def tBM0(K:PySem.W.Frag)(T:String)(r:V→List V→Hp→VK→Prop)(to:TE):TE:=fun σ H Q=>to σ H fun x H1=>tyV K T x H1∧r x [] H1 Q
def tBM(K:PySem.W.Frag)(T:String)(r:V→List V→Hp→VK→Prop)(to:TE)(t:TA):TE:=fun σ H Q=>to σ H fun x H1=>tyV K T x H1∧t σ H1 fun xs H2=>r x xs H2 Q
variable{o e:Expr}{es:List Expr}{to:TE}{t:TA}{name:Str}{apos cpos:Pos}{T id:String}{r:V→List V→Hp→VK→Prop}
theorem pe_bm0(pa:PlainAttrs T)(slot:Slot T name id)(hty:typeOf (.builtin id)=pure (.type "method_descriptor"))(hm:MtR X id r)(ho:PE X o to)
  (hbase:attributeBase o name X.env (eval o X.env)=eval o X.env:=by rfl) (hline:(apos.endLine == cpos.line)=true:=by rfl):PE X (.Call (.Attribute o name apos) [] [] cpos) (tBM0 X.K T r to):=by
 intro pins s σ H Q I h
 refine wpAny_Call_method0_late hbase hline (thn (ho pins s σ H _ I h) fun v s1 ⟨x,H1,I1,r1,ty,q1⟩=>?_)
 obtain⟨h1,h2⟩:=tyV_is I1 r1 ty
 exact⟨T,id,pa,slot,hty,h1,h2,Calls.callWith_builtin rfl (PySem.evalArgs_none (hm pins s1 σ H1 x [] v [] Q I1 r1 .nil q1))⟩
theorem pe_bm(pa:PlainAttrs T)(slot:Slot T name id)(hty:typeOf (.builtin id)=pure (.type "method_descriptor"))(hm:MtR X id r)(ho:PE X o to)(ha:PA X (e::es) t)
  (hbase:attributeBase o name X.env (eval o X.env)=eval o X.env:=by rfl)
  (hfew:((backTo cpos (starEach (e::es) X.env)).all (fun x=>!x.1) && (backToKw cpos (keywordEach [] X.env)).all (fun x=>x.1.isSome)
   && decide ((e::es).length+([]:List Keyword).length+(if([]:List Keyword).isEmpty then 0 else 1)<30))=true:=by rfl)
  (hline:(apos.endLine == cpos.line)=true:=by rfl) (hs:starEach (e::es) X.env=(false,eval e X.env)::starEach es X.env:=by rfl) (hplain:(backTo cpos (starEach es X.env)).any (·.1)=false:=by rfl) :
  PE X (.Call (.Attribute o name apos) (e::es) [] cpos) (tBM X.K T r to t):=by
 intro pins s σ H Q I h
 refine wpAny_Call_method_late hbase hfew hline rfl (thn (ho pins s σ H _ I h) fun v s1 ⟨x,H1,I1,r1,ty,q1⟩=>?_)
 obtain⟨h1,h2⟩:=tyV_is I1 r1 ty
 refine⟨T,id,pa,slot,hty,h1,h2,?_⟩
 have hA:=ha cpos pins s1 σ H1 _ I1 q1
 rw[hs]at hA ⊢
 refine Calls.callWith_builtin (by show(false || (backTo cpos (starEach es X.env)).any (·.1))=false; rw[hplain] <;> rfl) (Calls.evalArgs_plain ?_)
 exact thn hA fun us s2 ⟨vs,H2,I2,r2,q2⟩=>hm pins s2 σ H2 x vs v us Q I2 r1 r2 q2
end
end L2
namespace L2
open PySem PySem.Spec PyProof.Rows
def MtM(X:Cx)(id:String)(r:V→List V→Hp→VK→Prop):Prop :=
 ∀ (pins:List (Addr×Obj)) (s:Shared) (σ:St) (H:Hp) (x:V) (xs:List V) (v:Value) (us:List Value) (Q:VK),Inv X pins σ H s→RelV x v→Vals xs us→r x xs H Q →
  wpAny (model X.prog X.w) X.A (call (.builtin id) (v::us)) (EP X pins σ Q) X.xe s
theorem Vals.one:∀ {x:V} {us:List Value},Vals [x] us→∃ u,us=[u]∧RelV x u
 | _,_,.cons r .nil=>⟨_,rfl,r⟩
theorem Vals.zero:∀ {us:List Value},Vals [] us→us=[]
 | _,.nil=>rfl
theorem Vals.dropLast{xs:List V}{us:List Value}(h:Vals xs us):Vals xs.dropLast us.dropLast:=by
 induction h with
 | nil=>exact .nil
 | cons r t ih =>
  cases t with
  | nil=>exact .nil
  | cons q t'=>exact .cons r ih
theorem Vals.eraseIdx:∀ {xs:List V} {us:List Value} (i:Nat),Vals xs us→Vals (xs.eraseIdx i) (us.eraseIdx i)
 | _,_,_,.nil=>.nil
 | _,_,0,.cons _ t=>t
 | _,_,i+1,.cons r t=>.cons r (Vals.eraseIdx i t)
theorem Vals.reverse{xs:List V}{us:List Value}(h:Vals xs us):Vals xs.reverse us.reverse:=by
 induction h with
 | nil=>exact .nil
 | cons r t ih=>rw[List.reverse_cons,List.reverse_cons]; exact Vals.append ih (.cons r .nil)
theorem Vals.rep{xs:List V}{us:List Value}(h:Vals xs us):∀ k:Nat,Vals (List.replicate k xs).flatten (List.replicate k us).flatten
 | 0=>.nil
 | k+1=>by
  rw[List.replicate_succ,List.replicate_succ,List.flatten_cons,List.flatten_cons]
  exact Vals.append h (Vals.rep h k)
theorem foldl_rep(its:List Value):∀ (k:Nat) (acc:List Value),
  List.foldl (fun x1 x2=>x1++x2) acc.toArray (List.replicate k its.toArray)=(acc++(List.replicate k its).flatten).toArray
 | 0,acc=>by simp
 | k+1,acc=>by
  have e:acc.toArray++its.toArray=(acc++its).toArray:=by simp
  have e2:(acc++its)++(List.replicate k its).flatten=acc++(List.replicate (k+1) its).flatten:=by
   rw[List.replicate_succ,List.flatten_cons,List.append_assoc]
  rw[← e2,← foldl_rep its k (acc++its),← e,List.replicate_succ,List.foldl_cons]
section
variable{X:Cx}{pins:List (Addr×Obj)}{σ:St}{H:Hp}{s:Shared}{l b:Addr}{xs ys zs:List V}
theorem Inv.lset{its its':List Value}{n:Nat}{f:Array Value→Array Value}{t':Nat}(I:Inv X pins σ H s)(hH:H l=some (.lst xs))
  (e:s.heap.get? l=some { cls:=.type "list",data:=.seq its.toArray n }) (hf:f its.toArray=its'.toArray) (hv:Vals ys its') (hz:ys.length≤sizeLine) :
  Inv X pins σ (upd H l (.lst ys)) { s with heap:=s.heap.update l (Obj.mapSeq f),toks:=t' }:=by
 have q:=PySem.IsL.update e f
 rw[hf]at q
 refine I.write (x:=l) (e:=l) (by rw[hH]; exact trivial) (.inl rfl) (fun b' u hb hu=>(Heap.get?_update_other s.heap (Obj.mapSeq f) (Ne.symm hb)).trans hu) ⟨_,q⟩ ?_
 exact⟨hz,its',_,hv,q⟩
theorem Inv.lnew{its:List Value}{t':Nat}(I:Inv X pins σ H s)(hv:Vals ys its)(hz:ys.length≤sizeLine) :
  Inv X pins σ (upd H s.heap.objs.size (.lst ys)) { s with heap:=s.heap.push { cls:=.type "list",data:=.seq its.toArray },toks:=t' } :=
 I.laid (fun _ _ q=>Heap.get?_push_of_some _ q) (Nat.le_refl _) ⟨hz,its,0,hv,Heap.get?_push_size _ rfl⟩
theorem Inv.fresh(I:Inv X pins σ H s):H s.heap.objs.size=none:=I.hok.fresh (Nat.le_refl _)
theorem Inv.lstM(I:Inv X pins σ H s)(hH:H l=some (.lst xs)):xs.length≤sizeLine∧∃ (its:List Value) (n:Nat),Vals xs its∧xs.length=its.length∧s.heap.get? l=some { cls:=.type "list",data:=.seq its.toArray n }:=by
 obtain⟨z,its,n,r,e⟩:=I.hok l _ hH
 exact⟨z,its,n,r,r.length,e⟩
theorem notLongL{n:Nat}(h:n≤sizeLine):Builtin.List.listTooLong n=false:=by
 unfold Builtin.List.listTooLong
 exact decide_eq_false (by ac_rfl)
end
section
variable{X:Cx}
def rAppend:V→List V→Hp→VK→Prop:=fun x vs H Q=>∃ l xs y,x = .ref l∧vs=[y]∧H l=some (.lst xs)∧xs.length<sizeLine∧Q .non (upd H l (.lst (xs++[y])))
theorem mt_append:MtM X "list.append" rAppend:=by
 intro pins s σ H x vs v us Q I rx rv h
 obtain⟨l,xs,y,rfl,rfl,hH,hz,q⟩:=h
 cases rx
 obtain⟨u,rfl,ru⟩:=rv.one
 obtain⟨z,its,n,r,hl,e⟩:=I.lstM hH
 refine call_meets F.slot_list_append ⟨_,e,rfl⟩ F.entry_list_append (F.args_list_append_2 _ _) (PySem.list_append l its.toArray n u (by rw[List.size_toArray]; ac_rfl)) ⟨e,?_⟩
 refine⟨.non,_,I.lset (its':=its++[u]) hH e (by simp) (r.append (.cons ru .nil)) ?_,rfl,q⟩
 rw[List.length_append,List.length_singleton]
 ac_rfl
theorem len_rep{α:Type}(xs:List α)(k:Nat):(List.replicate k xs).flatten.length=k * xs.length:=by
 induction k with
 | zero=>simp
 | succ k ih=>rw[List.replicate_succ,List.flatten_cons,List.length_append,ih,Nat.succ_mul,Nat.add_comm]
end
end L2
namespace L2
open PySem PySem.Spec PyProof.Rows
section
variable{κ:Type}[DecidableEq κ]
def valV(kvs:List (κ×V))(k:κ):Option V:=(kvs.find? fun kv=>decide (kv.1=k)).map (·.2)
def putK(kvs:List (κ×V))(k:κ)(v:V):List (κ×V) :=
 if(kvs.any fun kv=>decide (kv.1=k))=true then kvs.map (fun kv=>if kv.1=k then(kv.1,v)else kv)else kvs++[(k,v)]
theorem valV_pos{p:κ×V}{r:List (κ×V)}{k:κ}(e:p.1=k):valV (p::r) k=some p.2:=by simp[valV,List.find?_cons,e]
theorem valV_neg{p:κ×V}{r:List (κ×V)}{k:κ}(e:¬ p.1=k):valV (p::r) k=valV r k:=by simp[valV,List.find?_cons,e]
theorem valV_any(k:κ):∀ kvs:List (κ×V),(kvs.any fun kv=>decide (kv.1=k))=(valV kvs k).isSome
 | []=>rfl
 | p::r=>by
  rw[List.any_cons]
  by_cases e:p.1=k
  ·simp only[valV_pos e,decide_eq_true e,Bool.true_or,Option.isSome_some]
  ·rw[valV_neg e,decide_eq_false e,Bool.false_or]; exact valV_any k r
theorem length_putK(kvs:List (κ×V))(k:κ)(v:V):(putK kvs k v).length≤kvs.length+1:=by
 unfold putK
 split
 ·rw[List.length_map]; ac_rfl
 ·rw[List.length_append,List.length_cons,List.length_nil]; ac_rfl
theorem RelO.isSome_eq{o:Option V}{u:Option Value}(r:RelO o u):o.isSome=u.isSome:=by
 cases o with
 | none=>cases u with
  | none=>rfl
  | some _=>exact(show False from r).elim
 | some _=>cases u with
  | none=>exact(show False from r).elim
  | some _=>rfl
theorem RelO.getD{o:Option V}{u:Option Value}{d:V}{d':Value}(r:RelO o u)(rd:RelV d d'):RelV (o.getD d) (u.getD d'):=by
 cases o with
 | none=>cases u with
  | none=>exact rd
  | some _=>exact(show False from r).elim
 | some _=>cases u with
  | none=>exact(show False from r).elim
  | some _=>exact r
theorem KV.val{kvs:List (κ×V)}{vs:List (κ×Value)}(r:KV kvs vs)(k:κ):RelO (valV kvs k) (valueAt vs k):=by
 unfold KV at r
 induction r with
 | nil=>exact True.intro
 | @cons p q ps qs h t ih =>
  obtain⟨h1,h2⟩:=h
  by_cases e:p.1=k
  ·have e':q.1=k:=h1.symm.trans e
   have b:valueAt (q::qs) k=some q.2:=by simp[valueAt,List.find?_cons,e']
   rw[valV_pos e,b]; exact h2
  ·have e':¬ q.1=k:=fun z=>e (h1.trans z)
   have b:valueAt (q::qs) k=valueAt qs k:=by simp[valueAt,List.find?_cons,e']
   rw[valV_neg e,b]; exact ih
theorem KV.any{kvs:List (κ×V)}{vs:List (κ×Value)}(r:KV kvs vs)(k:κ):(kvs.any fun kv=>decide (kv.1=k))=vs.any fun kv=>decide (kv.1=k):=by
 unfold KV at r
 induction r with
 | nil=>rfl
 | cons h t ih=>rw[List.any_cons,List.any_cons,ih,h.1]
theorem KV.repl{kvs:List (κ×V)}{vs:List (κ×Value)}(r:KV kvs vs)(k:κ){y:V}{u:Value}(ry:RelV y u) :
  KV (kvs.map fun kv=>if kv.1=k then(kv.1,y)else kv) (vs.map fun kv=>if kv.1=k then(kv.1,u)else kv):=by
 unfold KV at r ⊢
 induction r with
 | nil=>exact .nil
 | @cons p q ps qs h t ih =>
  rw[List.map_cons,List.map_cons]
  refine .cons ?_ ih
  obtain⟨h1,h2⟩:=h
  by_cases e:p.1=k
  ·rw[if_pos e,if_pos (h1.symm.trans e)]; exact⟨h1,ry⟩
  ·rw[if_neg e,if_neg (fun z=>e (h1.trans z))]; exact⟨h1,h2⟩
theorem KV.put{kvs:List (κ×V)}{vs:List (κ×Value)}(r:KV kvs vs)(k:κ){y:V}{u:Value}(ry:RelV y u):KV (putK kvs k y) (stored vs k u):=by
 unfold putK stored
 rw[r.any k]
 by_cases e:(vs.any fun kv=>decide (kv.1=k))=true
 ·rw[if_pos e,if_pos e]; exact r.repl k ry
 ·rw[if_neg e,if_neg e]; exact Paired.snoc r ⟨rfl,ry⟩
theorem KV.keys{kvs:List (κ×V)}{vs:List (κ×Value)}(r:KV kvs vs):kvs.map (·.1)=vs.map (·.1):=by
 unfold KV at r
 induction r with
 | nil=>rfl
 | cons h t ih=>rw[List.map_cons,List.map_cons,ih,h.1]
theorem KV.length{kvs:List (κ×V)}{vs:List (κ×Value)}(r:KV kvs vs):kvs.length=vs.length:=Paired.length r
end
theorem kV_is{P:Program}{w:World}{k:Key}{u:Value}(r:RelV (kV k) u):(mixKind P w).is k u=true:=by
 cases k with
 | inl i=>obtain⟨t,e⟩:=(show ∃ t,u=Value.int i t from r); subst e; exact mixKind_int P w i t
 | inr x=>obtain⟨t,e⟩:=(show ∃ t,u=Value.str x t from r); subst e; exact mixKind_str P w x t
theorem items_are{P:Program}{w:World}:∀ {ks:List Key} {us:List Value},Vals (ks.map kV) us→ItemsAre (mixKind P w) ks us
 | [],_,r=>by rw[List.map_nil]at r; cases r; exact .nil
 | k::ks,_,r=>by
  rw[List.map_cons]at r
  cases r with
  | cons h t=>exact .cons (kV_is h) (items_are t)
noncomputable abbrev KT(H:Hp):List (List Key×V)→List (List Key×Addr×Value)→Prop:=Paired fun p q=>p.1=q.1∧H q.2.1=some (.tup (p.1.map kV))∧RelV p.2 q.2.2
theorem KT.val{H:Hp}{kvs:List (List Key×V)}{xs:List (List Key×Addr×Value)}(r:KT H kvs xs)(k:List Key):RelO (valV kvs k) ((atKey xs k).map (·.2)):=by
 induction r with
 | nil=>exact True.intro
 | @cons p q ps qs h t ih =>
  obtain⟨h1,_,h2⟩:=h
  by_cases e:p.1=k
  ·have e':q.1=k:=h1.symm.trans e
   have b:atKey (q::qs) k=some q.2:=by simp[atKey,List.find?_cons,e']
   rw[valV_pos e,b]; exact h2
  ·have e':¬ q.1=k:=fun z=>e (h1.trans z)
   have b:atKey (q::qs) k=atKey qs k:=by simp[atKey,List.find?_cons,e']
   rw[valV_neg e,b]; exact ih
theorem KT.repl{H:Hp}{kvs:List (List Key×V)}{xs:List (List Key×Addr×Value)}(r:KT H kvs xs)(k:List Key){y:V}{u:Value}(ry:RelV y u) :
  KT H (kvs.map fun kv=>if kv.1=k then(kv.1,y)else kv) (xs.map (putAt k u)):=by
 induction r with
 | nil=>exact .nil
 | @cons p q ps qs h t ih =>
  rw[List.map_cons,List.map_cons]
  refine .cons ?_ ih
  obtain⟨h1,h2,h3⟩:=h
  unfold putAt
  by_cases e:p.1=k
  ·rw[if_pos e,if_pos (h1.symm.trans e)]; exact⟨h1,h2,ry⟩
  ·rw[if_neg e,if_neg (fun z=>e (h1.trans z))]; exact⟨h1,h2,h3⟩
theorem KT.put{H:Hp}{kvs:List (List Key×V)}{xs:List (List Key×Addr×Value)}(r:KT H kvs xs)(k:List Key){b:Addr}{y:V}{u:Value}(hb:H b=some (.tup (k.map kV)))(ry:RelV y u) :
  KT H (putK kvs k y) (storedH xs k b u):=by
 have e:(kvs.any fun kv=>decide (kv.1=k))=(atKey xs k).isSome:=by
  rw[valV_any,(r.val k).isSome_eq,Option.isSome_map]
 unfold putK storedH
 rw[e]
 by_cases q:(atKey xs k).isSome=true
 ·rw[if_pos q,if_pos q]; exact r.repl k ry
 ·rw[if_neg q,if_neg q]; exact Paired.snoc r ⟨rfl,hb,ry⟩
theorem KT.keeps{H H':Hp}{kvs:List (List Key×V)}{xs:List (List Key×Addr×Value)}(r:KT H kvs xs)(ht:∀ b ys,H b=some (.tup ys)→H' b=some (.tup ys)):KT H' kvs xs :=
 Paired.mapP r fun _ _ z=>⟨z.1,ht _ _ z.2.1,z.2.2⟩
section
variable{P:Program}{w:World}{H:Hp}{h:Heap}{a:Addr}
theorem rd_of{u:HO}(ok:HOk P w H h)(e:Rd H a u):ObjOk P w H h a u:=e.ok ok
theorem dk_rd{kvs:List (Key×V)}(ok:HOk P w H h)(e:Rd H a (.dK kvs)):kvs.length≤sizeLine∧(a == sysModules)=false∧∃ vs,KV kvs vs∧h.DictOf (mixKind P w) a vs :=
 show ObjOk P w H h a (.dK kvs)from rd_of ok e
theorem dk_of{kvs:List (Key×V)}(ok:HOk P w H h)(e:H a=some (.dK kvs)):kvs.length≤sizeLine∧(a == sysModules)=false∧∃ vs,KV kvs vs∧h.DictOf (mixKind P w) a vs:=dk_rd ok (.inl e)
theorem key_of{ks:List Key}(ok:HOk P w H h)(e:H a=some (.tup (ks.map kV))):(tupleKind (mixKind P w)).is h ks a:=by
 obtain⟨_,its,r,⟨o,h1,h2,n,h3⟩,_⟩:=(show ObjOk P w H h a (.tup (ks.map kV))from ok a _ e)
 exact⟨o,its.toArray,n,h1,h2,h3,by simpa using items_are r⟩
theorem dt_rd{kvs:List (List Key×V)}(ok:HOk P w H h)(e:Rd H a (.dT kvs)):kvs.length≤sizeLine∧(a == sysModules)=false ∧
  ∃ xs,KT H kvs xs∧h.DictOfH (tupleKind (mixKind P w)) a xs:=by
 obtain⟨z,y,xs,r,o,es,ep,h1,h2,h3,h4,h5⟩:=(show ObjOk P w H h a (.dT kvs)from rd_of ok e)
 refine⟨z,y,xs,r,o,es,ep,h1,h2,h3,h4,fun x hx=>?_,h5⟩
 have all:∀ {l:List (List Key×V)} {m:List (List Key×Addr×Value)},KT H l m→∀ x∈m,(tupleKind (mixKind P w)).is h x.1 x.2.1:=by
  intro l m q
  induction q with
  | nil=>intro x hx; exact nomatch hx
  | @cons p q ps qs hq t ih =>
   intro x hx
   rcases List.mem_cons.mp hx with e | hx
   ·subst e
    exact key_of ok (by rw[← hq.1]; exact hq.2.1)
   ·exact ih x hx
 exact all r x hx
theorem dt_of{kvs:List (List Key×V)}(ok:HOk P w H h)(e:H a=some (.dT kvs)):kvs.length≤sizeLine∧(a == sysModules)=false ∧
  ∃ xs,KT H kvs xs∧h.DictOfH (tupleKind (mixKind P w)) a xs:=dt_rd ok (.inl e)
end
def DGet(H:Hp)(a:Addr)(y:V)(r:Option V):Prop :=
 (∃ kvs k,Rd H a (.dK kvs)∧y=kV k∧r=valV kvs k)∨∃ kvs k b,Rd H a (.dT kvs)∧y = .ref b∧H b=some (.tup (k.map kV))∧r=valV kvs k
def DPut(H:Hp)(a:Addr)(y v:V)(H':Hp):Prop :=
 (∃ kvs k,H a=some (.dK kvs)∧y=kV k∧kvs.length<sizeLine∧H'=upd H a (.dK (putK kvs k v))) ∨
 ∃ kvs k b,H a=some (.dT kvs)∧y = .ref b∧H b=some (.tup (k.map kV))∧kvs.length<sizeLine∧H'=upd H a (.dT (putK kvs k v))
theorem DGet.k{H:Hp}{a:Addr}{kvs:List (Key×V)}{k:Key}(e:H a=some (.dK kvs)):DGet H a (kV k) (valV kvs k):=.inl ⟨kvs,k,.inl e,rfl,rfl⟩
theorem DGet.t{H:Hp}{a b:Addr}{kvs:List (List Key×V)}{k:List Key}(e:H a=some (.dT kvs))(eb:H b=some (.tup (k.map kV))):DGet H a (.ref b) (valV kvs k):=.inr ⟨kvs,k,b,.inl e,rfl,eb,rfl⟩
theorem DPut.k{H:Hp}{a:Addr}{kvs:List (Key×V)}{k:Key}{v:V}(e:H a=some (.dK kvs))(hl:kvs.length<sizeLine):DPut H a (kV k) v (upd H a (.dK (putK kvs k v))):=.inl ⟨kvs,k,e,rfl,hl,rfl⟩
theorem DPut.t{H:Hp}{a b:Addr}{kvs:List (List Key×V)}{k:List Key}{v:V}(e:H a=some (.dT kvs))(eb:H b=some (.tup (k.map kV)))(hl:kvs.length<sizeLine) :
  DPut H a (.ref b) v (upd H a (.dT (putK kvs k v))):=.inr ⟨kvs,k,b,e,rfl,eb,hl,rfl⟩
section
variable{X:Cx}{pins:List (Addr×Obj)}{σ:St}{H:Hp}{s:Shared}{a:Addr}{y v:V}{u r:Value}{o:Option V}{A:Around}{E:Value→Shared→Prop}
theorem Inv.big(I:Inv X pins σ H s):sysModules<s.heap.objs.size:=by
 have h:mainGlobals<s.heap.objs.size:=(I.mod.glob.keeps I.bk).lt
 exact Nat.lt_trans (by decide) h
theorem d_getItem{Q:Value→Shared→Prop}(hu:A.units+1<cLine)(I:Inv X pins σ H s)(g:DGet H a y (some v))(ry:RelV y u)(h:∀ w' s',Inv X pins σ H s'→RelV v w'→Q w' s') :
  wpAny (model X.prog X.w) A (getItem (.ref a) u) Q E s:=by
 rcases g with⟨kvs,k,e,ey,l⟩ | ⟨kvs,k,b,e,ey,eb,l⟩
 ·subst ey
  obtain⟨z,hd,vs,rel,dd⟩:=dk_rd I.hok e
  obtain⟨w',hw,rw'⟩:=RelO.some_of (v:=v) (o:=valueAt vs k) (by rw[l]; exact rel.val k)
  exact wpAny_getItem_of (kV_is ry) dd.mapOf hw (h w' _ (I.tok _) rw')
 ·subst ey
  cases (show u=Value.ref b from ry)
  obtain⟨z,hd,xs,rel,dd⟩:=dt_rd I.hok e
  obtain⟨w',hw,rw'⟩:=RelO.some_of (v:=v) (o:=(atKey xs k).map (·.2)) (by rw[l]; exact rel.val k)
  obtain⟨p,hp,hp2⟩:=Option.map_eq_some_iff.mp hw
  refine wpAny_getItem_heap (tupleKind_room_in1 hu) (key_of I.hok eb) dd hp ?_
  rw[hp2]
  exact h w' _ (I.tok _) rw'
theorem d_write{h':Heap}{t':Nat}{ob:HO}(I:Inv X pins σ H s)(mu:Mut (H a))(hs:Heap.SameBut a s.heap h')(he:∃ q,h'.get? a=some q)(new:ObjOk X.prog X.w (upd H a ob) h' a ob) :
  Inv X pins σ (upd H a ob) { s with heap:=h',toks:=t' } :=
 I.write (x:=a) (e:=a) mu (.inl rfl) (fun b q hb z=>(hs.2 b hb).trans z) he new
theorem dk_new{P:Program}{w:World}{H':Hp}{h':Heap}{kvs:List (Key×V)}{vs:List (Key×Value)}(z:kvs.length≤sizeLine)(hd:(a == sysModules)=false)(rel:KV kvs vs)(dd:h'.DictOf (mixKind P w) a vs) :
  ObjOk P w H' h' a (.dK kvs):=⟨z,hd,vs,rel,dd⟩
theorem d_setItem{H':Hp}{Q:Unit→Shared→Prop}(hu:A.units+1<cLine)(I:Inv X pins σ H s)(g:DPut H a y v H')(ry:RelV y u)(rv:RelV v r)(h:∀ s',Inv X pins σ H' s'→Q () s') :
  wpAny (model X.prog X.w) A (setItem (.ref a) u r) Q E s:=by
 rcases g with⟨kvs,k,e,ey,l,eH⟩ | ⟨kvs,k,b,e,ey,eb,l,eH⟩
 ·subst ey eH
  obtain⟨z,hd,vs,rel,dd⟩:=dk_of I.hok e
  have hz:vs.length≤sizeLine:=by rw[← rel.length]; exact z
  have hl:(putK kvs k v).length≤sizeLine:=by have:=length_putK kvs k v; ac_rfl
  refine wpAny_setItem_pairs (hsz:=hz) (kV_is ry) dd fun h' dd' hs=>h _ ?_
  have he:∃ q,h'.get? a=some q:=let ⟨q,_,_,hq,_⟩:=dd'; ⟨q,hq⟩
  exact d_write I (by rw[e]; exact True.intro) hs he (dk_new hl hd (rel.put k rv) dd')
 ·subst ey eH
  cases (show u=Value.ref b from ry)
  obtain⟨z,hd,xs,rel,dd⟩:=dt_of I.hok e
  have hz:xs.length≤sizeLine:=by rw[← Paired.length rel]; exact z
  have hl:(putK kvs k v).length≤sizeLine:=by have:=length_putK kvs k v; ac_rfl
  refine wpAny_setItem_heap (hsz:=hz) (tupleKind_room_in1 hu) (key_of I.hok eb) dd fun h' dd' hs=>h _ ?_
  obtain⟨q,es,ep,hq,h2,h3,h4,_,h5⟩:=dd'
  refine d_write I (by rw[e]; exact True.intro) hs ⟨q,hq⟩ ⟨hl,hd,_,(rel.put k eb rv).keeps fun c ys ec=>?_,q,es,ep,hq,h2,h3,h4,h5⟩
  rw[upd_ne (ne_of ec e (fun z=>nomatch z))]
  exact ec
end
def NoSl(i:Expr):Prop:=∀ ov iv,subscripted i false ov iv=operate [ov,iv] (getItem ov iv)
theorem subD_of{prog:Program}{w:World}{A:Around}{E:Value→Shared→Prop}{s:Shared}{env:Env}{value slice:Expr}{pos:Pos}{T id:String}{Q:Value→Shared→Prop}
  (hl:typeLookup (.type T) "__getitem__" = pure (some (.builtin id))) (hs:NoSl slice)
  (h:wpAny (model prog w) A (eval value env) (fun o s₁=>wpAny (model prog w) A (eval slice env) (fun i s₂=>s₂.TypeIs o T∧wpAny (model prog w) A (getItem o i) Q E s₂) E s₁) E s) :
  wpAny (model prog w) A (eval (.Subscript value slice pos) env) Q E s:=by
 refine Subscript_ (wpAny_mono h (fun o s₁ h₁=>wpAny_mono h₁ (fun i s₂ h₂=>?_) fun _ _ x=>x) fun _ _ x=>x)
 obtain⟨hT,h₂⟩:=h₂
 unfold subscriptTail
 refine wpAny_bind ?_
 rw[getitemInPython_of_ne hT.not_modules]
 refine wpAny_bind (wpAny_specialOf hT hl ?_)
 have fin:wpAny (model prog w) A (subscripted slice false o i) (fun r s₃=>wpAny (model prog w) A (letTemporaryGo value o r >>= fun _=>pure r) Q E s₃) E s₂:=by
  rw[hs o i]
  exact wpAny_operating (wpAny_mono h₂ (fun r s₃ h₃=>wpAny_bind (wpAny_letTemporaryGo (wpAny_pure h₃))) fun _ _ x=>x)
 first
  | exact wpAny_pure (wpAny_bind fin)
  | exact wpAny_bind (wpAny_pure (wpAny_bind fin))
  | exact wpAny_bind fin
theorem dict_typeIs{X:Cx}{pins:List (Addr×Obj)}{σ:St}{H:Hp}{s:Shared}{a:Addr}{y:V}{o:Option V}(I:Inv X pins σ H s)(g:DGet H a y o):s.TypeIs (.ref a) "dict":=by
 rcases g with⟨kvs,k,e,_,_⟩ | ⟨kvs,k,b,e,_,_,_⟩
 ·obtain⟨_,_,vs,_,dd⟩:=dk_rd I.hok e
  exact dd.typeIs
 ·obtain⟨_,_,xs,_,dd⟩:=dt_rd I.hok e
  exact dd.typeIs
def tDGet(td ty:TE):TE:=fun σ H Q=>td σ H fun x H1=>ty σ H1 fun y H2=>∃ a v,x = .ref a∧DGet H2 a y (some v)∧Q v H2
def sDPut(td ty tv:TE):TS:=fun D σ H=>tv σ H fun v H1=>td σ H1 fun x H2=>ty σ H2 fun y H3=>∃ a H4,x = .ref a∧DPut H3 a y v H4∧D.nx σ H4
section
variable{X:Cx}{o i e value:Expr}{pos pos' tpos:Pos}{td ty tv:TE}
theorem pe_dget(hu:X.A.units+1<cLine)(ho:PE X o td)(hi:PE X i ty)(hs:NoSl i):PE X (.Subscript o i pos) (tDGet td ty):=by
 intro pins s σ H Q I h
 refine subD_of PySem.F.slot_dict_getitem.lookup hs (thn (ho pins s σ H _ I h) fun u s1 ⟨x,H1,I1,rx,q1⟩=>thn (hi pins s1 σ H1 _ I1 q1) fun iv s2 ⟨y,H2,I2,ry,a,v,ex,g,q2⟩=>?_)
 subst ex
 obtain rfl:u=Value.ref a:=rx
 exact⟨dict_typeIs I2 g,d_getItem hu I2 g ry fun w' s3 I3 rw'=>⟨v,H2,I3,rw',q2⟩⟩
theorem ps_dput(hu:X.A.units+1<cLine)(ho:PE X o td)(hi:PE X i ty)(hv:PE X value tv)(hs:swapsWith value (some (.Subscript o i pos')) pos.line X.env=pure false) :
  PS X (.Assign [.Subscript o i pos'] value pos) (sDPut td ty tv):=by
 intro pins s σ H D I h
 refine wpAny_Assign_Subscript (thn (hv pins s σ H _ I h) fun r s1 ⟨v,H1,I1,rv,q1⟩=>thn (ho pins s1 σ H1 _ I1 q1) fun u s2 ⟨x,H2,I2,rx,q2⟩=>thn (hi pins s2 σ H2 _ I2 q2) fun iv s3 ⟨y,H3,I3,ry,a,H4,ex,g,q3⟩=>?_) hs
 subst ex
 obtain rfl:u=Value.ref a:=rx
 exact d_setItem hu I3 g ry rv fun s4 I4=>⟨σ,H4,I4,q3⟩
end
theorem dk_empty{P:Program}{w:World}{H:Hp}(h:Heap)(hb:sysModules<h.objs.size):ObjOk P w H (h.push { cls:=.type "dict",data:=.dict #[] }) h.objs.size (.dK []) :=
 ⟨Nat.zero_le _,beq_eq_false_iff_ne.mpr (Ne.symm (Nat.ne_of_lt hb)),[],.nil,Heap.DictOf.new h⟩
def tDNewK:TE:=fun _ H Q=>∀ p,H p=none→Q (.ref p) (upd H p (.dK []))
section
variable{X:Cx}{pos:Pos}
theorem pe_dnewK:PE X (.Dict [] [] pos) tDNewK:=fun pins s σ H Q I h =>
 wpAny_Dict_empty ⟨.ref s.heap.objs.size,_,I.laid (a:=s.heap.objs.size) (o:=.dK []) (t':=s.toks) (fun _ _ q=>Heap.get?_push_of_some _ q) (Nat.le_refl _) (dk_empty s.heap I.big),rfl,h _ (I.hok.fresh (Nat.le_refl _))⟩
end
structure M2(X:Cx)(o:Expr)(m:Str)(apos:Pos)(e f:Expr)(cpos:Pos):Prop where
 base:attributeBase o m X.env (eval o X.env)=eval o X.env
 few:((backTo cpos (starEach [e,f] X.env)).all (fun x=>!x.1) && (backToKw cpos (keywordEach [] X.env)).all (fun x=>x.1.isSome)
  && decide (([e,f]:List Expr).length+([]:List Keyword).length+(if([]:List Keyword).isEmpty then 0 else 1)<30))=true
 line:(apos.endLine == cpos.line)=true
 trees:backTo cpos (starEach [e,f] X.env)=[(false,eval e X.env),(false,eval f X.env)]
def IsD(H:Hp)(a:Addr):Prop:=(∃ kvs,Rd H a (.dK kvs))∨∃ kvs,Rd H a (.dT kvs)
theorem isD_at{X:Cx}{pins:List (Addr×Obj)}{σ:St}{H:Hp}{s:Shared}{a:Addr}(I:Inv X pins σ H s)(d:IsD H a) :
  s.TypeIs (.ref a) "dict"∧(∀ b,Value.ref a = .ref b→∃ ob,s.heap.get? b=some ob∧ob.dict=none)∧(a == sysModules)=false:=by
 rcases d with⟨kvs,e⟩ | ⟨kvs,e⟩
 ·obtain⟨_,hd,vs,_,dd⟩:=dk_rd I.hok e
  refine⟨dd.typeIs,fun b q=>?_,hd⟩
  cases q
  obtain⟨ob,_,_,h1,h2,_⟩:=dd
  exact⟨ob,h1,h2.2.1⟩
 ·obtain⟨_,hd,xs,_,dd⟩:=dt_rd I.hok e
  refine⟨dd.typeIs,fun b q=>?_,hd⟩
  cases q
  obtain⟨ob,_,_,h1,h2,_⟩:=dd
  exact⟨ob,h1,h2.2.1⟩
section
variable{X:Cx}{pins:List (Addr×Obj)}{σ:St}{H:Hp}{s:Shared}{a:Addr}{y d:V}{u r:Value}{o:Option V}{A:Around}{E:Value→Shared→Prop}
theorem d_get2{Q:Value→Shared→Prop}(hu:A.units+1<cLine)(I:Inv X pins σ H s)(g:DGet H a y o)(ry:RelV y u)(rd:RelV d r)(h:∀ w' s',Inv X pins σ H s'→RelV (o.getD d) w'→Q w' s') :
  wpAny (model X.prog X.w) A (call (.builtin "dict.get") [.ref a,u,r]) Q E s:=by
 rcases g with⟨kvs,k,e,ey,l⟩ | ⟨kvs,k,b,e,ey,eb,l⟩
 ·subst ey
  obtain⟨z,hd,vs,rel,dd⟩:=dk_rd I.hok e
  refine call_meetsIn PySem.F.slot_dict_get dd.typeIs PySem.F.entry_dict_get (PySem.F.args_dict_get_3 _ _ _) (meets_dict_get_default (mixKind X.prog X.w) a (kV_is ry) hd r) ⟨_,dd.mapOf,h _ _ (I.tok _) ?_⟩
  rw[l]
  exact(rel.val k).getD rd
 ·subst ey
  cases (show u=Value.ref b from ry)
  obtain⟨z,hd,xs,rel,dd⟩:=dt_rd I.hok e
  refine call_meetsIn PySem.F.slot_dict_get dd.typeIs PySem.F.entry_dict_get (PySem.F.args_dict_get_3 _ _ _) (meetsH_dict_get_default (tupleKind (mixKind X.prog X.w)) a b hd r) ⟨tupleKind_room_in1 hu,k,xs,key_of I.hok eb,dd,h _ _ (I.tok _) ?_⟩
  rw[l]
  exact(rel.val k).getD rd
end
def tDGet2(td ty tx:TE):TE:=fun σ H Q=>td σ H fun x H1=>∃ a,x = .ref a∧IsD H1 a∧ty σ H1 fun y H2=>tx σ H2 fun z H3=>∃ o,DGet H3 a y o∧Q (o.getD z) H3
section
variable{X:Cx}{o e f:Expr}{apos cpos:Pos}{td ty tx:TE}
theorem pe_dget2(hu:X.A.units+1<cLine)(ho:PE X o td)(he:PE X e ty)(hf:PE X f tx)(m:M2 X o "get" apos e f cpos):PE X (.Call (.Attribute o "get" apos) [e,f] [] cpos) (tDGet2 td ty tx):=by
 intro pins s σ H Q I h
 refine wpAny_Call_method m.base m.few m.line PySem.F.plainAttrs_dict PySem.F.slot_dict_get PySem.F.type_dict_get (thn (ho pins s σ H _ I h) fun u s1 ⟨x,H1,I1,rx,a,ex,d,q1⟩=>?_)
 subst ex
 obtain rfl:u=Value.ref a:=rx
 obtain⟨t1,t2,_⟩:=isD_at I1 d
 refine⟨t1,t2,?_⟩
 rw[m.trees]
 refine Calls.callWith_builtin rfl (Calls.evalArgs_plain (Calls.spliced_cons (thn (he pins s1 σ H1 _ I1 q1) fun iv s2 ⟨y,H2,I2,ry,q2⟩ =>
  Calls.spliced_cons (thn (hf pins s2 σ H2 _ I2 q2) fun fv s3 ⟨z,H3,I3,rz,ov,g,q3⟩=>Calls.spliced_nil ?_))))
 exact d_get2 hu I3 g ry rz fun w' s4 I4 rw'=>⟨_,H3,I4,rw',q3⟩
end
end L2
namespace Att
open PySem PySem.W PySem.Calls PyProof.Rows
theorem ints_of_wellAll{P:Params}{h:Heap}:∀ (ns:List Int) (vs:List Value),WellAll P h vs (ns.map WData.int)→IntsAre vs ns:=by
 intro ns
 induction ns with
 | nil =>
  intro vs w
  rw[List.map_nil]at w
  cases w
  exact .nil
 | cons n ns ih =>
  intro vs w
  rw[List.map_cons]at w
  cases w with
  | cons a b =>
   cases a
   exact .cons _ _ (ih _ b)
theorem script_of{l:OpenLaw}{n:Nat}(hn:l.most=some n){P:Params}{h:Heap}{args:List WData}{vals:List Value}
  (hpre:l.row.toRowW.claim.pre args=true) (hwl:WellAll P h vals args) :
  ∃ a vs ns,vals=[Value.ref a]∧args=[WData.list (ns.map WData.int)]∧h.get? a=some { cls:=.type "list",data:=.seq vs.toArray }∧IntsAre vs ns∧ns.length≤n:=by
 have hsh:WShape.hasAll [] args [.list .int]=true:=(pre_splitW hpre).1
 have hc:l.pre.holds [] { args:=args }=true:=(pre_splitW hpre).2
 obtain⟨d,r,rfl,h1,h2⟩:=hasAllW_cons hsh
 obtain rfl:=hasAllW_nil h2
 obtain⟨xs,rfl,h3⟩:=hasW_list h1
 obtain⟨ns,rfl⟩:=items_int h3
 have hlen:ns.length≤n:=by
  unfold OpenLaw.pre at hc
  have h4:(WTm.not (.lt (.lit (.int (n:Int))) (.len (.arg 0)))).holds [] { args:=[.list (ns.map .int)] }=true:=by
   have h4:=(holds_andW hc).1
   rw[hn]at h4
   exact h4
  have h5:=condW_of h4 (w_not (w_lt w_lit (w_len_list (w_arg rfl))))
  rw[List.length_map]at h5
  refine Nat.le_of_not_lt fun q=>?_
  have q':(n:Int)<((ns.length:Nat):Int):=by ac_rfl
  first
   | (rw[decide_eq_true q']at h5; exact absurd h5 (by decide))
   | (simp at h5; ac_rfl)
 cases hwl with
 | cons w1 w2 =>
  cases w2
  cases w1 with
  | list ho hall=>exact⟨_,_,ns,rfl,rfl,ho,ints_of_wellAll ns _ hall,hlen⟩
theorem post_true(l:OpenLaw)(args:List WData):l.row.toRowW.claim.post args (.bool true) args=true :=
 postW_of (r:=l.row.toRowW) (X:=(true == true))
  (show WShape.has [] (.bool true) .bool=true by first | rfl | decide | simp[WShape.has,WShape.arms,WShape.armsAll])
  (show(WTm.eq .res (.lit (.bool true))).value [] { args:=args,res:=some (.bool true),after:=args }=some (.bool (true == true))from w_eq_bool (w_res rfl) w_lit) rfl
theorem attach_call{l:OpenLaw}{n:Nat}{q:Program}{loose:List Str}{XP:(Str→Option Value)→Heap→Prop}{YP:World→Heap→Prop}{d:DefRec}
  (hn:l.most=some n) (hdf:d.params.defaults=[])
  (call:∀ (w:World) (s₀ s₁:Shared) (mg mb:Str→Option Value) (fa:Addr) (o:Obj) (pm cd doc:Value) (a:Addr) (vs:List Value) (ns:List Int),
   Ground q loose [] XP w s₀ mg mb s₁.heap→YP w s₁.heap →
   s₁.heap.get? fa=some o→o.data = .func (docDef d.name d.params d.body d.scope pm cd doc)→s₁.heap.CodeRec cd d.name→mg d.name=some (.ref fa) →
   s₁.heap.get? a=some { cls:=.type "list",data:=.seq vs.toArray }→IntsAre vs ns→ns.length≤n→s₁.gens = #[] →
   codeAny (model l.prog w) callerA (.call (.ref fa) ⟨[.ref a],[]⟩) (fun r s'=>r = .ok (.ret (.bool true))∧OldK s₁.heap s'.heap∧s'.os=s₁.os∧AllBare s'.gens) s₁) :
  WalkO q loose XP YP l.row.toRowW d [] (fun f vs=>PySem.call f vs):=by
 intro w s₀ s₁ mg mb G Y fa o pm cd doc dV kV ho hd hcd hD hmg hg args vals as hpre hlay hrd hwl hlo
 obtain rfl:dV = .none:=Dflts.none hD hdf
 obtain rfl:kV = .none:=Dflts.noKw hD
 obtain⟨a,vs,ns,rfl,rfl,hobj,hints,hlen⟩:=script_of hn hpre hwl
 refine enter_call (codeAny_mono (call w s₀ s₁ mg mb fa o pm cd doc a vs ns G Y ho (fd_plain hd) hcd hmg hobj hints hlen hg) fun r s' hq=>?_)
 obtain⟨rfl,h2,h3,h4⟩:=hq
 exact⟨.inl ⟨.bool true,.bool true,[],rfl,fun _=>rfl,.bool true,post_true l _,fun _=>⟨List.Pairwise.nil,fun _ hm=>(nomatch hm)⟩⟩,h2,h3,h4⟩
end Att
namespace L2
open PySem PySem.Spec PyProof.Rows
theorem vals_ints:∀ {vs:List Value} {ns:List Int},IntsAre vs ns→Vals (ns.map V.int) vs
 | _,_,.nil=>.nil
 | _,_,.cons n t h=>.cons ⟨t,rfl⟩ (vals_ints h)
def Only(H:Hp):Prop:=∀ b,H b=none∨∃ o xs,H b=some (.frz o (.lst xs))
theorem law_call{P:Program}{w:World}{K:PySem.W.Frag}{mg mb:Str→Option Value}{CX:CXT}{k:Nat}{fa a:Addr}{fd:FuncData}{x:Str}{sp:Sp}{s₁:Shared}{vs:List Value}{ns:List Int}
  (KX:K.In s₁.heap) (hns:s₁.heap.Ns mainGlobals mg) (hb:s₁.heap.Ns builtinsNs mb) (hbb:∀ x:Str,x≠"__name__"→mb x=bootBuiltins x) (hlim:s₁.heap.NoLimit) (hg:s₁.gens = #[])
  (ha:s₁.heap.get? a=some { cls:=.type "list",data:=.seq vs.toArray }) (hi:IntsAre vs ns) (hl:ns.length≤sizeLine) (hr:Room k callerA)
  (F:∀ base:Heap,K.In base→base.Ns mainGlobals mg→FnOk P w K mg base CX k fa fd [x] sp) (hbind:∀ (s:Shared) (u:Value),BindsTo s fd ⟨[u],[]⟩ [(x,u)])
  (hsp:∀ H:Hp,Only H→SqL K H a (ns.map V.int)→sp [.ref a] H (fun v _=>v = .bl true) fun _ _ _=>False)
  (hCX:∀ H e s',CX [] H s₁ (fun _ _ _=>False) e s'→False) :
  codeAny (model P w) callerA (.call (.ref fa) ⟨[.ref a],[]⟩) (fun r s'=>r = .ok (.ret (.bool true))∧OldK s₁.heap s'.heap∧s'.os=s₁.os∧AllBare s'.gens) s₁:=by
 have rv:=vals_ints hi
 have lenV:=hi.length
 -- from an abstract heap in which nothing but the script may be tracked
 have core:∀ H:Hp,Only H→SqL K H a (ns.map V.int)→HOk P w H s₁.heap→(∀ b,H b≠none→b=a)→(H a≠none→K.lookup a=none) →
   codeAny (model P w) callerA (.call (.ref fa) ⟨[.ref a],[]⟩) (fun r s'=>r = .ok (.ret (.bool true))∧OldK s₁.heap s'.heap∧s'.os=s₁.os∧AllBare s'.gens) s₁:=by
  intro H hO hS hok hA hK
  have base_of:∀ {b:Addr} {o:Obj},s₁.heap.get? b=some o→H b=none→(hidT s₁.heap H).get? b=some o:=fun e n=>hidT_get e n
  have noA:∀ {b:Addr} {o:Obj} {es:Array DictEntry} {ep:Nat},s₁.heap.get? b=some o→o.data = .dict es ep→H b=none:=fun {b o es ep} e d=>by
   cases q:H b with
   | none=>rfl
   | some u =>
    have e':b=a:=hA b (by rw[q]; simp)
    subst e'
    rw[ha]at e; cases e
    have d':Data.seq vs.toArray _=Data.dict es ep:=d
    cases d'
  have nsK:∀ {b:Addr} {m:Str→Option Value},s₁.heap.Ns b m→(hidT s₁.heap H).Ns b m:=fun {b m} ⟨o,es,ep,e,d,r⟩=>⟨o,es,ep,base_of e (noA e d),d,r⟩
  have hKb:K.In (hidT s₁.heap H):=fun b o e=>base_of (KX b o e) (by
   cases q:H b with
   | none=>rfl
   | some u =>
    have e':b=a:=hA b (by rw[q]; simp)
    subst e'
    rw[hK (by rw[q]; simp)]at e; cases e)
  have hM:Mod K mg (hidT s₁.heap H):=⟨hKb,nsK hns,⟨mb,nsK hb,hbb⟩,let ⟨mc,h1,h2⟩:=hlim; ⟨mc,nsK h1,h2⟩⟩
  have e0:Env0 P w K mg (hidT s₁.heap H) callerA [] s₁ H:=⟨rfl,hM,fun b o e=>of_hidT e,Nat.le_of_eq (hidT_size _ _),trivial,fun b hb=>absurd (show b∈([]:List Addr)from hb) (by simp),hok,.of_eq hg⟩
  refine codeAny_mono ((F _ hKb (nsK hns)).run callerA [] s₁ H ⟨[.ref a],[]⟩ [.ref a] [.ref a] _ _ hr e0 (hbind s₁ (.ref a)) (.cons rfl .nil) (hsp H hO hS)) fun r s' h=>?_
  cases r with
  | error e=>exact(hCX H e s' h).elim
  | ok fl =>
   cases fl with
   | next=>exact False.elim h
   | brk=>exact False.elim h
   | cont=>exact False.elim h
   | ret u =>
    obtain⟨v,H',os,bare,un,hok',r',q⟩:=h
    have q':v = .bl true:=q
    subst q'
    obtain rfl:u=Value.bool true:=r'
    refine⟨rfl,OldK.of_keep fun b o e=>?_,os,bare⟩
    cases q:H b with
    | none=>exact un.keep b o e q (by intro z; exact absurd (show b∈([]:List Addr)from z) (by simp)) (by simp)
    | some u =>
     rcases hO b with z | ⟨ob,xs,z⟩
     ·rw[q]at z; cases z
     ·have z2:=un.frzs b ob _ z
      obtain⟨e1,_⟩:=hok b _ z
      obtain⟨e2,_⟩:=hok' b _ z2
      rw[e]at e1; cases e1
      exact e2
 cases hk:K.lookup a with
 | some o =>
  -- the script is one of the module's own objects
  have e:=KX a o hk
  rw[ha]at e
  cases e
  refine core (fun _=>none) (fun _=>.inl rfl) (.inr ⟨_,vs.toArray,_,hk,rfl,rfl,rfl,by rw[List.size_toArray,lenV]; exact hl,by simpa using rv⟩) (fun b u z=>by have z':(none:Option HO)=some u:=z; cases z') (fun b z=>absurd rfl z) fun z=>absurd rfl z
 | none =>
  refine core (fun b=>if b=a then some (.frz { cls:=.type "list",data:=.seq vs.toArray } (.lst (ns.map V.int)))else none) (fun b=>?_) (.inl (.inr ⟨{ cls:=.type "list",data:=.seq vs.toArray },if_pos rfl⟩)) (fun b u z=>?_) (fun b z=>?_) fun _=>hk
  ·by_cases hb:b=a
   ·exact .inr ⟨_,_,if_pos hb⟩
   ·exact .inl (if_neg hb)
  ·by_cases hb:b=a
   ·have z':=(if_pos hb).symm.trans z
    cases z'
    subst hb
    exact⟨ha,by rw[List.length_map]; exact hl,vs,_,rv,ha⟩
   ·have z':=(if_neg hb).symm.trans z
    cases z'
  ·by_cases hb:b=a
   ·exact hb
   ·exact absurd (if_neg hb) z
end L2
namespace L2
open PySem PySem.Spec PyProof.Rows
theorem walk_of{l:PySem.W.OpenLaw}{n k:Nat}{q:Program}{loose:List Str}{XP:(Str→Option Value)→Heap→Prop}{YP:World→Heap→Prop}{d:DefRec}{K:Params→PySem.W.Frag}{CX:World→CXT}{sp:World→Sp}{x:Str}
  (hn:l.most=some n) (hn2:n≤sizeLine) (hdf:d.params.defaults=[]) (hr:Room k callerA)
  (hY:∀ (w:World) (h:Heap),YP w h→(K w.params).In h)
  (F:∀ (w:World) (mg:Str→Option Value) (fa:Addr) (h:Heap),(K w.params).In h→h.Ns mainGlobals mg→mg d.name=some (.ref fa) →
   ∃ fd:FuncData,(∀ (s:Shared) (u:Value),BindsTo s fd ⟨[u],[]⟩ [(x,u)]) ∧
    ∀ base:Heap,(K w.params).In base→base.Ns mainGlobals mg→FnOk l.prog w (K w.params) mg base (CX w) k fa fd [x] (sp w))
  (hsp:∀ (w:World) (H:Hp) (a:Addr) (ns:List Int),ns.length≤n→Only H→SqL (K w.params) H a (ns.map V.int)→sp w [.ref a] H (fun v _=>v = .bl true) fun _ _ _=>False)
  (hCX:∀ (w:World) (H:Hp) (s:Shared) (e:Value) (s':Shared),CX w [] H s (fun _ _ _=>False) e s'→False) :
  PySem.W.WalkO q loose XP YP l.row.toRowW d [] (fun f vs=>PySem.call f vs):=by
 refine Att.attach_call hn hdf fun w s₀ s₁ mg mb fa o pm cd doc a vs ns G Y ho hd hcd hmg hobj hints hlen hg=>?_
 have KX:=hY w _ Y
 obtain⟨fd,hb,hF⟩:=F w mg fa _ KX G.T.g hmg
 exact law_call KX G.T.g G.T.b G.T.builtins G.T.nolimit hg hobj hints (Nat.le_trans hlen hn2) hr hF hb (fun H hO hS=>hsp w H a ns hlen hO hS) fun H e s'=>hCX w H s₁ e s'
end L2
namespace L2
open PySem PySem.Spec PyProof.Rows
def defArgs(s:Stmt):Arguments:=match s with
 | .FunctionDef _ a _ _ _ _ _ _ _ _=>a
 | _=>{ posonlyargs:=[],args:=[],vararg:=none,kwonlyargs:=[],kw_defaults:=[],kwarg:=none,defaults:=[] }
def defBody(s:Stmt):List Stmt:=match s with
 | .FunctionDef _ _ b _ _ _ _ _ _ _=>b
 | _=>[]
def defScope(s:Stmt):Scope:=match s with
 | .FunctionDef _ _ _ _ _ _ sc _ _ _=>sc
 | _=>{ kind:=.function,names:=[],isGenerator:=false,isCoroutine:=false }
noncomputable abbrev CX0:CXT:=fun _ _ _ _ _ _=>False
noncomputable abbrev E0:XK:=fun _ _ _=>False
structure Fun(K:PySem.W.Frag)(x qual:Str)(st:Stmt)(f:Addr)(fd:FuncData):Prop where
 ex:∃ (oc:Value) (od:Option Addr) (kV doc pm:Value) (an:Option Addr) (cdv ct:Value) (osl:Array (Option Value)),
  fd=PySem.W.fnOf x qual (defArgs st) (defBody st) (defScope st) .none kV doc pm an cdv ct∧K.lookup f=some ⟨oc,od,.func fd,osl⟩∧PySem.W.codeIn K cdv qual=true
 kp:PySem.W.keepIn K (.ref f)=true
section
variable{P:Program}{w:World}{K:PySem.W.Frag}{mg:Str→Option Value}{base:Heap}
theorem Fun.ok{x qual:Str}{st:Stmt}{f:Addr}{fd:FuncData}{N ps:List Str}{k:Nat}{sp:Sp}(F:Fun K x qual st f fd)(S:FnScope N ps (defScope st))(len:∀ vs H Q E,sp vs H Q E→vs.length=ps.length)
  (hbody:∀ (cdv:Value) (A:Around) (outer:List Env) (s:Shared) (H:Hp) (vs:List V) (Q:VK) (E:XK),Room k (A.deeper (envOfC qual (defScope st) s.heap.objs.size f cdv))→sp vs H Q E →
   ∃ t,PSs (cxOf CX0 P w K mg base N qual (defScope st) f cdv A outer s H E).nox (defBody st) t∧t { nx:=fun _ H'=>Q .non H',rt:=Q } (start N vs) H):FnOk P w K mg base CX0 (k+1) f fd ps sp:=by
 obtain⟨oc,od,kV,doc,pm,an,cdv,ct,osl,rfl,lk,hcd⟩:=F.ex
 refine fn_of lk hcd S len fun A outer s H vs Q E hr hsp=>?_
 obtain⟨t,h,q⟩:=hbody cdv A outer s H vs Q E hr hsp
 exact⟨t,h.nox,q⟩
theorem Fun.binds{x qual:Str}{st:Stmt}{f:Addr}{fd:FuncData}{ps:List Str}(F:Fun K x qual st f fd)
  (h:∀ (kV doc pm:Value) (an:Option Addr) (cdv ct:Value) (us:List Value),us.length=ps.length→bindArgs (PySem.W.fnOf x qual (defArgs st) (defBody st) (defScope st) .none kV doc pm an cdv ct) ⟨us,[]⟩=pure (ps.zip us)):Binds K fd ps []:=by
 obtain⟨oc,od,kV,doc,pm,an,cdv,ct,osl,rfl,lk,hcd⟩:=F.ex
 exact .all (h kV doc pm an cdv ct)
theorem fun_mk{x qual:Str}{st:Stmt}{f:Addr}{oc:Value}{od an:Option Addr}{osl:Array (Option Value)}{kV doc pm cdv ct:Value}(l:K.lookup f=some ⟨oc,od,.func (PySem.W.fnOf x qual (defArgs st) (defBody st) (defScope st) .none kV doc pm an cdv ct),osl⟩)
  (c:PySem.W.codeIn K cdv qual=true) (k:PySem.W.keepIn K (.ref f)=true):Fun K x qual st f (PySem.W.fnOf x qual (defArgs st) (defBody st) (defScope st) .none kV doc pm an cdv ct):=⟨⟨oc,od,kV,doc,pm,an,cdv,ct,osl,rfl,l,c⟩,k⟩
end
theorem small1000{n:Nat}(h:n≤1000):n<sizeLine:=Nat.lt_of_le_of_lt h (by decide)
section
variable{X:Cx}
theorem pv(i:Nat){x:Str}{pos:Pos}(hN:X.N[i]?=some x:=by rfl)(hv:Vis X.env.scope x:=by first | exact Or.inl rfl | exact Or.inr (Or.inl rfl) | exact Or.inr (Or.inr rfl))(hd:(x == ("__debug__" : Str))=false:=by decide)
  (hcd:(x == ("__classdict__" : Str))=false:=by decide):PE X (.Name x pos) (tVar i):=pe_var hN hv hd hcd
end
theorem iteF{A B:Prop}(h:B):if false=true then A else B:=by
 rw[if_neg Bool.false_ne_true]
 exact h
theorem iteT{A B:Prop}(h:A):if true=true then A else B:=by
 rw[if_pos rfl]
 exact h
def Same(H H':Hp):Prop:=∀ b o,H b=some o→H' b=some o
theorem Same.refl(H:Hp):Same H H:=fun _ _ h=>h
theorem Same.trans{H H1 H2:Hp}(a:Same H H1)(b:Same H1 H2):Same H H2:=fun c o h=>b c o (a c o h)
theorem Same.free{H H':Hp}(e:Same H H'){l:Addr}(h:H' l=Option.none):H l=Option.none:=by
 cases q:H l with
 | none=>rfl
 | some o =>
  rw[e l o q]at h
  cases h
theorem Same.seq{K:PySem.W.Frag}{H H':Hp}{a:Addr}{xs:List V}(e:Same H H')(h:SqL K H a xs):SqL K H' a xs:=by
 rcases h with(h | ⟨o,h⟩) | h
 ·exact .inl (.inl (e _ _ h))
 ·exact .inl (.inr ⟨o,e _ _ h⟩)
 ·exact .inr h
end L2
set_option maxHeartbeats 4000000
namespace L2
open PySem PySem.Spec PyProof.Rows
def clOf(env:Env):List (Str×NameKind)→List (Str×Addr)→List (Str×Addr)
 | [],cs=>cs
 | (n,k)::r,cs=>if k == .free then clOf env r ((n,(env.cells.lookup n).getD 0)::cs)else clOf env r cs
theorem clOf_lookup{env:Env}{y:Str}{c:Addr}(names:List (Str×NameKind))(cs:List (Str×Addr))(hh:∀ x∈names,x.2 = .free→∃ c,env.cells.lookup x.1=some c)
  (h:(clOf env names cs).lookup y=some c):cs.lookup y=some c∨env.cells.lookup y=some c:=by
 induction names generalizing cs with
 | nil=>exact .inl h
 | cons a r ih =>
  obtain⟨n,k⟩:=a
  unfold clOf at h
  have hr:∀ x∈r,x.2 = .free→∃ c,env.cells.lookup x.1=some c:=fun x hx=>hh x (List.mem_cons_of_mem _ hx)
  split at h
  ·rename_i hk
   obtain⟨c',hc'⟩:=hh (n,k) (List.mem_cons_self ..) (by simpa using hk)
   rcases ih _ hr h with q | q
   ·rw[List.lookup_cons]at q
    split at q
    ·rename_i hb
     have e:y=n:=by simpa using hb
     subst e
     rw[hc']at q
     exact .inr (by rw[hc']; exact q)
    ·exact .inl q
   ·exact .inr q
  ·exact ih _ hr h
theorem lookup_cons_self{α:Type}{n:Str}{v:α}{l:List (Str×α)}:((n,v)::l).lookup n=some v:=by
 rw[List.lookup_cons]; simp
theorem lookup_cons_some{α:Type}{n y:Str}{v:α}{l:List (Str×α)}(h:∃ c,l.lookup y=some c):∃ c,((n,v)::l).lookup y=some c:=by
 rw[List.lookup_cons]
 split
 ·exact⟨_,rfl⟩
 ·exact h
theorem clOf_keep{env:Env}{y:Str}:∀ (names:List (Str×NameKind)) (cs:List (Str×Addr)),(∃ c,cs.lookup y=some c)→∃ c,(clOf env names cs).lookup y=some c
 | [],cs,h=>h
 | (n,k)::r,cs,h=>by
  unfold clOf
  split
  ·exact clOf_keep r _ (lookup_cons_some h)
  ·exact clOf_keep r _ h
theorem clOf_has{env:Env}{y:Str}:∀ (names:List (Str×NameKind)) (cs:List (Str×Addr)),(∃ x∈names,x.1=y∧x.2 = .free)→∃ c,(clOf env names cs).lookup y=some c
 | [],cs,⟨_,h,_⟩=>by simp at h
 | (n,k)::r,cs,⟨x,hx,e1,e2⟩=>by
  unfold clOf
  rcases List.mem_cons.mp hx with e | hx
  ·subst e
   simp only at e1 e2
   subst e1 e2
   simp only[beq_self_eq_true,if_true]
   exact clOf_keep r _ ⟨_,lookup_cons_self⟩
  ·split
   ·exact clOf_has r _ ⟨x,hx,e1,e2⟩
   ·exact clOf_has r _ ⟨x,hx,e1,e2⟩
theorem closure_loop{env:Env}:∀ (names:List (Str×NameKind)) (cs:List (Str×Addr)),(∀ x∈names,x.2 = .free→∃ c,env.cells.lookup x.1=some c) →
  (forIn (m:=Sem) names cs fun x r=>match x with | (name,kind)=>if(kind == NameKind.free)=true then do let c ← cellOf env name; pure (ForInStep.yield ((name,c)::r))else pure (ForInStep.yield r))=pure (clOf env names cs)
 | [],cs,_=>rfl
 | (n,k)::r,cs,h=>by
  have hr:∀ x∈r,x.2 = .free→∃ c,env.cells.lookup x.1=some c:=fun x hx=>h x (List.mem_cons_of_mem _ hx)
  rw[List.forIn_cons]
  unfold clOf
  by_cases hk:(k == NameKind.free)=true
  ·obtain⟨c,hc⟩:=h (n,k) (List.mem_cons_self ..) (by simpa using hk)
   simp only[hk,if_true]
   have e:cellOf env n=pure c:=by unfold cellOf; rw[hc]
   rw[e]
   simp only[pure_bind]
   rw[closure_loop r _ hr,hc]
   rfl
  ·simp only[hk,if_false,pure_bind]
   exact closure_loop r _ hr
theorem closureFor_clOf{scope:Scope}{env:Env}(h:∀ x∈scope.names,x.2 = .free→∃ c,env.cells.lookup x.1=some c):closureFor scope env=pure (clOf env scope.names []):=by
 unfold closureFor
 have q:=closure_loop scope.names [] h
 simp only[bind_pure_comp]at q ⊢
 rw[q]
 rfl
theorem cellNo{n c:Nat}(h1:n+1≤c)(h2:c<n):False:=by ac_rfl
theorem cellsFrom_app:∀ (names:List (Str×NameKind)) (n:Nat) (a b:List (Str×Addr)),cellsFrom n names (a++b)=cellsFrom n names a++b
 | [],_,_,_=>rfl
 | (x,k)::r,n,a,b=>by
  unfold cellsFrom
  split
  ·exact cellsFrom_app r (n+1) ((x,n)::a) b
  ·exact cellsFrom_app r n a b
theorem cellsFrom_mem{y:Str}{c:Addr}:∀ (names:List (Str×NameKind)) (n:Nat) (a:List (Str×Addr)),(y,c)∈cellsFrom n names a→(y,c)∈a∨(y,.cell)∈names
 | [],_,_,h=>.inl h
 | (x,k)::r,n,a,h=>by
  unfold cellsFrom at h
  split at h
  ·rename_i hk
   rcases cellsFrom_mem r _ _ h with z | z
   ·rcases List.mem_cons.mp z with z | z
    ·cases z
     have e:k = .cell:=by simpa using hk
     subst e
     exact .inr (List.mem_cons_self ..)
    ·exact .inl z
   ·exact .inr (List.mem_cons_of_mem _ z)
  ·rcases cellsFrom_mem r _ _ h with z | z
   ·exact .inl z
   ·exact .inr (List.mem_cons_of_mem _ z)
theorem cellsFrom_keep{y:Str}:∀ (names:List (Str×NameKind)) (n:Nat) (a:List (Str×Addr)),(∃ c,a.lookup y=some c)→∃ c,(cellsFrom n names a).lookup y=some c
 | [],_,_,h=>h
 | (x,k)::r,n,a,h=>by
  unfold cellsFrom
  split
  ·exact cellsFrom_keep r _ _ (lookup_cons_some h)
  ·exact cellsFrom_keep r _ _ h
theorem cellsFrom_has{y:Str}:∀ (names:List (Str×NameKind)) (n:Nat) (a:List (Str×Addr)),(y,.cell)∈names→∃ c,(cellsFrom n names a).lookup y=some c
 | (x,k)::r,n,a,h=>by
  unfold cellsFrom
  rcases List.mem_cons.mp h with e | h
  ·cases e
   exact cellsFrom_keep r _ _ ⟨_,lookup_cons_self⟩
  ·split
   ·exact cellsFrom_has r _ _ h
   ·exact cellsFrom_has r _ _ h
def cellsB(X:Cx)(scope:Scope)(C:Addr):List (Str×Addr):=cellsFrom (C+1) scope.names (clOf X.env scope.names [])
theorem cellsB_eq(X:Cx)(scope:Scope)(C:Addr):cellsB X scope C=cellsFrom (C+1) scope.names []++clOf X.env scope.names []:=cellsFrom_app scope.names (C+1) [] _
theorem wpAny_newBlock{M:Model}{A:Around}{E:Value→Shared→Prop}{s:Shared}{scope:Scope}{globals:Addr}{cl:List (Str×Addr)}{qual:Str}{env:Env}{Q:Env→Shared→Prop}
  (hQ:Q (newEnv scope s.heap.objs.size globals (cellsFrom (s.heap.objs.size+1) scope.names cl) qual none .none (some env) builtinsNs) { s with heap:=pushCells (s.heap.push { cls:=.type "dict",data:=.dict #[] }) scope.names }) :
  wpAny M A (newFunctionEnv scope globals cl [] qual none .none (some env)) Q E s:=by
 simp only[newFunctionEnv,Option.isSome_some,if_true]
 refine wpAny_bind (wpAny_alloc ?_)
 refine wpAny_bind (wpAny_layCells _ (fun name kind cells=>by cases hkc:kind == NameKind.cell <;> simp[hkc]) _ _ _ _ ?_)
 rw[show({ s with heap:=s.heap.push { cls:=.type "dict",data:=.dict #[] } }:Shared).heap.objs.size=s.heap.objs.size+1 from Heap.size_push ..]
 refine wpAny_bind ?_
 rw[List.forIn_nil]
 exact wpAny_pure (wpAny_pure hQ)
theorem newBlock_cell{s:Shared}{names:List (Str×NameKind)}{y:Str}{c:Addr}(h:(y,c)∈cellsFrom (s.heap.objs.size+1) names []) :
  (pushCells (s.heap.push { cls:=.type "dict",data:=.dict #[] }) names).IsCell c none∧s.heap.objs.size+1≤c∧∀ z,(z,c)∈cellsFrom (s.heap.objs.size+1) names []→y=z:=by
 have ok:=cellsFrom_ok names (s.heap.push { cls:=.type "dict",data:=.dict #[] }) (s.heap.objs.size+1) [] ⟨fun _ _ hm=>(nomatch hm),List.Pairwise.nil⟩ (by rw[Heap.size_push]; exact Nat.le_refl _)
 rw[Heap.size_push]at ok
 exact⟨(ok.empty y c h).1,(ok.empty y c h).2,fun z hz=>name_of_addr ok.apart h hz⟩
def blk(X:Cx)(scope:Scope)(N':List Str)(C:Addr)(s₀:Shared)(H₀:Hp)(ex:List Addr)(pn:List (Addr×Obj)):Cx where
 prog:=X.prog
 w:=X.w
 K:=X.K
 mg:=X.mg
 base:=X.base
 A:=X.A
 N:=N'
 s₀:=s₀
 H₀:=H₀
 env:=compEnvC scope (cellsB X scope C) C X.env
 outer:=X.stack
 stack:=X.stack
 ex:=ex
 fn:=fun y=>scope.names.lookup y == some .cell
 calm:=X.calm
 pn:=X.pn++pn
 xe:=fun _ _=>False
def capSt(σ:St)(cap:List Nat):St:=cap.map fun i=>(σ[i]?).join
structure BlkOk(X:Cx)(scope:Scope)(x:Str)(N':List Str)(cap:List Nat):Prop where
 kind:scope.kind = .function
 cells:∀ y∈scope.names,y.2 = .cell→scope.names.lookup y.1=some .cell
 names:∀ y∈scope.names,y.2 = .local→scope.names.lookup y.1=some .local
 loc:scope.names.lookup x=some .local∨scope.names.lookup x=some .cell
 free:∀ y∈scope.names,y.2 = .free→X.env.kindOf y.1=some .cell∨X.env.kindOf y.1=some .free
 nd:N'.Nodup
 hd:N'.head?=some x
 len:N'.length=cap.length+1
 caps:∀ i j y,N'[i+1]?=some y→cap[i]?=some j→X.N[j]?=some y∧scope.names.lookup y=some .free
theorem look_mem{names:List (Str×NameKind)}{y:Str}{k:NameKind}(h:names.lookup y=some k):∃ x∈names,x.1=y∧x.2=k:=⟨(y,k),PySem.mem_of_lookup h,rfl,rfl⟩
theorem relabel_look{env:Env}{x:Str}:∀ {names:List (Str×NameKind)} {k:NameKind},
  (names.map fun(n,k)=>if(k == NameKind.free && env.scope.kind == .function && env.kindOf n == some .cell)then(n,NameKind.cell)else(n,k)).lookup x=some k →
  ∃ k',names.lookup x=some k'∧(k=k'∨(k' = .free∧k = .cell))
 | [],_,h=>by simp at h
 | (n,k0)::r,k,h=>by
  change List.lookup x ((if(k0 == NameKind.free && env.scope.kind == .function && env.kindOf n == some .cell)=true then(n,NameKind.cell)else(n,k0))::_)=_ at h
  rw[List.lookup_cons]
  by_cases hc:(k0 == NameKind.free && env.scope.kind == .function && env.kindOf n == some .cell)=true
  ·rw[if_pos hc,List.lookup_cons]at h
   split at h
   ·rename_i hb
    cases h
    have:k0 = .free:=by simp at hc; exact hc.1.1
    exact⟨k0,rfl,.inr ⟨this,rfl⟩⟩
   ·exact relabel_look h
  ·rw[if_neg hc,List.lookup_cons]at h
   split at h
   ·rename_i hb
    cases h
    exact⟨k0,rfl,.inl rfl⟩
   ·exact relabel_look h
theorem relabel_free{env:Env}{x:Str}:∀ {names:List (Str×NameKind)},names.lookup x=some .free →
  let q:=(names.map fun(n,k)=>if(k == NameKind.free && env.scope.kind == .function && env.kindOf n == some .cell)then(n,NameKind.cell)else(n,k)).lookup x
  q=some .cell∨q=some .free
 | [],h=>by simp at h
 | (n,k0)::r,h=>by
  show List.lookup x ((if(k0 == NameKind.free && env.scope.kind == .function && env.kindOf n == some .cell)=true then(n,NameKind.cell)else(n,k0))::_)=_∨List.lookup x ((if(k0 == NameKind.free && env.scope.kind == .function && env.kindOf n == some .cell)=true then(n,NameKind.cell)else(n,k0))::_)=_
  rw[List.lookup_cons]at h
  by_cases hc:(k0 == NameKind.free && env.scope.kind == .function && env.kindOf n == some .cell)=true
  ·rw[if_pos hc,List.lookup_cons]
   cases hb:x == n with
   | true=>exact .inl rfl
   | false=>rw[hb]at h; exact relabel_free h
  ·rw[if_neg hc,List.lookup_cons]
   cases hb:x == n with
   | true=>rw[hb]at h; cases h; exact .inr rfl
   | false=>rw[hb]at h; exact relabel_free h
theorem relabel_cell{env:Env}{x:Str}:∀ {names:List (Str×NameKind)},names.lookup x=some .cell →
  (names.map fun(n,k)=>if(k == NameKind.free && env.scope.kind == .function && env.kindOf n == some .cell)then(n,NameKind.cell)else(n,k)).lookup x=some .cell
 | [],h=>by simp at h
 | (n,k0)::r,h=>by
  show List.lookup x ((if(k0 == NameKind.free && env.scope.kind == .function && env.kindOf n == some .cell)=true then(n,NameKind.cell)else(n,k0))::_)=_
  rw[List.lookup_cons]at h
  by_cases hc:(k0 == NameKind.free && env.scope.kind == .function && env.kindOf n == some .cell)=true
  ·rw[if_pos hc,List.lookup_cons]
   cases hb:x == n with
   | true=>rfl
   | false=>rw[hb]at h; exact relabel_cell h
  ·rw[if_neg hc,List.lookup_cons]
   cases hb:x == n with
   | true=>rw[hb]at h; cases h; rfl
   | false=>rw[hb]at h; exact relabel_cell h
section
variable{X:Cx}{pins:List (Addr×Obj)}{σ:St}{H:Hp}{s:Shared}{scope:Scope}{x:Str}{N':List Str}{cap:List Nat}
theorem Inv.freeHas(I:Inv X pins σ H s)(B:BlkOk X scope x N' cap):∀ y∈scope.names,y.2 = .free→∃ c,X.env.cells.lookup y.1=some c:=fun y hy e=>I.ok.has y.1 (B.free y hy e)
theorem Inv.clIn(I:Inv X pins σ H s)(B:BlkOk X scope x N' cap){y:Str}{c:Addr}(h:(clOf X.env scope.names []).lookup y=some c):X.env.cells.lookup y=some c:=by
 rcases clOf_lookup scope.names [] (I.freeHas B) h with q | q
 ·simp at q
 ·exact q
theorem Inv.cbIn(I:Inv X pins σ H s)(B:BlkOk X scope x N' cap){C:Addr}{y:Str}{c:Addr}(h:(cellsB X scope C).lookup y=some c):((y,c)∈cellsFrom (C+1) scope.names []∧scope.names.lookup y=some .cell)∨((clOf X.env scope.names []).lookup y=some c∧X.env.cells.lookup y=some c):=by
 rw[cellsB_eq,List.lookup_append]at h
 cases e:(cellsFrom (C+1) scope.names []).lookup y with
 | none=>rw[e]at h; exact .inr ⟨h,I.clIn B h⟩
 | some c' =>
  rw[e]at h
  cases h
  have m:=PySem.mem_of_lookup e
  rcases cellsFrom_mem _ _ _ m with z | z
  ·cases z
  ·exact .inl ⟨m,B.cells _ z rfl⟩
theorem Inv.cbOld(I:Inv X pins σ H s)(B:BlkOk X scope x N' cap){C:Addr}{y:Str}{c:Addr}(h:(clOf X.env scope.names []).lookup y=some c)(hk:scope.names.lookup y=some .free):(cellsB X scope C).lookup y=some c:=by
 rw[cellsB_eq,List.lookup_append]
 cases e:(cellsFrom (C+1) scope.names []).lookup y with
 | none=>exact h
 | some c' =>
  rcases cellsFrom_mem _ _ _ (PySem.mem_of_lookup e)with z | z
  ·cases z
  ·have:=B.cells _ z rfl
   rw[hk]at this; cases this
theorem Inv.block{fp:List Addr}{h₁:Heap}{m:Str→Option Value}{t':Nat}(hh:h₁=pushCells (s.heap.push { cls:=.type "dict",data:=.dict #[] }) scope.names)(I:Inv X pins σ H s)(B:BlkOk X scope x N' cap)(hfp:∀ b∈fp,FpOk X pins H b)(hfo:∀ b∈fp,∃ o,s.heap.get? b=some o)(hns:h₁.Ns s.heap.objs.size m)
  (old:∀ b o,s.heap.get? b=some o→h₁.get? b=some o):Inv (blk X scope N' s.heap.objs.size s H fp pins) [] (none::capSt σ cap) H { s with heap:=h₁,toks:=t' }:=by
 have ltC:∀ x c,X.env.cells.lookup x=some c→c<s.heap.objs.size:=fun x c e=>(I.cell x c e).elim fun v q=>q.lt
 have ncell:∀ {y:Str} {c:Addr},(y,c)∈cellsFrom (s.heap.objs.size+1) scope.names []→h₁.IsCell c none∧s.heap.objs.size+1≤c∧∀ z,(z,c)∈cellsFrom (s.heap.objs.size+1) scope.names []→y=z:=fun h=>by rw[hh]; exact newBlock_cell h
 have lk:∀ y k,(compEnvC scope (cellsB X scope s.heap.objs.size) s.heap.objs.size X.env).kindOf y=some k→∃ k',scope.names.lookup y=some k'∧(k=k'∨(k' = .free∧k = .cell)):=fun y k h=>relabel_look h
 have fhas:∀ y,scope.names.lookup y=some .free→∃ c,(clOf X.env scope.names []).lookup y=some c:=fun y h=>clOf_has scope.names [] (look_mem h)
 have nfs:∀ b∈frs X.stack,b≠s.heap.objs.size:=fun b hb e=>by
  rcases List.mem_cons.mp (I.stkSub b hb)with z | z
  ·exact absurd I.lt (by rw[← z,e]; exact Nat.lt_irrefl _)
  ·exact I.nofs (Nat.le_of_eq e.symm) z
 refine⟨⟨I.ok.mod,B.kind,I.ok.glob,I.ok.blt,Nat.le_refl _,fun y z c h1 h2=>?_,fun y hy=>?_,fun y c h hcl=>?_,I.ok.hd,I.ok.frames,.inl rfl,fun b hb=>?_,fun b o e=>I.bs b o e,
   Nat.le_trans I.ok.bsz I.sz,fun b o e hb=>?_,fun b hb hf=>?_,I.stack,fun b hb=>I.stkFree b hb⟩,
  rfl,I.bare,Un.kept old,⟨m,hns,fun i y v e1 e2 e3=>?_⟩,fun y c h=>?_,I.hok.fresh (Nat.le_refl _),fun y c h=>?_,fun p hp=>?_,I.hok.kept old,?_⟩
 ·-- inj
  rcases I.cbIn B h1 with⟨a1,a2⟩ | ⟨a1,a2⟩ <;> rcases I.cbIn B h2 with⟨b1,b2⟩ | ⟨b1,b2⟩
  ·exact(ncell a1).2.2 z b1
  ·exact(cellNo (ncell a1).2.1 (ltC _ _ b2)).elim
  ·exact(cellNo (ncell b1).2.1 (ltC _ _ a2)).elim
  ·exact I.ok.inj y z c a2 b2
 ·-- has
  show ∃ c,(cellsB X scope s.heap.objs.size).lookup y=some c
  have hfr:scope.names.lookup y=some .free→∃ c,(cellsB X scope s.heap.objs.size).lookup y=some c:=fun q=>(fhas y q).imp fun c hc=>I.cbOld B hc q
  rcases hy with hy | hy
  ·obtain⟨k',q,z | ⟨z,_⟩⟩:=lk y _ hy
   ·subst z; exact cellsFrom_has _ _ _ (PySem.mem_of_lookup q)
   ·subst z; exact hfr q
  ·obtain⟨k',q,z | ⟨_,z⟩⟩:=lk y _ hy
   ·subst z; exact hfr q
   ·cases z
 ·-- cab
  have hk:scope.names.lookup y=some .cell:=by simpa using(show(scope.names.lookup y == some .cell)=true from h)
  show s.heap.objs.size≤c
  rcases I.cbIn B hcl with⟨a1,a2⟩ | ⟨a1,a2⟩
  ·have:=(ncell a1).2.1; ac_rfl
  ·obtain⟨c',hc'⟩:=cellsFrom_has (n:=s.heap.objs.size+1) (a:=[]) _ (PySem.mem_of_lookup hk)
   have e:(cellsB X scope s.heap.objs.size).lookup y=some c':=by rw[cellsB_eq,List.lookup_append,hc']; rfl
   have e2:(cellsB X scope s.heap.objs.size).lookup y=some c:=hcl
   rw[e]at e2; cases e2
   have:=(ncell (PySem.mem_of_lookup hc')).2.1; ac_rfl
 ·-- exf
  obtain⟨f0,f1,f2,f3,f4,f5⟩:=hfp b hb
  obtain⟨o,ho⟩:=hfo b hb
  refine⟨fun e=>absurd (Heap.lt_size ho) (by rw[e]; exact Nat.lt_irrefl _),fun y c h=>?_⟩
  rcases I.cbIn B h with⟨a1,a2⟩ | ⟨a1,a2⟩
  ·rintro rfl
   exact cellNo (ncell a1).2.1 (Heap.lt_size ho)
  ·exact f4 y c a2
 ·-- noex
  obtain⟨f0,f1,f2,f3,f4,f5⟩:=hfp b hb
  rcases f3 with z | z
  ·exact I.ok.noex b o e z
  ·exact absurd (Nat.lt_of_lt_of_le (Heap.lt_size e) (Nat.le_trans I.ok.bsz z)) (Nat.lt_irrefl _)
 ·-- exfs
  obtain⟨f0,f1,f2,f3,f4,f5⟩:=hfp b hb
  rcases List.mem_cons.mp (I.stkSub b hf)with z | z
  ·exact f1 z
  ·exact f2 z
 ·-- loc
  cases i with
  | zero=>simp at e2
  | succ i =>
   have e2':(capSt σ cap)[i]?=some (some v):=by simpa using e2
   unfold capSt at e2'
   rw[List.getElem?_map]at e2'
   cases hj:cap[i]? with
   | none=>rw[hj]at e2'; cases e2'
   | some j =>
    rw[hj]at e2'
    have e4:(σ[j]?).join=some v:=Option.some.inj e2'
    have e5:σ[j]?=some (some v):=by
     cases hq:σ[j]? with
     | none=>rw[hq]at e4; cases e4
     | some o=>rw[hq]at e4; exact congrArg some e4
    obtain⟨b1,b2⟩:=B.caps i j y e1 hj
    obtain⟨mm,hn,hl⟩:=I.loc
    have hfree:=B.free _ (PySem.mem_of_lookup b2) rfl
    have vis:Vis X.env.scope y:=by
     rcases hfree with z | z
     ·exact .inr (.inl z)
     ·exact .inr (.inr z)
    obtain⟨u,r,l⟩:=hl j y v b1 e5 vis
    refine⟨u,r,.inr ⟨relabel_free b2,?_⟩⟩
    rcases l with⟨l,_⟩ | ⟨_,c,hc,hcell⟩
    ·rcases hfree with z | z
     ·rw[l]at z; cases z
     ·rw[l]at z; cases z
    ·obtain⟨c',hc'⟩:=fhas y b2
     have e6:=I.clIn B hc'
     rw[hc]at e6
     cases e6
     obtain⟨oo,ho,hd⟩:=hcell
     exact⟨c,I.cbOld B hc' b2,oo,old c oo ho,hd⟩
 ·rcases I.cbIn B h with⟨a1,a2⟩ | ⟨a1,a2⟩
  ·exact⟨none,(ncell a1).1⟩
  ·obtain⟨v,oo,ho,hd⟩:=I.cell y c a2
   exact⟨v,oo,old c oo ho,hd⟩
 ·rcases I.cbIn B h with⟨a1,a2⟩ | ⟨a1,a2⟩
  ·exact I.hok.fresh (Nat.le_trans (Nat.le_succ _) (ncell a1).2.1)
  ·exact I.freeC y c a2
 ·have hp':p∈X.pn++pins:=by simpa[blk]using hp
  obtain⟨e,n,ne,nf,d⟩:=I.pin p hp'
  refine⟨old _ _ e,n,Nat.ne_of_lt (Heap.lt_size e),fun hf=>?_,d⟩
  rcases List.mem_cons.mp (I.stkSub p.1 hf)with z | z
  ·exact ne z
  ·exact nf z
 ·show(none::capSt σ cap).length=N'.length
  rw[B.len]; simp[capSt]
end
def PIf(X:Cx)(ifs:List Expr)(t:TT):Prop :=
 ∀ (pins:List (Addr×Obj)) (s:Shared) (σ:St) (H:Hp) (Q:Bool→Hp→Prop),Inv X pins σ H s→t σ H Q →
  wpAny (model X.prog X.w) X.A (forIn ifs true fun c r=>if r=true then do let ok ← isTrue c X.env (eval c X.env); pure (ForInStep.yield ok)else pure (ForInStep.yield r)) (TP X pins σ Q) X.xe s
theorem comp_loop{P:Program}{w:World}{A:Around}{R:Result→Shared→Prop}{s:Shared}{elt tg iter:Expr}{ifs:List Expr}{scope:Scope}{pos:Pos}{it acc:Value}{env:Env}(J:Nat→Shared→Prop)
  (turn:∀ k s1,J k s1→wpAny (model P w) A (pyNext it) (fun r s2=>match r with
   | none=>R (.ok .next) s2
   | some v=>wpAny (model P w) A (letOwnedTupleGo tg it v) (fun _ s3=>wpAny (model P w) A (assign tg env v) (fun _ s4 =>
     wpAny (model P w) A (forIn ifs true fun c r=>if r=true then do let ok ← isTrue c env (eval c env); pure (ForInStep.yield ok)else pure (ForInStep.yield r)) (fun b s5 =>
      if b=true then wpAny (model P w) A (eval elt env) (fun y s6=>wpAny (model P w) A (call (.builtin "list.append") [acc,y]) (fun _ s7=>∃ j,j<k∧J j s7) (fun _ _=>False) s6) (fun _ _=>False) s5
      else ∃ j,j<k∧J j s5) (fun _ _=>False) s4) (fun _ _=>False) s3) (fun _ _=>False) s2) (fun _ _=>False) s1) (k:Nat) (h:J k s) :
  codeAny (model P w) A (.compLoop (.ListComp elt [⟨tg,iter,ifs,0⟩] scope pos) 0 it acc env) R s:=by
 refine codeAny_loop rfl J (fun j s1 hJ=>?_) k h
 show wpAny _ A (Sem.onRaise (compTurn (.ListComp elt [⟨tg,iter,ifs,0⟩] scope pos) 0 it acc env) (fun x=>do noteFrame x env; theTreesLotGoes x)) _ _ s1
 refine wpAny_noted ?_
 rw[compTurn_list]
 have no:∀ (E':Value→Shared→Prop) (a:Value) (b:Shared),False→E' a b:=fun _ _ _ f=>f.elim
 refine wpAny_bind (wpAny_standAt (wpAny_bind (wpAny_mono (turn j s1 hJ) (fun r s2 h2=>?_) (no _))))
 cases r with
 | none=>exact wpAny_pure h2
 | some v =>
  refine wpAny_bind (wpAny_mono h2 (fun _ s3 h3=>wpAny_bind (wpAny_mono h3 (fun _ s4 h4=>wpAny_bind (wpAny_mono h4 (fun b s5 h5=>?_) (no _))) (no _))) (no _))
  cases b with
  | true=>exact wpAny_bind (wpAny_bind (wpAny_mono h5 (fun y s6 h6=>wpAny_bind (wpAny_mono h6 (fun _ s7 h7=>wpAny_pure (wpAny_pure ⟨rfl,h7⟩)) (no _))) (no _)))
  | false=>exact wpAny_pure ⟨rfl,h5⟩
def tYes:TT:=fun _ H Q=>Q true H
theorem pif_nil{X:Cx}:PIf X [] tYes:=fun _ _ _ H _ I h=>wpAny_tests_nil ⟨H,I,h⟩
theorem pif_one{X:Cx}{c:Expr}{t:TT}(h:PT X c t):PIf X [c] t:=fun pins s σ H Q I hw=>wpAny_tests_one (h pins s σ H Q I hw)
def tComp(wi:TI)(ts:TT)(te:TE)(cap:List Nat):TE:=fun σ H Q=>wi σ H fun J H1=>∀ l,H1 l=none→∃ W:Nat→Nat→List V→Hp→Prop,(∃ m,W 0 m [] (upd H1 l (.lst [])))∧∀ i m ys H,W i m ys H →
 (J.stop i H∧Q (.ref l) H)∨(J.go i H∧∀ v H',J.yld i H v H'→ts (some v::capSt σ cap) H' fun b H2=>if b=true then
  te (some v::capSt σ cap) H2 fun y H3=>H3 l=some (.lst ys)∧ys.length<sizeLine∧∃ m',m'<m∧W (i+1) m' (ys++[y]) (upd H3 l (.lst (ys++[y])))
  else ∃ m',m'<m∧W (i+1) m' ys H2)
section
variable{X:Cx}{pins:List (Addr×Obj)}{σ:St}{H:Hp}{s:Shared}{scope:Scope}{x:Str}{N':List Str}{cap:List Nat}
theorem Inv.unblock{fp:List Addr}{H':Hp}{σ':St}{s':Shared}{h'':Heap}(I:Inv X pins σ H s)(hfp:∀ b∈fp,FpOk X pins H b)
  (I':Inv (blk X scope N' s.heap.objs.size s H fp pins) [] σ' H' s') (sb:Heap.SameBut s.heap.objs.size s'.heap h''):Inv X pins σ H' { s' with heap:=h'' }:=by
 have k:∀ b o,b≠s.heap.objs.size→s'.heap.get? b=some o→h''.get? b=some o:=fun b o hb e=>(sb.2 b hb).trans e
 have nC:∀ b o,s.heap.get? b=some o→b≠s.heap.objs.size:=fun b o e=>Nat.ne_of_lt (Heap.lt_size e)
 have un:Un (frs X.stack) fp H H' s.heap h'':=by
  refine⟨fun b o e n hb hx=>k b o (nC b o e) (I'.base.keep b o e n hb hx),fun b o e n hb hx=>?_,fun b o e n hx=>I'.base.free b o e n hx,fun b o e hx=>?_,I'.base.tups,I'.base.frzs,I'.base.tbls⟩
  ·obtain⟨sl,q⟩:=I'.base.slot b o e n hb hx
   exact⟨sl,k b _ (nC b o e) q⟩
  ·obtain⟨o',q⟩:=I'.base.there b o e hx
   exact⟨o',k b o' (nC b o e) q⟩
 have hok:HOk X.prog X.w H' h'':=fun b u e=>by
  have hCn:H' s.heap.objs.size=none:=I'.free
  refine(I'.hok b u e).stay (fun c v hc q=>k c v ?_ q) (fun _ q=>q) fun _ _ q=>q
  rintro rfl
  rcases hc with z | z
  ·rw[← z,hCn]at e; cases e
  ·rw[hCn]at z; cases z
 refine I.call' (s':={ s' with heap:=h'' }) (ch:=fp) I'.os un hok I'.bare fun b hb=>?_
 obtain⟨f0,f1,f2,f3,f4,f5⟩:=hfp b hb
 exact⟨f3,f1,f4,f5⟩
theorem pe_comp{elt iter:Expr}{px pos:Pos}{ifs:List Expr}{wi:TI}{ts:TT}{te:TE}(B:BlkOk X scope x N' cap)(hc:X.calm=true)(hi:PI X (.Name x px) iter wi)
  (ht:∀ C s₀ H₀ ex pn,PIf (blk X scope N' C s₀ H₀ ex pn) ifs ts) (he:∀ C s₀ H₀ ex pn,PE (blk X scope N' C s₀ H₀ ex pn) elt te) (hs:∀ x,foldedSetIterable iter X.env x=pure x:=by intro _; rfl) :
  PE X (.ListComp elt [⟨.Name x px,iter,ifs,0⟩] scope pos) (tComp wi ts te cap):=by
 intro pins s σ H Q I h
 rw[eval_ListComp]
 refine wpAny_comprehension_free (use:=none) rfl hs (closureFor_clOf (I.freeHas B)) B.kind B.names (thn (hi pins s σ H _ I h) fun v s1 h1=>thn h1 fun itv s2 h2=>?_)
 obtain⟨it,fp,tn,J,H2,e,I2,T,st2,f2,h2⟩:=h2
 subst e
 refine wpAny_newObj_type ?_
 have I3:Inv X pins σ (upd H2 s2.heap.objs.size (.lst [])) { s2 with heap:=s2.heap.push { cls:=.type "list",data:=.seq ([]:List Value).toArray },toks:=s2.toks }:=I2.lnew (its:=[]) (t':=s2.toks) .nil (Nat.zero_le _)
 obtain⟨W,⟨m0,w0⟩,turn⟩:=h2 s2.heap.objs.size I2.fresh
 generalize hs3:({ s2 with heap:=s2.heap.push { cls:=.type "list",data:=.seq ([]:List Value).toArray },toks:=s2.toks }:Shared)=s3 at I3
 have hs3':({ s2 with heap:=s2.heap.push { cls:=.type "list",data:=.seq ([]:List Value).toArray } }:Shared)=s3:=hs3
 generalize hH3:upd H2 s2.heap.objs.size (.lst [])=H3 at I3 w0
 have nl:∀ b∈fp,b≠s2.heap.objs.size:=fun b hb e=>by
  obtain⟨o,ho,_⟩:=T.obj _ _ st2 b hb
  exact absurd (Heap.lt_size ho) (by rw[e]; exact Nat.lt_irrefl _)
 have k3:∀ b o,s2.heap.get? b=some o→s3.heap.get? b=some o:=fun b o e=>by rw[← hs3]; exact Heap.get?_push_of_some _ e
 have f3:∀ b∈fp,FpOk X pins H3 b:=fun b hb=>⟨by rw[← hH3,upd_ne (nl b hb)]; exact(f2 b hb).1,(f2 b hb).2⟩
 have st3:tn 0 s3.heap:=T.keep _ _ _ st2 fun b _ o e=>k3 b o e
 have fo3:∀ b∈fp,∃ o,s3.heap.get? b=some o:=fun b hb=>(T.obj _ _ st3 b hb).imp fun o q=>q.1
 refine wpAny_newBlock ?_
 generalize hh:pushCells (s3.heap.push { cls:=.type "dict",data:=.dict #[] }) scope.names=h₁
 have old:∀ b o,s3.heap.get? b=some o→h₁.get? b=some o:=fun b o e=>hh ▸ pushCells_keeps _ _ b o (Heap.get?_push_of_some _ e)
 have hns:h₁.Ns s3.heap.objs.size (fun _=>none):=hh ▸ (Heap.Ns.new s3.heap (.type "dict")).keeps (pushCells_keeps _ _)
 have I4:=Inv.block (t':=s3.toks) hh.symm I3 B f3 fo3 hns old
 have st4:tn 0 h₁:=T.keep _ _ _ st3 fun b _ o e=>old b o e
 have statB:∀ {H':Hp},(∀ b∈fp,H' b=none)→∀ b∈fp,FpOk (blk X scope N' s3.heap.objs.size s3 H3 fp pins) [] H' b:=fun hn b hb=>by
  obtain⟨f0,f1,f2',f3',f4,f5⟩:=f3 b hb
  refine⟨hn b hb,fun e=>?_,fun hf=>?_,.inl hb,fun y c h=>?_,fun p hp=>f5 p (by simpa[blk]using hp)⟩
  ·obtain⟨o,ho⟩:=fo3 b hb
   exact absurd (Heap.lt_size ho) (by rw[show b=s3.heap.objs.size from e]; exact Nat.lt_irrefl _)
  ·rcases List.mem_cons.mp (I3.stkSub b hf)with z | z
   ·exact f1 z
   ·exact f2' z
  ·rcases I3.cbIn B h with⟨a1,a2⟩ | ⟨a1,a2⟩
   ·rintro rfl
    obtain⟨o,ho⟩:=fo3 _ hb
    exact cellNo (newBlock_cell a1).2.1 (Heap.lt_size ho)
   ·exact f4 y c a2
 have hlocx:Loc (blk X scope N' s3.heap.objs.size s3 H3 fp pins).env.scope x:=B.loc.elim (fun h=>.inl (lookup_relabel_local h)) (fun h=>.inr (relabel_cell h))
 have hfnx:(blk X scope N' s3.heap.objs.size s3 H3 fp pins).fn x=true∨(blk X scope N' s3.heap.objs.size s3 H3 fp pins).env.scope.names.lookup x=some .local:=B.loc.elim (fun h=>.inr (lookup_relabel_local h)) (fun h=>.inl (by show(scope.names.lookup x == some .cell)=true; rw[h]; rfl))
 have hN0:(blk X scope N' s3.heap.objs.size s3 H3 fp pins).N[0]?=some x:=by
  show N'[0]?=some x
  rw[← List.head?_eq_getElem?]; exact B.hd
 have loop:codeAny (model X.prog X.w) X.A (.compLoop (.ListComp elt [⟨.Name x px,iter,ifs,0⟩] scope pos) 0 (.ref it) (.ref s2.heap.objs.size) (compEnvC scope (cellsB X scope s3.heap.objs.size) s3.heap.objs.size X.env))
   (compPost (model X.prog X.w) X.A X.xe none (EP X pins σ Q) (.ref s2.heap.objs.size) s3.heap.objs.size) { s3 with heap:=h₁,toks:=s3.toks }:=by
  refine comp_loop (fun n s'=>∃ i ys σ' H',(∃ v0,σ'=v0::capSt σ cap)∧Inv (blk X scope N' s3.heap.objs.size s3 H3 fp pins) [] σ' H' s'∧tn i s'.heap∧(∀ b∈fp,H' b=none)∧W i n ys H') ?_ m0
   ⟨0,[],_,H3,⟨none,rfl⟩,I4,st4,fun b hb=>(f3 b hb).1,w0⟩
  rintro n s5 ⟨i,ys,σ5,H5,⟨v0,rfl⟩,I5,st5,fr5,w5⟩
  rcases turn i n ys H5 w5 with⟨stop,q⟩ | ⟨go,step⟩
  ·refine wpAny_mono (T.done (blk X scope N' s3.heap.objs.size s3 H3 fp pins) rfl rfl rfl hc i [] s5 _ H5 (fun _ _=>False) I5 (statB fr5) st5 stop) (fun r s6 ⟨hr,I6⟩=>?_) (fun _ _ f=>f.elim)
   subst hr
   obtain⟨mm,hn6,_⟩:=I6.loc
   exact⟨mm,hn6,fun h'' sb=>⟨.ref s2.heap.objs.size,H5,I3.unblock f3 I6 sb,rfl,q⟩⟩
  ·refine wpAny_mono (T.item (blk X scope N' s3.heap.objs.size s3 H3 fp pins) rfl rfl rfl hc i [] s5 _ H5 (fun _ _=>False) I5 (statB fr5) st5 go) (fun r s6 ⟨u,hr,h6⟩=>?_) (fun _ _ f=>f.elim)
   subst hr
   refine wpAny_mono h6 (fun _ s7 ⟨v,H7,I7,r7,y7,st7,fr7⟩=>?_) (fun _ _ f=>f.elim)
   have I7':=I7.pinned (statB fr7) (T.obj _ _ st7)
   have back:∀ {σ8:St} {H8:Hp} {s8:Shared},Inv (blk X scope N' s3.heap.objs.size s3 H3 fp pins) ([]++pinsAt fp s7.heap) σ8 H8 s8→tn (i+1) s8.heap∧(∀ b∈fp,H8 b=none):=fun {σ8 H8 s8} I8 =>
    ⟨T.keep _ _ _ st7 fun b hb o e=>(I8.pin (b,o) (List.mem_append_right _ (List.mem_append_right _ (mem_pinsAt hb e)))).1,fun b hb=>by
     obtain⟨o,e,d⟩:=T.obj _ _ st7 b hb
     exact(I8.pin (b,o) (List.mem_append_right _ (List.mem_append_right _ (mem_pinsAt hb e)))).2.1⟩
   refine wpAny_assign_Name (store_ok (v:=v) I7' B.nd hN0 hlocx r7 (fun s8 I8=>?_) hfnx)
   refine thn (ht _ _ _ _ _ _ s8 _ H7 _ I8 (step v H7 y7)) fun b s9 ⟨H9,I9,q9⟩=>?_
   cases b with
   | false =>
    obtain⟨m',hm,w9⟩:=(show ∃ m',m'<n∧W (i+1) m' ys H9 from q9)
    exact⟨m',hm,i+1,ys,_,H9,⟨some v,rfl⟩,I9.unpinned,(back I9).1,(back I9).2,w9⟩
   | true =>
    refine thn (he _ _ _ _ _ _ s9 _ H9 _ I9 q9) fun u10 s10 ⟨y,H10,I10,r10,hl10,hz10,m',hm,w10⟩=>?_
    refine thn (mt_append _ s10 _ H10 (.ref s2.heap.objs.size) [y] _ [u10] (fun z H11=>H11=upd H10 s2.heap.objs.size (.lst (ys++[y]))) I10 rfl (.cons r10 .nil) ⟨_,ys,y,rfl,rfl,hl10,hz10,rfl⟩) fun _ s11 ⟨_,H11,I11,_,e11⟩=>?_
    subst e11
    exact⟨m',hm,i+1,ys++[y],_,_,⟨some v,rfl⟩,I11.unpinned,(back I11).1,(back I11).2,w10⟩
 exact codeAny_compStart_list loop (T.self _ 0 _ _ _ st4 loop)
end
end L2
namespace L2
open PySem PySem.Spec PyProof.Rows
def Walk(J:It)(xs:List V)(R:Hp→Prop):Prop :=
 ∀ H,R H→∀ i,(∀ x,xs[i]?=some x→J.go i H∧∀ y H',J.yld i H y H'→H'=H∧y=x)∧(i=xs.length→J.stop i H)
theorem walk_list{K:PySem.W.Frag}{a:Addr}{xs:List V}:Walk (Itl K a) xs (fun H=>SqL K H a xs):=fun H h i =>
 ⟨fun x hx=>⟨⟨xs,x,h,hx⟩,fun y H' z=>⟨z.1,by have:=z.2 xs h; rw[hx]at this; exact(Option.some.inj this).symm⟩⟩,fun hi=>⟨xs,h,Nat.le_of_eq hi.symm⟩⟩
theorem walk_tup{K:PySem.W.Frag}{a:Addr}{xs:List V}:Walk (Itt K a) xs (fun H=>SqT K H a xs):=fun H h i =>
 ⟨fun x hx=>⟨⟨xs,x,h,hx⟩,fun y H' z=>⟨z.1,by have:=z.2 xs h; rw[hx]at this; exact(Option.some.inj this).symm⟩⟩,fun hi=>⟨xs,h,Nat.le_of_eq hi.symm⟩⟩
def rngV(lo:Int)(n:Nat):List V:=(List.range n).map fun i=>V.int (lo+(i:Nat))
theorem rngV_len(lo:Int)(n:Nat):(rngV lo n).length=n:=by simp[rngV]
theorem walk_rng{lo:Int}{n:Nat}:Walk (Itr lo n) (rngV lo n) (fun _=>True):=fun H _ i=>by
 refine⟨fun x hx=>?_,fun hi=>by rw[rngV_len]at hi; exact Nat.le_of_eq hi.symm⟩
 have hlt:i<n:=by have:=(List.getElem?_eq_some_iff.mp hx).1; rw[rngV_len]at this; exact this
 refine⟨hlt,fun y H' z=>⟨z.1,?_⟩⟩
 unfold rngV at hx
 rw[List.getElem?_map,List.getElem?_range hlt]at hx
 have hx':V.int (lo+(i:Nat))=x:=Option.some.inj hx
 rw[z.2,← hx']
def sg(c:Nat):V:=.str ⟨#[c]⟩
def Its(z:Str):It:=⟨fun i _=>i<z.cps.size,fun i H x H'=>H'=H∧∃ c,z.cps[i]?=some c∧x=sg c,fun i _=>i=z.cps.size⟩
theorem walk_str{z:Str}:Walk (Its z) (z.cps.toList.map sg) (fun _=>True):=fun H _ i=>by
 refine⟨fun x hx=>?_,fun hi=>by show i=z.cps.size; simpa using hi⟩
 rw[List.getElem?_map]at hx
 cases e:z.cps.toList[i]? with
 | none=>rw[e]at hx; cases hx
 | some c =>
  rw[e]at hx
  have hlt:i<z.cps.size:=by have:=(List.getElem?_eq_some_iff.mp e).1; simpa using this
  refine⟨hlt,fun y H' w=>⟨w.1,?_⟩⟩
  obtain⟨c',e',rfl⟩:=w.2
  have:z.cps[i]?=some c:=by simpa using e
  rw[this]at e'
  cases e'
  exact(Option.some.inj hx)
theorem Same.upd{H H':Hp}{l:Addr}{o:HO}(h:Same H H')(hl:H l=none):Same H (upd H' l o):=fun b u e=>by
 rw[upd_ne (ne_of_none e hl)]; exact h b u e
theorem Same.tup{K:PySem.W.Frag}{H H':Hp}{a:Addr}{xs:List V}(e:Same H H')(h:SqT K H a xs):SqT K H' a xs:=by
 rcases h with(h | ⟨o,h⟩) | h
 ·exact .inl (.inl (e _ _ h))
 ·exact .inl (.inr ⟨o,e _ _ h⟩)
 ·exact .inr h
section
variable{X:Cx}{tg:Expr}
theorem turn_walks{P:Program}{w:World}{K:PySem.W.Frag}{z:Str}{it:Addr}{St':Nat→Heap→Prop} (hty:∀ i h,St' i h→∃ o n vs,h.get? it=some o∧o.cls = .type n∧o.data = .fields vs ∧
   ["enumerate","zip","dict_itemiterator","dict_reverseitemiterator","odict_iterator","itertools.zip_longest","itertools.pairwise"].contains n=false)
  (hself:∀ (A:Around) (i:Nat) (s:Shared) (Q:Value→Shared→Prop) (E:Value→Shared→Prop),St' i s.heap→Q (.ref it) s→wpAny (model P w) A (pyIter (.ref it)) Q E s)
  (hW:∀ A:Around,A.handled=none→Walks P w A it [it] [it] z.cps.size (SignAt z) St'):Turn P w K tg (Its z) [it] it St' where
 mem:=by simp
 obj:=fun i h st b hb=>by
  have e:b=it:=by simpa using hb
  subst e
  obtain⟨o,n,vs,h1,_,h3,_⟩:=hty i h st
  exact⟨o,h1,fun v q=>by rw[h3]at q; cases q⟩
 keep:=fun i h h' st k=>by
  exact(hW ({}:Around) rfl).frame i h h' st k
 item:=by
  intro X hP hw hK hc i pins s σ H E I hf st hg
  subst hP hw hK
  obtain⟨f0,f1,f2,f3,f4,f5⟩:=hf it (by simp)
  refine(hW X.A (I.ok.hd hc)).item i s _ _ hg st fun v h' tk hv st' k=>?_
  have I1:Inv X pins σ H { s with heap:=h',toks:=tk }:=I.turned (t':=tk) (fun b o hb e=>k b o (by simpa using hb) e) f0 f1 f3 f4 f5
  obtain⟨o,n,vs,h1,h2,h3,h4⟩:=hty _ _ st'
  obtain⟨c,u,e1,rfl⟩:=hv
  exact⟨_,rfl,go_of (s:={ s with heap:=h',toks:=tk }) h1 h2 h3 h4 ⟨sg c,H,I1,⟨u,rfl⟩,⟨rfl,c,e1,rfl⟩,st',fun b hb=>(hf b hb).1⟩⟩
 done:=by
  intro X hP hw hK hc i pins s σ H E I hf st hg
  subst hP hw hK
  obtain⟨f0,f1,f2,f3,f4,f5⟩:=hf it (by simp)
  have hg':i=z.cps.size:=hg
  subst hg'
  exact(hW X.A (I.ok.hd hc)).done s _ _ st fun h' tk k=>⟨rfl,I.turned (t':=tk) (fun b o hb e=>k b o (by simpa using hb) e) f0 f1 f3 f4 f5⟩
 self:=hself
theorem for_walk{J:It}{xs:List V}{R:Hp→Prop}{g:TG}{tb:TS}{D:Ends}{σ:St}{H:Hp}(hJ:Walk J xs R)(Pv:Nat→St→Hp→Prop)(h0:Pv 0 σ H)(hl:∀ i σ H,i≤xs.length→Pv i σ H→R H)
  (hs:∀ i x σ H,xs[i]?=some x→Pv i σ H→g x σ H fun σ2 H2=>tb { D with nx:=Pv (i+1),ct:=Pv (i+1),bk:=D.nx } σ2 H2) (hd:∀ σ H,Pv xs.length σ H→D.nx σ H) :
  ∃ W:Nat→Nat→St→Hp→Prop,(∃ m,W 0 m σ H)∧∀ i m σ H,W i m σ H →
   (J.stop i H∧D.nx σ H)∨(J.go i H∧∃ N:St→Hp→Prop,(∀ σ' H',N σ' H'→∃ m',m'<m∧W (i+1) m' σ' H')∧∀ x H',J.yld i H x H'→g x σ H' fun σ2 H2=>tb { D with nx:=N,ct:=N,bk:=D.nx } σ2 H2):=by
 refine⟨fun i m σ H=>m=xs.length-i∧i≤xs.length∧Pv i σ H,⟨xs.length,by simp,Nat.zero_le _,h0⟩,?_⟩
 rintro i m σ H ⟨rfl,hi,p⟩
 have q:=hJ H (hl i σ H hi p) i
 by_cases hlt:i<xs.length
 ·have hx:xs[i]?=some xs[i]:=by simp[hlt]
  obtain⟨go,yl⟩:=q.1 xs[i] hx
  refine .inr ⟨go,Pv (i+1),fun σ' H' p'=>⟨xs.length-(i+1),by ac_rfl,rfl,hlt,p'⟩,fun x H' y=>?_⟩
  obtain⟨rfl,rfl⟩:=yl x H' y
  exact hs i _ σ _ hx p
 ·have e:i=xs.length:=by ac_rfl
  subst e
  exact .inl ⟨q.2 rfl,hd σ H p⟩
theorem range_all{α:Type}(l:List α)(f:α→Bool)(d:Nat→Bool)(hd:∀ i x,l[i]?=some x→d i=f x):(List.range l.length).all d=l.all f:=by
 induction l generalizing d with
 | nil=>rfl
 | cons x r ih =>
  rw[List.length_cons,List.range_succ_eq_map,List.all_cons,List.all_map,List.all_cons,hd 0 x rfl]
  congr 1
  exact ih _ fun i y h=>hd (i+1) y (by simpa using h)
theorem bools_at{bs:List Bool}{us:List Value}(r:Vals (bs.map V.bl) us){i:Nat}{v:Value}(h:us.toArray[i]?=some v):v = .bool (bs.getD i false):=by
 have hl:=r.length
 rw[List.length_map]at hl
 have hi:i<us.length:=by have:=(Array.getElem?_eq_some_iff.mp h).1; simpa using this
 have e:(bs.map V.bl)[i]?=some (.bl (bs.getD i false)):=by
  rw[List.getElem?_map,List.getElem?_eq_getElem (by ac_rfl)]
  simp[List.getD,List.getElem?_eq_getElem (show i<bs.length by ac_rfl)]
 obtain⟨u,e1,e2⟩:=r.get e
 have:us[i]?=some v:=by simpa using h
 rw[this]at e1
 cases e1
 exact e2
theorem in1_handled{A:Around}(h:A.handled=none):A.in1.handled=none:=h
theorem call_allB(hc:X.calm=true):CallR X (.builtin "all") (fun xs H Q=>∃ (p:Addr) (bs:List Bool),xs=[.ref p]∧SqL X.K H p (bs.map V.bl)∧Q (.bl (bs.all id)) H):=by
 intro pins s σ H xs us Q I r h
 obtain⟨p,bs,rfl,hq,q⟩:=h
 obtain⟨u,rfl,ru⟩:=vals1 r
 cases ru
 obtain⟨its,rv,pl,hz⟩:=I.list hq
 have hl:=rv.length
 rw[List.length_map]at hl
 refine call_all_walk (wpAny_pyIter_list pl.isList ?_)
 have hne:p≠s.heap.objs.size:=by
  obtain⟨o,ho,_⟩:=pl.isList
  exact Nat.ne_of_lt (Heap.lt_size ho)
 refine⟨s.heap.objs.size,_,_,_,_,_,fun i=>bs.getD i false,rfl,Walks.list (in1_handled (I.ok.hd hc)) s.heap.objs.size p hne its.toArray,⟨⟨_,Heap.get?_push_size _ rfl,rfl,rfl⟩,?_⟩,fun i v s' Q' E' hv hQ=>?_,fun h' tk k=>?_⟩
 ·obtain⟨o,ho,hc,hd⟩:=pl.isList
  exact⟨o,Heap.get?_push_of_some _ ho,hc,hd⟩
 ·rw[bools_at rv hv]
  exact wpAny_truthy_bool hQ
 ·have e:(List.range its.toArray.size).all (fun i=>bs.getD i false)=bs.all id:=by
   rw[List.size_toArray,← hl]
   exact range_all bs id _ fun i x hx=>by simp[List.getD,hx]
  rw[e]
  have I1:Inv X pins σ H { s with heap:=s.heap.push { cls:=.type "list_iterator",data:=.fields #[.ref p,.int 0 0] },toks:=s.toks }:=I.kept (t':=s.toks) fun b o e=>Heap.get?_push_of_some _ e
  exact⟨.bl _,H,Inv.turned (t':=tk) I1 (it:=s.heap.objs.size) (fun b o hb e=>k b o (by simpa using hb) e) I.fresh (Nat.ne_of_gt I.lt) (.inr I.sz) (fun x c e z=>by
   obtain⟨v,qq⟩:=I.cell x c e
   exact absurd qq.lt (by rw[z]; exact Nat.lt_irrefl _)) (fun pp hp z=>absurd (Heap.lt_size (I.pin pp hp).1) (by rw[z]; exact Nat.lt_irrefl _)),rfl,q⟩
end
end L2
namespace L2
open PySem PySem.Spec PyProof.Rows
section
variable{X:Cx}
def cutS(z:Str)(lo hi:Option Int):Str:=⟨((z.cps.toList.drop (HT.sIx z.length 0 lo)).take (HT.sIx z.length z.length hi-HT.sIx z.length 0 lo)).toArray⟩
theorem sliceRange_nat(a b:Nat):sliceRange (a:Int) (b:Int) 1=(List.range (b-a)).map fun k=>a+k:=by
 unfold sliceRange
 have e:(if(1:Int) > 0 then(if(a:Int)<(b:Int)then((b:Int)-a+1-1) / 1 else 0)else(if(a:Int) > b then((a:Int)-b-1-1) / (-1)else 0)).toNat=b-a:=by
  rw[if_pos (by decide)]
  split
  ·rw[Int.ediv_one]; ac_rfl
  ·have:b-a=0:=by ac_rfl
   rw[this]; rfl
 show(List.range (if(1:Int) > 0 then(if(a:Int)<(b:Int)then((b:Int)-a+1-1) / 1 else 0)else(if(a:Int) > b then((a:Int)-b-1-1) / (-1)else 0)).toNat).map _=_
 rw[e]
 refine List.map_congr_left fun k _=>?_
 ac_rfl
theorem strSliceIndices_cut(lo hi:Option Int)(n:Nat):Builtin.Str.strSliceIndices lo hi 1 n=(List.range (HT.sIx n n hi-HT.sIx n 0 lo)).map fun k=>HT.sIx n 0 lo+k:=by
 rw[← sliceRange_nat]
 have p:(1:Int) > 0:=by decide
 cases lo <;> cases hi <;> (unfold Builtin.Str.strSliceIndices HT.sIx; simp only[p,if_true]; congr 1 <;> (try split) <;> ac_rfl)
theorem pick_cut{α:Type}(l:List α)(a k:Nat):((List.range k).map fun j=>a+j).filterMap (fun i=>l[i]?)=(l.drop a).take k:=by
 induction k with
 | zero=>simp
 | succ k ih =>
  rw[List.range_succ,List.map_append,List.filterMap_append,ih,List.take_succ]
  congr 1
  simp[List.filterMap_cons]
  cases l[a+k]? <;> rfl
theorem slice_text(z:Str)(t:Tok)(l u:Option (Int×Tok)):∃ m,sliceMade z t l u none=m∧(m = .val (.str z t)∧cutS z (l.map (·.1)) (u.map (·.1))=z∨m = .str (cutS z (l.map (·.1)) (u.map (·.1)))):=by
 refine⟨_,rfl,?_⟩
 unfold sliceMade slicePicked
 have e:=strSliceIndices_cut (l.map (·.1)) (u.map (·.1)) z.length
 simp only[Option.map_none,Option.getD_none]
 rw[e]
 have pk:=pick_cut z.cps.toList (HT.sIx z.length 0 (l.map (·.1))) (HT.sIx z.length z.length (u.map (·.1))-HT.sIx z.length 0 (l.map (·.1)))
 have pk':(((List.range (HT.sIx z.length z.length (u.map (·.1))-HT.sIx z.length 0 (l.map (·.1)))).map fun k=>HT.sIx z.length 0 (l.map (·.1))+k).filterMap (z.cps[·]?)).toArray=(cutS z (l.map (·.1)) (u.map (·.1))).cps:=by
  unfold cutS
  rw[← pk]
  simp
 split
 ·rename_i h
  left
  refine⟨rfl,?_⟩
  simp only[beq_self_eq_true,Bool.true_and,List.length_map,List.length_range,beq_iff_eq]at h
  have h0:HT.sIx z.length z.length (u.map (·.1))≤z.length:=HT.sIx_le _ _ (Nat.le_refl _) _
  have hl:z.cps.toList.length=z.length:=by simp[Str.length]
  have h1:HT.sIx z.length 0 (l.map (·.1))=0∨z.length=0:=by ac_rfl
  unfold cutS
  rw[h]
  rcases h1 with h1 | h1
  ·rw[h1,List.drop_zero,List.take_of_length_le (by ac_rfl)]
  ·have:z.cps.toList=[]:=List.eq_nil_of_length_eq_zero (by ac_rfl)
   rw[this]
   cases z
   rename_i c
   simp at this
   subst this
   simp
 ·right
  rw[show(⟨(((List.range (HT.sIx z.length z.length (u.map (·.1))-HT.sIx z.length 0 (l.map (·.1)))).map fun k=>HT.sIx z.length 0 (l.map (·.1))+k).filterMap (z.cps[·]?)).toArray⟩:Str)=cutS z (l.map (·.1)) (u.map (·.1))from by rw[pk']]
def rSlS:V→Option Int→Option Int→Hp→VK→Prop:=fun x lo hi H Q=>∃ z,x = .str z∧z.length≤sizeLine∧Q (.str (cutS z lo hi)) H
theorem cutS_le(z:Str)(lo hi:Option Int):(cutS z lo hi).length≤z.length:=by
 unfold cutS Str.length
 simp
 ac_rfl
theorem part_of{v:Value}{o:Option Int}(p:IsPart v o):∃ q:Option (Int×Tok),v=partValue q∧q.map (·.1)=o:=by
 cases p with
 | none=>exact⟨none,rfl,rfl⟩
 | int i t=>exact⟨some (i,t),rfl,rfl⟩
theorem sl_str:SlR X rSlS:=by
 intro pins s σ H x v vl vu lo hi sl Q I rx hs pl pu h
 obtain⟨z,rfl,hz,q⟩:=h
 obtain⟨t,rfl⟩:=rx
 obtain⟨l,rfl,rfl⟩:=part_of pl
 obtain⟨u,rfl,rfl⟩:=part_of pu
 refine⟨"str",_,F.slot_str_getitem.lookup,typeIs_str s z t,?_⟩
 obtain⟨m,em,hm⟩:=slice_text z t l u
 refine getItem_meets (typeIs_str s z t) (by decide) F.slot_str_getitem F.entry_str_getitem (F.args_str_getitem_2 _ _) (meets_str_getitem_slice z t sl l u none (by decide)) ⟨hs,?_⟩
 rw[em]
 rcases hm with⟨rfl,e⟩ | rfl
 ·exact⟨.str z,H,I,⟨t,rfl⟩,by rw[e]at q; exact q⟩
 ·exact⟨Nat.le_trans (cutS_le z _ _) hz,⟨.str _,H,I.tok _,⟨_,rfl⟩,q⟩⟩
end
end L2
namespace L2
open PySem PySem.Spec PyProof.Rows
section
variable{X:Cx}
def EqV(K:PySem.W.Frag)(H:Hp)(d:Nat)(x y:V)(k:Bool):Prop :=
 ∀ (X:Cx),X.K=K→∀ (pins:List (Addr×Obj)) (σ:St) (s:Shared) (u v:Value) (A:Around),Inv X pins σ H s→RelV x u→RelV y v→A.units+d<cLine→SeqAt.EqAt A s u v k
theorem eqv_flat{K:PySem.W.Frag}{H:Hp}{d:Nat}{x y:V}(fx:flatV x=true)(fy:flatV y=true):EqV K H d x y (eqV x y):=fun _ _ _ _ _ _ _ _ _ rx ry _=>eqAt_V rx ry fx fy
def allEq(e:Nat→Bool)(n m:Nat):Bool:=(List.range (min n m)).all e && n == m
theorem in1_units{A:Around}:A.in1.units=A.units+1:=rfl
theorem rc_list{H:Hp}{d:Nat}{a b:Addr}{xs ys:List V}{e:Nat→Bool}{pins:List (Addr×Obj)}{σ:St}{s:Shared}{A:Around}(I:Inv X pins σ H s)(ha:SqL X.K H a xs)(hb:SqL X.K H b ys)
  (he:∀ (j:Nat) x y,xs[j]?=some x→ys[j]?=some y→EqV X.K H d x y (e j)) (hu:A.units+(d+1)<cLine):SeqAt.RcAt A s (.ref a) (.ref b) (allEq e xs.length ys.length)∧SeqAt.RcNeAt A s (.ref a) (.ref b) (!allEq e xs.length ys.length):=by
 obtain⟨us,ru,pu,_⟩:=I.list ha
 obtain⟨vs,rv,pv',_⟩:=I.list hb
 have hl1:=ru.length
 have hl2:=rv.length
 have hE:∀ j (h1:j<us.toArray.size) (h2:j<vs.toArray.size),SeqAt.EqAt A.in1 s us.toArray[j] vs.toArray[j] (e j):=fun j h1 h2=>by
  have h1':j<us.length:=by simpa using h1
  have h2':j<vs.length:=by simpa using h2
  have e1:xs[j]?=some xs[j]:=List.getElem?_eq_getElem (by ac_rfl)
  have e2:ys[j]?=some ys[j]:=List.getElem?_eq_getElem (by ac_rfl)
  obtain⟨u,q1,r1⟩:=ru.get e1
  obtain⟨v,q2,r2⟩:=rv.get e2
  have f1:us[j]=u:=by rw[List.getElem?_eq_getElem h1']at q1; exact Option.some.inj q1
  have f2:vs[j]=v:=by rw[List.getElem?_eq_getElem h2']at q2; exact Option.some.inj q2
  have:=he j xs[j] ys[j] e1 e2 X rfl pins σ s u v A.in1 I r1 r2 (by rw[in1_units]; ac_rfl)
  simpa[f1,f2]using this
 by_cases hsz:xs.length=ys.length
 ·have hs:us.toArray.size=vs.toArray.size:=by simp; ac_rfl
  have e1:allEq e xs.length ys.length=(List.range us.toArray.size).all e:=by
   unfold allEq
   rw[hsz,Nat.min_self,beq_self_eq_true,Bool.and_true,List.size_toArray,← hl1,hsz]
  rw[e1]
  exact⟨.lists pu.isList pv'.isList hs (by ac_rfl) hE,.lists pu.isList pv'.isList hs (by ac_rfl) hE⟩
 ·have e1:allEq e xs.length ys.length=false:=by
   unfold allEq
   rw[beq_false_of_ne hsz,Bool.and_false]
  have hs:(us.toArray.size != vs.toArray.size)=true:=by simp; ac_rfl
  rw[e1]
  exact⟨.lists_lengths pu.isList pv'.isList hs (by ac_rfl),.lists_lengths pu.isList pv'.isList hs (by ac_rfl)⟩
theorem rc_tup{H:Hp}{d:Nat}{a b:Addr}{xs ys:List V}{e:Nat→Bool}{pins:List (Addr×Obj)}{σ:St}{s:Shared}{A:Around}(I:Inv X pins σ H s)(ha:SqT X.K H a xs)(hb:SqT X.K H b ys)
  (he:∀ (j:Nat) x y,xs[j]?=some x→ys[j]?=some y→EqV X.K H d x y (e j)) (hu:A.units+(d+1)<cLine):SeqAt.RcAt A s (.ref a) (.ref b) (allEq e xs.length ys.length)∧SeqAt.RcNeAt A s (.ref a) (.ref b) (!allEq e xs.length ys.length):=by
 obtain⟨us,ru,pu,_⟩:=I.tuple ha
 obtain⟨vs,rv,pv',_⟩:=I.tuple hb
 have hl1:=ru.length
 have hl2:=rv.length
 have hE:∀ j (h1:j<us.toArray.size) (h2:j<vs.toArray.size),SeqAt.EqAt A.in1 s us.toArray[j] vs.toArray[j] (e j):=fun j h1 h2=>by
  have h1':j<us.length:=by simpa using h1
  have h2':j<vs.length:=by simpa using h2
  have e1:xs[j]?=some xs[j]:=List.getElem?_eq_getElem (by ac_rfl)
  have e2:ys[j]?=some ys[j]:=List.getElem?_eq_getElem (by ac_rfl)
  obtain⟨u,q1,r1⟩:=ru.get e1
  obtain⟨v,q2,r2⟩:=rv.get e2
  have f1:us[j]=u:=by rw[List.getElem?_eq_getElem h1']at q1; exact Option.some.inj q1
  have f2:vs[j]=v:=by rw[List.getElem?_eq_getElem h2']at q2; exact Option.some.inj q2
  have:=he j xs[j] ys[j] e1 e2 X rfl pins σ s u v A.in1 I r1 r2 (by rw[in1_units]; ac_rfl)
  simpa[f1,f2]using this
 have e1:allEq e xs.length ys.length=((List.range (min us.toArray.size vs.toArray.size)).all e && us.toArray.size == vs.toArray.size):=by
  unfold allEq
  rw[List.size_toArray,List.size_toArray,← hl1,← hl2]
 rw[e1]
 exact⟨.tuples pu pv' (by ac_rfl) hE,.tuples pu pv' (by ac_rfl) hE⟩
theorem eqv_list{K:PySem.W.Frag}{H:Hp}{d:Nat}{a b:Addr}{xs ys:List V}{e:Nat→Bool}(ha:SqL K H a xs)(hb:SqL K H b ys)(hne:a≠b)(he:∀ (j:Nat) x y,xs[j]?=some x→ys[j]?=some y→EqV K H d x y (e j)) :
  EqV K H (d+1) (.ref a) (.ref b) (allEq e xs.length ys.length):=fun X hK pins σ s u v A I ru rv hu=>by
 subst hK
 cases ru
 cases rv
 exact .of_refs hne (rc_list I ha hb he hu).1
theorem eqv_tup{K:PySem.W.Frag}{H:Hp}{d:Nat}{a b:Addr}{xs ys:List V}{e:Nat→Bool}(ha:SqT K H a xs)(hb:SqT K H b ys)(hne:a≠b)(he:∀ (j:Nat) x y,xs[j]?=some x→ys[j]?=some y→EqV K H d x y (e j)) :
  EqV K H (d+1) (.ref a) (.ref b) (allEq e xs.length ys.length):=fun X hK pins σ s u v A I ru rv hu=>by
 subst hK
 cases ru
 cases rv
 exact .of_refs hne (rc_tup I ha hb he hu).1
theorem eqv_same{K:PySem.W.Frag}{H:Hp}{d:Nat}{a:Addr}:EqV K H d (.ref a) (.ref a) true:=fun X hK pins σ s u v A I ru rv hu=>by
 cases ru
 cases rv
 exact .same _
def rEqQ(K:PySem.W.Frag)(neg:Bool):R2:=fun x y H Q=>∃ a b xs ys d e,x = .ref a∧y = .ref b∧((SqL K H a xs∧SqL K H b ys)∨(SqT K H a xs∧SqT K H b ys))∧d≤8 ∧
 (∀ (j:Nat) x y,xs[j]?=some x→ys[j]?=some y→EqV K H d x y (e j))∧Q (.bl (if neg then !allEq e xs.length ys.length else allEq e xs.length ys.length)) H
theorem op_eqQ(hu:X.A.units+64<cLine):OpR X (compareOp .Eq) (rEqQ X.K false):=by
 intro pins s σ H x y v u Q I rx ry h
 obtain⟨a,b,xs,ys,d,e,rfl,rfl,hs,hd,he,q⟩:=h
 cases rx
 cases ry
 rcases hs with⟨h1,h2⟩ | ⟨h1,h2⟩
 ·exact(rc_list I h1 h2 he (by ac_rfl)).1 _ _ _ _ ⟨.bl _,H,I,rfl,q⟩
 ·exact(rc_tup I h1 h2 he (by ac_rfl)).1 _ _ _ _ ⟨.bl _,H,I,rfl,q⟩
theorem op_neQ(hu:X.A.units+64<cLine):OpR X (compareOp .NotEq) (rEqQ X.K true):=by
 intro pins s σ H x y v u Q I rx ry h
 obtain⟨a,b,xs,ys,d,e,rfl,rfl,hs,hd,he,q⟩:=h
 cases rx
 cases ry
 rcases hs with⟨h1,h2⟩ | ⟨h1,h2⟩
 ·exact(rc_list I h1 h2 he (by ac_rfl)).2 _ _ _ _ ⟨.bl _,H,I,rfl,q⟩
 ·exact(rc_tup I h1 h2 he (by ac_rfl)).2 _ _ _ _ ⟨.bl _,H,I,rfl,q⟩
def rCountQ(K:PySem.W.Frag):V→List V→Hp→VK→Prop:=fun x vs H Q=>∃ (p:Addr) (xs:List V) (y:V),x = .ref p∧vs=[y]∧H p=some (.lst xs)∧flatV y=true∧xs.all flatV=true∧Q (.int ((xs.countP fun z=>eqV z y:Nat):Int)) H
theorem countP_eqU{y:V}:∀ {xs:List V} {us:List Value},Vals xs us→xs.all flatV=true→us.countP (eqU y)=xs.countP fun z=>eqV z y
 | _,_,.nil,_=>rfl
 | z::xs,u::us,.cons r t,f=>by
  rw[List.all_cons,Bool.and_eq_true]at f
  rw[List.countP_cons,List.countP_cons,eqU_of r f.1,countP_eqU t f.2]
theorem mt_count:MtM X "list.count" (rCountQ X.K):=by
 intro pins s σ H x vs v us Q I rx rv h
 obtain⟨p,xs,y,rfl,rfl,hH,fy,fx,q⟩:=h
 cases rx
 obtain⟨u,rfl,ru⟩:=rv.one
 obtain⟨z,its,n,r,hl,e⟩:=I.lstM hH
 refine call_meets F.slot_list_count ⟨_,e,rfl⟩ F.entry_list_count (F.args_list_count_2 _ _) (SeqAt.list_countAt p its.toArray n none #[] u (eqU y)) ⟨e,fun w hw=>mem_eqAt ru fy r fx w (by simpa using hw),?_⟩
 exact⟨.int _,H,I.tok _,⟨_,by rw[List.toList_toArray,countP_eqU r fx]⟩,q⟩
def rCountT(K:PySem.W.Frag):V→List V→Hp→VK→Prop:=fun x vs H Q=>∃ (p:Addr) (xs:List V) (y:V),x = .ref p∧vs=[y]∧SqT K H p xs∧flatV y=true∧xs.all flatV=true∧Q (.int ((xs.countP fun z=>eqV z y:Nat):Int)) H
theorem mt_countT:MtM X "tuple.count" (rCountT X.K):=by
 intro pins s σ H x vs v us Q I rx rv h
 obtain⟨p,xs,y,rfl,rfl,hH,fy,fx,q⟩:=h
 cases rx
 obtain⟨u,rfl,ru⟩:=rv.one
 obtain⟨its,r,⟨⟨cls,dd,data,sl⟩,e,hc,n,hd⟩,hz⟩:=I.tuple hH
 simp only at hc hd
 subst hc hd
 refine call_meets F.slot_tuple_count ⟨_,e,rfl⟩ F.entry_tuple_count (F.args_tuple_count_2 _ _) (SeqAt.tuple_countAt p its.toArray n dd sl u (eqU y)) ⟨e,fun w hw=>mem_eqAt ru fy r fx w (by simpa using hw),?_⟩
 exact⟨.int _,H,I.tok _,⟨_,by rw[List.toList_toArray,countP_eqU r fx]⟩,q⟩
def rIndexQ:V→List V→Hp→VK→Prop:=fun x vs H Q=>∃ (p:Addr) (xs:List V) (y:V) (j:Nat),x = .ref p∧vs=[y]∧H p=some (.lst xs)∧flatV y=true∧xs.all flatV=true∧j<xs.length ∧
 (∀ z,xs[j]?=some z→eqV z y=true)∧(∀ (i:Nat) z,i<j→xs[i]?=some z→eqV z y=false)∧Q (.int j) H
theorem mt_index:MtM X "list.index" rIndexQ:=by
 intro pins s σ H x vs v us Q I rx rv h
 obtain⟨p,xs,y,j,rfl,rfl,hH,fy,fx,hj,h1,h2,q⟩:=h
 cases rx
 obtain⟨u,rfl,ru⟩:=rv.one
 obtain⟨z,its,n,r,hl,e⟩:=I.lstM hH
 have hz:=line63
 have at':∀ (i:Nat) (hi:i<its.toArray.size),∃ w,xs[i]?=some w∧eqU y its.toArray[i]=eqV w y:=fun i hi=>by
  have hi':i<its.length:=by simpa using hi
  have e1:xs[i]?=some xs[i]:=List.getElem?_eq_getElem (by ac_rfl)
  obtain⟨w,q1,r1⟩:=r.get e1
  have f1:its[i]=w:=by rw[List.getElem?_eq_getElem hi']at q1; exact Option.some.inj q1
  refine⟨_,e1,?_⟩
  have fl:flatV xs[i]=true:=List.all_eq_true.mp fx _ (List.getElem_mem _)
  rw[← eqU_of r1 fl]
  simp[f1]
 refine call_meets F.slot_list_index ⟨_,e,rfl⟩ F.entry_list_index (F.args_list_index_2 _ _) (SeqAt.list_indexAt p its.toArray n none #[] u (eqU y) j (by simp; ac_rfl) (by ac_rfl) ?_ ?_) ⟨e,fun w hw=>mem_eqAt ru fy r fx w (by simpa using hw),?_⟩
 ·obtain⟨w,q1,q2⟩:=at' j (by simp; ac_rfl)
  rw[q2]; exact h1 w q1
 ·intro m hm hmj
  obtain⟨w,q1,q2⟩:=at' m hm
  rw[q2]; exact h2 m w hmj q1
 ·exact⟨.int _,H,I.tok _,⟨_,rfl⟩,q⟩
end
end L2
namespace L2
open PySem PySem.Spec PyProof.Rows
noncomputable abbrev Tx:=List Nat
def tS(l:Tx):Str:=⟨l.toArray⟩
def tV(l:Tx):V:=.str (tS l)
def tVs(ls:List Tx):List V:=ls.map tV
theorem tS_cps(l:Tx):(tS l).cps.toList=l:=by simp[tS]
theorem tS_len(l:Tx):(tS l).length=l.length:=by simp[tS,Str.length]
theorem tS_of(z:Str):tS z.cps.toList=z:=by cases z; simp[tS]
theorem tS_inj{a b:Tx}(h:tS a=tS b):a=b:=by rw[← tS_cps a,h,tS_cps]
theorem tVs_len(ls:List Tx):(tVs ls).length=ls.length:=List.length_map _
def leT(a b:Tx):Bool:=decide (a≤b)
def sortT(ls:List Tx):List Tx:=ls.mergeSort leT
theorem leT_trans(a b c:Tx)(h1:leT a b=true)(h2:leT b c=true):leT a c=true:=by
 simp only[leT,decide_eq_true_eq]at *
 exact List.le_trans h1 h2
theorem leT_total(a b:Tx):(leT a b || leT b a)=true:=by
 simp only[leT,Bool.or_eq_true,decide_eq_true_eq]
 exact List.le_total a b
theorem leT_antisymm{a b:Tx}(h1:leT a b=true)(h2:leT b a=true):a=b:=by
 simp only[leT,decide_eq_true_eq]at *
 exact List.le_antisymm h1 h2
theorem sortT_perm(ls:List Tx):(sortT ls).Perm ls:=List.mergeSort_perm _ _
theorem sortT_rises(ls:List Tx):(sortT ls).Pairwise (fun a b=>leT a b=true):=List.pairwise_mergeSort leT_trans leT_total _
theorem sortT_len(ls:List Tx):(sortT ls).length=ls.length:=(sortT_perm ls).length_eq
theorem eq_sortT{ls ms:List Tx}(hp:ms.Perm ls)(hs:ms.Pairwise (fun a b=>leT a b=true)):ms=sortT ls :=
 List.Perm.eq_of_pairwise (le:=fun a b=>leT a b=true) (fun _ _ _ _ h1 h2=>leT_antisymm h1 h2) hs (sortT_rises ls) (hp.trans (sortT_perm ls).symm)
theorem sortT_of_rises{ls:List Tx}(hs:ls.Pairwise (fun a b=>leT a b=true)):sortT ls=ls:=(eq_sortT (List.Perm.refl ls) hs).symm
theorem sortT_congr{ls ms:List Tx}(hp:ls.Perm ms):sortT ls=sortT ms:=eq_sortT ((sortT_perm ls).trans hp) (sortT_rises ls)
theorem rising_pairwise:∀ (p:Str) (l:List Str),risingS p l=true→(p::l).Pairwise (fun a b=>leT a.cps.toList b.cps.toList=true)
 | p,[],_=>List.pairwise_singleton _ _
 | p,x::r,h=>by
  have h':(!ltCps x.cps.toList p.cps.toList && risingS x r)=true:=h
  rw[Bool.and_eq_true,ltCps_eq]at h'
  have q:=rising_pairwise x r h'.2
  have px:leT p.cps.toList x.cps.toList=true:=by
   simp only[leT,decide_eq_true_eq]
   intro hlt
   simp[hlt]at h'
  refine List.pairwise_cons.mpr ⟨fun y hy=>?_,q⟩
  rcases List.mem_cons.mp hy with rfl | hy
  ·exact px
  ·exact leT_trans _ _ _ px (List.rel_of_pairwise_cons q hy)
theorem sortedS_T{ss:List Str}(h:sortedS ss=true):(ss.map fun z=>z.cps.toList).Pairwise (fun a b=>leT a b=true):=by
 rw[List.pairwise_map]
 cases ss with
 | nil=>exact List.Pairwise.nil
 | cons x r=>exact rising_pairwise x r h
theorem vals_strs:∀ {ls:List Tx} {us:List Value},Vals (tVs ls) us→StrsAre us (ls.map tS)
 | [],_,.nil=>.nil
 | l::ls,_::_,.cons ⟨t,e⟩ r=>by subst e; exact .cons _ t (vals_strs (ls:=ls) r)
theorem strs_vals:∀ {ss:List Str} {us:List Value},StrsAre us ss→Vals (tVs (ss.map fun z=>z.cps.toList)) us
 | _,_,.nil=>.nil
 | _,_,.cons y t h=>.cons ⟨t,by rw[tS_of]⟩ (strs_vals h)
section
variable{P:Program}{w:World}{A:Around}{E:Value→Shared→Prop}{s:Shared}
theorem sorted_gen{v:Value}{Q:Value→Shared→Prop}
  (hc:wpAny (model P w) A.in1 (collect v) (fun vs s1=>∃ ss:List Str,StrsAre vs ss∧vs.length<64∧∀ (h':Heap) (out:Array Value) (ss':List Str) (e:Nat),(∀ b o,s1.heap.get? b=some o→h'.get? b=some o) →
   h'.get? s1.heap.objs.size=some (seqObj "list" out e)→StrsAre out.toList ss'→ss'.Perm ss→sortedS ss'=true→Q (.ref s1.heap.objs.size) { s1 with heap:=h' }) E s) :
  wpAny (model P w) A (call (.builtin "sorted") [v]) Q E s:=by
 refine Calls.call_function_entry kind_sorted plain_sorted entry_sorted (args_sorted1 _) ?_
 unfold Builtin.«sorted»
 refine wpAny_bind (m:=checkCount "sorted" 1 1 _) (wpAny_pure ?_)
 refine wpAny_bind (thn hc fun vs s1 ⟨ss,hS,h64,fin⟩=>?_)
 refine wpAny_bind (wpAny_newList ?_)
 have hoL:(s1.heap.push (seqObj "list" vs.toArray 0)).get? s1.heap.objs.size=some (seqObj "list" vs.toArray 0):=Heap.get?_push_size _ rfl
 refine wpAny_bind (wpAny_holding (wpAny_call_entry slot_list_sort ⟨_,hoL,rfl⟩ entry_list_sort (list_sort_treeK strKind_oneLt hoL hS.keysOf (fun a b c e=>keyKind_strs (by rw[← e]; exact hS)) h64 fun st' hp hs=>⟨_,rfl,?_⟩) (args_list_sort _)))
 obtain⟨ss',a1,a2,a3⟩:=sorted_out_str hS hp hs
 obtain⟨e,he⟩:=sortedHeap_at (out:=(arrOf st').map (·.2)) hoL
 refine wpAny_pure ⟨_,rfl,fin _ _ ss' e (fun b o hb=>?_) he a1 a2 a3⟩
 have hlt:b<s1.heap.objs.size:=Heap.lt_size hb
 rw[sortedHeap_old (Nat.ne_of_lt hlt) (by rw[size_push']; exact Nat.lt_succ_of_lt hlt)]
 exact Heap.get?_push_of_some _ hb
end
section
variable{X:Cx}
theorem Inv.sorted{pins:List (Addr×Obj)}{σ:St}{H:Hp}{s1:Shared}{ls:List Tx}{ss ss':List Str}{h':Heap}{out:Array Value}{e:Nat}(I:Inv X pins σ H s1)(hl:ss=ls.map tS)(h64:ls.length<64)
  (k:∀ b o,s1.heap.get? b=some o→h'.get? b=some o) (ho:h'.get? s1.heap.objs.size=some (seqObj "list" out e)) (a1:StrsAre out.toList ss') (a2:ss'.Perm ss) (a3:sortedS ss'=true) :
  Inv X pins σ (upd H s1.heap.objs.size (.lst (tVs (sortT ls)))) { s1 with heap:=h' }:=by
 have e1:ss'.map (fun z=>z.cps.toList)=sortT ls:=by
  refine eq_sortT ?_ (sortedS_T a3)
  have:=a2.map fun z=>z.cps.toList
  rw[hl,List.map_map]at this
  have e2:(ls.map ((fun z:Str=>z.cps.toList) ∘ tS))=ls:=by
   simp[Function.comp_def,tS_cps]
  rw[e2]at this
  exact this
 have hv:Vals (tVs (sortT ls)) out.toList:=by rw[← e1]; exact strs_vals a1
 refine I.laid (t':=s1.toks) k (Nat.le_refl _) ⟨?_,out.toList,e,hv,?_⟩
 ·rw[tVs_len,sortT_len]
  exact Nat.le_of_lt (small1000 (by ac_rfl))
 ·rw[Array.toArray_toList]; exact ho
theorem mul_text(z:Tx)(n:Nat):Txt.mul (tS z) (n:Int)=tS (List.replicate n z).flatten:=by
 unfold Txt.mul
 cases n with
 | zero=>simp[tS,Str.empty]
 | succ n =>
  rw[if_neg (by ac_rfl)]
  split
  ·rename_i h
   simp only[Bool.or_eq_true,beq_iff_eq]at h
   rcases h with h | h
   ·have:n=0:=by ac_rfl
    subst this
    simp
   ·rw[tS_len]at h
    have:z=[]:=List.eq_nil_of_length_eq_zero h
    subst this
    simp
  ·unfold tS
   congr 1
   have gen:∀ (k:Nat) (acc:Array Nat),(List.replicate k z.toArray).foldl (·++·) acc=acc++(List.replicate k z).flatten.toArray:=by
    intro k
    induction k with
    | zero=>intro acc; simp
    | succ k ih=>intro acc; rw[List.replicate_succ,List.foldl_cons,ih,List.replicate_succ,List.flatten_cons]; simp[Array.append_assoc]
   have e:=gen (n+1) #[]
   simp only[Int.toNat_natCast]
   simpa using e
theorem op_mulT:OpR X (binaryOp .Mult) (fun x y H Q=>∃ (z:Tx) (n:Nat),x=tV z∧y = .int n∧n≤100∧z.length≤100∧Q (tV (List.replicate n z).flatten) H):=by
 intro pins s σ H x y v u Q I rx ry h
 obtain⟨z,n,rfl,rfl,hn,hz,q⟩:=h
 obtain⟨t,rfl⟩:=rx
 obtain⟨t',rfl⟩:=ry
 refine SB.mul ?_ fun t2 k=>?_
 ·have hp:z.length * n≤10000:=Nat.le_trans (Nat.mul_le_mul hz hn) (by decide)
  refine⟨by rw[Bool.or_eq_false_iff]; constructor <;> (apply decide_eq_false; ac_rfl),fun h1 _=>?_,fun h1 _=>?_⟩
  ·rw[tS_len]
   intro hgt
   have h2:(2 ^ 63-1:Int) / n ≥ (2 ^ 63-1) / 100:=by
    have hn0:(0:Int)<n:=by ac_rfl
    apply (Int.le_ediv_iff_mul_le hn0).mpr
    have:((2 ^ 63-1:Int) / 100) * n≤((2 ^ 63-1) / 100) * 100:=Int.mul_le_mul_of_nonneg_left (by ac_rfl) (by decide)
    refine Int.le_trans this (by decide)
   have h3:((2 ^ 63-1:Int) / 100) > 1000:=by decide
   ac_rfl
  ·rw[tS_len,Int.toNat_natCast]
   unfold Builtin.Str.tooLong
   apply decide_eq_false
   have:10000<sizeLine:=by rw[sizeLine_eq]; decide
   ac_rfl
 ·rw[mul_text]
  exact⟨tV _,H,I.tok _,⟨_,rfl⟩,q⟩
end
end L2
namespace L2
open PySem PySem.Spec PyProof.Rows
theorem put_marks(t:SetTable)(j:Nat):(t.put j).1.led=t.led∧(t.put j).1.plain=t.plain:=⟨rfl,rfl⟩
theorem orStandIn_marks(t:SetTable)(n:Nat):(t.orStandIn n).led=t.led∧((t.orStandIn n).plain=t.plain∨(t.orStandIn n).plain=false):=by
 unfold SetTable.orStandIn
 split
 ·exact⟨rfl,.inl rfl⟩
 ·exact⟨rfl,.inr rfl⟩
theorem layNew_marks(t:SetTable)(es:Array (Int×Value))(h:Int)(x:Value):(layNew t es h x).2.1.led=t.led∧((layNew t es h x).2.1.plain=t.plain∨(layNew t es h x).2.1.plain=false):=by
 unfold layNew
 split
 ·rename_i slot wasDummy _
  have h1:=put_marks t slot
  have h2:=orStandIn_marks (t.put slot).1 (SetTable.insertAt es (t.put slot).2 (h,x)).size
  exact⟨h2.1.trans h1.1,by rw[← h1.2]; exact h2.2⟩
 ·exact⟨rfl,.inr rfl⟩
theorem relayAll_marks(t:SetTable)(es:Array (Int×Value))(wanted:Nat)(hp:t.plain=false):(relayAll t es wanted).2.1.led=t.led∧(relayAll t es wanted).2.1.plain=false:=by
 unfold relayAll
 split
 ·rename_i t' order e
  have q:t'.led=t.led∧t'.plain=t.plain:=by
   unfold SetTable.relaid SetTable.laid at e
   cases q:SetTable.layClean (SetTable.sizeAbove wanted-1) (es.map (·.1))with
   | none=>rw[q]at e; cases e
   | some ow=>rw[q]at e; cases e; exact⟨rfl,rfl⟩
  dsimp only
  split
  ·exact⟨q.1,q.2.trans hp⟩
  ·exact⟨rfl,rfl⟩
 ·exact⟨rfl,rfl⟩
def byTx(w:World):Bool:=w.params.followText "set-order"
structure SetS(P:Program)(w:World)(h:Heap)(a:Addr)(ks:List Str):Prop where
 ex:∃ (es:Array (Int×Value)) (ep:Nat) (t:SetTable) (ss:List Str),h.get? a=some { cls:=.type "set",dict:=none,data:=.set es ep t }∧StrsAre (es.toList.map (·.2)) ss∧ss.Perm ks∧ElemsOf (PySem.strKind P w) es.toList ∧
  es.size<4090∧t.fits es.size=true∧t.led=(!byTx w)∧(ks≠[]→t.plain=false)
theorem SetS.at{P:Program}{w:World}{h h':Heap}{a:Addr}{ks:List Str}(S:SetS P w h a ks)(k:∀ o,h.get? a=some o→h'.get? a=some o):SetS P w h' a ks:=by
 obtain⟨es,ep,t,ss,e,r⟩:=S.ex
 exact⟨es,ep,t,ss,k _ e,r⟩
theorem strs_mem:∀ {vs:List Value} {ss:List Str},StrsAre vs ss→∀ x,x∈ss↔∃ t,Value.str x t∈vs
 | _,_,.nil,x=>by simp
 | _,_,.cons y t h,x=>by
  rw[List.mem_cons,strs_mem h x]
  constructor
  ·rintro(rfl | ⟨t',q⟩)
   ·exact⟨t,List.mem_cons_self ..⟩
   ·exact⟨t',List.mem_cons_of_mem _ q⟩
  ·rintro⟨t',q⟩
   rcases List.mem_cons.mp q with q | q
   ·cases q; exact .inl rfl
   ·exact .inr ⟨t',q⟩
theorem strs_perm:∀ {us vs:List Value},us.Perm vs→∀ {ss:List Str},StrsAre vs ss→∃ ss',StrsAre us ss'∧ss'.Perm ss:=by
 intro us vs p ss h
 refine⟨us.map strOf,strsAre_map us fun v hv=>h.all v (p.mem_iff.mp hv),?_⟩
 have:=p.map strOf
 rwa[h.strs]at this
section
variable{P:Program}{w:World}{A:Around}{E:Value→Shared→Prop}{s:Shared}
def addT(ks:List Str)(x:Str):List Str:=if x∈ks then ks else ks++[x]
theorem SetS.put{h:Heap}{a:Addr}{es es':Array (Int×Value)}{ep:Nat}{t t':SetTable}(e:h.get? a=some { cls:=.type "set",dict:=none,data:=.set es ep t }) :
  (h.update a (Obj.putSet es' t')).get? a=some { cls:=.type "set",dict:=none,data:=.set es' (ep+1) t' }:=by
 have:=Heap.get?_update_self (Obj.putSet es' t') e (by rw[putSet_of es' t' rfl]; rfl)
 rw[putSet_of es' t' rfl]at this
 exact this
theorem set_addT{a:Addr}{ks:List Str}{x:Str}{tk:Tok}{Q:Bool→Shared→Prop}(S:SetS P w s.heap a ks)(hn:ks.length<4000)
  (h:∀ h' b,Heap.SameBut a s.heap h'→SetS P w h' a (addT ks x)→Q b { s with heap:=h' }) :
  wpAny (model P w) A (setAddHashed a (.str x tk) ((PySem.strKind P w).hash x)) Q E s:=by
 obtain⟨es,ep,t,ss,ho,hS,hp,hel,hsz,hf,hled,hpl⟩:=S.ex
 have isD:∀ y t',(PySem.strKind P w).is x (.str y t')=decide (y=x):=fun y t'=>by
  show Value.isStrOf x (.str y t')=_
  rw[Bool.eq_iff_iff]
  simp[Value.isStrOf]
  try exact eq_comm
 have hkey:(PySem.strKind P w).is x (.str x tk)=true:=by rw[isD]; simp
 have hb:es.size<scanBound:=Nat.lt_trans hsz (by decide)
 unfold setAddHashed setAddHashedIn
 refine wpAny_holding (wpAny_bind (wpAny_setState_of ho rfl hf ?_))
 dsimp only
 rw[byScan_of (knd:=PySem.strKind P w) (x:=.str x tk) rfl hb hel]
 simp only[if_true]
 unfold setAddByScan
 refine wpAny_bind (wpAny_bind (wpAny_rule (wpAny_bind (wpAny_setScan_of hkey ho rfl hf hel ?_))))
 have memx:x∈ks↔∃ e∈es.toList,(PySem.strKind P w).is x e.2=true:=by
  rw[← hp.mem_iff,strs_mem hS x]
  constructor
  ·rintro⟨t',q⟩
   obtain⟨e,he,ee⟩:=List.mem_map.mp q
   exact⟨e,he,by rw[ee,isD]; simp⟩
  ·rintro⟨e,he,q⟩
   obtain⟨y,t',ey⟩:=hS.all e.2 (List.mem_map.mpr ⟨e,he,rfl⟩)
   rw[ey,isD]at q
   have:y=x:=of_decide_eq_true q
   subst this
   exact⟨t',List.mem_map.mpr ⟨e,he,ey⟩⟩
 have klen:ks.length=es.size:=by
  have e1:=hp.length_eq
  have e2:ss.length=es.size:=by rw[← hS.strs]; simp
  ac_rfl
 cases hr:List.findIdx? (fun e=>(PySem.strKind P w).is x e.2) es.toList with
 | some j =>
  dsimp only
  obtain⟨hj,hpj,_⟩:=List.findIdx?_eq_some_iff_getElem.mp hr
  have hx:x∈ks:=memx.mpr ⟨_,List.getElem_mem hj,hpj⟩
  refine wpAny_pure (wpAny_pure ?_)
  exact h s.heap _ (Heap.SameBut.refl a s.heap) (by unfold addT; rw[if_pos hx]; exact S)
 | none =>
  dsimp only
  have hx:¬ x∈ks:=fun hm=>by
   obtain⟨e,he,q⟩:=memx.mp hm
   have:=List.findIdx?_eq_none_iff.mp hr e he
   rw[q]at this
   exact Bool.noConfusion this
  have hgw:∀ (b:Bool) {s₁:Shared} {Q':Unit→Shared→Prop},Q' () s₁→wpAny (model P w) A (match b with | true=>rule "set.scan.the-table-gave-way" | false=>pure ()) Q' E s₁ :=
   fun b s₁ Q' hq=>by cases b <;> first | exact wpAny_pure hq | exact wpAny_rule hq
  have hperm:=layNew_perm t es ((PySem.strKind P w).hash x) (.str x tk)
  have hfits:=layNew_fits t es ((PySem.strKind P w).hash x) (.str x tk)
  have hmk:=layNew_marks t es ((PySem.strKind P w).hash x) (.str x tk)
  generalize hL:layNew t es ((PySem.strKind P w).hash x) (.str x tk)=L at hperm hfits hmk ⊢
  obtain⟨es1,t1,wasDummy,gave⟩:=L
  dsimp only at hperm hfits hmk ⊢
  rw[Array.toList_push]at hperm
  have hel1:ElemsOf (PySem.strKind P w) es1.toList:=(hel.push hkey rfl).perm hperm
  have hsz1:es1.size=es.size+1:=by
   have:=hperm.length_eq
   simpa using this
  have hS1:∃ ss1,StrsAre (es1.toList.map (·.2)) ss1∧ss1.Perm (addT ks x):=by
   have p1:=hperm.map (fun e:Int×Value=>e.2)
   rw[List.map_append]at p1
   have q1:StrsAre (es.toList.map (·.2)++[Value.str x tk]) (ss++[x]):=by
    have gen:∀ {vs:List Value} {zs:List Str},StrsAre vs zs→StrsAre (vs++[Value.str x tk]) (zs++[x]):=by
     intro vs zs hh
     induction hh with
     | nil=>exact .cons x tk .nil
     | cons y t _ ih=>exact .cons y t ih
    exact gen hS
   obtain⟨ss1,r1,r2⟩:=strs_perm p1 q1
   refine⟨ss1,r1,r2.trans ?_⟩
   unfold addT
   rw[if_neg hx]
   exact hp.append_right _
  obtain⟨ss1,r1,r2⟩:=hS1
  have hne:addT ks x≠[]:=by unfold addT; rw[if_neg hx]; simp
  have tail:∀ t2:SetTable,t2.fits es1.size=true→t2.led=(!byTx w)→t2.plain=false→wpAny (model P w) A (do
    storeSet a es1 t2
    if(!wasDummy && t2.tooFull)=true then do
      (match (relayAll t2 es1 (SetTable.grown es1.size)).2.2 with | true=>rule "set.scan.the-table-gave-way" | false=>pure ())
      storeSet a (relayAll t2 es1 (SetTable.grown es1.size)).1 (relayAll t2 es1 (SetTable.grown es1.size)).2.1
      pure (some true)
     else pure (some true)) (fun r s'=>∃ h',r=some true∧s'={ s with heap:=h' }∧Heap.SameBut a s.heap h'∧SetS P w h' a (addT ks x)) E s:=by
   intro t2 hf2 hl2 hp2
   refine wpAny_bind (wpAny_storeSet_of ho rfl ?_ (fits_of_scanBound (Nat.lt_trans (show es1.size<4090 by ac_rfl) (by decide))))
   have o1:=SetS.put (es':=es1) (t':=t2) ho
   have sb1:=Heap.SameBut.update s.heap a (Obj.putSet es1 t2)
   split
   ·have hp3:=relayAll_perm t2 es1 (SetTable.grown es1.size)
    have hf3:=relayAll_fits t2 es1 (SetTable.grown es1.size)
    have hm3:=relayAll_marks t2 es1 (SetTable.grown es1.size) hp2
    generalize hRl:relayAll t2 es1 (SetTable.grown es1.size)=Rl at hp3 hf3 hm3 ⊢
    obtain⟨es2,t3,gave2⟩:=Rl
    dsimp only at hp3 hf3 hm3 ⊢
    have hsz2:es2.size=es1.size:=by have:=hp3.length_eq; simpa using this
    refine wpAny_bind (hgw _ ?_)
    refine wpAny_bind (wpAny_storeSet_of o1 rfl ?_ (fits_of_scanBound (Nat.lt_trans (show es2.size<4090 by ac_rfl) (by decide))))
    obtain⟨ss2,u1,u2⟩:=strs_perm (hp3.map (fun e:Int×Value=>e.2)) r1
    refine wpAny_pure ⟨_,rfl,rfl,sb1.trans (Heap.SameBut.update _ a _),⟨es2,_,t3,ss2,SetS.put o1,u1,u2.trans r2,hel1.perm hp3,by ac_rfl,hf3,hm3.1.trans hl2,fun _=>hm3.2⟩⟩
   ·exact wpAny_pure ⟨_,rfl,rfl,sb1,⟨es1,_,t2,ss1,o1,r1,r2,hel1,by ac_rfl,hf2,hl2,fun _=>hp2⟩⟩
  have hled1:t1.led=(!byTx w):=hmk.1.trans hled
  refine wpAny_bind (hgw _ ?_)
  split
  ·refine wpAny_bind ?_
   rw[hashByValue_scannable 8 (x:=.str x tk) rfl]
   refine wpAny_pure ?_
   have hk:plainKind (.str x tk)=false:=rfl
   rw[hk]
   simp only[Bool.false_eq_true,if_false]
   refine thn (tail { t1 with plain:=false } (SetTable.fits_plain_off hfits) hled1 rfl) fun r s' ⟨h',e1,e2,e3,e4⟩=>?_
   subst e1 e2
   exact wpAny_pure (h h' _ e3 e4)
  ·rename_i hpl1
   refine wpAny_bind (wpAny_pure ?_)
   simp only[if_true]
   refine thn (tail t1 hfits hled1 (by simpa using hpl1)) fun r s' ⟨h',e1,e2,e3,e4⟩=>?_
   subst e1 e2
   exact wpAny_pure (h h' _ e3 e4)
end
end L2
namespace L2
open PySem PySem.Spec PyProof.Rows
def met(val:Nat→Str)(i:Nat):List Str:=((List.range i).map val).foldl addT []
theorem met_succ(val:Nat→Str)(i:Nat):met val (i+1)=addT (met val i) (val i):=by
 unfold met; rw[List.range_succ,List.map_append,List.foldl_append]; rfl
theorem met_mono(val:Nat→Str){i:Nat}:∀ {j:Nat},i≤j→(met val i).length≤(met val j).length
 | 0,h=>by rw[show i=0 by ac_rfl]; exact Nat.le_refl _
 | j+1,h=>by
  by_cases e:i=j+1
  ·subst e; exact Nat.le_refl _
  ·refine Nat.le_trans (met_mono val (j:=j) (by ac_rfl)) ?_
   rw[met_succ]
   unfold addT
   split
   ·exact Nat.le_refl _
   ·simp
section
variable{P:Program}{w:World}{A:Around}{R:Result→Shared→Prop}{I:Addr}{fp wr:List Addr}{G:Array GenState→Array GenState→Prop}{n:Nat}{Pv:Nat→Value→Prop}{St:Nat→Shared→Prop}
theorem set_loopT(W:WalksS P w A.in1 I fp wr G n Pv St)(S:Addr)(hSf:S∉fp)(val:Nat→Str)(hval:∀ i v,Pv i v→∃ t,v = .str (val i) t)(hb:∀ i,i≤n→(met val i).length<4000) :
  ∀ (k i:Nat) (s:Shared),n-i=k→i≤n→St i s→SetS P w s.heap S (met val i) →
   (∀ s',Moved (S::wr) G s s'→SetS P w s'.heap S (met val n)→R (.ok (.ret .none)) s')→codeAny (model P w) A (.builtin "set.update.loop" ⟨[.ref S,.ref I],[]⟩) R s:=by
 have hSw:S∉wr:=fun h=>hSf (W.sub _ h)
 have hsub:∀ b∈wr,b∈S::wr:=fun b hb=>List.mem_cons_of_mem _ hb
 intro k
 induction k with
 | zero =>
  intro i s hk hi hst hS hR
  obtain rfl:i=n:=by ac_rfl
  refine codeAny_builtin PyProof.Rows.F.entry_set_update_loop ?_
  rw[Around.under_plainId PyProof.Rows.F.plain_set_update_loop _]
  show wpAny _ A.in1 (pyNext (.ref I) >>= _) _ _ s
  refine wpAny_bind (W.done s _ _ hst fun s' hm=>?_)
  show wpAny _ A.in1 (ret Value.none) _ _ s'
  exact wpAny_pure (hR s' (hm.mono hsub) (hS.at fun o e=>hm.heap S o hSw e))
 | succ k ih =>
  intro i s hk hi hst hS hR
  have hlt:i<n:=by ac_rfl
  refine codeAny_builtin PyProof.Rows.F.entry_set_update_loop ?_
  rw[Around.under_plainId PyProof.Rows.F.plain_set_update_loop _]
  show wpAny _ A.in1 (pyNext (.ref I) >>= _) _ _ s
  refine wpAny_bind (W.item i s _ _ hlt hst fun v s' hP hst' hm=>?_)
  obtain⟨t,rfl⟩:=hval i v hP
  have hS':SetS P w s'.heap S (met val i):=hS.at fun o e=>hm.heap S o hSw e
  show wpAny _ A.in1 (holding [Value.str (val i) t] (setAdd S (.str (val i) t)) >>= _) _ _ s'
  refine wpAny_bind (wpAny_holding ?_)
  unfold setAdd
  refine wpAny_holding ?_
  have hkey:(PySem.strKind P w).is (val i) (.str (val i) t)=true:=by
   show Value.isStrOf (val i) (.str (val i) t)=true
   simp[Value.isStrOf]
  refine wpAny_bind ((PySem.strKind P w).pyHash (k:=val i) hkey ?_)
  have hroom:(met val i).length<4000:=hb i (Nat.le_of_lt hlt)
  refine set_addT (s:={ s' with toks:=s'.toks+1 }) hS' hroom fun h' b hsb hS2=>?_
  rw[← met_succ]at hS2
  refine wpAny_pure ⟨plainId_quiet PyProof.Rows.F.plain_set_update_loop _,ih (i+1) _ (by ac_rfl) hlt (W.frame _ s' _ _ hst' (Nat.le_succ _) fun b hb o e=>?_) hS2 fun s'' hm'' hS''=>?_⟩
  ·rw[hsb.2 b (fun h:b=S=>hSf (by rw[← h]; exact hb))]; exact e
  ·refine hR s'' (Moved.trans W.gtrans ((hm.mono hsub).then_heap (Nat.le_succ _) fun b o hb e=>?_) hm'') hS''
   rw[hsb.2 b (fun h:b=S=>hb (by rw[h]; exact List.mem_cons_self))]; exact e
end
section
variable{P:Program}{w:World}{A:Around}{E:Value→Shared→Prop}{s:Shared}
theorem set_newT(a:Value){Q:Value→Shared→Prop} (h:SetS P w (s.heap.push { cls:=.type "set",dict:=none,data:=.set #[] 0 (.fresh 0 0 (!byTx w)) }) s.heap.objs.size [] →
   Q (.ref s.heap.objs.size) { s with heap:=s.heap.push { cls:=.type "set",dict:=none,data:=.set #[] 0 (.fresh 0 0 (!byTx w)) } }) :
  codeAny (model P w) A (.call (.builtin "set.__new__") ⟨[.type "set",a],[]⟩) (wants Q E) s:=by
 refine codeAny_of_tree ?_
 show wpAny _ A.in1 (do checkBuiltinCall "set.__new__" ⟨[.type "set",a],[]⟩; again (.builtin "set.__new__" ⟨[.type "set",a],[]⟩)) _ _ s
 refine wpAny_bind (wpAny_of_eq (PySem.F.newCall_set_1 a) (wpAny_pure ⟨plainId_quiet F.plain_set_new _,codeAny_builtin F.entry_set_new ?_⟩))
 rw[Around.under_plainId F.plain_set_new _]
 unfold Builtin.«set.__new__» Builtin.Frozenset.newClass
 have hsub:=sub_set_self
 obtain⟨hp,g,d,tk,os⟩:=s
 dsimp only
 wp_walk
 refine wpAny_askSetting (wpAny_pure ?_)
 dsimp only
 simp only[newObj]
 refine wpAny_bind (wpAny_alloc (wpAny_pure ?_))
 refine wpAny_pure (h ⟨#[],0,_,[],Heap.get?_push_size _ rfl,.nil,List.Perm.refl _,fun e he=>by simp at he,by decide,rfl,rfl,fun h=>absurd rfl h⟩)
end
end L2
set_option maxHeartbeats 8000000
namespace L2
open PySem PySem.Spec PyProof.Rows
theorem entry_set_iterT:entryFor table "set.__iter__" = some Builtin.«frozenset.__iter__»:=entryFor_alias (id':="frozenset.__iter__") (by kernel_rfl) rfl (by decide +kernel) (by kernel_rfl)
theorem slot_si_next:Slot "set_iterator" "__next__" "set_iterator.__next__" :=
 .of (owner:="set_iterator") (n:="__next__") (by rw[typeLookup_type,builtinLookup_eq_fast]; kernel_rfl) (by decide +kernel) (by decide +kernel) (by decide +kernel) (by first | exact .inl (by decide +kernel) | exact .inr (by decide +kernel)) (by rw[isSubtype_type]; kernel_rfl)
theorem entry_si_next:entryFor table "set_iterator.__next__" = some Builtin.«set_iterator.__next__»:=entryFor_of_fast (by kernel_rfl)
theorem args_si_next(a:Value):argsOk "set_iterator.__next__" ⟨[a],[]⟩:=by unfold argsOk; kernel_rfl
theorem slot_si_iter:Slot "set_iterator" "__iter__" "set_iterator.__iter__" :=
 .of (owner:="set_iterator") (n:="__iter__") (by rw[typeLookup_type,builtinLookup_eq_fast]; kernel_rfl) (by decide +kernel) (by decide +kernel) (by decide +kernel) (by first | exact .inl (by decide +kernel) | exact .inr (by decide +kernel)) (by rw[isSubtype_type]; kernel_rfl)
theorem entry_si_iter:entryFor table "set_iterator.__iter__" = some Builtin.«dict_keyiterator.__iter__»:=entryFor_alias (id':="dict_keyiterator.__iter__") (by kernel_rfl) rfl (by decide +kernel) (by kernel_rfl)
theorem args_si_iter(a:Value):argsOk "set_iterator.__iter__" ⟨[a],[]⟩:=by unfold argsOk; kernel_rfl
end L2
namespace L2
open PySem PySem.Spec PyProof.Rows
def siObj(first:Value)(i:Nat)(a:Addr)(n ep:Nat):Obj:={ cls:=.type "set_iterator",data:=.fields #[first,.int i 0,.ref a,.int n 0,.int ep 0] }
section
variable{P:Program}{w:World}{A:Around}{E:Value→Shared→Prop}{s:Shared}
theorem si_self{I a:Addr}{first:Value}{i n ep:Nat}{Q:Value→Shared→Prop}(h:s.heap.get? I=some (siObj first i a n ep))(hQ:Q (.ref I) s):wpAny (model P w) A (pyIter (.ref I)) Q E s:=by
 have hT:s.TypeIs (.ref I) "set_iterator":=⟨_,h,rfl⟩
 refine wpAny_pyIter_slot hT slot_si_iter (wpAny_call_entry slot_si_iter hT entry_si_iter ?_ (args_si_iter _))
 show wpAny _ _ (ret (.ref I)) _ _ s
 exact wpAny_pure ⟨_,rfl,"set_iterator",_,hT,slot_si_next.lookup,hQ⟩
theorem next_open{I a:Addr}{first:Value}{i:Nat}{es:Array (Int×Value)}{ep:Nat}{t:SetTable}{Q:Option Value→Shared→Prop}(ha:s.heap.get? a=some { cls:=.type "set",dict:=none,data:=.set es ep t })(hf:t.fits es.size=true)
  (hI:s.heap.get? I=some (siObj first i a es.size ep))
  (h:wpAny (model P w) A.in1 (if let .int slot _:=first then do
    match ← setNext a slot.toNat (i:Int).toNat (ep:Int).toNat with
    | some (x,next)=>do
     setField (.ref I) 0 (rawInt next)
     setField (.ref I) 1 (rawInt ((i:Int)+1))
     ret x
    | none=>do setField (.ref I) 2 .none; raiseNew (← newExc (.type "StopIteration") [])
   else do
    let some places ← seqItems? first | unsupported "internal:set_iterator"
    match places[(i:Int).toNat]? with
    | some (.int place _)=>do
     let x ← setNextDrawn a place.toNat (ep:Int).toNat
     setField (.ref I) 1 (rawInt ((i:Int)+1))
     ret x
    | some _=>unsupported "internal:set_iterator"
    | none=>do setField (.ref I) 0 (rawInt 0); setField (.ref I) 2 .none; raiseNew (← newExc (.type "StopIteration") []))
   (fun fin s'=>∃ r,fin = .done (.ret r)∧Q (some r) s') (fun e s'=>wpAny (model P w) A (do if ← isInstance e (.type "StopIteration")then pure none else throw e) Q E s') s) :
  wpAny (model P w) A (pyNext (.ref I)) Q E s:=by
 have hT:s.TypeIs (.ref I) "set_iterator":=⟨_,hI,rfl⟩
 unfold pyNext
 refine wpAny_bind (wpAny_attempt (wpAny_callSpecial?_slot (name:=Str.ofString "__next__") hT slot_si_next (wpAny_call_entry slot_si_next hT entry_si_next ?_ (args_si_next _))))
 unfold Builtin.«set_iterator.__next__» slotArgs
 refine wpAny_bind (wpAny_pure ?_)
 refine wpAny_bind (wpAny_fieldsOf hI rfl ?_)
 show wpAny _ _ (setEntries a >>= _) _ _ s
 refine wpAny_bind (wpAny_setEntries_of ha rfl hf ?_)
 have e0:(((es.size:Nat):Int) != ((es.size:Nat):Int))=false:=by simp
 rw[e0]
 simp only[Bool.false_eq_true,if_false]
 refine wpAny_mono ?_ (fun fin s' q=>?_) (fun e s' q=>q) (Q:=fun fin s'=>∃ r,fin = .done (.ret r)∧Q (some r) s') (E:=fun e s'=>wpAny (model P w) A (do if ← isInstance e (.type "StopIteration")then pure none else throw e) Q E s')
 ·exact h
 ·obtain⟨r,e1,e2⟩:=q
  exact⟨r,e1,wpAny_pure e2⟩
end
end L2
namespace L2
open PySem PySem.Spec PyProof.Rows
theorem out_perm{α:Type}:∀ {l:List α} {i:Nat} (h:i<l.length),(l[i]::l.eraseIdx i).Perm l
 | [],i,h=>by simp at h
 | x::r,0,h=>by simp
 | x::r,i+1,h=>by
  have q:=out_perm (l:=r) (i:=i) (by simpa using h)
  simp only[List.getElem_cons_succ,List.eraseIdx_cons_succ]
  exact(List.Perm.swap x _ _).trans (List.Perm.cons x q)
theorem pick_go{α:Type}(next:Nat→Nat):∀ (fuel k:Nat) (left:List α) (out:Array α),fuel=left.length→(pickOrder.go next fuel k left out).toList.Perm (out.toList++left)
 | 0,k,left,out,h=>by
  have:left=[]:=List.eq_nil_of_length_eq_zero h.symm
  subst this
  simp[pickOrder.go]
 | fuel+1,k,left,out,h=>by
  have hlt:next k % left.length<left.length:=Nat.mod_lt _ (by ac_rfl)
  unfold pickOrder.go
  rw[List.getElem?_eq_getElem hlt]
  dsimp only
  have ih:=pick_go next fuel (k+1) (left.eraseIdx (next k % left.length)) (out.push left[next k % left.length]) (by rw[List.length_eraseIdx,if_pos hlt]; ac_rfl)
  refine ih.trans ?_
  rw[Array.toList_push,List.append_assoc]
  exact List.Perm.append_left _ (out_perm hlt)
theorem pick_perm{α:Type}(next:Nat→Nat)(xs:Array α):(pickOrder next xs).toList.Perm xs.toList:=by
 have:=pick_go next xs.size 0 xs.toList #[] (by simp)
 simpa[pickOrder]using this
section
variable{P:Program}{w:World}{A:Around}{E:Value→Shared→Prop}{s:Shared}
theorem chooseT{src:Source}{n:Nat}{Q:Nat→Shared→Prop}(hn:n≠0)(h:∀ k d,k<n→Q k { s with drawn:=d }):wpAny (model P w) A (choose src n) Q E s:=fun Γ p hΓ=>by
 unfold choose
 rw[Sem.wp_choose]
 refine⟨hn,?_⟩
 exact h _ _ (Nat.mod_lt _ (Nat.pos_of_ne_zero hn))
theorem drawT{α:Type}:∀ (n:Nat) (xs:List α) (s:Shared) (Q:List α→Shared→Prop),n=xs.length→(∀ ys d,ys.Perm xs→Q ys { s with drawn:=d })→wpAny (model P w) A (drawOrder n xs) Q E s
 | 0,[],s,Q,_,h=>by
  unfold drawOrder
  exact wpAny_pure (h [] s.drawn (List.Perm.refl _))
 | 0,x::xs,s,Q,hn,h=>by simp at hn
 | n+1,[],s,Q,hn,h=>by simp at hn
 | n+1,x::xs,s,Q,hn,h=>by
  unfold drawOrder
  refine wpAny_bind (chooseT (by simp) fun k d hk=>?_)
  rw[List.getElem?_eq_getElem hk]
  dsimp only
  refine wpAny_bind (drawT n ((x::xs).eraseIdx k) _ _ (by rw[List.length_eraseIdx,if_pos hk]; ac_rfl) fun ys d' hy=>?_)
  refine wpAny_pure (h _ d' ?_)
  exact(List.Perm.cons _ hy).trans (out_perm hk)
theorem stop_tail{Q:Option Value→Shared→Prop}{R:Fin→Shared→Prop}(hh:A.handled=none)(hQ:∀ h',(∀ b o,s.heap.get? b=some o→h'.get? b=some o)→Q none { s with heap:=h' }) :
  wpAny (model P w) A.in1 (do raiseNew (← newExc (.type "StopIteration") [])) R (fun e s'=>wpAny (model P w) A (do if ← isInstance e (.type "StopIteration")then pure none else throw e) Q E s') s:=by
 refine wpAny_bind ?_
 simp only[newExc,newTuple]
 refine wpAny_bind (wpAny_newObj_type ?_ (by size_fits)); refine wpAny_bind (m:=firstArgMember _ _) (wpAny_of_eq (a:=Value.none) (by first | rfl | (simp only[firstArgMember]; rfl)) ?_)
 refine wpAny_newObj_type ?_ (by size_fits); simp only[raiseNew]
 refine wpAny_bind (wpAny_handled ?_); rw[show A.in1.handled=none from hh]
 refine wpAny_bind (wpAny_pure (wpAny_throw ?_)); refine wpAny_bind (wpAny_isInstance (T:="StopIteration") (b:=true) ⟨_,Heap.get?_push_size _ rfl,rfl⟩ isSubtype_stop ?_)
 exact wpAny_pure (hQ _ fun b o e=>Heap.get?_push_of_some _ (Heap.get?_push_of_some _ e))
theorem si_set0{I a:Addr}{first f':Value}{i n ep:Nat}{Q:Unit→Shared→Prop}(hI:s.heap.get? I=some (siObj first i a n ep))(h:∀ h',Heap.SameBut I s.heap h'→h'.get? I=some (siObj f' i a n ep)→Q () { s with heap:=h' }) :
  wpAny (model P w) A (setField (.ref I) 0 f') Q E s:=by
 refine wpAny_setField hI rfl (by simp[siObj]) (h _ (Heap.SameBut.update ..) ?_)
 rw[Heap.get?_update_self _ hI (by rfl)]
 rfl
theorem si_set1{I a:Addr}{first:Value}{i n ep:Nat}{Q:Unit→Shared→Prop}(hI:s.heap.get? I=some (siObj first i a n ep))(h:∀ h',Heap.SameBut I s.heap h'→h'.get? I=some (siObj first (i+1) a n ep)→Q () { s with heap:=h' }) :
  wpAny (model P w) A (setField (.ref I) 1 (rawInt ((i:Int)+1))) Q E s:=by
 refine wpAny_setField hI rfl (by simp[siObj]) (h _ (Heap.SameBut.update ..) ?_)
 rw[Heap.get?_update_self _ hI (by rfl)]
 rfl
theorem si_set2{I a:Addr}{first:Value}{i n ep:Nat}{Q:Unit→Shared→Prop}(hI:s.heap.get? I=some (siObj first i a n ep))(h:∀ h',Heap.SameBut I s.heap h'→(∃ o,h'.get? I=some o)→Q () { s with heap:=h' }) :
  wpAny (model P w) A (setField (.ref I) 2 .none) Q E s:=by
 refine wpAny_setField hI rfl (by simp[siObj]) (h _ (Heap.SameBut.update ..) ⟨_,Heap.get?_update_self _ hI (by rfl)⟩)
noncomputable abbrev setObjT(es:Array (Int×Value))(ep:Nat)(t:SetTable):Obj:={ cls:=.type "set",dict:=none,data:=.set es ep t }
theorem walks_byText{I a:Addr}{es:Array (Int×Value)}{ep:Nat}{t:SetTable}(hne:a≠I)(hf:t.fits es.size=true)(hb:byTx w=true)(hh:A.handled=none) :
  Walks P w A I [I,a] [I] es.size (fun i v=>((pickOrder (w.params.setOrder a ep) es).toList.map (·.2))[i]?=some v) (fun i h=>h.get? I=some (siObj (rawInt 0) i a es.size ep)∧h.get? a=some (setObjT es ep t)):=by
 have hsz:(pickOrder (w.params.setOrder a ep) es).size=es.size:=by have:=(pick_perm (w.params.setOrder a ep) es).length_eq; simpa using this
 have body:∀ (s:Shared) (i:Nat) (Q:Option (Value×Nat)→Shared→Prop) (E:Value→Shared→Prop),s.heap.get? a=some (setObjT es ep t) →
   Q (((pickOrder (w.params.setOrder a ep) es)[i]?).map fun e=>(e.2,0)) s→wpAny (model P w) A.in1 (setNext a (0:Int).toNat (i:Int).toNat (ep:Int).toNat) Q E s:=fun s i Q E ha hq=>by
  unfold setNext
  refine wpAny_bind (wpAny_setState_of ha rfl hf ?_)
  unfold setsByText
  refine wpAny_bind (wpAny_bind (wpAny_askSetting (wpAny_pure ?_)))
  show wpAny _ _ (if byTx w=true then _ else _) _ _ s
  rw[if_pos hb]
  simp only[Int.toNat_natCast,bne_self_eq_false,Bool.false_eq_true,if_false]
  unfold setWalk
  refine wpAny_bind (wpAny_bind (wpAny_setState_of ha rfl hf ?_))
  unfold setsByText
  refine wpAny_bind (wpAny_bind (wpAny_askSetting (wpAny_pure ?_)))
  show wpAny _ _ (if byTx w=true then _ else _) _ _ s
  rw[if_pos hb]
  refine wpAny_bind (wpAny_askSetting (wpAny_pure (wpAny_pure ?_)))
  exact hq
 refine⟨fun b hb=>by simp at hb; simp[hb],fun i h h' st k=>⟨k I (by simp) _ st.1,k a (by simp) _ st.2⟩,fun i s Q E hi st hQ=>?_,fun s Q E st hQ=>?_,fun i s Q E st hQ=>si_self st.1 hQ⟩
 ·refine next_open st.2 hf st.1 ?_
  refine wpAny_bind (body s i _ _ st.2 ?_)
  have hlt:i<(pickOrder (w.params.setOrder a ep) es).size:=by ac_rfl
  rw[Array.getElem?_eq_getElem hlt]
  dsimp only[Option.map_some]
  refine wpAny_bind (si_set0 st.1 fun h1 sb1 e1=>?_)
  refine wpAny_bind (si_set1 (s:={ s with heap:=h1 }) e1 fun h2 sb2 e2=>?_)
  refine wpAny_pure ⟨_,rfl,hQ _ h2 s.toks ?_ ⟨e2,?_⟩ fun b o hb e=>?_⟩
  ·rw[List.getElem?_map]
   simp[Array.getElem?_eq_getElem hlt]
  ·exact(sb2.2 a hne).trans ((sb1.2 a hne).trans st.2)
  ·exact(sb2.2 b (by simpa using hb)).trans ((sb1.2 b (by simpa using hb)).trans e)
 ·refine next_open st.2 hf st.1 ?_
  refine wpAny_bind (body s es.size _ _ st.2 ?_)
  rw[Array.getElem?_eq_none (by ac_rfl)]
  dsimp only[Option.map_none]
  refine wpAny_bind (si_set2 st.1 fun h1 sb1 _=>?_)
  exact stop_tail (s:={ s with heap:=h1 }) hh fun h2 k2=>hQ h2 s.toks fun b o hb e=>k2 b o ((sb1.2 b (by simpa using hb)).trans e)
theorem walks_drawn{I a T:Addr}{es:Array (Int×Value)}{ep:Nat}{t:SetTable}{ord:List Nat}(hne:a≠I)(hT:T≠I)(hf:t.fits es.size=true)(hp:ord.Perm (List.range es.size))(hh:A.handled=none) :
  Walks P w A I [I,a,T] [I] es.size (fun i v=>(ord.filterMap fun j=>(es[j]?).map (·.2))[i]?=some v)
   (fun i h=>h.get? I=some (siObj (.ref T) i a es.size ep)∧h.get? a=some (setObjT es ep t)∧h.get? T=some { cls:=.type "tuple",data:=.seq (ord.map fun(k:Nat)=>rawInt k).toArray }):=by
 have hol:ord.length=es.size:=by simpa using hp.length_eq
 have hmem:∀ j∈ord,j<es.size:=fun j hj=>by simpa using hp.mem_iff.mp hj
 have fm:∀ (l:List Nat),(∀ j∈l,j<es.size)→∀ (i j:Nat),l[i]?=some j→∃ e:Int×Value,es[j]?=some e∧(l.filterMap fun j=>(es[j]?).map (·.2))[i]?=some e.2:=by
  intro l
  induction l with
  | nil=>intro _ i j h; simp at h
  | cons x r ih =>
   intro hl i j h
   have hx:x<es.size:=hl x (List.mem_cons_self ..)
   have ex:es[x]?=some es[x]:=Array.getElem?_eq_getElem hx
   cases i with
   | zero =>
    simp at h
    subst h
    exact⟨_,ex,by rw[List.filterMap_cons,ex]; rfl⟩
   | succ i =>
    obtain⟨e,q1,q2⟩:=ih (fun j hj=>hl j (List.mem_cons_of_mem _ hj)) i j (by simpa using h)
    exact⟨e,q1,by rw[List.filterMap_cons,ex]; simpa using q2⟩
 have tupR:∀ (s:Shared) (Q:Option (Array Value)→Shared→Prop) (E:Value→Shared→Prop),s.heap.get? T=some { cls:=.type "tuple",data:=.seq (ord.map fun(k:Nat)=>rawInt k).toArray }→Q (some (ord.map fun(k:Nat)=>rawInt k).toArray) s→wpAny (model P w) A.in1 (seqItems? (.ref T)) Q E s:=fun s Q E ht hq=>by
  exact wpAny_seqItems ht rfl hq
 refine⟨fun b hb=>by simp at hb; simp[hb],fun i h h' st k=>⟨k I (by simp) _ st.1,k a (by simp) _ st.2.1,k T (by simp) _ st.2.2⟩,fun i s Q E hi st hQ=>?_,fun s Q E st hQ=>?_,fun i s Q E st hQ=>si_self st.1 hQ⟩
 ·refine next_open st.2.1 hf st.1 ?_
  refine wpAny_bind (tupR s _ _ st.2.2 ?_)
  have hlt:i<ord.length:=by ac_rfl
  have e1:((ord.map fun(k:Nat)=>rawInt k).toArray)[(i:Int).toNat]?=some (rawInt (ord[i]:Nat)):=by simp[hlt]
  dsimp only
  rw[e1]
  obtain⟨e,q1,q2⟩:=fm ord hmem i ord[i] (List.getElem?_eq_getElem hlt)
  show wpAny _ _ (setNextDrawn a _ _ >>= _) _ _ s
  refine wpAny_bind ?_
  unfold setNextDrawn
  refine wpAny_bind (wpAny_setState_of st.2.1 rfl hf ?_)
  simp only[Int.toNat_natCast,bne_self_eq_false,Bool.false_eq_true,if_false]
  rw[q1]
  refine wpAny_pure ?_
  refine wpAny_bind (si_set1 st.1 fun h2 sb2 e2=>?_)
  refine wpAny_pure ⟨_,rfl,hQ _ h2 s.toks q2 ⟨e2,(sb2.2 a hne).trans st.2.1,(sb2.2 T hT).trans st.2.2⟩ fun b o hb e=>(sb2.2 b (by simpa using hb)).trans e⟩
 ·refine next_open st.2.1 hf st.1 ?_
  refine wpAny_bind (tupR s _ _ st.2.2 ?_)
  have e1:((ord.map fun(k:Nat)=>rawInt k).toArray)[(es.size:Int).toNat]?=none:=by simp[hol]
  dsimp only
  rw[e1]
  refine wpAny_bind (si_set0 st.1 fun h1 sb1 e1=>?_)
  refine wpAny_bind (si_set2 (s:={ s with heap:=h1 }) e1 fun h2 sb2 _=>?_)
  exact stop_tail (s:={ s with heap:=h2 }) hh fun h3 k3=>hQ h3 s.toks fun b o hb e=>k3 b o ((sb2.2 b (by simpa using hb)).trans ((sb1.2 b (by simpa using hb)).trans e))
theorem below1(j k:Nat):SetTable.below #[j] k=if j<k then 1 else 0:=by
 unfold SetTable.below
 simp only[List.size_toArray,List.length_cons,List.length_nil]
 unfold SetTable.below.go
 simp
 split
 ·rename_i h
  unfold SetTable.below.go
  simp
 ·unfold SetTable.below.go
  simp
theorem walks_one{I a:Addr}{es:Array (Int×Value)}{ep:Nat}{t:SetTable}(hne:a≠I)(hf:t.fits es.size=true)(hb:byTx w=false)(hled:t.led=true)(h1:es.size=1)(hh:A.handled=none) :
  Walks P w A I [I,a] [I] 1 (fun i v=>(es.toList.map (·.2))[i]?=some v) (fun i h=>h.get? I=some (siObj (rawInt (if i=0 then 0 else((t.place.getD 0 0:Nat):Int)+1)) i a es.size ep)∧h.get? a=some (setObjT es ep t)):=by
 have hps:t.place.size=1:=by
  simp only[SetTable.fits,Bool.and_eq_true,beq_iff_eq]at hf
  ac_rfl
 obtain⟨j,hj⟩:∃ j,t.place = #[j]:=by
  match hq:t.place,hps with
  | ⟨[j]⟩,_=>exact⟨j,rfl⟩
 have gj:((t.place.getD 0 0:Nat):Int)=(j:Int):=by rw[hj]; rfl
 obtain⟨e,he⟩:∃ e,es = #[e]:=by
  match hq:es,h1 with
  | ⟨[e]⟩,_=>exact⟨e,rfl⟩
 have body:∀ (s:Shared) (slot:Nat) (i:Nat) (Q:Option (Value×Nat)→Shared→Prop) (E:Value→Shared→Prop),s.heap.get? a=some (setObjT es ep t) →
   Q (if j<slot then none else some (e.2,j+1)) s→wpAny (model P w) A.in1 (setNext a slot i ep) Q E s:=fun s slot i Q E ha hq=>by
  unfold setNext
  refine wpAny_bind (wpAny_setState_of ha rfl hf ?_)
  unfold setsByText
  refine wpAny_bind (wpAny_bind (wpAny_askSetting (wpAny_pure ?_)))
  show wpAny _ _ (if byTx w=true then _ else _) _ _ s
  rw[if_neg (by rw[hb]; decide)]
  refine wpAny_ite_split (fun hc=>absurd (show(!t.plain && decide (es.size > 1))=true from hc) (by rw[h1]; simp)) (fun _=>?_)
  refine wpAny_bind ?_
  refine wpAny_mono (Q:=fun _ s'=>s'=s) (E:=E) ?_ (fun _ s' hs'=>?_) (fun _ _ x=>x)
  ·refine wpAny_ite_split (fun hc=>absurd (show(!t.led && !es.isEmpty)=true from hc) (by rw[hled]; simp)) (fun _=>wpAny_pure rfl)
  ·subst hs'
   rw[hj,below1,he]
   by_cases hlt:j<slot
   ·rw[if_pos hlt]at hq ⊢
    exact wpAny_pure hq
   ·rw[if_neg hlt]at hq ⊢
    exact wpAny_pure hq
 refine⟨fun b hb=>by simp at hb; simp[hb],fun i h h' st k=>⟨k I (by simp) _ st.1,k a (by simp) _ st.2⟩,fun i s Q E hi st hQ=>?_,fun s Q E st hQ=>?_,fun i s Q E st hQ=>si_self st.1 hQ⟩
 ·obtain rfl:i=0:=by ac_rfl
  refine next_open st.2 hf st.1 ?_
  show wpAny _ _ (setNext a (0:Int).toNat ((0:Nat):Int).toNat (ep:Int).toNat >>= _) _ _ s
  simp only[Int.toNat_natCast,Int.toNat_zero]
  refine wpAny_bind (body s 0 0 _ _ st.2 ?_)
  rw[if_neg (Nat.not_lt_zero j)]
  dsimp only
  refine wpAny_bind (si_set0 st.1 fun h1 sb1 e1=>?_)
  refine wpAny_bind (si_set1 (s:={ s with heap:=h1 }) e1 fun h2 sb2 e2=>?_)
  refine wpAny_pure ⟨_,rfl,hQ _ h2 s.toks ?_ ⟨?_,?_⟩ fun b o hb e=>?_⟩
  ·rw[he]; rfl
  ·rw[e2,if_neg (by decide),gj]; rfl
  ·exact(sb2.2 a hne).trans ((sb1.2 a hne).trans st.2)
  ·exact(sb2.2 b (by simpa using hb)).trans ((sb1.2 b (by simpa using hb)).trans e)
 ·refine next_open st.2 hf st.1 ?_
  rw[if_neg (by decide),gj]
  show wpAny _ _ (setNext a ((j:Int)+1).toNat ((1:Nat):Int).toNat (ep:Int).toNat >>= _) _ _ s
  have e1:((j:Int)+1).toNat=j+1:=by ac_rfl
  rw[e1,Int.toNat_natCast,Int.toNat_natCast]
  refine wpAny_bind (body s (j+1) 1 _ _ st.2 ?_)
  rw[if_pos (Nat.lt_succ_self j)]
  dsimp only
  refine wpAny_bind (si_set2 st.1 fun h1 sb1 _=>?_)
  exact stop_tail (s:={ s with heap:=h1 }) hh fun h2 k2=>hQ h2 s.toks fun b o hb e=>k2 b o ((sb1.2 b (by simpa using hb)).trans e)
end
end L2
namespace L2
open PySem PySem.Spec PyProof.Rows
section
variable{P:Program}{w:World}{A:Around}{E:Value→Shared→Prop}{s:Shared}
theorem getD_strs:∀ {vs:List Value} {ss:List Str} (i:Nat) (v:Value),StrsAre vs ss→vs[i]?=some v→∃ t,v = .str (ss.getD i Str.empty) t
 | _,_,i,v,.nil,h=>by simp at h
 | _,_,0,v,.cons y t _,h=>by simp at h; exact⟨t,by rw[← h]; rfl⟩
 | _,_,i+1,v,.cons y t hr,h=>by
  simp only[List.getElem?_cons_succ]at h
  obtain⟨t',e⟩:=getD_strs i v hr h
  exact⟨t',by rw[e]; rfl⟩
set_option maxRecDepth 100000 in
theorem call_setT{l:Addr}{items:Array Value}{ss:List Str}{Q:Value→Shared→Prop}(hh:A.handled=none)(hl:s.heap.IsList l items)(hi:StrsAre items.toList ss)(hb:(met (fun i=>ss.getD i Str.empty) items.size).length<4000)
  (h:∀ (h':Heap) (tk:Nat),SetS P w h' s.heap.objs.size (met (fun i=>ss.getD i Str.empty) items.size)→(∀ b o,b<s.heap.objs.size→s.heap.get? b=some o→h'.get? b=some o)→Q (.ref s.heap.objs.size) { s with heap:=h',toks:=tk }) :
  wpAny (model P w) A (call (.type "set") [.ref l]) Q E s:=by
 obtain⟨c,tl,hmro⟩:=F.called_set.mro; have hmade:=F.called_set.made; have hsub:=F.called_set.sub
 refine wpAny_call (codeAny_of_tree ?_)
 show wpAny _ _ (callAny (.type "set") _) _ _ _; refine wpAny_pure ⟨Code.quiet_builtin _ (by decide +kernel),codeAny_builtin F.entry_type_call ?_⟩
 rw[Around.under_plain (weight_type_call_type "set" [.ref l] []) rfl]; have h1:=F.called_set.notType; have h2:=F.called_set.canCreate
 have hct:=PySem.F.typeCall_set_1 (.ref l)
 repeat any_goals (first | assumption | wp_step)
 refine codeAny_mono (set_newT (P:=P) (w:=w) (.ref l) (E:=E) (Q:=fun obj s1=>obj = .ref s.heap.objs.size∧s1={ s with heap:=s.heap.push { cls:=.type "set",dict:=none,data:=.set #[] 0 (.fresh 0 0 (!byTx w)) } }∧SetS P w s1.heap s.heap.objs.size []) fun S0=>⟨rfl,rfl,S0⟩) fun r s1 hr=>?_
 cases r with
 | error e=>exact hr
 | ok fl =>
  cases fl with
  | ret obj =>
   obtain⟨rfl,rfl,S0⟩:=hr
   have hS:=Heap.get?_push_size (h:=s.heap) (o:=({ cls:=.type "set",dict:=none,data:=.set #[] 0 (.fresh 0 0 (!byTx w)) }:Obj))
   have hS':(s.heap.push { cls:=.type "set",dict:=none,data:=.set #[] 0 (.fresh 0 0 (!byTx w)) }).get? s.heap.objs.size=some { cls:=.type "set",dict:=none,data:=.set #[] 0 (.fresh 0 0 (!byTx w)) }:=Heap.get?_push_size _ rfl
   have hT:Shared.TypeIs { s with heap:=s.heap.push { cls:=.type "set",dict:=none,data:=.set #[] 0 (.fresh 0 0 (!byTx w)) } } (.ref s.heap.objs.size) "set":=⟨_,hS',rfl⟩
   have hli:=F.called_set.init.lookup; have hbi:=F.called_set.init.bind (.ref s.heap.objs.size)
   repeat any_goals (first | assumption | wp_step)
   refine codeAny_mono (codeAny_call_builtin (R:=wants (fun r s2=>r = .none∧∃ h' tk,s2={ s with heap:=h',toks:=tk }∧SetS P w h' s.heap.objs.size (met (fun i=>ss.getD i Str.empty) items.size) ∧
     (∀ b o,b<s.heap.objs.size→s.heap.get? b=some o→h'.get? b=some o)) E) F.called_set.init.plain F.entry_set_init (check_set_init_1 hT ?_)) fun r2 s2 hr2=>?_
   ·obtain⟨⟨ocls,odict,odata,oslots⟩,hol,hcl,nl,hdl⟩:=hl
    simp only at hcl hdl; subst hcl; subst hdl
    have hol':(s.heap.push { cls:=.type "set",dict:=none,data:=.set #[] 0 (.fresh 0 0 (!byTx w)) }).get? l=some { cls:=.type "list",dict:=odict,data:=.seq items nl,slots:=oslots }:=Heap.get?_push_of_some _ hol
    have hsls:=PySem.F.sub_list_set; have hslf:=PySem.F.sub_list_frozenset; have hne:(Value.type "list" == Value.type "dict")=false:=by decide
    have hl1:(s.heap.push { cls:=.type "set",dict:=none,data:=.set #[] 0 (.fresh 0 0 (!byTx w)) }).IsList l items:=⟨_,hol',rfl,nl,rfl⟩
    unfold Builtin.«set.__init__» noKeywords Builtin.Frozenset.updateFrom; generalize hPI:pyIter=PI
    wp_walk
    subst hPI
    refine wpAny_pyIter_list hl1 (wpAny_bind (wpAny_runValue ?_))
    have hlS:l<s.heap.objs.size:=Heap.lt_size hol
    have hh3:A.in1.in1.in1.handled=none:=by simp[hh]
    have hsz:(s.heap.push { cls:=.type "set",dict:=none,data:=.set #[] 0 (.fresh 0 0 (!byTx w)) }).objs.size=s.heap.objs.size+1:=Heap.size_push ..
    have hneI:l≠(s.heap.push { cls:=.type "set",dict:=none,data:=.set #[] 0 (.fresh 0 0 (!byTx w)) }).objs.size:=by rw[hsz]; exact Nat.ne_of_lt (Nat.lt_succ_of_lt hlS)
    have hSf:s.heap.objs.size∉[(s.heap.push { cls:=.type "set",dict:=none,data:=.set #[] 0 (.fresh 0 0 (!byTx w)) }).objs.size,l]:=by
     rw[hsz]; simp only[List.mem_cons,List.mem_singleton,List.not_mem_nil,or_false,not_or]; exact⟨Nat.ne_of_lt (Nat.lt_succ_self _),Nat.ne_of_gt hlS⟩
    refine set_loopT ((Walks.list hh3 _ l hneI items).toS) s.heap.objs.size hSf (fun i=>ss.getD i Str.empty) (fun i v hv=>getD_strs i v hi (by rw[Array.getElem?_toList]; exact hv)) (fun i hi=>Nat.lt_of_le_of_lt (met_mono _ hi) hb) (items.size-0) 0 _ (by ac_rfl) (Nat.zero_le _)
     ⟨⟨_,Heap.get?_push_size _ rfl,rfl,rfl⟩,(hl1.push _)⟩ (S0.at fun o e=>Heap.get?_push_of_some _ e) ?_
    intro s' hm hS2
    obtain⟨h',g',d',tk',os'⟩:=s'
    obtain rfl:g'=s.gens:=hm.gens
    obtain rfl:d'=s.drawn:=hm.drawn
    obtain rfl:os'=s.os:=hm.os
    show wpAny _ _ _ _ _ _
    refine wpAny_pure ?_
    show wpAny _ _ (ret Value.none) _ _ _
    refine wpAny_pure ⟨rfl,h',tk',rfl,hS2,fun b o hb e=>hm.heap b o ?_ (Heap.get?_push_of_some _ (Heap.get?_push_of_some _ e))⟩
    rw[hsz]; simp only[List.mem_cons,List.mem_singleton,List.not_mem_nil,or_false,not_or]; exact⟨Nat.ne_of_lt hb,Nat.ne_of_lt (Nat.lt_succ_of_lt hb)⟩
   ·cases r2 with
    | error e=>exact hr2
    | ok fl2 =>
     cases fl2 with
     | ret r =>
      obtain⟨rfl,h',tk,rfl,hS2,hk'⟩:=hr2
      repeat any_goals (first | assumption | wp_step)
      exact h _ _ hS2 hk'
     | _=>exact hr2.elim
  | _=>exact hr.elim
end
end L2
namespace L2
open PySem PySem.Spec PyProof.Rows
theorem small4096{n:Nat}(h:n≤4096):n<sizeLine:=Nat.lt_of_le_of_lt h (by decide)
theorem look_set_len:typeLookup (.type "set") "__len__" = pure (some (.builtin "set.__len__")):=F.slot_set_len.lookup
section
variable{P:Program}{w:World}{A:Around}{E:Value→Shared→Prop}{s:Shared}
structure SetWalk(P:Program)(w:World)(s s':Shared)(a I:Addr)(ks:List Str)(fp:List Addr)(n:Nat)(Pv:Nat→Value→Prop)(St:Nat→Heap→Prop):Prop where
 wk:∀ A:Around,A.handled=none→Walks P w A I fp [I] n Pv St
 st:St 0 s'.heap
 old:∀ b o,s.heap.get? b=some o→s'.heap.get? b=some o
 new:s.heap.objs.size≤I
 lt:∀ b∈fp,b<s'.heap.objs.size
 rest:s'={ s with heap:=s'.heap,drawn:=s'.drawn }
 ord:∀ acc:Array Value,ItemsOf Pv acc n→∃ ss,StrsAre acc.toList ss∧ss.Perm ks
 len:n<4090
 fps:∀ b∈fp,b=a∨s.heap.objs.size≤b
theorem items_eq{l:List Value}{acc:Array Value}{n:Nat}(hl:l.length=n)(h:ItemsOf (fun i v=>l[i]?=some v) acc n):acc.toList=l:=by
 refine List.ext_getElem? fun i=>?_
 by_cases hi:i<n
 ·have:i<acc.size:=by rw[h.1]; exact hi
  have q:=h.2 i acc[i] (Array.getElem?_eq_getElem this)
  rw[q]
  simp[this]
 ·rw[List.getElem?_eq_none (by rw[Array.length_toList,h.1]; ac_rfl),List.getElem?_eq_none (by ac_rfl)]
theorem iter_setT{a:Addr}{ks:List Str}{Q:Value→Shared→Prop}(S:SetS P w s.heap a ks)(hne:ks≠[])(h:∀ s' I fp n Pv St,SetWalk P w s s' a I ks fp n Pv St→Q (.ref I) s'):wpAny (model P w) A (pyIter (.ref a)) Q E s:=by
 obtain⟨es,ep,t,ss,ho,hS,hp,hel,hsz,hf,hled,hpl⟩:=S.ex
 have hT:s.TypeIs (.ref a) "set":=⟨_,ho,rfl⟩
 have hes:0<es.size:=by
  have e1:=hp.length_eq
  have e2:ss.length=es.size:=by rw[← hS.strs]; simp
  have:0<ks.length:=by cases ks with | nil=>exact absurd rfl hne | cons=>simp
  ac_rfl
 have ltA:=Heap.lt_size ho
 have ordP:∀ l:List (Int×Value),l.Perm es.toList→∃ ss',StrsAre (l.map (·.2)) ss'∧ss'.Perm ks:=fun l pl=>by
  obtain⟨ss',q1,q2⟩:=strs_perm (pl.map (fun e:Int×Value=>e.2)) hS
  exact⟨ss',q1,q2.trans hp⟩
 refine wpAny_pyIter_slot hT F.slot_set_iter (wpAny_call_entry F.slot_set_iter hT entry_set_iterT ?_ (F.args_set_iter_1 _))
 unfold Builtin.«frozenset.__iter__» Builtin.Frozenset.slot0 slotArgs Builtin.Frozenset.addrOf Builtin.Frozenset.sizeOf
 refine wpAny_bind (wpAny_pure ?_)
 refine wpAny_bind (wpAny_bind (wpAny_setEntries_of ho rfl hf (wpAny_pure ?_)))
 unfold setDrawn
 refine wpAny_bind (wpAny_bind (wpAny_setState_of ho rfl hf ?_))
 unfold setsByText
 refine wpAny_bind (wpAny_bind (wpAny_askSetting (wpAny_pure ?_)))
 refine wpAny_pure ?_
 have fin:∀ (first:Value) (s1:Shared) (fp:List Addr) (n:Nat) (Pv:Nat→Value→Prop) (St:Nat→Heap→Prop),s1.heap.get? a=some { cls:=.type "set",dict:=none,data:=.set es ep t } →
   SetWalk P w s { s1 with heap:=s1.heap.push (siObj first 0 a es.size ep) } a s1.heap.objs.size ks fp n Pv St →
   wpAny (model P w) A.in1 (do
    let e ← setEpoch a
    let f ← newFields "set_iterator" [first,rawInt 0,Value.ref a,rawInt (es.size:Nat),rawInt (e:Nat)]
    ret f) (fun fin s'=>∃ v,fin=Fin.done (Flow.ret v)∧∃ T' r,s'.TypeIs v T'∧typeLookup (Value.type T') (Str.ofString "__next__")=pure (some r)∧Q v s') E s1:=fun first s1 fp n Pv St ha W=>by
  refine wpAny_bind (wpAny_setEpoch_of ha rfl hf ?_)
  refine wpAny_bind (wpAny_newObj_type ?_)
  exact wpAny_pure ⟨_,rfl,"set_iterator",_,⟨_,Heap.get?_push_size _ rfl,rfl⟩,slot_si_next.lookup,h _ _ fp n Pv St W⟩
 refine wpAny_ite_split (fun hc=>?_) (fun hc=>?_)
 ·have hc':(!byTx w && (!t.plain && decide (es.size > 1)))=true:=hc
  refine wpAny_bind (drawT es.size (List.range es.size) s _ (by simp) fun ys d hy=>?_)
  refine wpAny_bind (wpAny_newTuple ?_ (hsz:=by rw[List.length_map,hy.length_eq,List.length_range]; exact Nat.le_of_lt (small4096 (by ac_rfl))))
  refine fin _ _ _ _ _ _ (Heap.get?_push_of_some _ ho) ⟨fun A' hA=>walks_drawn (T:=s.heap.objs.size) (Nat.ne_of_lt (by rw[size_push']; exact Nat.lt_succ_of_lt ltA)) (Nat.ne_of_lt (by rw[size_push']; exact Nat.lt_succ_self _)) hf hy hA,⟨Heap.get?_push_size _ rfl,?_,?_⟩,?_,?_,?_,rfl,?_,hsz,?_⟩
  ·exact Heap.get?_push_of_some _ (Heap.get?_push_of_some _ ho)
  ·exact Heap.get?_push_of_some _ (Heap.get?_push_size _ rfl)
  ·exact fun b o e=>Heap.get?_push_of_some _ (Heap.get?_push_of_some _ e)
  ·rw[size_push']; exact Nat.le_succ _
  ·intro b hb
   simp only[List.mem_cons,List.not_mem_nil,or_false]at hb
   rw[size_push',size_push']
   rcases hb with rfl | rfl | rfl
   ·rw[size_push']; exact Nat.lt_succ_self _
   ·exact Nat.lt_succ_of_lt (Nat.lt_succ_of_lt ltA)
   ·exact Nat.lt_succ_of_lt (Nat.lt_succ_self _)
  ·intro acc hacc
   have e0:(ys.filterMap fun j=>(es[j]?).map (·.2))=(ys.filterMap fun j=>es[j]?).map (·.2):=by
    rw[List.map_filterMap]
   have pl:(ys.filterMap fun j=>es[j]?).Perm es.toList:=by
    have:=hy.filterMap fun j=>es[j]?
    rwa[filterMap_getElem?_range]at this
   rw[e0]at hacc
   rw[items_eq (by rw[List.length_map,pl.length_eq]; simp) hacc]
   exact ordP _ pl
  ·intro b hb
   simp only[List.mem_cons,List.not_mem_nil,or_false]at hb
   rcases hb with rfl | rfl | rfl
   ·rw[size_push']; exact .inr (Nat.le_succ _)
   ·exact .inl rfl
   ·exact .inr (Nat.le_refl _)
 ·have hc':¬ (!byTx w && (!t.plain && decide (es.size > 1)))=true:=hc
  refine wpAny_bind (wpAny_pure ?_)
  cases hb:byTx w with
  | true =>
   refine fin _ _ _ _ _ _ ho ⟨fun A' hA=>walks_byText (Nat.ne_of_lt ltA) hf hb hA,⟨Heap.get?_push_size _ rfl,Heap.get?_push_of_some _ ho⟩,fun b o e=>Heap.get?_push_of_some _ e,Nat.le_refl _,?_,rfl,?_,hsz,fun b hb=>?_⟩
   ·intro b hb
    simp only[List.mem_cons,List.not_mem_nil,or_false]at hb
    rw[size_push']
    rcases hb with rfl | rfl
    ·exact Nat.lt_succ_self _
    ·exact Nat.lt_succ_of_lt ltA
   ·intro acc hacc
    have pl:=pick_perm (w.params.setOrder a ep) es
    rw[items_eq (by rw[List.length_map,pl.length_eq]; simp) hacc]
    exact ordP _ pl
   ·simp only[List.mem_cons,List.not_mem_nil,or_false]at hb
    exact hb.elim (fun z=>.inr (Nat.le_of_eq z.symm)) .inl
  | false =>
   have h1:es.size=1:=by
    rw[hb,hpl hne]at hc'
    simp at hc'
    ac_rfl
   refine fin _ _ _ _ _ _ ho ⟨fun A' hA=>walks_one (Nat.ne_of_lt ltA) hf hb (by rw[hled,hb]; rfl) h1 hA,⟨Heap.get?_push_size _ rfl,Heap.get?_push_of_some _ ho⟩,fun b o e=>Heap.get?_push_of_some _ e,Nat.le_refl _,?_,rfl,?_,by decide,fun b hb=>?_⟩
   ·intro b hb
    simp only[List.mem_cons,List.not_mem_nil,or_false]at hb
    rw[size_push']
    rcases hb with rfl | rfl
    ·exact Nat.lt_succ_self _
    ·exact Nat.lt_succ_of_lt ltA
   ·intro acc hacc
    rw[items_eq (by simp[h1]) hacc]
    exact ordP _ (List.Perm.refl _)
   ·simp only[List.mem_cons,List.not_mem_nil,or_false]at hb
    exact hb.elim (fun z=>.inr (Nat.le_of_eq z.symm)) .inl
theorem collect_setT{a:Addr}{ks:List Str}{Q:List Value→Shared→Prop}(hh:A.handled=none)(S:SetS P w s.heap a ks)(hne:ks≠[])
  (h:∀ (s':Shared) (vs:List Value) (ss:List Str),StrsAre vs ss→ss.Perm ks→vs.length<4090→(∀ b o,s.heap.get? b=some o→s'.heap.get? b=some o)→s'.gens=s.gens→s'.os=s.os→Q vs s'):wpAny (model P w) A (collect (.ref a)) Q E s:=by
 obtain⟨es,ep,t,_,ho,_⟩:=S.ex
 have ltA:=Heap.lt_size ho
 unfold collect
 refine wpAny_bind (wpAny_runValue (codeAny_builtin F.entry_proto_collect ?_))
 rw[Around.under_plainId F.plain_proto_collect _]
 show wpAny _ A.in1 (newList [] >>= fun l=>again (.builtin "list.__iadd__" ⟨[l,.ref a],[]⟩)) _ _ s
 refine wpAny_bind (wpAny_newObj_type ?_)
 refine wpAny_pure ⟨plainId_quiet F.plain_list_iadd _,codeAny_builtin F.entry_list_iadd ?_⟩
 rw[Around.under_plainId F.plain_list_iadd _]
 show wpAny _ A.in1 (Builtin.List.listExtendWith (.ref s.heap.objs.size) (.ref a) (.ref s.heap.objs.size)) _ _ _
 unfold Builtin.List.listExtendWith
 have hT:∀ s1:Shared,s1.heap.get? a=some { cls:=.type "set",dict:=none,data:=.set es ep t }→s1.TypeIs (.ref a) "set":=fun s1 e=>⟨_,e,rfl⟩
 have ho1:(s.heap.push { cls:=.type "list",data:=.seq ([]:List Value).toArray }).get? a=some { cls:=.type "set",dict:=none,data:=.set es ep t }:=Heap.get?_push_of_some _ ho
 refine wpAny_bind (wpAny_typeOf (hT _ ho1) ?_)
 have h1:Builtin.List.listSameRef (.ref s.heap.objs.size) (.ref a)=false:=by
  have:¬ (s.heap.objs.size=a):=Nat.ne_of_gt ltA
  simp[Builtin.List.listSameRef,this]
 rw[if_neg (by rw[h1]; decide)]
 refine wpAny_bind (iter_setT (S.at fun o e=>Heap.get?_push_of_some _ e) hne fun s2 I fp n Pv St W=>?_)
 have ho2:=W.old a _ ho1
 refine wpAny_bind (wpAny_holding ?_)
 unfold Builtin.List.listLengthHint
 refine wpAny_bind (wpAny_specialOf (hT _ ho2) look_set_len ?_)
 wp_delta
 refine wpAny_bind (wpAny_isInstance (T:="set") (b:=true) (hT _ ho2) (by rw[isSubtype_type]; kernel_rfl) ?_)
 show wpAny _ A.in1 (typeOf (Value.ref a) >>= _) _ _ _
 refine wpAny_bind (wpAny_typeOf (T:="set") (hT _ ho2) ?_)
 refine wpAny_pure ?_
 rw[if_pos (by decide)]
 refine wpAny_bind (wpAny_rule ?_)
 have hL:(s.heap.push { cls:=.type "list",data:=.seq ([]:List Value).toArray }).get? s.heap.objs.size=some { cls:=.type "list",data:=.seq ([]:List Value).toArray }:=Heap.get?_push_size _ rfl
 have hL2:=W.old _ _ hL
 unfold Builtin.List.listTouch
 refine wpAny_bind (wpAny_bind (listUpdate_at hL2 rfl ?_ (by decide) (by show 1≤sizeLine+1; decide)))
 have hL3:=get?_update_seq hL2 (fun a:Array Value=>a.push Value.none)
 refine listUpdate_at hL3 rfl ?_ (by show 1≤sizeLine; decide) (by show 0≤sizeLine+1; decide)
 have hL4:=get?_update_seq hL3 (fun a:Array Value=>a.pop)
 have hneL:s.heap.objs.size∉fp:=fun z=>by
  rcases W.fps _ z with q | q
  ·exact absurd ltA (by rw[← q]; exact Nat.lt_irrefl _)
  ·rw[size_push']at q
   exact absurd (Nat.lt_succ_self _) (Nat.not_lt.mpr q)
 have k4:∀ b o,b≠s.heap.objs.size→s2.heap.get? b=some o→(((s2.heap.update s.heap.objs.size (Obj.mapSeq fun a=>a.push Value.none)).update s.heap.objs.size (Obj.mapSeq fun a=>a.pop))).get? b=some o:=fun b o hb e=>by
  rw[Heap.get?_update_ne _ _ _ _ hb,Heap.get?_update_ne _ _ _ _ hb]; exact e
 have st4:St 0 (((s2.heap.update s.heap.objs.size (Obj.mapSeq fun a=>a.push Value.none)).update s.heap.objs.size (Obj.mapSeq fun a=>a.pop))):=(W.wk A.in1 hh).frame 0 _ _ W.st fun b hb o e=>k4 b o (fun z=>hneL (z ▸ hb)) e
 refine wpAny_pure ⟨plainId_quiet F.plain_extend_loop _,codeAny_extend_loopS (W.wk A.in1 hh).toS (Nat.le_of_lt (small4096 (by have:=W.len; ac_rfl))) _ hneL _ n 0 _ _ _ rfl (Nat.zero_le _) st4 hL4 (ItemsOf.nil _) fun s' acc' c' hm hS' hacc=>?_⟩
 show wpAny _ A (load s.heap.objs.size >>= _) _ _ s'
 refine wpAny_bind (wpAny_load hS' ?_)
 obtain⟨ss,q1,q2⟩:=W.ord acc' hacc
 refine wpAny_pure (h s' acc'.toList ss q1 q2 (by rw[Array.length_toList,hacc.1]; exact W.len) (fun b o e=>?_) ?_ ?_)
 ·have hlt:=Heap.lt_size e
  refine hm.heap b o (fun hb=>?_) (k4 b o (Nat.ne_of_lt hlt) (W.old b o (Heap.get?_push_of_some _ e)))
  rcases List.mem_cons.mp hb with z | z
  ·exact absurd hlt (by rw[z]; exact Nat.lt_irrefl _)
  ·rw[List.mem_singleton.mp z]at hlt
   have:=W.new
   rw[size_push']at this
   exact absurd hlt (Nat.not_lt.mpr (Nat.le_of_succ_le this))
 ·rw[hm.gens,W.rest]
 ·rw[hm.os,W.rest]
end
def uniqT(ls:List Tx):List Tx:=ls.foldl (fun ks x=>if x∈ks then ks else ks++[x]) []
theorem met_uniq(ls:List Tx):met (fun i=>(ls.map tS).getD i Str.empty) ls.length=(uniqT ls).map tS:=by
 have gen:∀ (l:List Tx) (acc:List Tx),(l.map tS).foldl addT (acc.map tS)=(l.foldl (fun ks x=>if x∈ks then ks else ks++[x]) acc).map tS:=by
  intro l
  induction l with
  | nil=>intro acc; rfl
  | cons x r ih =>
   intro acc
   rw[List.map_cons,List.foldl_cons,List.foldl_cons]
   have:addT (acc.map tS) (tS x)=(if x∈acc then acc else acc++[x]).map tS:=by
    unfold addT
    have hm:tS x∈acc.map tS↔x∈acc:=by
     rw[List.mem_map]
     exact⟨fun⟨y,hy,e⟩=>by rw[← tS_inj e]; exact hy,fun h=>⟨x,h,rfl⟩⟩
    by_cases h:x∈acc
    ·rw[if_pos h,if_pos (hm.mpr h)]
    ·rw[if_neg h,if_neg (fun z=>h (hm.mp z)),List.map_append]; rfl
   rw[this,ih]
 have e:(List.range ls.length).map (fun i=>(ls.map tS).getD i Str.empty)=ls.map tS:=by
  refine List.ext_getElem? fun i=>?_
  rw[List.getElem?_map]
  by_cases hi:i<ls.length
  ·rw[List.getElem?_range hi]
   simp[hi]
  ·rw[List.getElem?_eq_none (by simpa using hi),List.getElem?_eq_none (by simpa using hi)]
   rfl
 unfold met
 rw[e]
 exact gen ls []
theorem uniqT_go(l acc:List Tx):(acc.Nodup→(l.foldl (fun ks x=>if x∈ks then ks else ks++[x]) acc).Nodup)∧∀ x,x∈l.foldl (fun ks x=>if x∈ks then ks else ks++[x]) acc↔x∈acc∨x∈l:=by
 induction l generalizing acc with
 | nil=>exact⟨fun h=>h,fun x=>by simp⟩
 | cons y r ih =>
  rw[List.foldl_cons]
  obtain⟨h1,h2⟩:=ih (if y∈acc then acc else acc++[y])
  refine⟨fun h=>h1 ?_,fun x=>?_⟩
  ·split
   ·exact h
   ·rename_i hy
    rw[List.nodup_append]
    exact⟨h,by simp,fun a ha b hb=>by simp at hb; subst hb; exact fun e=>hy (e ▸ ha)⟩
  ·rw[h2 x,List.mem_cons]
   split
   ·rename_i hy
    constructor
    ·rintro(h | h)
     ·exact .inl h
     ·exact .inr (.inr h)
    ·rintro(h | rfl | h)
     ·exact .inl h
     ·exact .inl hy
     ·exact .inr h
   ·rw[List.mem_append,List.mem_singleton,or_assoc]
theorem uniqT_nodup(l:List Tx):(uniqT l).Nodup:=(uniqT_go l []).1 List.nodup_nil
theorem uniqT_mem(l:List Tx)(x:Tx):x∈uniqT l↔x∈l:=by rw[uniqT,(uniqT_go l []).2 x]; simp
theorem uniqT_len(l:List Tx):(uniqT l).length≤l.length:=by
 have gen:∀ (l acc:List Tx),(l.foldl (fun ks x=>if x∈ks then ks else ks++[x]) acc).length≤acc.length+l.length:=by
  intro l
  induction l with
  | nil=>intro acc; simp
  | cons x r ih =>
   intro acc
   rw[List.foldl_cons]
   refine Nat.le_trans (ih _) ?_
   split <;> simp <;> ac_rfl
 simpa[uniqT]using gen l []
section
variable{X:Cx}
def setHO(X:Cx)(a:Addr)(ls:List Tx):HO:=.ext fun h=>SetS X.prog X.w h a (ls.map tS)
theorem call_setL(hc:X.calm=true):CallR X (.type "set") (fun xs H Q=>∃ (p:Addr) (ls:List Tx),xs=[.ref p]∧SqL X.K H p (tVs ls)∧(uniqT ls).length<4000∧∀ a,H a=none→Q (.ref a) (upd H a (setHO X a (uniqT ls)))):=by
 intro pins s σ H xs us Q I r h
 obtain⟨p,ls,rfl,hq,h60,q⟩:=h
 obtain⟨u,rfl,ru⟩:=vals1 r
 cases ru
 obtain⟨its,rv,pl,hz⟩:=I.list hq
 have hl:=rv.length
 rw[tVs_len]at hl
 refine call_setT (P:=X.prog) (w:=X.w) (I.ok.hd hc) pl.isList (by simpa using vals_strs rv) (by rw[List.size_toArray,show its.length=ls.length by ac_rfl,met_uniq,List.length_map]; exact h60) fun h' tk S k=>?_
 have S':SetS X.prog X.w h' s.heap.objs.size ((uniqT ls).map tS):=by
  have e:its.toArray.size=ls.length:=by rw[List.size_toArray]; ac_rfl
  rw[e,met_uniq]at S
  exact S
 refine⟨.ref s.heap.objs.size,_,I.laid (t':=tk) (o:=setHO X s.heap.objs.size (uniqT ls)) (fun b o e=>k b o (Heap.lt_size e) e) (Nat.le_refl _) ?_,rfl,q _ I.fresh⟩
 obtain⟨es,ep,t,ss,e,_⟩:=S'.ex
 exact⟨S',⟨_,e⟩,fun h1 h2 q1 q2=>q1.at q2⟩
theorem call_sortedSet(hc:X.calm=true):CallR X (.builtin "sorted") (fun xs H Q=>∃ (p:Addr) (ls:List Tx),xs=[.ref p]∧H p=some (setHO X p ls)∧ls≠[]∧ls.length<64∧∀ l,H l=none→Q (.ref l) (upd H l (.lst (tVs (sortT ls))))):=by
 intro pins s σ H xs us Q I r h
 obtain⟨p,ls,rfl,hq,hne,h64,q⟩:=h
 obtain⟨u,rfl,ru⟩:=vals1 r
 cases ru
 obtain⟨S,_,_⟩:=(show ObjOk X.prog X.w H s.heap p (setHO X p ls)from I.hok p _ hq)
 refine sorted_gen (collect_setT (in1_handled (I.ok.hd hc)) S (by cases ls with | nil=>exact absurd rfl hne | cons=>simp) fun s' vs ss a1 a2 a3 k eg eo=>?_)
 obtain⟨h',g',d',t',o'⟩:=s'
 obtain rfl:g'=s.gens:=eg
 obtain rfl:o'=s.os:=eo
 have I1:Inv X pins σ H { s with heap:=h',drawn:=d',toks:=t' }:=by
  have:=Inv.call (ch:=[]) I (g':=s.gens) (d':=d') (t':=t') (Un.kept (fs:=frs X.stack) (ex:=[]) k) (I.hok.kept k) I.bare (fun b hb=>absurd hb (by simp))
  exact this
 refine⟨ss,a1,by have e1:=a1.length; have e2:=a2.length_eq; rw[List.length_map]at e2; ac_rfl,fun h2 out ss' e k2 ho b1 b2 b3=>?_⟩
 exact⟨.ref _,_,Inv.sorted (s1:={ s with heap:=h',drawn:=d',toks:=t' }) (ss:=ls.map tS) I1 rfl h64 k2 ho b1 (b2.trans a2) b3,rfl,q _ I1.fresh⟩
end
end L2
namespace L2
open PySem PySem.Spec PyProof.Rows
structure Cal(P:Program)(w:World)(K:PySem.W.Frag)(mg:Str→Option Value)(base:Heap)(x:Str)(k:Nat)(ps:List Str)(sp:Sp):Prop where
 ex:∃ f fd,mg x=some (.ref f)∧FnOk P w K mg base CX0 k f fd ps sp∧Binds K fd ps []∧PySem.W.keepIn K (.ref f)=true
theorem Cal.mono{P:Program}{w:World}{K:PySem.W.Frag}{mg:Str→Option Value}{base:Heap}{x:Str}{j k:Nat}{ps:List Str}{sp:Sp}(c:Cal P w K mg base x j ps sp)(h:j≤k):Cal P w K mg base x k ps sp:=by
 obtain⟨f,fd,h1,h2,h3,h4⟩:=c.ex
 exact⟨f,fd,h1,h2.mono h,h3,h4⟩
structure Def(K:PySem.W.Frag)(mg:Str→Option Value)(x:Str)(st:Stmt):Prop where
 ex:∃ f fd,mg x=some (.ref f)∧Fun K x x st f fd
def Near(t:Addr)(H H':Hp):Prop:=∀ b o,H b=some o→b≠t→H' b=some o
theorem Near.free{t:Addr}{H H':Hp}(e:Near t H H'){l:Addr}(h:H' l=none)(hl:l≠t):H l=none:=by
 cases q:H l with
 | none=>rfl
 | some o=>rw[e l o q hl]at h; cases h
theorem Near.seq{K:PySem.W.Frag}{t a:Addr}{H H':Hp}{xs:List V}(e:Near t H H')(ha:a≠t)(h:SqL K H a xs):SqL K H' a xs:=by
 rcases h with(h | ⟨o,h⟩) | h
 ·exact .inl (.inl (e _ _ h ha))
 ·exact .inl (.inr ⟨o,e _ _ h ha⟩)
 ·exact .inr h
theorem Near.tup{K:PySem.W.Frag}{t a:Addr}{H H':Hp}{xs:List V}(e:Near t H H')(ha:a≠t)(h:SqT K H a xs):SqT K H' a xs:=by
 rcases h with(h | ⟨o,h⟩) | h
 ·exact .inl (.inl (e _ _ h ha))
 ·exact .inl (.inr ⟨o,e _ _ h ha⟩)
 ·exact .inr h
def Town(H:Hp)(t:Addr)(n:Nat):Prop:=∃ xs,H t=some (.lst xs)∧xs.length≤n
theorem Town.mono{H:Hp}{t:Addr}{m n:Nat}(h:Town H t m)(hn:m≤n):Town H t n:=let ⟨xs,a,b⟩:=h; ⟨xs,a,Nat.le_trans b hn⟩
theorem Town.upd{H:Hp}{t p:Addr}{n:Nat}{o:HO}(h:Town H t n)(hp:H p=none):Town (upd H p o) t n:=by
 obtain⟨xs,a,b⟩:=h
 exact⟨xs,by rw[upd_ne (ne_of_none a hp)]; exact a,b⟩
theorem same_upd{H:Hp}{p:Addr}{o:HO}(h:H p=none):Same H (upd H p o):=fun b u q=>by rw[upd_ne (ne_of_none q h)]; exact q
theorem atI_int{α:Type}{xs:List α}{k:Int}(h0:0≤k)(h:k.toNat<xs.length):atI xs k=some xs[k.toNat]:=by
 have e:((k.toNat:Nat):Int)=k:=by ac_rfl
 have q:=atI_nat (xs:=xs) (j:=k.toNat) (v:=xs[k.toNat]) (by simp[h])
 rwa[e]at q
end L2
namespace L2
open PySem PySem.Spec PyProof.Rows
def blkChk(N:List Str)(sc scope:Scope)(x:Str)(N':List Str)(cap:List Nat):Bool :=
 decide (scope.kind = .function) && scope.names.all (fun y=>(decide (y.2≠.cell) || decide (scope.names.lookup y.1=some .cell)) && (decide (y.2≠.local) || decide (scope.names.lookup y.1=some .local)) && (decide (y.2≠.free) || decide (sc.names.lookup y.1=some .cell) || decide (sc.names.lookup y.1=some .free)))
 && (decide (scope.names.lookup x=some .local) || decide (scope.names.lookup x=some .cell)) && decide N'.Nodup && decide (N'.head?=some x) && decide (N'.length=cap.length+1) && (cap.zip N'.tail).all fun p=>decide (N[p.1]?=some p.2) && decide (scope.names.lookup p.2=some .free)
theorem BlkOk.of{X:Cx}{scope:Scope}{x:Str}{N':List Str}{cap:List Nat}(N:List Str)(sc:Scope)(hN:X.N=N)(hsc:X.env.scope=sc)(h:blkChk N sc scope x N' cap=true):BlkOk X scope x N' cap:=by
 subst hN hsc
 simp only[blkChk,Bool.and_eq_true,decide_eq_true_eq,List.all_eq_true,Bool.or_eq_true]at h
 obtain⟨⟨⟨⟨⟨⟨h1,h2⟩,h3⟩,h4⟩,h5⟩,h6⟩,h7⟩:=h
 refine⟨h1,fun y hy e=>(h2 y hy).1.1.elim (fun z=>absurd e z) fun z=>z,fun y hy e=>?_,h3,fun y hy e=>?_,h4,h5,h6,fun i j y e1 e2=>?_⟩
 ·rcases(h2 y hy).1.2 with z | z
  ·exact absurd e z
  ·exact z
 ·rcases(h2 y hy).2 with(z | z) | z
  ·exact absurd e z
  ·exact .inl z
  ·exact .inr z
 ·have hm:(j,y)∈cap.zip N'.tail:=by
   refine List.mem_iff_getElem?.mpr ⟨i,?_⟩
   rw[List.getElem?_zip_eq_some]
   refine⟨e2,?_⟩
   rw[← List.drop_one,List.getElem?_drop,Nat.add_comm]
   exact e1
  exact h7 _ hm
theorem eqV_tV(a b:Tx):eqV (tV a) (tV b)=decide (a=b):=by
 show(tS a == tS b)=_
 rw[Bool.eq_iff_iff]
 simp only[beq_iff_eq,decide_eq_true_eq]
 exact⟨tS_inj,fun h=>by rw[h]⟩
theorem countP_tVs(ls:List Tx)(x:Tx):((tVs ls).countP fun z=>eqV z (tV x))=ls.count x:=by
 unfold tVs List.count
 rw[List.countP_map]
 refine List.countP_congr fun y _=>?_
 simp only[Function.comp_apply,eqV_tV,decide_eq_true_eq,beq_iff_eq]
end L2
namespace Pu
open PySem PySem.Spec PyProof.Rows L2
noncomputable abbrev St:=L2.St
inductive PV where
 | non | bl (b:Bool) | int (i:Int) | str (x:Tx) | tup (xs:List PV) | lst (xs:List PV) | raw (v:V) | exc (c:Value)
def excO(a:Addr)(c:Value):HO:=.ext fun h=>∃ o vs,h.get? a=some o∧o.cls=c∧o.data = .fields vs∧o.dict=none
def maxS:Nat:=1000000
theorem maxS_le:maxS≤sizeLine:=by rw[sizeLine_eq]; decide
def notImm:HO→Prop
 | .lst _=>True
 | .dK _=>True
 | .dT _=>True
 | .ins _ _ _=>True
 | .own _=>True
 | _=>False
mutual
def Rep(K:PySem.W.Frag)(H:Hp)(F:Addr→Prop):PV→V→Prop
 | .non,v=>v = .non
 | .bl b,v=>v = .bl b
 | .int i,v=>v = .int i
 | .str x,v=>v=tV x∧x.length≤maxS
 | .tup xs,v=>∃ a vs,v = .ref a∧H a=some (.tup vs)∧Reps K H F xs vs
 | .lst xs,v=>∃ a vs,v = .ref a∧Rd H a (.lst vs)∧F a∧Reps K H F xs vs
 | .raw u,v=>v=u
 | .exc c,v=>∃ a,v = .ref a∧H a=some (excO a c)
def Reps(K:PySem.W.Frag)(H:Hp)(F:Addr→Prop):List PV→List V→Prop
 | [],vs=>vs=[]
 | x::xs,vs=>∃ v r,vs=v::r∧Rep K H F x v∧Reps K H F xs r
end
section
variable{K:PySem.W.Frag}{H H':Hp}{F F':Addr→Prop}
mutual
theorem Rep.mono(hF:∀ a,F a→F' a)(hL:∀ a xs,F a→Rd H a (.lst xs)→Rd H' a (.lst xs))(hT:∀ a o,H a=some o→¬ notImm o→H' a=some o):∀ (x:PV) (v:V),Rep K H F x v→Rep K H' F' x v
 | .non,_,h=>h
 | .bl _,_,h=>h
 | .int _,_,h=>h
 | .str _,_,h=>h
 | .raw _,_,h=>h
 | .exc _,_,⟨a,e,h⟩=>⟨a,e,hT a _ h id⟩
 | .tup xs,_,⟨a,vs,e,h1,h2⟩=>⟨a,vs,e,hT a _ h1 id,Reps.mono hF hL hT xs vs h2⟩
 | .lst xs,_,⟨a,vs,e,h1,h0,h2⟩=>⟨a,vs,e,hL a vs h0 h1,hF a h0,Reps.mono hF hL hT xs vs h2⟩
theorem Reps.mono(hF:∀ a,F a→F' a)(hL:∀ a xs,F a→Rd H a (.lst xs)→Rd H' a (.lst xs))(hT:∀ a o,H a=some o→¬ notImm o→H' a=some o):∀ (xs:List PV) (vs:List V),Reps K H F xs vs→Reps K H' F' xs vs
 | [],_,h=>h
 | x::xs,_,⟨v,r,e,h1,h2⟩=>⟨v,r,e,Rep.mono hF hL hT x v h1,Reps.mono hF hL hT xs r h2⟩
end
theorem Reps.len:∀ {xs:List PV} {vs:List V},Reps K H F xs vs→vs.length=xs.length
 | [],_,h=>by rw[show _=[] from h]; rfl
 | _::_,_,⟨_,_,e,_,h2⟩=>by rw[e,List.length_cons,List.length_cons,Reps.len h2]
theorem Reps.get:∀ {xs:List PV} {vs:List V} {i:Nat} {x:PV},Reps K H F xs vs→xs[i]?=some x→∃ v,vs[i]?=some v∧Rep K H F x v
 | [],_,_,_,_,e=>by simp at e
 | x::xs,_,0,y,⟨v,r,e,h1,_⟩,q=>by simp at q; subst q; subst e; exact⟨v,rfl,h1⟩
 | x::xs,_,i+1,y,⟨v,r,e,_,h2⟩,q=>by
  obtain⟨w,a,b⟩:=Reps.get (i:=i) (x:=y) h2 (by simpa using q)
  subst e
  exact⟨w,by simpa using a,b⟩
theorem Reps.back:∀ {xs:List PV} {vs:List V} {i:Nat} {v:V},Reps K H F xs vs→vs[i]?=some v→∃ x,xs[i]?=some x∧Rep K H F x v
 | [],_,_,_,h,e=>by rw[show _=[] from h]at e; simp at e
 | x::xs,_,0,y,⟨v,r,e,h1,_⟩,q=>by subst e; simp at q; subst q; exact⟨x,rfl,h1⟩
 | x::xs,_,i+1,y,⟨v,r,e,_,h2⟩,q=>by
  subst e
  obtain⟨w,a,b⟩:=Reps.back (i:=i) (v:=y) h2 (by simpa using q)
  exact⟨w,by simpa using a,b⟩
theorem Reps.app:∀ {xs ys:List PV} {vs ws:List V},Reps K H F xs vs→Reps K H F ys ws→Reps K H F (xs++ys) (vs++ws)
 | [],_,_,_,h,g=>by rw[show _=[] from h]; exact g
 | x::xs,_,_,_,⟨v,r,e,h1,h2⟩,g=>by subst e; exact⟨v,_,rfl,h1,Reps.app h2 g⟩
theorem Reps.one{x:PV}{v:V}(h:Rep K H F x v):Reps K H F [x] [v]:=⟨v,[],rfl,h,rfl⟩
theorem Reps.drop:∀ (n:Nat) {xs:List PV} {vs:List V},Reps K H F xs vs→Reps K H F (xs.drop n) (vs.drop n)
 | 0,_,_,h=>h
 | _+1,[],_,h=>by rw[show _=[] from h]; rfl
 | n+1,_::_,_,⟨_,_,e,_,h2⟩=>by subst e; exact Reps.drop n h2
theorem Reps.take:∀ (n:Nat) {xs:List PV} {vs:List V},Reps K H F xs vs→Reps K H F (xs.take n) (vs.take n)
 | 0,_,_,_=>by rw[List.take_zero,List.take_zero]; rfl
 | _+1,[],_,h=>by rw[show _=[] from h]; rfl
 | n+1,_::_,_,⟨v,_,e,h1,h2⟩=>by subst e; exact⟨v,_,rfl,h1,Reps.take n h2⟩
theorem Reps.set{x:PV}{v:V}(hx:Rep K H F x v):∀ (n:Nat) {xs:List PV} {vs:List V},Reps K H F xs vs→Reps K H F (xs.set n x) (vs.set n v)
 | _,[],_,h=>by rw[show _=[] from h]; rfl
 | 0,_::_,_,⟨_,r,e,_,h2⟩=>by subst e; exact⟨v,r,rfl,hx,h2⟩
 | n+1,_::_,_,⟨w,_,e,h1,h2⟩=>by subst e; exact⟨w,_,rfl,h1,Reps.set hx n h2⟩
theorem Reps.cons{x:PV}{v:V}{xs:List PV}{vs:List V}(h:Rep K H F x v)(g:Reps K H F xs vs):Reps K H F (x::xs) (v::vs):=⟨v,vs,rfl,h,g⟩
end
structure Grow(O O' F F':Addr→Prop)(H H':Hp):Prop where
 fro:∀ a,F a→F' a
 keep:∀ b o,H b=some o→¬ O b→H' b=some o
 there:∀ b o,H b=some o→∃ o',H' b=some o'
 fnew:∀ a,F' a→F a∨H a=none∨O a
 onew:∀ a,O' a→O a∨H a=none
theorem Grow.refl(O F:Addr→Prop)(H:Hp):Grow O O F F H H:=⟨fun _ h=>h,fun _ _ h _=>h,fun _ o h=>⟨o,h⟩,fun _ h=>.inl h,fun _ h=>.inl h⟩
theorem Grow.trans{O O1 O2 F F1 F2:Addr→Prop}{H H1 H2:Hp}(g:Grow O O1 F F1 H H1)(k:Grow O1 O2 F1 F2 H1 H2):Grow O O2 F F2 H H2 where
 fro:=fun a h=>k.fro a (g.fro a h)
 keep:=fun b o h n=>k.keep b o (g.keep b o h n) fun z=>(g.onew b z).elim n fun q=>by rw[q]at h; cases h
 there:=fun b o h=>let ⟨o',h'⟩:=g.there b o h; k.there b o' h'
 fnew:=fun a h=>by
  have back:H1 a=none→H a=none∨O a:=fun z=>by
   cases q:H a with
   | none=>exact .inl rfl
   | some o=>obtain⟨o',h'⟩:=g.there a o q; rw[z]at h'; cases h'
  rcases k.fnew a h with z | z | z
  ·exact g.fnew a z
  ·exact .inr (back z)
  ·exact .inr ((g.onew a z).symm)
 onew:=fun a h=>by
  rcases k.onew a h with z | z
  ·exact g.onew a z
  ·cases q:H a with
   | none=>exact .inr rfl
   | some o=>obtain⟨o',h'⟩:=g.there a o q; rw[z]at h'; cases h'
def Fit(O F:Addr→Prop)(H:Hp):Prop:=∀ b,O b→¬ F b∧∃ o,H b=some o∧notImm o
section
variable{K:PySem.W.Frag}{O O' F F':Addr→Prop}{H H':Hp}
theorem Grow.imm(g:Grow O O' F F' H H')(f:Fit O F H){a:Addr}{o:HO}(h:H a=some o)(n:¬ notImm o):H' a=some o :=
 g.keep _ _ h fun z=>by
  obtain⟨_,o',e',n'⟩:=f a z
  rw[h]at e'; cases e'; exact n n'
theorem Grow.lst(g:Grow O O' F F' H H')(f:Fit O F H){a:Addr}{xs:List V}(hF:F a)(h:Rd H a (.lst xs)):Rd H' a (.lst xs):=by
 have no:¬ O a:=fun z=>(f a z).1 hF
 rcases h with h | ⟨o,h⟩
 ·exact .inl (g.keep _ _ h no)
 ·exact .inr ⟨o,g.keep _ _ h no⟩
theorem Rep.grow(g:Grow O O' F F' H H')(f:Fit O F H){x:PV}{v:V}(h:Rep K H F x v):Rep K H' F' x v:=Rep.mono g.fro (fun _ _ hF q=>g.lst f hF q) (fun _ _ q n=>g.imm f q n) x v h
theorem Reps.grow(g:Grow O O' F F' H H')(f:Fit O F H){x:List PV}{v:List V}(h:Reps K H F x v):Reps K H' F' x v:=Reps.mono g.fro (fun _ _ hF q=>g.lst f hF q) (fun _ _ q n=>g.imm f q n) x v h
end
theorem _root_.L2.Same.rd{H H':Hp}{a:Addr}{u:HO}(e:Same H H')(h:Rd H a u):Rd H' a u:=h.elim (fun z=>.inl (e _ _ z)) fun⟨o,z⟩=>.inr ⟨o,e _ _ z⟩
structure Al(F F':Addr→Prop)(H H':Hp):Prop where
 fro:∀ a,F a→F' a
 same:Same H H'
 fnew:∀ a,F' a→F a∨(H a=none∧∃ o,H' a=some o)
theorem Al.refl(F:Addr→Prop)(H:Hp):Al F F H H:=⟨fun _ h=>h,Same.refl H,fun _ h=>.inl h⟩
theorem Al.grow{F F' O:Addr→Prop}{H H':Hp}(a:Al F F' H H'):Grow O O F F' H H' :=
 ⟨a.fro,fun b o h _=>a.same b o h,fun b o h=>⟨o,a.same b o h⟩,fun b h=>(a.fnew b h).imp id fun z=>.inl z.1,fun _ h=>.inl h⟩
theorem Al.rep{K:PySem.W.Frag}{F F':Addr→Prop}{H H':Hp}(a:Al F F' H H'){x:PV}{v:V}(h:Rep K H F x v):Rep K H' F' x v:=Rep.mono a.fro (fun _ _ _ q=>a.same.rd q) (fun _ _ q _=>a.same _ _ q) x v h
theorem Al.reps{K:PySem.W.Frag}{F F':Addr→Prop}{H H':Hp}(a:Al F F' H H'){x:List PV}{v:List V}(h:Reps K H F x v):Reps K H' F' x v:=Reps.mono a.fro (fun _ _ _ q=>a.same.rd q) (fun _ _ q _=>a.same _ _ q) x v h
theorem Al.trans{F F1 F2:Addr→Prop}{H H1 H2:Hp}(a:Al F F1 H H1)(b:Al F1 F2 H1 H2):Al F F2 H H2 :=
 ⟨fun c h=>b.fro c (a.fro c h),a.same.trans b.same,fun c h=>by
  rcases b.fnew c h with z | ⟨z,w⟩
  ·rcases a.fnew c z with y | ⟨y,o,q⟩
   ·exact .inl y
   ·exact .inr ⟨y,o,b.same _ _ q⟩
  ·exact .inr ⟨a.same.free z,w⟩⟩
theorem Al.new{F:Addr→Prop}{H:Hp}{l:Addr}{o:HO}(h:H l=none):Al F (fun a=>F a∨a=l) H (upd H l o) :=
 ⟨fun _ h=>.inl h,same_upd h,fun a z=>z.imp id fun e=>by subst e; exact⟨h,o,upd_same⟩⟩
theorem Al.new0{F:Addr→Prop}{H:Hp}{l:Addr}{o:HO}(h:H l=none):Al F F H (upd H l o):=⟨fun _ h=>h,same_upd h,fun a z=>.inl z⟩
inductive PO where
 | lst (xs:List PV) | dK (kvs:List (Key×PV)) | lls (xss:List (List PV)) | ins (C:Addr) (fs:List (Str×PV))
def flatO:PO→Bool
 | .lls _=>false
 | _=>true
inductive Slot where
 | none | val (v:PV) | own (o:PO)
noncomputable abbrev PEnv:=List Slot
def KReps(K:PySem.W.Frag)(H:Hp)(F:Addr→Prop)(kvs:List (Key×PV))(ws:List (Key×V)):Prop:=Paired (fun(p:Key×PV) (q:Key×V)=>p.1=q.1∧Rep K H F p.2 q.2) kvs ws
def FReps(K:PySem.W.Frag)(H:Hp)(F:Addr→Prop)(fs:List (Str×PV))(ws:List (Str×V)):Prop:=Paired (fun(p:Str×PV) (q:Str×V)=>p.1=q.1∧Rep K H F p.2 q.2) fs ws
def LReps(K:PySem.W.Frag)(H:Hp)(F:Addr→Prop)(xss:List (List PV))(as:List Addr):Prop:=Paired (fun(xs:List PV) (b:Addr)=>∃ vs,H b=some (.lst vs)∧Reps K H F xs vs) xss as
def Own(K:PySem.W.Frag)(H:Hp)(F:Addr→Prop)(po:PO)(a:Addr)(S:Addr→Prop):Prop :=
 match po with
 | .lst xs=>(∃ vs,H a=some (.lst vs)∧Reps K H F xs vs)∧∀ b,S b↔b=a
 | .dK kvs=>(∃ ws,H a=some (.dK ws)∧KReps K H F kvs ws)∧∀ b,S b↔b=a
 | .lls xss=>∃ as,H a=some (.lst (as.map .ref))∧LReps K H F xss as∧as.Nodup∧a∉as∧∀ b,S b↔b=a∨b∈as
 | .ins C fs=>(∃ dx ws,H a=some (.ins C dx ws)∧FReps K H F fs ws)∧∀ b,S b↔b=a
structure Rel(K:PySem.W.Frag)(F:Addr→Prop)(S:Nat→Addr→Prop)(ε:PEnv)(σ:St)(H:Hp):Prop where
 len:ε.length=σ.length
 ex:∀ a,F a→∃ o,H a=some o
 val:∀ (i:Nat) (pv:PV),ε[i]?=some (.val pv)→∃ v,σ[i]?=some (some v)∧Rep K H F pv v
 own:∀ (i:Nat) (po:PO),ε[i]?=some (.own po)→∃ a,σ[i]?=some (some (.ref a))∧Own K H F po a (S i)
 foot:∀ (i:Nat) (b:Addr),S i b→(∃ po,ε[i]?=some (.own po))∧¬ F b∧∃ o,H b=some o∧notImm o
 dist:∀ (i j:Nat) (b:Addr),S i b→S j b→i=j
def U(S:Nat→Addr→Prop)(b:Addr):Prop:=∃ i,S i b
section
variable{K:PySem.W.Frag}{F F':Addr→Prop}{S:Nat→Addr→Prop}{ε:PEnv}{σ:St}{H H':Hp}
theorem Rel.fit(r:Rel K F S ε σ H):Fit (U S) F H:=fun b ⟨i,h⟩=>(r.foot i b h).2
theorem KReps.mono{kvs:List (Key×PV)}{ws:List (Key×V)}(hF:∀ x v,Rep K H F x v→Rep K H' F' x v)(h:KReps K H F kvs ws):KReps K H' F' kvs ws:=by
 unfold KReps at h ⊢
 induction h with
 | nil=>exact .nil
 | cons r _ ih=>exact .cons ⟨r.1,hF _ _ r.2⟩ ih
theorem FReps.mono{fs:List (Str×PV)}{ws:List (Str×V)}(hF:∀ x v,Rep K H F x v→Rep K H' F' x v)(h:FReps K H F fs ws):FReps K H' F' fs ws:=by
 unfold FReps at h ⊢
 induction h with
 | nil=>exact .nil
 | cons r _ ih=>exact .cons ⟨r.1,hF _ _ r.2⟩ ih
theorem LReps.mono{xss:List (List PV)}{as:List Addr}(hFs:∀ x v,Reps K H F x v→Reps K H' F' x v)(ha:∀ b o,b∈as→H b=some o→H' b=some o)(h:LReps K H F xss as):LReps K H' F' xss as:=by
 unfold LReps at h ⊢
 induction h with
 | nil=>exact .nil
 | cons r _ ih =>
  obtain⟨vs,h1,h2⟩:=r
  exact .cons ⟨vs,ha _ _ (by simp) h1,hFs _ _ h2⟩ (ih fun b o hb=>ha b o (by simp[hb]))
theorem Own.mono{po:PO}{a:Addr}{Sa:Addr→Prop}(hF:∀ x v,Rep K H F x v→Rep K H' F' x v)(hFs:∀ x v,Reps K H F x v→Reps K H' F' x v)(ha:∀ b o,Sa b→H b=some o→H' b=some o)(h:Own K H F po a Sa):Own K H' F' po a Sa:=by
 cases po with
 | lst xs=>obtain⟨⟨vs,e,q⟩,w⟩:=h; exact⟨⟨vs,ha a _ ((w a).mpr rfl) e,hFs _ _ q⟩,w⟩
 | dK kvs=>obtain⟨⟨ws,e,q⟩,w⟩:=h; exact⟨⟨ws,ha a _ ((w a).mpr rfl) e,q.mono hF⟩,w⟩
 | lls xss=>obtain⟨as,e,q,n1,n2,w⟩:=h; exact⟨as,ha a _ ((w a).mpr (.inl rfl)) e,q.mono hFs fun b o hb=>ha b o ((w b).mpr (.inr hb)),n1,n2,w⟩
 | ins C fs=>obtain⟨⟨dx,ws,e,q⟩,w⟩:=h; exact⟨⟨dx,ws,ha a _ ((w a).mpr rfl) e,q.mono hF⟩,w⟩
theorem Rel.al(r:Rel K F S ε σ H)(a:Al F F' H H'):Rel K F' S ε σ H' where
 len:=r.len
 ex:=fun b h=>(a.fnew b h).elim (fun z=>let ⟨o,q⟩:=r.ex b z; ⟨o,a.same _ _ q⟩) fun z=>z.2
 val:=fun i pv e=>let ⟨v,h1,h2⟩:=r.val i pv e; ⟨v,h1,a.rep h2⟩
 own:=fun i po e=>let ⟨b,h1,h2⟩:=r.own i po e; ⟨b,h1,h2.mono (fun _ _ q=>a.rep q) (fun _ _ q=>a.reps q) fun c o _ q=>a.same _ _ q⟩
 foot:=fun i b h=>by
  obtain⟨h1,h2,o,h3,h4⟩:=r.foot i b h
  refine⟨h1,fun z=>?_,o,a.same _ _ h3,h4⟩
  rcases a.fnew b z with y | ⟨y,_⟩
  ·exact h2 y
  ·rw[h3]at y; cases y
 dist:=r.dist
end
inductive R(α:Type) where
 | ok (a:α) (ε:PEnv) | er (c:Value) (ε:PEnv) | no
def R.bind{α β:Type}(r:R α)(k:α→PEnv→R β):R β:=match r with
 | .ok a ε=>k a ε
 | .er c ε=>.er c ε
 | .no=>.no
def lift{α:Type}(o:Option α)(ε:PEnv):R α:=match o with
 | some a=>.ok a ε
 | none=>.no
@[simp] theorem R.bind_ok{α β:Type}(a:α)(ε:PEnv)(k:α→PEnv→R β):(R.ok a ε).bind k=k a ε:=rfl
@[simp] theorem R.bind_er{α β:Type}(c:Value)(ε:PEnv)(k:α→PEnv→R β):(R.er c ε:R α).bind k = .er c ε:=rfl
@[simp] theorem R.bind_no{α β:Type}(k:α→PEnv→R β):(R.no:R α).bind k = .no:=rfl
@[simp] theorem lift_some{α:Type}(a:α)(ε:PEnv):lift (some a) ε = .ok a ε:=rfl
@[simp] theorem lift_none{α:Type}(ε:PEnv):lift (none:Option α) ε = .no:=rfl
def Ok(K:PySem.W.Frag)(E:XK)(σ:St)(F:Addr→Prop)(S:Nat→Addr→Prop)(H:Hp){α:Type}(r:R α)(C:α→PEnv→(Addr→Prop)→(Nat→Addr→Prop)→Hp→Prop):Prop:=match r with
 | .ok a ε'=>∀ F' S' H',Rel K F' S' ε' σ H'→Grow (U S) (U S') F F' H H'→C a ε' F' S' H'
 | .er c ε'=>∀ x F' S' H',Rel K F' S' ε' σ H'→Grow (U S) (U S') F F' H H'→E c x H'
 | .no=>False
section
variable{K:PySem.W.Frag}{E:XK}{σ:St}{F:Addr→Prop}{S:Nat→Addr→Prop}{H:Hp}{α β:Type}{C C':α→PEnv→(Addr→Prop)→(Nat→Addr→Prop)→Hp→Prop}{D:β→PEnv→(Addr→Prop)→(Nat→Addr→Prop)→Hp→Prop}
theorem Ok.imp{r:R α}(h:Ok K E σ F S H r C)(f:∀ a ε' F' S' H',Rel K F' S' ε' σ H'→Grow (U S) (U S') F F' H H'→C a ε' F' S' H'→C' a ε' F' S' H'):Ok K E σ F S H r C':=by
 cases r with
 | ok a ε'=>exact fun F' S' H' r g=>f a ε' F' S' H' r g (h F' S' H' r g)
 | er c ε'=>exact h
 | no=>exact h
theorem Ok.from{r:R β}{F1:Addr→Prop}{S1:Nat→Addr→Prop}{H1:Hp}(h:Ok K E σ F S H r D)(g:Grow (U S) (U S1) F F1 H H1):Ok K E σ F1 S1 H1 r D:=by
 cases r with
 | ok a ε'=>exact fun F' S' H' r' g'=>h F' S' H' r' (g.trans g')
 | er c ε'=>exact fun x F' S' H' r' g'=>h x F' S' H' r' (g.trans g')
 | no=>exact h
theorem Ok.bind{r:R α}{k:α→PEnv→R β}(h:Ok K E σ F S H (r.bind k) D):Ok K E σ F S H r (fun a ε1 F1 S1 H1=>Ok K E σ F1 S1 H1 (k a ε1) D):=by
 cases r with
 | ok a ε'=>exact fun F' S' H' r g=>Ok.from h g
 | er c ε'=>exact h
 | no=>exact h
end
structure Bx(p:Prop):Prop where
 run:p
def wpE(X:Cx)(e:Expr):TE:=fun σ H Q=>Bx (∀ pins s,Inv X pins σ H s→wpAny (model X.prog X.w) X.A (eval e X.env) (EP X pins σ Q) X.xe s)
def wpT(X:Cx)(e:Expr):TT:=fun σ H Q=>Bx (∀ pins s,Inv X pins σ H s→wpAny (model X.prog X.w) X.A (isTrue e X.env (eval e X.env)) (TP X pins σ Q) X.xe s)
def wpS(X:Cx)(st:Stmt):TS:=fun D σ H=>Bx (∀ pins s,Inv X pins σ H s→wpAny (model X.prog X.w) X.A (exec st X.env) (SP X pins D) X.xe s)
def wpSs(X:Cx)(st:List Stmt):TS:=fun D σ H=>Bx (∀ pins s,Inv X pins σ H s→wpAny (model X.prog X.w) X.A (execs st X.env) (SP X pins D) X.xe s)
section
variable{X:Cx}{e:Expr}{st:Stmt}{sts:List Stmt}
theorem pe_wp:PE X e (wpE X e):=fun pins s _ _ _ I h=>h.run pins s I
theorem pt_wp:PT X e (wpT X e):=fun pins s _ _ _ I h=>h.run pins s I
theorem ps_wp:PS X st (wpS X st):=fun pins s _ _ _ I h=>h.run pins s I
theorem pss_wp:PSs X sts (wpSs X sts):=fun pins s _ _ _ I h=>h.run pins s I
theorem wp_e{t:TE}(h:PE X e t){σ:St}{H:Hp}{Q:VK}(q:t σ H Q):wpE X e σ H Q:=⟨fun pins s I=>h pins s σ H Q I q⟩
theorem wp_t{t:TT}(h:PT X e t){σ:St}{H:Hp}{Q:Bool→Hp→Prop}(q:t σ H Q):wpT X e σ H Q:=⟨fun pins s I=>h pins s σ H Q I q⟩
theorem wp_s{t:TS}(h:PS X st t){σ:St}{H:Hp}{D:Ends}(q:t D σ H):wpS X st D σ H:=⟨fun pins s I=>h pins s σ H D I q⟩
theorem wp_ss{t:TS}(h:PSs X sts t){σ:St}{H:Hp}{D:Ends}(q:t D σ H):wpSs X sts D σ H:=⟨fun pins s I=>h pins s σ H D I q⟩
end
def DE(X:Cx)(E:XK)(e:Expr)(d:PEnv→R PV):Prop :=
 ∀ F S ε σ H Q,Rel X.K F S ε σ H→Ok X.K E σ F S H (d ε) (fun pv _ F' _ H'=>∀ v,Rep X.K H' F' pv v→Q v H')→wpE X e σ H Q
def DN(X:Cx)(E:XK)(e:Expr)(d:PEnv→R PO):Prop :=
 ∀ F S ε σ H Q,Rel X.K F S ε σ H→Ok X.K E σ F S H (d ε) (fun po _ F' S' H'=>∀ a Sa,Own X.K H' F' po a Sa→(∀ b,Sa b→H b=none∧¬ F' b∧¬ U S' b∧∃ o,H' b=some o∧notImm o)→Q (.ref a) H')→wpE X e σ H Q
def DT(X:Cx)(E:XK)(e:Expr)(d:PEnv→R Bool):Prop :=
 ∀ F S ε σ H Q,Rel X.K F S ε σ H→Ok X.K E σ F S H (d ε) (fun b _ _ _ H'=>Q b H')→wpT X e σ H Q
end Pu
namespace Pu
open PySem PySem.Spec PyProof.Rows L2
section
variable{X:Cx}{E:XK}{a b c:Expr}{da db dc:PEnv→R PV}{pos:Pos}
def dC(pv:PV):PEnv→R PV:=fun ε=>.ok pv ε
theorem de_int{i j pos}:DE X E (.Constant (.int i) j pos) (dC (.int i)):=fun F S ε σ H Q r h=>wp_e pe_int (h F S H r (Grow.refl ..) _ rfl)
theorem de_bl{i j pos}:DE X E (.Constant (.bool i) j pos) (dC (.bl i)):=fun F S ε σ H Q r h=>wp_e pe_bl (h F S H r (Grow.refl ..) _ rfl)
theorem de_non{j pos}:DE X E (.Constant .none j pos) (dC .non):=fun F S ε σ H Q r h=>wp_e pe_non (h F S H r (Grow.refl ..) _ rfl)
theorem de_str(l:Tx){x:Str}{j pos}(hx:x=tS l:=by decide +kernel)(hl:l.length≤maxS:=by decide):DE X E (.Constant (.str x) j pos) (dC (.str l)):=fun F S ε σ H Q r h =>
 wp_e pe_str (h F S H r (Grow.refl ..) _ (by rw[hx]; exact⟨rfl,hl⟩))
def dV(i:Nat):PEnv→R PV:=fun ε=>match ε[i]? with
 | some (.val pv)=>.ok pv ε
 | _=>.no
theorem de_var(i:Nat){x:Str}{pos:Pos}(hN:X.N[i]?=some x:=by rfl)(hv:Vis X.env.scope x:=by first | exact Or.inl rfl | exact Or.inr (Or.inl rfl) | exact Or.inr (Or.inr rfl))(hd:(x == ("__debug__" : Str))=false:=by decide)
  (hcd:(x == ("__classdict__" : Str))=false:=by decide):DE X E (.Name x pos) (dV i):=fun F S ε σ H Q r h=>by
 unfold dV at h
 split at h
 ·rename_i p e
  obtain⟨v,e1,e2⟩:=r.val i p e
  exact wp_e (pe_var hN hv hd hcd) ⟨v,e1,h F S H r (Grow.refl ..) v e2⟩
 ·exact h.elim
theorem de_gint{x:Str}{i:Int}{pos:Pos}(h:∃ t,X.mg x=some (.int i t))(hg:Gl X x:=by rfl)(hd:(x == ("__debug__" : Str))=false:=by decide):DE X E (.Name x pos) (dC (.int i)):=fun F S ε σ H Q r q=>by
 obtain⟨t,e⟩:=h
 exact wp_e (pe_glob (v:=.int i) hg e ⟨t,rfl⟩ hd) (q F S H r (Grow.refl ..) _ rfl)
theorem de_gstr{x:Str}{l:Tx}{pos:Pos}(h:∃ t,X.mg x=some (.str (tS l) t))(hg:Gl X x:=by rfl)(hl:l.length≤maxS:=by decide)(hd:(x == ("__debug__" : Str))=false:=by decide):DE X E (.Name x pos) (dC (.str l)):=fun F S ε σ H Q r q=>by
 obtain⟨t,e⟩:=h
 exact wp_e (pe_glob (v:=tV l) hg e ⟨t,rfl⟩ hd) (q F S H r (Grow.refl ..) _ ⟨rfl,hl⟩)
def Rel.frz{K:PySem.W.Frag}{F:Addr→Prop}{S:Nat→Addr→Prop}{ε:PEnv}{σ:St}{H:Hp}{i:Nat}{xs:List PV}(r:Rel K F S ε σ H)(e:ε[i]?=some (.own (.lst xs))) :
  ∃ a F' S',Rel K F' S' (ε.set i (.val (.lst xs))) σ H∧Grow (U S) (U S') F F' H H∧σ[i]?=some (some (.ref a))∧Rep K H F' (.lst xs) (.ref a):=by
 obtain⟨a,e1,⟨vs,ha,hr⟩,hS⟩:=r.own i _ e
 have hi:i<ε.length:=(List.getElem?_eq_some_iff.mp e).1
 have sub:∀ b,F b→F b∨b=a:=fun b h=>.inl h
 have mono:∀ x v,Rep K H F x v→Rep K H (fun b=>F b∨b=a) x v:=Rep.mono sub (fun _ _ _ q=>q) (fun _ _ q _=>q)
 have monos:∀ x v,Reps K H F x v→Reps K H (fun b=>F b∨b=a) x v:=Reps.mono sub (fun _ _ _ q=>q) (fun _ _ q _=>q)
 have rp:Rep K H (fun b=>F b∨b=a) (.lst xs) (.ref a):=⟨a,vs,rfl,.inl ha,.inr rfl,monos _ _ hr⟩
 refine⟨a,fun b=>F b∨b=a,fun j b=>S j b∧j≠i,⟨by rw[List.length_set]; exact r.len,fun b h=>?_,fun j pv q=>?_,fun j po q=>?_,fun j b h=>?_,fun j k b h1 h2=>r.dist j k b h1.1 h2.1⟩,?_,e1,rp⟩
 ·rcases h with h | rfl
  ·exact r.ex b h
  ·exact⟨_,ha⟩
 ·by_cases hj:i=j
  ·subst hj
   rw[List.getElem?_set_self hi]at q
   cases q
   exact⟨_,e1,rp⟩
  ·rw[List.getElem?_set_ne hj]at q
   obtain⟨v,q1,q2⟩:=r.val j pv q
   exact⟨v,q1,mono _ _ q2⟩
 ·by_cases hj:i=j
  ·subst hj
   rw[List.getElem?_set_self hi]at q
   cases q
  ·rw[List.getElem?_set_ne hj]at q
   obtain⟨v,q1,q2⟩:=r.own j po q
   refine⟨v,q1,?_⟩
   have q3:=q2.mono (H':=H) mono monos fun _ _ _ z=>z
   have eS:(fun b=>S j b∧j≠i)=S j:=by funext b; simp[Ne.symm hj]
   rw[eS]; exact q3
 ·obtain⟨⟨po,q1⟩,q2,q3⟩:=r.foot j b h.1
  refine⟨⟨po,by rw[List.getElem?_set_ne (Ne.symm h.2)]; exact q1⟩,fun z=>?_,q3⟩
  rcases z with z | rfl
  ·exact q2 z
  ·exact h.2 (r.dist j i b h.1 ((hS b).mpr rfl))
 ·refine⟨fun _ h=>.inl h,fun b o h _=>h,fun b o h=>⟨o,h⟩,fun b h=>?_,fun b ⟨j,h⟩=>.inl ⟨j,h.1⟩⟩
  rcases h with h | rfl
  ·exact .inl h
  ·exact .inr (.inr ⟨i,(hS b).mpr rfl⟩)
def dM(i:Nat):PEnv→R PV:=fun ε=>match ε[i]? with
 | some (.own (.lst xs))=>.ok (.lst xs) (ε.set i (.val (.lst xs)))
 | _=>.no
theorem de_move(i:Nat){x:Str}{pos:Pos}(hN:X.N[i]?=some x:=by rfl)(hv:Vis X.env.scope x:=by first | exact Or.inl rfl | exact Or.inr (Or.inl rfl) | exact Or.inr (Or.inr rfl))(hd:(x == ("__debug__" : Str))=false:=by decide)
  (hcd:(x == ("__classdict__" : Str))=false:=by decide):DE X E (.Name x pos) (dM i):=fun F S ε σ H Q r h=>by
 unfold dM at h
 split at h
 ·rename_i p e
  obtain⟨a,F',S',r',g,e1,e2⟩:=r.frz e
  exact wp_e (pe_var hN hv hd hcd) ⟨_,e1,h F' S' H r' g _ e2⟩
 ·exact h.elim
def P2(K:PySem.W.Frag)(r:R2)(f:PV→PV→Option PV):Prop:=∀ (F:Addr→Prop) (H:Hp) (x y:PV) (v u:V) (Q:VK) (pv:PV),Rep K H F x v→Rep K H F y u→f x y=some pv→(∀ w F' H',Al F F' H H'→Rep K H' F' pv w→Q w H')→r v u H Q
def d2(f:PV→PV→Option PV)(da db:PEnv→R PV):PEnv→R PV:=fun ε=>(da ε).bind fun x ε1=>(db ε1).bind fun y ε2=>lift (f x y) ε2
theorem d2_run{r:R2}{f:PV→PV→Option PV}(hp:P2 X.K r f)(ha:DE X E a da)(hb:DE X E b db){F:Addr→Prop}{S:Nat→Addr→Prop}{ε:PEnv}{σ:St}{H:Hp}{Q:VK}(rl:Rel X.K F S ε σ H)
  (h:Ok X.K E σ F S H (d2 f da db ε) (fun pv _ F' _ H'=>∀ v,Rep X.K H' F' pv v→Q v H')):wpE X a σ H fun x H1=>wpE X b σ H1 fun y H2=>r x y H2 Q:=by
 refine ha F S ε σ H _ rl ((Ok.bind h).imp fun x ε1 F1 S1 H1 r1 g1 h1 v rv=>?_)
 refine hb F1 S1 ε1 σ H1 _ r1 ((Ok.bind h1).imp fun y ε2 F2 S2 H2 r2 g2 h2 u ru=>?_)
 cases e:f x y with
 | none=>rw[e]at h2; exact h2.elim
 | some pv =>
  rw[e]at h2
  exact hp F2 H2 x y v u Q pv (rv.grow g2 r1.fit) ru e fun w F' H' al rw'=>h2 F' S2 H' (r2.al al) al.grow w rw'
theorem de_op{op:Operator}{r:R2}{f:PV→PV→Option PV}(ho:OpR X (binaryOp op) r)(hp:P2 X.K r f)(ha:DE X E a da)(hb:DE X E b db):DE X E (.BinOp a op b pos) (d2 f da db):=fun F S ε σ H Q rl h =>
 wp_e (pe_op ho pe_wp pe_wp) (d2_run hp ha hb rl h)
theorem de_cmp{op:CmpOp}{r:R2}{f:PV→PV→Option PV}(ho:OpR X (compareOp op) r)(hp:P2 X.K r f)(ha:DE X E a da)(hb:DE X E b db)(hm:behindInMarks op b=false):DE X E (.Compare a [op] [b] pos) (d2 f da db):=fun F S ε σ H Q rl h =>
 wp_e (pe_cmpR ho pe_wp pe_wp hm) (d2_run hp ha hb rl h)
def isB:PV→Option Bool
 | .bl b=>some b
 | _=>none
def dB(d:PEnv→R PV):PEnv→R Bool:=fun ε=>(d ε).bind fun x ε1=>lift (isB x) ε1
theorem isB_rep{K:PySem.W.Frag}{H:Hp}{F:Addr→Prop}{x:PV}{v:V}{k:Bool}(h:Rep K H F x v)(e:isB x=some k):v = .bl k:=by
 cases x <;> simp[isB]at e
 subst e; exact h
theorem dB_ok{F:Addr→Prop}{S:Nat→Addr→Prop}{ε:PEnv}{σ:St}{H:Hp}{Q:Bool→Hp→Prop}{d:PEnv→R PV}(h:Ok X.K E σ F S H (dB d ε) (fun k _ _ _ H'=>Q k H')) :
  Ok X.K E σ F S H (d ε) (fun pv _ F' _ H'=>∀ v,Rep X.K H' F' pv v→∃ k,v = .bl k∧Q k H'):=by
 refine(Ok.bind h).imp fun x ε1 F1 S1 H1 r1 g1 h1 v rv=>?_
 cases e:isB x with
 | none=>rw[e]at h1; exact h1.elim
 | some k=>rw[e]at h1; exact⟨k,isB_rep rv e,h1 F1 S1 H1 r1 (Grow.refl ..)⟩
theorem dt_cmp{op:CmpOp}{r:R2}{f:PV→PV→Option PV}(ho:OpR X (compareOp op) r)(hp:P2 X.K r f)(ha:DE X E a da)(hb:DE X E b db)(hm:behindInMarks op b=false):DT X E (.Compare a [op] [b] pos) (dB (d2 f da db)):=fun F S ε σ H Q rl h =>
 wp_t (pt_cmpR ho pe_wp pe_wp hm) (d2_run (Q:=fun x H'=>∃ k,x = .bl k∧Q k H') hp ha hb rl (dB_ok h))
theorem dt_val{e:Expr}{d:PEnv→R PV}(hd:DE X E e d)(he:∀ whole,isTrue e X.env whole=(do let v ← whole; standAt e.pos; holding [v] (truthy v)):=by intro _; rfl):DT X E e (dB d):=fun F S ε σ H Q rl h =>
 wp_t (pt_val pe_wp he) (hd F S ε σ H _ rl (dB_ok h))
def dChain(f g:PV→PV→Option PV)(da db dc:PEnv→R PV):PEnv→R PV:=fun ε=>(da ε).bind fun x ε1=>(db ε1).bind fun y ε2=>(lift ((f x y).bind isB) ε2).bind fun k ε2 =>
 match k with
 | true=>(dc ε2).bind fun z ε3=>lift (g y z) ε3
 | false=>.ok (.bl false) ε2
theorem dChain_run{r r':R2}{f g:PV→PV→Option PV}(hp:P2 X.K r f)(hp':P2 X.K r' g)(ha:DE X E a da)(hb:DE X E b db)(hc:DE X E c dc){F:Addr→Prop}{S:Nat→Addr→Prop}{ε:PEnv}{σ:St}{H:Hp}{Q:VK}(rl:Rel X.K F S ε σ H)
  (h:Ok X.K E σ F S H (dChain f g da db dc ε) (fun pv _ F' _ H'=>∀ v,Rep X.K H' F' pv v→Q v H')):tChain r r' (wpE X a) (wpE X b) (wpE X c) σ H Q:=by
 refine ha F S ε σ H _ rl ((Ok.bind h).imp fun x ε1 F1 S1 H1 r1 g1 h1 v rv=>?_)
 refine hb F1 S1 ε1 σ H1 _ r1 ((Ok.bind h1).imp fun y ε2 F2 S2 H2 r2 g2 h2 u ru=>?_)
 cases e:f x y with
 | none=>rw[e]at h2; exact h2.elim
 | some pv =>
  rw[e]at h2
  refine hp F2 H2 x y v u _ pv (rv.grow g2 r1.fit) ru e fun w F' H' al rw'=>?_
  cases e2:isB pv with
  | none=>rw[Option.bind_some,e2]at h2; exact h2.elim
  | some k =>
   rw[Option.bind_some,e2]at h2
   refine⟨k,isB_rep rw' e2,?_⟩
   have r3:=r2.al al
   cases k with
   | false=>exact iteF (Ok.from h2 al.grow F' S2 H' r3 (Grow.refl ..) _ rfl)
   | true =>
    have h3:Ok X.K E σ F2 S2 H2 ((dc ε2).bind fun z ε3=>lift (g y z) ε3) (fun pv _ F' _ H'=>∀ v,Rep X.K H' F' pv v→Q v H'):=h2
    refine iteT (hc F' S2 ε2 σ H' _ r3 ((Ok.bind (Ok.from h3 al.grow)).imp fun z ε4 F4 S4 H4 r4 g4 h4 u4 ru4=>?_))
    cases e4:g y z with
    | none=>rw[e4]at h4; exact h4.elim
    | some pz =>
     rw[e4]at h4
     exact hp' F4 H4 y z u u4 Q pz ((al.rep ru).grow g4 r3.fit) ru4 e4 fun w5 F5 H5 al5 rw5=>h4 F5 S4 H5 (r4.al al5) al5.grow w5 rw5
theorem de_chain{op op':CmpOp}{r r':R2}{f g:PV→PV→Option PV}(ho:OpR X (compareOp op) r)(ho':OpR X (compareOp op') r')(hp:P2 X.K r f)(hp':P2 X.K r' g)(ha:DE X E a da)(hb:DE X E b db)(hc:DE X E c dc)
  (hm:lastMarks [op,op'] [b,c]=false:=by with_unfolding_all rfl):DE X E (.Compare a [op,op'] [b,c] pos) (dChain f g da db dc):=fun F S ε σ H Q rl h=>wp_e (pe_chain ho ho' pe_wp pe_wp pe_wp hm) (dChain_run hp hp' ha hb hc rl h)
theorem dt_chain{op op':CmpOp}{r r':R2}{f g:PV→PV→Option PV}(ho:OpR X (compareOp op) r)(ho':OpR X (compareOp op') r')(hp:P2 X.K r f)(hp':P2 X.K r' g)(ha:DE X E a da)(hb:DE X E b db)(hc:DE X E c dc)
  (hm:lastMarks [op,op'] [b,c]=false:=by with_unfolding_all rfl):DT X E (.Compare a [op,op'] [b,c] pos) (dB (dChain f g da db dc)):=fun F S ε σ H Q rl h =>
 wp_t (pt_chain ho ho' pe_wp pe_wp pe_wp hm) (dChain_run (Q:=fun x H'=>∃ k,x = .bl k∧Q k H') hp hp' ha hb hc rl (dB_ok h))
variable{ta tb:PEnv→R Bool}{rest:List Expr}
def DW(X:Cx)(E:XK)(e:Expr)(d:PEnv→R Bool):Prop:=∀ F S ε σ H Q,Rel X.K F S ε σ H→Ok X.K E σ F S H (d ε) (fun b _ _ _ H'=>Q b H')→∀ (whole:Sem Value) pins s,Inv X pins σ H s→wpAny (model X.prog X.w) X.A (isTrue e X.env whole) (TP X pins σ Q) X.xe s
def wpW(X:Cx)(e:Expr):TT:=fun σ H Q=>∀ (whole:Sem Value) pins s,Inv X pins σ H s→wpAny (model X.prog X.w) X.A (isTrue e X.env whole) (TP X pins σ Q) X.xe s
theorem pw_wp{e:Expr}:PW X e (wpW X e):=fun whole pins s _ _ _ I h=>h whole pins s I
theorem DW.dt{e:Expr}{d:PEnv→R Bool}(h:DW X E e d):DT X E e d:=fun F S ε σ H Q rl q=>⟨fun pins s I=>h F S ε σ H Q rl q _ pins s I⟩
def dAnd(ta tb:PEnv→R Bool):PEnv→R Bool:=fun ε=>(ta ε).bind fun k ε1=>match k with
 | true=>tb ε1
 | false=>.ok false ε1
def dOr(ta tb:PEnv→R Bool):PEnv→R Bool:=fun ε=>(ta ε).bind fun k ε1=>match k with
 | true=>.ok true ε1
 | false=>tb ε1
def dNot(ta:PEnv→R Bool):PEnv→R Bool:=fun ε=>(ta ε).bind fun k ε1=>.ok (!k) ε1
theorem dw_or1(h:DT X E a ta):DW X E (.BoolOp .Or [a] pos) ta:=fun F S ε σ H Q rl q whole pins s I=>pw_or1 pt_wp whole pins s σ H Q I (h F S ε σ H Q rl q)
theorem dw_or(ha:DT X E a ta)(hb:DW X E (.BoolOp .Or (b::rest) pos) tb):DW X E (.BoolOp .Or (a::b::rest) pos) (dOr ta tb):=fun F S ε σ H Q rl q whole pins s I=>by
 refine pw_or pt_wp pw_wp whole pins s σ H Q I (ha F S ε σ H _ rl ((Ok.bind q).imp fun k ε1 F1 S1 H1 r1 g1 h1=>?_))
 cases k with
 | true=>exact iteT (h1 F1 S1 H1 r1 (Grow.refl ..))
 | false=>exact iteF (hb F1 S1 ε1 σ H1 Q r1 h1)
theorem dt_not(ha:DT X E a ta):DT X E (.UnaryOp .Not a pos) (dNot ta):=fun F S ε σ H Q rl q =>
 wp_t (pt_not pt_wp) (ha F S ε σ H _ rl ((Ok.bind q).imp fun k ε1 F1 S1 H1 r1 g1 h1=>h1 F1 S1 H1 r1 (Grow.refl ..)))
def dAndV(da db:PEnv→R PV):PEnv→R PV:=fun ε=>(dB da ε).bind fun k ε1=>match k with
 | true=>db ε1
 | false=>.ok (.bl false) ε1
def dOrV(da db:PEnv→R PV):PEnv→R PV:=fun ε=>(dB da ε).bind fun k ε1=>match k with
 | true=>.ok (.bl true) ε1
 | false=>db ε1
def dNotV(da:PEnv→R PV):PEnv→R PV:=fun ε=>(dB da ε).bind fun k ε1=>.ok (.bl (!k)) ε1
theorem dB_imp{d:PEnv→R PV}{β:Type}{D:β→PEnv→(Addr→Prop)→(Nat→Addr→Prop)→Hp→Prop}{k:Bool→PEnv→R β}{F:Addr→Prop}{S:Nat→Addr→Prop}{ε:PEnv}{σ:St}{H:Hp}{P:Bool→Hp→Prop}
  (h:Ok X.K E σ F S H ((dB d ε).bind k) D) (f:∀ c ε1 F1 S1 H1,Rel X.K F1 S1 ε1 σ H1→Grow (U S) (U S1) F F1 H H1→Ok X.K E σ F1 S1 H1 (k c ε1) D→P c H1) :
  Ok X.K E σ F S H (d ε) (fun pv _ F' _ H'=>∀ v,Rep X.K H' F' pv v→∃ c,v = .bl c∧P c H'):=by
 have h2:=(Ok.bind h).imp (C':=fun c ε1 F1 S1 H1=>P c H1) fun c ε1 F1 S1 H1 r1 g1 h1=>f c ε1 F1 S1 H1 r1 g1 h1
 exact dB_ok h2
theorem de_one{op}{d:PEnv→R PV}(h:DE X E a d):DE X E (.BoolOp op [a] pos) d:=fun F S ε σ H Q rl q=>wp_e (pe_one pe_wp) (h F S ε σ H Q rl q)
theorem de_and(ha:DE X E a da)(hb:DE X E (.BoolOp .And (b::rest) pos) db):DE X E (.BoolOp .And (a::b::rest) pos) (dAndV da db):=fun F S ε σ H Q rl q=>by
 refine wp_e (pe_and pe_wp pe_wp) (ha F S ε σ H _ rl (dB_imp q fun k ε1 F1 S1 H1 r1 g1 h1=>?_))
 cases k with
 | true=>exact iteT (hb F1 S1 ε1 σ H1 Q r1 h1)
 | false=>exact iteF (h1 F1 S1 H1 r1 (Grow.refl ..) _ rfl)
theorem de_not(ha:DE X E a da):DE X E (.UnaryOp .Not a pos) (dNotV da):=fun F S ε σ H Q rl q =>
 wp_e (pe_not pe_wp) (ha F S ε σ H _ rl (dB_imp q fun k ε1 F1 S1 H1 r1 g1 h1=>h1 F1 S1 H1 r1 (Grow.refl ..) _ rfl))
def dIf{α:Type}(t:PEnv→R Bool)(da db:PEnv→R α):PEnv→R α:=fun ε=>(t ε).bind fun k ε1=>match k with
 | true=>da ε1
 | false=>db ε1
theorem de_ifx(hc:DT X E c ta)(ha:DE X E a da)(hb:DE X E b db):DE X E (.IfExp c a b pos) (dIf ta da db):=fun F S ε σ H Q rl q=>by
 refine wp_e (pe_ifExp pt_wp pe_wp pe_wp) (hc F S ε σ H _ rl ((Ok.bind q).imp fun k ε1 F1 S1 H1 r1 g1 h1=>?_))
 cases k with
 | true=>exact iteT (ha F1 S1 ε1 σ H1 Q r1 h1)
 | false=>exact iteF (hb F1 S1 ε1 σ H1 Q r1 h1)
def P1(K:PySem.W.Frag)(r:V→Hp→VK→Prop)(f:PV→Option PV):Prop:=∀ (F:Addr→Prop) (H:Hp) (x:PV) (v:V) (Q:VK) (pv:PV),Rep K H F x v→f x=some pv→(∀ w F' H',Al F F' H H'→Rep K H' F' pv w→Q w H')→r v H Q
def d1(f:PV→Option PV)(da:PEnv→R PV):PEnv→R PV:=fun ε=>(da ε).bind fun x ε1=>lift (f x) ε1
theorem d1_run{r:V→Hp→VK→Prop}{f:PV→Option PV}(hp:P1 X.K r f)(ha:DE X E a da){F:Addr→Prop}{S:Nat→Addr→Prop}{ε:PEnv}{σ:St}{H:Hp}{Q:VK}(rl:Rel X.K F S ε σ H)
  (h:Ok X.K E σ F S H (d1 f da ε) (fun pv _ F' _ H'=>∀ v,Rep X.K H' F' pv v→Q v H')):wpE X a σ H fun x H1=>r x H1 Q:=by
 refine ha F S ε σ H _ rl ((Ok.bind h).imp fun x ε1 F1 S1 H1 r1 g1 h1 v rv=>?_)
 cases e:f x with
 | none=>rw[e]at h1; exact h1.elim
 | some pv =>
  rw[e]at h1
  exact hp F1 H1 x v Q pv rv e fun w F' H' al rw'=>h1 F' S1 H' (r1.al al) al.grow w rw'
theorem de_un{op:UnaryOp}{r:V→Hp→VK→Prop}{f:PV→Option PV}(ho:UnR X (unaryOp op) r)(hp:P1 X.K r f)(ha:DE X E a da):DE X E (.UnaryOp op a pos) (d1 f da):=fun F S ε σ H Q rl h =>
 wp_e (pe_un ho pe_wp) (d1_run hp ha rl h)
end
end Pu
namespace Pu
open PySem PySem.Spec PyProof.Rows L2
def wpA(X:Cx)(es:List Expr):TA:=fun σ H Q=>Bx (∀ pos pins s,Inv X pins σ H s→wpAny (model X.prog X.w) X.A (spliced (backTo pos (starEach es X.env))) (AP X pins σ Q) X.xe s)
def DA(X:Cx)(E:XK)(es:List Expr)(d:PEnv→R (List PV)):Prop :=
 ∀ F S ε σ H Q,Rel X.K F S ε σ H→Ok X.K E σ F S H (d ε) (fun pvs _ F' _ H'=>∀ vs,Reps X.K H' F' pvs vs→Q vs H')→wpA X es σ H Q
section
variable{X:Cx}{E:XK}{a b c e:Expr}{es:List Expr}{da db dc d:PEnv→R PV}{ds:PEnv→R (List PV)}{pos:Pos}
theorem pa_wp{es:List Expr}:PA X es (wpA X es):=fun pos pins s _ _ _ I h=>h.run pos pins s I
theorem wp_a{t:TA}(h:PA X es t){σ:St}{H:Hp}{Q:List V→Hp→Prop}(q:t σ H Q):wpA X es σ H Q:=⟨fun pos pins s I=>h pos pins s σ H Q I q⟩
def dNil:PEnv→R (List PV):=fun ε=>.ok [] ε
def dCons(d:PEnv→R PV)(ds:PEnv→R (List PV)):PEnv→R (List PV):=fun ε=>(d ε).bind fun x ε1=>(ds ε1).bind fun xs ε2=>.ok (x::xs) ε2
theorem da_nil:DA X E [] dNil:=fun F S ε σ H Q rl h=>wp_a pa_nil (h F S H rl (Grow.refl ..) _ rfl)
theorem da_cons(ha:DE X E e d)(hr:DA X E es ds)(hs:starEach (e::es) X.env=(false,eval e X.env)::starEach es X.env:=by rfl):DA X E (e::es) (dCons d ds):=fun F S ε σ H Q rl h=>by
 refine wp_a (pa_cons pe_wp pa_wp hs) (ha F S ε σ H _ rl ((Ok.bind h).imp fun x ε1 F1 S1 H1 r1 g1 h1 v rv=>?_))
 refine hr F1 S1 ε1 σ H1 _ r1 ((Ok.bind h1).imp fun xs ε2 F2 S2 H2 r2 g2 h2 vs rvs=>?_)
 exact h2 F2 S2 H2 r2 (Grow.refl ..) _ ⟨v,vs,rfl,rv.grow g2 r1.fit,rvs⟩
theorem Rel.more{K:PySem.W.Frag}{F N:Addr→Prop}{S:Nat→Addr→Prop}{ε:PEnv}{σ:St}{H:Hp}(r:Rel K F S ε σ H)(hn:∀ b,N b→¬ U S b∧∃ o,H b=some o):Rel K (fun b=>F b∨N b) S ε σ H:=by
 have mono:∀ x v,Rep K H F x v→Rep K H (fun b=>F b∨N b) x v:=Rep.mono (fun _ h=>.inl h) (fun _ _ _ q=>q) (fun _ _ q _=>q)
 have monos:∀ x v,Reps K H F x v→Reps K H (fun b=>F b∨N b) x v:=Reps.mono (fun _ h=>.inl h) (fun _ _ _ q=>q) (fun _ _ q _=>q)
 refine⟨r.len,fun b h=>h.elim (r.ex b) fun z=>(hn b z).2,fun i pv e=>?_,fun i po e=>?_,fun i b h=>?_,r.dist⟩
 ·obtain⟨v,h1,h2⟩:=r.val i pv e; exact⟨v,h1,mono _ _ h2⟩
 ·obtain⟨v,h1,h2⟩:=r.own i po e; exact⟨v,h1,h2.mono mono monos fun _ _ _ z=>z⟩
 ·obtain⟨h1,h2,h3⟩:=r.foot i b h
  exact⟨h1,fun z=>z.elim h2 fun w=>(hn b w).1 ⟨i,h⟩,h3⟩
def frzO:PO→Option PV
 | .lst xs=>some (.lst xs)
 | _=>none
def dF(d:PEnv→R PO):PEnv→R PV:=fun ε=>(d ε).bind fun po ε1=>lift (frzO po) ε1
theorem DN.de{d:PEnv→R PO}(h:DN X E e d):DE X E e (dF d):=fun F S ε σ H Q rl q=>by
 unfold dF at q
 refine h F S ε σ H Q rl ?_
 cases e0:d ε with
 | no=>rw[e0]at q; exact q.elim
 | er c ε'=>rw[e0]at q; exact q
 | ok po ε1 =>
  rw[e0]at q
  intro F1 S1 H1 r1 g1 a Sa ow fr
  cases po with
  | dK kvs=>exact q.elim
  | lls xss=>exact q.elim
  | ins C fs=>exact q.elim
  | lst xs =>
   have hN:∀ b,Sa b→¬ U S1 b∧∃ o,H1 b=some o:=fun b z=>let ⟨_,_,x3,o,x4,_⟩:=fr b z; ⟨x3,o,x4⟩
   obtain⟨⟨vs,ha,hr⟩,hS⟩:=ow
   have g2:Grow (U S) (U S1) F (fun b=>F1 b∨Sa b) H H1:=⟨fun b z=>.inl (g1.fro b z),g1.keep,g1.there,fun b z=>z.elim (g1.fnew b) fun w=>.inr (.inl (fr b w).1),g1.onew⟩
   exact q _ S1 H1 (r1.more hN) g2 _ ⟨a,vs,rfl,.inl ha,.inr ((hS a).mpr rfl),Reps.mono (fun _ z=>.inl z) (fun _ _ _ z=>z) (fun _ _ z _=>z) _ _ hr⟩
def tupP(xs:List PV):Option PV:=if xs.length≤1000 then some (.tup xs)else none
def lstP(xs:List PV):Option PO:=if xs.length≤1000 then some (.lst xs)else none
def dL{α:Type}(f:List PV→Option α)(ds:PEnv→R (List PV)):PEnv→R α:=fun ε=>(ds ε).bind fun xs ε1=>lift (f xs) ε1
def PL(K:PySem.W.Frag)(r:List V→Hp→VK→Prop)(f:List PV→Option PV):Prop:=∀ (F:Addr→Prop) (H:Hp) (xs:List PV) (vs:List V) (Q:VK) (pv:PV),Reps K H F xs vs→f xs=some pv→(∀ w F' H',Al F F' H H'→Rep K H' F' pv w→Q w H')→r vs H Q
def PLn(K:PySem.W.Frag)(r:List V→Hp→VK→Prop)(f:List PV→Option PO):Prop:=∀ (F:Addr→Prop) (H:Hp) (xs:List PV) (vs:List V) (Q:VK) (po:PO),(∀ a,F a→∃ o,H a=some o)→Reps K H F xs vs→f xs=some po →
 (∀ a F' H' Sa,Al F F' H H'→Own K H' F' po a Sa→(∀ b,Sa b→H b=none∧¬ F' b∧∃ o,H' b=some o∧notImm o)→Q (.ref a) H')→r vs H Q
theorem dL_run{r:List V→Hp→VK→Prop}{f:List PV→Option PV}(hp:PL X.K r f)(hd:DA X E es ds){F:Addr→Prop}{S:Nat→Addr→Prop}{ε:PEnv}{σ:St}{H:Hp}{Q:VK}(rl:Rel X.K F S ε σ H)
  (h:Ok X.K E σ F S H (dL f ds ε) (fun pv _ F' _ H'=>∀ v,Rep X.K H' F' pv v→Q v H')):wpA X es σ H fun xs H1=>r xs H1 Q:=by
 refine hd F S ε σ H _ rl ((Ok.bind h).imp fun xs ε1 F1 S1 H1 r1 g1 h1 vs rvs=>?_)
 cases e:f xs with
 | none=>rw[e]at h1; exact h1.elim
 | some pv =>
  rw[e]at h1
  exact hp F1 H1 xs vs Q pv rvs e fun w F' H' al rw'=>h1 F' S1 H' (r1.al al) al.grow w rw'
theorem fresh_back{O O' F F':Addr→Prop}{H H':Hp}(g:Grow O O' F F' H H'){b:Addr}(h:H' b=none):H b=none:=by
 cases q:H b with
 | none=>rfl
 | some o=>obtain⟨o',e⟩:=g.there b o q; rw[h]at e; cases e
theorem dLn_run{r:List V→Hp→VK→Prop}{f:List PV→Option PO}(hp:PLn X.K r f)(hd:DA X E es ds){F:Addr→Prop}{S:Nat→Addr→Prop}{ε:PEnv}{σ:St}{H:Hp}{Q:VK}(rl:Rel X.K F S ε σ H)
  (h:Ok X.K E σ F S H (dL f ds ε) (fun po _ F' S' H'=>∀ a Sa,Own X.K H' F' po a Sa→(∀ b,Sa b→H b=none∧¬ F' b∧¬ U S' b∧∃ o,H' b=some o∧notImm o)→Q (.ref a) H')):wpA X es σ H fun xs H1=>r xs H1 Q:=by
 refine hd F S ε σ H _ rl ((Ok.bind h).imp fun xs ε1 F1 S1 H1 r1 g1 h1 vs rvs=>?_)
 cases e:f xs with
 | none=>rw[e]at h1; exact h1.elim
 | some po =>
  rw[e]at h1
  refine hp F1 H1 xs vs Q po r1.ex rvs e fun a F' H' Sa al ow fr=>h1 F' S1 H' (r1.al al) al.grow a Sa ow fun b z=>?_
  obtain⟨z1,z2,o,z3,z4⟩:=fr b z
  refine⟨fresh_back g1 z1,z2,fun⟨i,w⟩=>?_,o,z3,z4⟩
  obtain⟨_,_,o',w1,_⟩:=r1.foot i b w
  rw[z1]at w1; cases w1
theorem small_line{n:Nat}(h:n≤1000):n≤sizeLine:=Nat.le_of_lt (small1000 h)
theorem pl_tup{K:PySem.W.Frag}:PL K (fun xs H Q=>xs.length≤sizeLine∧∀ p,H p=none→Q (.ref p) (upd H p (.tup xs))) tupP:=fun F H xs vs Q pv rs e q=>by
 unfold tupP at e
 split at e
 ·cases e
  refine⟨by rw[rs.len]; exact small_line (by assumption),fun p hp=>q _ F _ (Al.new0 hp) ⟨p,vs,rfl,upd_same,(Al.new0 hp).reps rs⟩⟩
 ·cases e
theorem own_new{K:PySem.W.Frag}{F:Addr→Prop}{H:Hp}{l:Addr}{xs:List PV}{vs:List V}(hl:H l=none)(rs:Reps K H F xs vs):Own K (upd H l (.lst vs)) F (.lst xs) l (fun b=>b=l):=⟨⟨vs,upd_same,(Al.new0 hl).reps rs⟩,fun b=>Iff.rfl⟩
theorem own_new_fr{F:Addr→Prop}{H:Hp}{l:Addr}{o:HO}(hl:H l=none)(hF:∀ a,F a→∃ o,H a=some o)(hn:notImm o):∀ b,b=l→H b=none∧¬ F b∧∃ o',(upd H l o) b=some o'∧notImm o':=fun b z=>by
 subst z
 exact⟨hl,(fun w=>by obtain⟨o,q⟩:=hF b w; rw[hl]at q; cases q),o,upd_same,hn⟩
theorem pln_lst{K:PySem.W.Frag}:PLn K (fun xs H Q=>xs.length≤sizeLine∧∀ p,H p=none→Q (.ref p) (upd H p (.lst xs))) lstP:=fun F H xs vs Q po hF rs e q=>by
 unfold lstP at e
 split at e
 ·cases e
  exact⟨by rw[rs.len]; exact small_line (by assumption),fun p hp=>q p F _ _ (Al.new0 hp) (own_new hp rs) (own_new_fr hp hF trivial)⟩
 ·cases e
theorem de_tup{x1}(h:DA X E es ds):DE X E (.Tuple es x1 pos) (dL tupP ds):=fun F S ε σ H Q rl q=>wp_e (pe_tup pa_wp) (dL_run pl_tup h rl q)
theorem dn_lst(h:DA X E es ds):DN X E (.List es pos) (dL lstP ds):=fun F S ε σ H Q rl q=>wp_e (pe_lst pa_wp) (dLn_run pln_lst h rl q)
theorem de_lst(h:DA X E es ds):DE X E (.List es pos) (dF (dL lstP ds)):=(dn_lst h).de
variable{x:Str}{p:Pos}{id T:String}{r:List V→Hp→VK→Prop}{f:List PV→Option PV}{fn:List PV→Option PO}
theorem de_callB(hc:CallR X (.builtin id) r)(hp:PL X.K r f)(hm:X.mg x=none)(hv:bootBuiltins x=some (.builtin id))(ha:DA X E (e::es) ds)(hg:Gl X x:=by rfl)(hn:x≠"__name__":=by decide)(hdb:(x == ("__debug__" : Str))=false:=by decide)
  (he:starEach (e::es) X.env=(false,eval e X.env)::starEach es X.env:=by rfl) (hpl:(backTo pos (starEach es X.env)).any (·.1)=false:=by rfl):DE X E (.Call (.Name x p) (e::es) [] pos) (dL f ds):=fun F S ε σ H Q rl q =>
 wp_e (pe_callB hc hg hm hv pa_wp hn hdb he hpl) (dL_run hp ha rl q)
theorem dn_callB(hc:CallR X (.builtin id) r)(hp:PLn X.K r fn)(hm:X.mg x=none)(hv:bootBuiltins x=some (.builtin id))(ha:DA X E (e::es) ds)(hg:Gl X x:=by rfl)(hn:x≠"__name__":=by decide)(hdb:(x == ("__debug__" : Str))=false:=by decide)
  (he:starEach (e::es) X.env=(false,eval e X.env)::starEach es X.env:=by rfl) (hpl:(backTo pos (starEach es X.env)).any (·.1)=false:=by rfl):DN X E (.Call (.Name x p) (e::es) [] pos) (dL fn ds):=fun F S ε σ H Q rl q =>
 wp_e (pe_callB hc hg hm hv pa_wp hn hdb he hpl) (dLn_run hp ha rl q)
theorem de_callT(hc:CallR X (.type T) r)(hp:PL X.K r f)(hm:X.mg x=none)(hv:bootBuiltins x=some (.type T))(ha:DA X E (e::es) ds)(hg:Gl X x:=by rfl)(hn:x≠"__name__":=by decide)(hdb:(x == ("__debug__" : Str))=false:=by decide)
  (he:starEach (e::es) X.env=(false,eval e X.env)::starEach es X.env:=by rfl) (hpl:(backTo pos (starEach es X.env)).any (·.1)=false:=by rfl):DE X E (.Call (.Name x p) (e::es) [] pos) (dL f ds):=fun F S ε σ H Q rl q =>
 wp_e (pe_callTy hc hg hm hv pa_wp hn hdb he hpl) (dL_run hp ha rl q)
theorem dn_callT(hc:CallR X (.type T) r)(hp:PLn X.K r fn)(hm:X.mg x=none)(hv:bootBuiltins x=some (.type T))(ha:DA X E (e::es) ds)(hg:Gl X x:=by rfl)(hn:x≠"__name__":=by decide)(hdb:(x == ("__debug__" : Str))=false:=by decide)
  (he:starEach (e::es) X.env=(false,eval e X.env)::starEach es X.env:=by rfl) (hpl:(backTo pos (starEach es X.env)).any (·.1)=false:=by rfl):DN X E (.Call (.Name x p) (e::es) [] pos) (dL fn ds):=fun F S ε σ H Q rl q =>
 wp_e (pe_callTy hc hg hm hv pa_wp hn hdb he hpl) (dLn_run hp ha rl q)
theorem de_ix{r:R2}{f:PV→PV→Option PV}(hr:IxR X r)(hp:P2 X.K r f)(ha:DE X E a da)(hb:DE X E b db)(hs:PlainIx b:=by exact fun _ _=>rfl):DE X E (.Subscript a b pos) (d2 f da db):=fun F S ε σ H Q rl h =>
 wp_e (pe_ix hr pe_wp pe_wp hs) (d2_run hp ha hb rl h)
def wpO(X:Cx)(e:Option Expr):TO:=fun σ H Q=>Bx (∀ pins s,Inv X pins σ H s→wpAny (model X.prog X.w) X.A (evalPart e X.env) (fun u s'=>∃ o H',Inv X pins σ H' s'∧IsPart u o∧Q o H') X.xe s)
theorem po_wp{o:Option Expr}:L2.PO X o (wpO X o):=fun pins s _ _ _ I h=>h.run pins s I
theorem wp_o{o:Option Expr}{t:TO}(h:L2.PO X o t){σ:St}{H:Hp}{Q:Option Int→Hp→Prop}(q:t σ H Q):wpO X o σ H Q:=⟨fun pins s I=>h pins s σ H Q I q⟩
def DO(X:Cx)(E:XK)(e:Option Expr)(d:PEnv→R (Option Int)):Prop:=∀ F S ε σ H Q,Rel X.K F S ε σ H→Ok X.K E σ F S H (d ε) (fun o _ _ _ H'=>Q o H')→wpO X e σ H Q
def dNo:PEnv→R (Option Int):=fun ε=>.ok none ε
def isI:PV→Option Int
 | .int i=>some i
 | _=>none
def dPart(d:PEnv→R PV):PEnv→R (Option Int):=fun ε=>(d ε).bind fun x ε1=>lift ((isI x).map some) ε1
theorem do_none:DO X E none dNo:=fun F S ε σ H Q rl h=>wp_o po_none (h F S H rl (Grow.refl ..))
theorem do_some(he:DE X E e d):DO X E (some e) (dPart d):=fun F S ε σ H Q rl h=>by
 refine wp_o (po_some pe_wp) (he F S ε σ H _ rl ((Ok.bind h).imp fun x ε1 F1 S1 H1 r1 g1 h1 v rv=>?_))
 cases x <;> first | exact(show False from h1).elim | skip
 rename_i i
 exact⟨i,rv,h1 F1 S1 H1 r1 (Grow.refl ..)⟩
def dSl{α:Type}(f:PV→Option Int→Option Int→Option α)(d:PEnv→R PV)(dl du:PEnv→R (Option Int)):PEnv→R α:=fun ε=>(d ε).bind fun x ε1=>(dl ε1).bind fun l ε2=>(du ε2).bind fun u ε3=>lift (f x l u) ε3
def PSl(K:PySem.W.Frag)(r:V→Option Int→Option Int→Hp→VK→Prop)(f:PV→Option Int→Option Int→Option PV):Prop:=∀ (F:Addr→Prop) (H:Hp) (x:PV) (lo hi:Option Int) (v:V) (Q:VK) (pv:PV),Rep K H F x v→f x lo hi=some pv→(∀ w F' H',Al F F' H H'→Rep K H' F' pv w→Q w H')→r v lo hi H Q
theorem de_slice{r:V→Option Int→Option Int→Hp→VK→Prop}{f:PV→Option Int→Option Int→Option PV}{lo hi:Option Expr}{dl du:PEnv→R (Option Int)}{p2:Pos}(hr:SlR X r)(hp:PSl X.K r f)(he:DE X E e d)(hl:DO X E lo dl)(hu:DO X E hi du) :
  DE X E (.Subscript e (.Slice lo hi none p2) pos) (dSl f d dl du):=fun F S ε σ H Q rl h=>by
 refine wp_e (pe_slice hr pe_wp po_wp po_wp) (he F S ε σ H _ rl ((Ok.bind h).imp fun x ε1 F1 S1 H1 r1 g1 h1 v rv=>?_))
 refine hl F1 S1 ε1 σ H1 _ r1 ((Ok.bind h1).imp fun l ε2 F2 S2 H2 r2 g2 h2=>?_)
 refine hu F2 S2 ε2 σ H2 _ r2 ((Ok.bind h2).imp fun u ε3 F3 S3 H3 r3 g3 h3=>?_)
 cases e3:f x l u with
 | none=>rw[e3]at h3; exact h3.elim
 | some pv =>
  rw[e3]at h3
  exact hp F3 H3 x l u v Q pv ((rv.grow g2 r1.fit).grow g3 r2.fit) e3 fun w F' H' al rw'=>h3 F' S3 H' (r3.al al) al.grow w rw'
end
end Pu
namespace Pu
open PySem PySem.Spec PyProof.Rows L2
inductive Flw where
 | next | ret (s:Slot) | brk | cont
def RepS(K:PySem.W.Frag)(H:Hp)(F:Addr→Prop)(s:Slot)(v:V)(Sr:Addr→Prop):Prop:=match s with
 | .val pv=>Rep K H F pv v∧∀ b,¬ Sr b
 | .own po=>∃ a,v = .ref a∧Own K H F po a Sr
 | .none=>False
def PinOk(pin:List Nat)(σ σ':St):Prop:=∀ i∈pin,σ'[i]?=σ[i]?
theorem PinOk.refl(pin:List Nat)(σ:St):PinOk pin σ σ:=fun _ _=>rfl
theorem PinOk.trans{pin:List Nat}{σ σ1 σ2:St}(a:PinOk pin σ σ1)(b:PinOk pin σ1 σ2):PinOk pin σ σ2:=fun i h=>(b i h).trans (a i h)
theorem PinOk.set{pin:List Nat}{σ:St}{i:Nat}{x:Option V}(h:i∉pin):PinOk pin σ (σ.set i x):=fun j hj=>by
 rw[List.getElem?_set_ne (by rintro rfl; exact h hj)]
def Loose(F':Addr→Prop)(S':Nat→Addr→Prop)(H':Hp)(Sr:Addr→Prop):Prop:=∀ b,Sr b→¬ F' b∧¬ U S' b∧∃ o,H' b=some o∧notImm o
def OkS(K:PySem.W.Frag)(E:XK)(pin:List Nat)(σ:St)(F:Addr→Prop)(S:Nat→Addr→Prop)(H:Hp)(r:R Flw)(D:Ends):Prop:=match r with
 | .ok .next ε'=>∀ F' S' σ' H',Rel K F' S' ε' σ' H'→Grow (U S) (U S') F F' H H'→PinOk pin σ σ'→D.nx σ' H'
 | .ok .brk ε'=>∀ F' S' σ' H',Rel K F' S' ε' σ' H'→Grow (U S) (U S') F F' H H'→PinOk pin σ σ'→D.bk σ' H'
 | .ok .cont ε'=>∀ F' S' σ' H',Rel K F' S' ε' σ' H'→Grow (U S) (U S') F F' H H'→PinOk pin σ σ'→D.ct σ' H'
 | .ok (.ret s) ε'=>∀ v F' S' σ' H' Sr,Rel K F' S' ε' σ' H'→Grow (U S) (fun b=>U S' b∨Sr b) F F' H H'→PinOk pin σ σ'→RepS K H' F' s v Sr→Loose F' S' H' Sr→D.rt v H'
 | .er c ε'=>∀ x F' S' σ' H',Rel K F' S' ε' σ' H'→Grow (U S) (U S') F F' H H'→PinOk pin σ σ'→E c x H'
 | .no=>False
def DS(X:Cx)(E:XK)(pin:List Nat)(st:Stmt)(d:PEnv→R Flw):Prop:=∀ F S ε σ H D,Rel X.K F S ε σ H→OkS X.K E pin σ F S H (d ε) D→wpS X st D σ H
def DSs(X:Cx)(E:XK)(pin:List Nat)(st:List Stmt)(d:PEnv→R Flw):Prop:=∀ F S ε σ H D,Rel X.K F S ε σ H→OkS X.K E pin σ F S H (d ε) D→wpSs X st D σ H
section
variable{K:PySem.W.Frag}{E:XK}{pin:List Nat}{σ σ1:St}{F F1:Addr→Prop}{S S1:Nat→Addr→Prop}{H H1:Hp}{D:Ends}
theorem OkS.from{r:R Flw}(h:OkS K E pin σ F S H r D)(g:Grow (U S) (U S1) F F1 H H1)(p:PinOk pin σ σ1):OkS K E pin σ1 F1 S1 H1 r D:=by
 cases r with
 | no=>exact h
 | er c ε'=>exact fun x F' S' σ' H' r' g' p'=>h x F' S' σ' H' r' (g.trans g') (p.trans p')
 | ok f ε' =>
  cases f with
  | next=>exact fun F' S' σ' H' r' g' p'=>h F' S' σ' H' r' (g.trans g') (p.trans p')
  | brk=>exact fun F' S' σ' H' r' g' p'=>h F' S' σ' H' r' (g.trans g') (p.trans p')
  | cont=>exact fun F' S' σ' H' r' g' p'=>h F' S' σ' H' r' (g.trans g') (p.trans p')
  | ret s=>exact fun v F' S' σ' H' Sr r' g' p'=>h v F' S' σ' H' Sr r' (g.trans g') (p.trans p')
theorem OkS.bindE{α:Type}{r:R α}{k:α→PEnv→R Flw}(h:OkS K E pin σ F S H (r.bind k) D):Ok K E σ F S H r (fun a ε1 F1 S1 H1=>OkS K E pin σ F1 S1 H1 (k a ε1) D):=by
 cases r with
 | no=>exact h
 | er c ε'=>exact fun x F' S' H' r' g'=>h x F' S' σ H' r' g' (PinOk.refl _ _)
 | ok a ε'=>exact fun F' S' H' r' g'=>h.from g' (PinOk.refl _ _)
end
section
variable{X:Cx}{E:XK}{pin:List Nat}{st:Stmt}{rest:List Stmt}{d d1 d2:PEnv→R Flw}{e:Expr}{de:PEnv→R PV}{pos:Pos}
def dNext:PEnv→R Flw:=fun ε=>.ok .next ε
theorem dss_nil:DSs X E pin [] dNext:=fun F S ε σ H D rl h=>wp_ss pss_nil (h F S σ H rl (Grow.refl ..) (PinOk.refl _ _))
def dSeq(d1 d2:PEnv→R Flw):PEnv→R Flw:=fun ε=>match d1 ε with
 | .ok .next ε1=>d2 ε1
 | r=>r
theorem dss_cons(h1:DS X E pin st d1)(h2:DSs X E pin rest d2):DSs X E pin (st::rest) (dSeq d1 d2):=fun F S ε σ H D rl h=>by
 refine wp_ss (pss_cons ps_wp pss_wp) (h1 F S ε σ H { D with nx:=wpSs X rest D } rl ?_)
 unfold dSeq at h
 split at h
 ·rename_i ε1 e1
  rw[e1]
  exact fun F' S' σ' H' r' g' p'=>h2 F' S' ε1 σ' H' D r' (h.from g' p')
 ·rename_i r hne
  generalize d1 ε=r1 at h hne
  cases r1 with
  | no=>exact h
  | er c ε'=>exact h
  | ok f ε' =>
   cases f with
   | next=>exact absurd rfl (hne ε')
   | brk=>exact h
   | cont=>exact h
   | ret s=>exact h
theorem dss_one(h1:DS X E pin st d1):DSs X E pin [st] d1:=fun F S ε σ H D rl h=>wp_ss (pss_one ps_wp) (h1 F S ε σ H D rl h)
def dStop(f:Flw):PEnv→R Flw:=fun ε=>.ok f ε
def dDrop(d:PEnv→R PV):PEnv→R Flw:=fun ε=>(d ε).bind fun _ ε1=>.ok .next ε1
def dRet(d:PEnv→R PV):PEnv→R Flw:=fun ε=>(d ε).bind fun x ε1=>.ok (.ret (.val x)) ε1
theorem Grow.cup{O O' F F':Addr→Prop}{H H':Hp}(g:Grow O O' F F' H H'):Grow O (fun b=>O' b∨False) F F' H H':=⟨g.fro,g.keep,g.there,g.fnew,fun a h=>h.elim (g.onew a) False.elim⟩
theorem ds_ret(he:DE X E e de):DS X E pin (.Return (some e) pos) (dRet de):=fun F S ε σ H D rl h =>
 wp_s (ps_ret pe_wp) (he F S ε σ H _ rl (h.bindE.imp fun x ε1 F1 S1 H1 r1 g1 h1 v rv=>h1 v F1 S1 σ H1 (fun _=>False) r1 (Grow.refl ..).cup (PinOk.refl _ _) ⟨rv,fun _ z=>z⟩ fun _ z=>z.elim))
theorem ds_retN:DS X E pin (.Return none pos) (dStop (.ret (.val .non))):=fun F S ε σ H D rl h=>wp_s ps_retN (h _ F S σ H (fun _=>False) rl (Grow.refl ..).cup (PinOk.refl _ _) ⟨rfl,fun _ z=>z⟩ fun _ z=>z.elim)
def dRetN(d:PEnv→R PO):PEnv→R Flw:=fun ε=>(d ε).bind fun x ε1=>.ok (.ret (.own x)) ε1
theorem ds_retNew{dn:PEnv→R PO}(he:DN X E e dn):DS X E pin (.Return (some e) pos) (dRetN dn):=fun F S ε σ H D rl h=>by
 refine wp_s (ps_ret pe_wp) (he F S ε σ H _ rl ?_)
 unfold dRetN at h
 cases e0:dn ε with
 | no=>rw[e0]at h; exact h.elim
 | er c ε'=>rw[e0]at h; exact fun x F' S' H' r' g'=>h x F' S' σ H' r' g' (PinOk.refl _ _)
 | ok po ε1 =>
  rw[e0]at h
  intro F1 S1 H1 r1 g1 a Sa ow fr
  exact h _ F1 S1 σ H1 Sa r1 ⟨g1.fro,g1.keep,g1.there,g1.fnew,fun b z=>z.elim (g1.onew b) fun w=>.inr (fr b w).1⟩ (PinOk.refl _ _) ⟨a,rfl,ow⟩ fun b z=>let ⟨_,x2,x3,x4⟩:=fr b z; ⟨x2,x3,x4⟩
def dRetM(i:Nat):PEnv→R Flw:=fun ε=>match ε[i]? with
 | some (.own po)=>.ok (.ret (.own po)) (ε.set i .none)
 | _=>.no
theorem Rel.drop{K:PySem.W.Frag}{F:Addr→Prop}{S:Nat→Addr→Prop}{ε:PEnv}{σ:St}{H:Hp}(r:Rel K F S ε σ H)(i:Nat):Rel K F (fun j b=>S j b∧j≠i) (ε.set i .none) σ H:=by
 have no:∀ {j s},(ε.set i .none)[j]?=some s→s≠.none→j≠i∧ε[j]?=some s:=fun {j s} e hs=>by
  by_cases hj:i=j
  ·subst hj
   by_cases hi:i<ε.length
   ·rw[List.getElem?_set_self hi]at e; exact absurd (Option.some.inj e).symm hs
   ·rw[List.getElem?_eq_none (by rw[List.length_set]; ac_rfl)]at e; cases e
  ·rw[List.getElem?_set_ne hj]at e; exact⟨Ne.symm hj,e⟩
 refine⟨by rw[List.length_set]; exact r.len,r.ex,fun j pv e=>r.val j pv (no e (by intro z; cases z)).2,fun j po e=>?_,fun j b h=>?_,fun j k b h1 h2=>r.dist j k b h1.1 h2.1⟩
 ·obtain⟨hj,e⟩:=no e (by intro z; cases z)
  obtain⟨a,h1,h2⟩:=r.own j po e
  have eS:(fun b=>S j b∧j≠i)=S j:=by funext b; simp[hj]
  exact⟨a,h1,by rw[eS]; exact h2⟩
 ·obtain⟨⟨po,q1⟩,q2⟩:=r.foot j b h.1
  exact⟨⟨po,by rw[List.getElem?_set_ne (Ne.symm h.2)]; exact q1⟩,q2⟩
theorem ds_retMove(i:Nat){x:Str}{p:Pos}(hN:X.N[i]?=some x:=by rfl)(hv:Vis X.env.scope x:=by first | exact Or.inl rfl | exact Or.inr (Or.inl rfl) | exact Or.inr (Or.inr rfl))(hd:(x == ("__debug__" : Str))=false:=by decide)
  (hcd:(x == ("__classdict__" : Str))=false:=by decide):DS X E pin (.Return (some (.Name x p)) pos) (dRetM i):=fun F S ε σ H D rl h=>by
 unfold dRetM at h
 split at h
 ·rename_i po e
  obtain⟨a,e1,ow⟩:=rl.own i po e
  refine wp_s (ps_ret (pe_var hN hv hd hcd)) ⟨_,e1,h _ F (fun j b=>S j b∧j≠i) σ H (S i) (rl.drop i) ⟨fun _ z=>z,fun _ _ z _=>z,fun _ o z=>⟨o,z⟩,fun _ z=>.inl z,fun b z=>?_⟩ (PinOk.refl _ _) ⟨a,rfl,ow⟩ fun b z=>?_⟩
  ·rcases z with⟨j,z,_⟩ | z
   ·exact .inl ⟨j,z⟩
   ·exact .inl ⟨i,z⟩
  ·exact⟨(rl.foot i b z).2.1,fun⟨j,w,hj⟩=>hj (rl.dist j i b w z),(rl.foot i b z).2.2⟩
 ·exact h.elim
theorem Rel.set{K:PySem.W.Frag}{F:Addr→Prop}{S:Nat→Addr→Prop}{ε:PEnv}{σ:St}{H:Hp}{i:Nat}{pv:PV}{v:V}(r:Rel K F S ε σ H)(h:Rep K H F pv v):Rel K F (fun j b=>S j b∧j≠i) (ε.set i (.val pv)) (σ.set i (some v)) H:=by
 have r0:=r.drop i
 have len:(ε.set i (.val pv)).length=(σ.set i (some v)).length:=by rw[List.length_set,List.length_set]; exact r.len
 refine⟨len,r.ex,fun j p e=>?_,fun j po e=>?_,fun j b h=>?_,r0.dist⟩
 ·by_cases hj:i=j
  ·subst hj
   have hi:i<ε.length:=by
    have:=(List.getElem?_eq_some_iff.mp e).1
    rw[List.length_set]at this; exact this
   rw[List.getElem?_set_self hi]at e
   cases e
   exact⟨v,List.getElem?_set_self (by rw[← r.len]; exact hi),h⟩
  ·rw[List.getElem?_set_ne hj]at e
   obtain⟨w,h1,h2⟩:=r.val j p e
   exact⟨w,by rw[List.getElem?_set_ne hj]; exact h1,h2⟩
 ·have hj:i≠j:=by
   rintro rfl
   have hi:i<ε.length:=by
    have:=(List.getElem?_eq_some_iff.mp e).1
    rw[List.length_set]at this; exact this
   rw[List.getElem?_set_self hi]at e; cases e
  rw[List.getElem?_set_ne hj]at e
  obtain⟨a,h1,h2⟩:=r.own j po e
  have eS:(fun b=>S j b∧j≠i)=S j:=by funext b; simp[Ne.symm hj]
  exact⟨a,by rw[List.getElem?_set_ne hj]; exact h1,by rw[eS]; exact h2⟩
 ·obtain⟨⟨po,q1⟩,q2⟩:=r0.foot j b h
  refine⟨⟨po,?_⟩,q2⟩
  rw[List.getElem?_set_ne (Ne.symm h.2)]at q1 ⊢
  exact q1
theorem Grow.less{S:Nat→Addr→Prop}{F:Addr→Prop}{H:Hp}(i:Nat):Grow (U S) (U fun j b=>S j b∧j≠i) F F H H:=⟨fun _ z=>z,fun _ _ z _=>z,fun _ o z=>⟨o,z⟩,fun _ z=>.inl z,fun b ⟨j,z⟩=>.inl ⟨j,z.1⟩⟩
theorem Rel.setOwn{K:PySem.W.Frag}{F:Addr→Prop}{S:Nat→Addr→Prop}{ε:PEnv}{σ:St}{H:Hp}{i:Nat}{po:PO}{a:Addr}{Sa:Addr→Prop}(r:Rel K F S ε σ H)(hi:i<ε.length)(h:Own K H F po a Sa)(fr:Loose F S H Sa) :
  Rel K F (fun j b=>(S j b∧j≠i)∨(j=i∧Sa b)) (ε.set i (.own po)) (σ.set i (some (.ref a))) H:=by
 have r0:=r.drop i
 refine⟨by rw[List.length_set,List.length_set]; exact r.len,r.ex,fun j p e=>?_,fun j po' e=>?_,fun j b h=>?_,fun j k b h1 h2=>?_⟩
 ·have hj:i≠j:=by rintro rfl; rw[List.getElem?_set_self hi]at e; cases e
  rw[List.getElem?_set_ne hj]at e
  obtain⟨w,h1,h2⟩:=r.val j p e
  exact⟨w,by rw[List.getElem?_set_ne hj]; exact h1,h2⟩
 ·by_cases hj:i=j
  ·subst hj
   rw[List.getElem?_set_self hi]at e
   cases e
   have eS:(fun b=>(S i b∧i≠i)∨(i=i∧Sa b))=Sa:=by funext b; simp
   exact⟨a,List.getElem?_set_self (by rw[← r.len]; exact hi),by rw[eS]; exact h⟩
  ·rw[List.getElem?_set_ne hj]at e
   obtain⟨a',h1,h2⟩:=r.own j po' e
   have eS:(fun b=>(S j b∧j≠i)∨(j=i∧Sa b))=S j:=by funext b; simp[Ne.symm hj]
   exact⟨a',by rw[List.getElem?_set_ne hj]; exact h1,by rw[eS]; exact h2⟩
 ·rcases h with h | ⟨rfl,h⟩
  ·obtain⟨⟨po',q1⟩,q2⟩:=r0.foot j b h
   refine⟨⟨po',?_⟩,q2⟩
   rw[List.getElem?_set_ne (Ne.symm h.2)]at q1 ⊢
   exact q1
  ·obtain⟨x1,x2,x3⟩:=fr b h
   exact⟨⟨po,List.getElem?_set_self hi⟩,x1,x3⟩
 ·rcases h1 with h1 | ⟨rfl,h1⟩ <;> rcases h2 with h2 | ⟨rfl,h2⟩
  ·exact r.dist j k b h1.1 h2.1
  ·exact absurd ⟨j,h1.1⟩ (fr b h2).2.1
  ·exact absurd ⟨k,h2.1⟩ (fr b h1).2.1
  ·rfl
def dSet(i:Nat)(d:PEnv→R PV):PEnv→R Flw:=fun ε=>(d ε).bind fun x ε1=>.ok .next (ε1.set i (.val x))
theorem ds_set(i:Nat){x:Str}{p:Pos}(hN:X.N.Nodup)(he:DE X E e de)(hp:i∉pin:=by decide)(hi:X.N[i]?=some x:=by rfl)(hx:Loc X.env.scope x:=by first | exact Or.inl rfl | exact Or.inr rfl)(hs:swapsWith e (some (.Name x p)) pos.line X.env=pure false:=by rfl)
  (hf:X.fn x=true∨X.env.scope.names.lookup x=some .local:=by first | exact .inl rfl | exact .inr rfl):DS X E pin (.Assign [.Name x p] e pos) (dSet i de):=fun F S ε σ H D rl h =>
 wp_s (ps_set hN hi hx pe_wp hs hf) (he F S ε σ H _ rl (h.bindE.imp fun x ε1 F1 S1 H1 r1 g1 h1 v rv=>h1 F1 _ _ H1 (r1.set rv) (Grow.less i) (PinOk.set hp)))
def dOwn(i:Nat)(d:PEnv→R PO):PEnv→R Flw:=fun ε=>(d ε).bind fun x ε1=>if i<ε1.length then .ok .next (ε1.set i (.own x))else .no
theorem ds_own(i:Nat){x:Str}{p:Pos}{dn:PEnv→R PO}(hN:X.N.Nodup)(he:DN X E e dn)(hp:i∉pin:=by decide)(hi:X.N[i]?=some x:=by rfl)(hx:Loc X.env.scope x:=by first | exact Or.inl rfl | exact Or.inr rfl)(hs:swapsWith e (some (.Name x p)) pos.line X.env=pure false:=by rfl)
  (hf:X.fn x=true∨X.env.scope.names.lookup x=some .local:=by first | exact .inl rfl | exact .inr rfl):DS X E pin (.Assign [.Name x p] e pos) (dOwn i dn):=fun F S ε σ H D rl h=>by
 refine wp_s (ps_set hN hi hx pe_wp hs hf) (he F S ε σ H _ rl ?_)
 unfold dOwn at h
 cases e0:dn ε with
 | no=>rw[e0]at h; exact h.elim
 | er c ε'=>rw[e0]at h; exact fun x F' S' H' r' g'=>h x F' S' σ H' r' g' (PinOk.refl _ _)
 | ok po ε1 =>
  rw[e0]at h
  simp only[R.bind_ok]at h
  intro F1 S1 H1 r1 g1 a Sa ow fr
  by_cases hl:i<ε1.length
  ·rw[if_pos hl]at h
   refine h F1 _ _ H1 (r1.setOwn hl ow fun b z=>(fr b z).2) ⟨g1.fro,g1.keep,g1.there,g1.fnew,fun b ⟨j,z⟩=>?_⟩ (PinOk.set hp)
   rcases z with z | ⟨_,z⟩
   ·exact g1.onew b ⟨j,z.1⟩
   ·exact .inr (fr b z).1
  ·rw[if_neg hl]at h; exact h.elim
theorem ds_if{c:Expr}{a b:List Stmt}{t:PEnv→R Bool}(hc:DT X E c t)(ha:DSs X E pin a d1)(hb:DSs X E pin b d2):DS X E pin (.If c a b pos) (dIf t d1 d2):=fun F S ε σ H D rl h=>by
 refine wp_s (ps_if pt_wp pss_wp pss_wp) (hc F S ε σ H _ rl (h.bindE.imp fun k ε1 F1 S1 H1 r1 g1 h1=>?_))
 cases k with
 | true=>exact iteT (ha F1 S1 ε1 σ H1 D r1 h1)
 | false=>exact iteF (hb F1 S1 ε1 σ H1 D r1 h1)
def dNever:PEnv→R Flw:=fun _=>.no
theorem dss_never{sts:List Stmt}:DSs X E pin sts dNever:=fun _ _ _ _ _ _ _ h=>h.elim
def noEr(r:R Flw):R Flw:=match r with
 | .er _ _=>.no
 | r=>r
theorem ds_nox(h:DS X.nox E0 pin st d):DS X E pin st (fun ε=>noEr (d ε)):=fun F S ε σ H D rl q=>Bx.mk fun pins s I=>by
 have q:OkS X.K E pin σ F S H (noEr (d ε)) D:=q
 have q':OkS X.K E0 pin σ F S H (d ε) D:=by
  cases e:d ε with
  | no=>rw[e]at q; exact q
  | er c ε'=>rw[e]at q; exact q.elim
  | ok f ε'=>rw[e]at q; cases f <;> exact q
 exact wpAny_mono ((h F S ε σ H D rl q').run pins s (I.wish _)) (fun _ _ z=>z.unwish) fun _ _ z=>z.elim
def wpI(X:Cx)(tg iter:Expr):TI:=fun σ H Rr=>Bx (∀ pins s,Inv X pins σ H s→wpAny (model X.prog X.w) X.A (eval iter X.env) (fun v s1=>wpAny (model X.prog X.w) X.A (pyIter v) (PIE X pins σ tg Rr) X.xe s1) X.xe s)
theorem pi_wp{tg iter:Expr}:PI X tg iter (wpI X tg iter):=fun pins s _ _ _ I h=>h.run pins s I
theorem wp_i{tg iter:Expr}{t:TI}(h:PI X tg iter t){σ:St}{H:Hp}{Rr:It→Hp→Prop}(q:t σ H Rr):wpI X tg iter σ H Rr:=⟨fun pins s I=>h pins s σ H Rr I q⟩
def DI(X:Cx)(E:XK)(tg iter:Expr)(d:PEnv→R (List PV)):Prop:=∀ F S ε σ H Rr,Rel X.K F S ε σ H →
 Ok X.K E σ F S H (d ε) (fun pvs _ F' S' H'=>∀ J vs RR,Reps X.K H' F' pvs vs→vs.length≤sizeLine→Walk J vs RR→(∀ S'' F'' H'',Grow (U S') (U S'') F' F'' H' H''→RR H'')→Rr J H')→wpI X tg iter σ H Rr
def loopD(i:Nat)(db:PEnv→R Flw):List PV→PEnv→R Flw
 | [],ε=>.ok .next ε
 | x::xs,ε=>match db (ε.set i (.val x))with
  | .ok .next ε'=>loopD i db xs ε'
  | .ok .cont ε'=>loopD i db xs ε'
  | .ok .brk ε'=>.ok .next ε'
  | r=>r
def dFor(i:Nat)(di:PEnv→R (List PV))(db:PEnv→R Flw):PEnv→R Flw:=fun ε=>(di ε).bind fun xs ε1=>loopD i db xs ε1
theorem ds_for(i:Nat){x:Str}{p:Pos}{iter:Expr}{body:List Stmt}{di:PEnv→R (List PV)}{db:PEnv→R Flw}(hpo:PassesOwn (model X.prog X.w) X.A X.env X.xe)(hc:X.calm=true)(hN:X.N.Nodup)(hi:DI X E (.Name x p) iter di)(hb:DSs X E pin body db)
  (hp:i∉pin:=by decide) (hx:X.N[i]?=some x:=by rfl) (hl:Loc X.env.scope x:=by first | exact Or.inl rfl | exact Or.inr rfl) (hs:∀ x,foldedSetIterable iter X.env x=pure x:=by intro _; rfl)
  (hf:X.fn x=true∨X.env.scope.names.lookup x=some .local:=by first | exact .inl rfl | exact .inr rfl):DS X E pin (.For (.Name x p) iter body [] pos) (dFor i di db):=fun F S ε σ H D rl h=>by
 refine wp_s (ps_for hpo hc pi_wp (pg_name hN hx hl hf) pss_wp hs) (hi F S ε σ H _ rl (h.bindE.imp fun xs ε1 F1 S1 H1 r1 g1 h1 J vs RR rs hz hw keep=>?_))
 refine for_walk hw (fun k σ' H'=>∃ F' S' ε',Rel X.K F' S' ε' σ' H'∧Grow (U S1) (U S') F1 F' H1 H'∧OkS X.K E pin σ' F' S' H' (loopD i db (xs.drop k) ε') D) ⟨F1,S1,ε1,r1,Grow.refl ..,h1⟩ (fun k σ' H' _ ⟨F',S',ε',_,g,_⟩=>keep S' F' H' g) ?_ ?_
 ·rintro k v σ' H' hv ⟨F',S',ε',r',g',q⟩
  obtain⟨x,hx,rx⟩:=rs.back hv
  have hk:k<xs.length:=(List.getElem?_eq_some_iff.mp hx).1
  have ed:xs.drop k=x::xs.drop (k+1):=by
   rw[List.drop_eq_getElem_cons hk]
   congr 1
   exact(List.getElem?_eq_some_iff.mp hx).2
  rw[ed]at q
  have rx':=rx.grow g' r1.fit
  have r2:=r'.set (i:=i) rx'
  have gl:Grow (U S') (U fun j b=>S' j b∧j≠i) F' F' H' H':=Grow.less i
  show wpSs X body _ (σ'.set i (some v)) H'
  refine hb F' _ _ _ H' _ r2 ?_
  unfold loopD at q
  have q:=q.from gl (PinOk.set (x:=some v) hp)
  cases e:db (ε'.set i (.val x))with
  | no=>rw[e]at q; exact q
  | er c ε3=>rw[e]at q; exact q
  | ok f ε3 =>
   rw[e]at q
   cases f with
   | next=>exact fun F3 S3 σ3 H3 r3 g3 p3=>⟨F3,S3,ε3,r3,(g'.trans gl).trans g3,q.from g3 p3⟩
   | cont=>exact fun F3 S3 σ3 H3 r3 g3 p3=>⟨F3,S3,ε3,r3,(g'.trans gl).trans g3,q.from g3 p3⟩
   | brk=>exact q
   | ret s=>exact q
 ·rintro σ' H' ⟨F',S',ε',r',g',q⟩
  have hl:vs.length=xs.length:=rs.len
  rw[hl,List.drop_length]at q
  exact q F' S' σ' H' r' (Grow.refl ..) (PinOk.refl _ _)
def whileD(t:PEnv→R Bool)(db:PEnv→R Flw):Nat→PEnv→R Flw
 | 0,_=>.no
 | n+1,ε=>(t ε).bind fun k ε1=>match k with
  | false=>.ok .next ε1
  | true=>match db ε1 with
   | .ok .next ε'=>whileD t db n ε'
   | .ok .cont ε'=>whileD t db n ε'
   | .ok .brk ε'=>.ok .next ε'
   | r=>r
end
end Pu
namespace Pu
open PySem PySem.Spec PyProof.Rows L2
def OkG(K:PySem.W.Frag)(E:XK)(vs:List V)(F:Addr→Prop)(S:Nat→Addr→Prop)(H:Hp)(r:R Slot)(Q:VK):Prop:=match r with
 | .ok s ss'=>∀ v F' S' H' Sr,Rel K F' S' ss' (vs.map some) H'→Grow (U S) (fun b=>U S' b∨Sr b) F F' H H'→RepS K H' F' s v Sr→Loose F' S' H' Sr→(∀ b,Sr b→H b=none)→Q v H'
 | .er c ss'=>∀ x F' S' H',Rel K F' S' ss' (vs.map some) H'→Grow (U S) (U S') F F' H H'→E c x H'
 | .no=>False
def spG(K:PySem.W.Frag)(g:PEnv→R Slot):Sp:=fun vs H Q E=>∃ F S ss,Rel K F S ss (vs.map some) H∧OkG K E vs F S H (g ss) Q
structure CalX(CX:CXT)(P:Program)(w:World)(K:PySem.W.Frag)(mg:Str→Option Value)(base:Heap)(x:Str)(k:Nat)(ps:List Str)(sp:Sp):Prop where
 ex:∃ f fd,mg x=some (.ref f)∧FnOk P w K mg base CX k f fd ps sp∧Binds K fd ps []∧PySem.W.keepIn K (.ref f)=true
theorem CalX.mono{CX:CXT}{P:Program}{w:World}{K:PySem.W.Frag}{mg:Str→Option Value}{base:Heap}{x:Str}{j k:Nat}{ps:List Str}{sp:Sp}(c:CalX CX P w K mg base x j ps sp)(h:j≤k):CalX CX P w K mg base x k ps sp:=by
 obtain⟨f,fd,h1,h2,h3,h4⟩:=c.ex
 exact⟨f,fd,h1,h2.mono h,h3,h4⟩
def back:PEnv→PEnv→Option PEnv
 | [],_=>some []
 | .own _::ss,.own po::es=>(back ss es).map (.own po::·)
 | .own _::_,_=>none
 | s::ss,_::es=>(back ss es).map (s::·)
 | _::_,[]=>none
theorem back_get:∀ {ss es ss':PEnv},back ss es=some ss'→ss'.length=ss.length∧∀ (i:Nat) (s:Slot),ss'[i]?=some s→(∃ po po',ss[i]?=some (.own po)∧es[i]?=some (.own po')∧s = .own po')∨(ss[i]?=some s∧∀ po,s≠.own po)
 | [],_,ss',h=>by cases h; exact⟨rfl,fun i s e=>by simp at e⟩
 | .own po::ss,.own po'::es,ss',h=>by
  unfold back at h
  cases e:back ss es with
  | none=>rw[e]at h; cases h
  | some r =>
   rw[e]at h; cases h
   obtain⟨l,q⟩:=back_get e
   refine⟨by simp[l],fun i s hi=>?_⟩
   cases i with
   | zero=>simp at hi; subst hi; exact .inl ⟨po,po',rfl,rfl,rfl⟩
   | succ i=>simpa using q i s (by simpa using hi)
 | .own po::ss,.none::es,ss',h=>by cases h
 | .own po::ss,.val _::es,ss',h=>by cases h
 | .own po::ss,[],ss',h=>by cases h
 | .none::ss,[],ss',h=>by cases h
 | .val _::ss,[],ss',h=>by cases h
 | .none::ss,x::es,ss',h=>by
  have h:(back ss es).map (Slot.none::·)=some ss':=by unfold back at h; cases x <;> exact h
  cases e:back ss es with
  | none=>rw[e]at h; cases h
  | some r =>
   rw[e]at h; cases h
   obtain⟨l,q⟩:=back_get e
   refine⟨by simp[l],fun i s hi=>?_⟩
   cases i with
   | zero=>simp at hi; subst hi; exact .inr ⟨rfl,fun _ z=>by cases z⟩
   | succ i=>simpa using q i s (by simpa using hi)
 | .val pv::ss,x::es,ss',h=>by
  have h:(back ss es).map (Slot.val pv::·)=some ss':=by unfold back at h; cases x <;> exact h
  cases e:back ss es with
  | none=>rw[e]at h; cases h
  | some r =>
   rw[e]at h; cases h
   obtain⟨l,q⟩:=back_get e
   refine⟨by simp[l],fun i s hi=>?_⟩
   cases i with
   | zero=>simp at hi; subst hi; exact .inr ⟨rfl,fun _ z=>by cases z⟩
   | succ i=>simpa using q i s (by simpa using hi)
def fnD(n:Nat)(d:PEnv→R Flw):PEnv→R Slot:=fun ss=>match d (ss++List.replicate n .none)with
 | .ok (.ret r) ε'=>(lift (back ss ε') []).bind fun ss' _=>.ok r ss'
 | .ok .next ε'=>(lift (back ss ε') []).bind fun ss' _=>.ok (.val .non) ss'
 | .er c ε'=>(lift (back ss ε') []).bind fun ss' _=>.er c ss'
 | _=>.no
section
variable{K:PySem.W.Frag}{F F':Addr→Prop}{S S':Nat→Addr→Prop}{ss ε' ss':PEnv}{σ':St}{H H':Hp}{vs:List V}
theorem Rel.start(r:Rel K F S ss (vs.map some) H)(n:Nat):Rel K F S (ss++List.replicate n .none) (vs.map some++List.replicate n none) H:=by
 have hl:ss.length=(vs.map some).length:=r.len
 have no:∀ {j:Nat} {s:Slot},(ss++List.replicate n Slot.none)[j]?=some s→s≠.none→ss[j]?=some s:=fun {j s} e hs=>by
  by_cases hj:j<ss.length
  ·rw[List.getElem?_append_left hj]at e; exact e
  ·rw[List.getElem?_append_right (by ac_rfl),List.getElem?_replicate]at e
   split at e
   ·exact absurd (Option.some.inj e).symm hs
   ·cases e
 have up:∀ {j:Nat} {v:Option V},(vs.map some)[j]?=some v→(vs.map some++List.replicate n none)[j]?=some v:=fun {j v} e=>by
  rw[List.getElem?_append_left (List.getElem?_eq_some_iff.mp e).1]; exact e
 refine⟨by simp[hl],r.ex,fun j pv e=>?_,fun j po e=>?_,fun j b h=>?_,r.dist⟩
 ·obtain⟨v,h1,h2⟩:=r.val j pv (no e (by intro z; cases z)); exact⟨v,up h1,h2⟩
 ·obtain⟨v,h1,h2⟩:=r.own j po (no e (by intro z; cases z)); exact⟨v,up h1,h2⟩
 ·obtain⟨⟨po,q⟩,q2⟩:=r.foot j b h
  exact⟨⟨po,by rw[List.getElem?_append_left (List.getElem?_eq_some_iff.mp q).1]; exact q⟩,q2⟩
theorem own_at{po:PO}{a:Addr}{Sa:Addr→Prop}(h:Own K H F po a Sa)(hf:flatO po=true):∀ b,Sa b↔b=a:=by
 cases po with
 | lst xs=>exact h.2
 | dK kvs=>exact h.2
 | lls xss=>cases hf
 | ins C fs=>exact h.2
theorem own_self{po:PO}{a:Addr}{Sa:Addr→Prop}(h:Own K H F po a Sa):Sa a:=by
 cases po with
 | lst xs=>exact(h.2 a).mpr rfl
 | dK kvs=>exact(h.2 a).mpr rfl
 | lls xss=>obtain⟨as,_,_,_,_,w⟩:=h; exact(w a).mpr (.inl rfl)
 | ins C fs=>exact(h.2 a).mpr rfl
theorem Rel.back{O':Addr→Prop}{pin:List Nat}{n:Nat}(r0:Rel K F S ss (vs.map some) H)(r:Rel K F' S' ε' σ' H')(g:Grow (U S) O' F F' H H')(p:PinOk pin (vs.map some++List.replicate n none) σ')(hown:∀ (i:Nat) (po:PO),ss[i]?=some (.own po)→i∈pin∧flatO po=true)(hb:back ss ε'=some ss') :
  ∃ S'',Rel K F' S'' ss' (vs.map some) H'∧(∀ b,U S'' b→U S' b)∧∀ b,U S b→U S'' b:=by
 obtain⟨hl,hg⟩:=back_get hb
 have inj:∀ (i:Nat) (po:PO),ss[i]?=some (.own po)→∃ a,(vs.map some)[i]?=some (some (.ref a))∧σ'[i]?=some (some (.ref a))∧Own K H F po a (S i):=fun i po e=>by
  obtain⟨a,h1,h2⟩:=r0.own i po e
  refine⟨a,h1,?_,h2⟩
  rw[p i (hown i po e).1,List.getElem?_append_left (List.getElem?_eq_some_iff.mp h1).1]; exact h1
 have bk:∀ (i:Nat) (po:PO),ss[i]?=some (.own po)→∃ po',ss'[i]?=some (.own po')∧ε'[i]?=some (.own po'):=fun i po e=>by
  have hi:i<ss'.length:=by rw[hl]; exact(List.getElem?_eq_some_iff.mp e).1
  rcases hg i ss'[i] (by simp[hi])with⟨p1,p2,q1,q2,q3⟩ | ⟨q1,q2⟩
  ·exact⟨p2,by rw[List.getElem?_eq_getElem hi,q3],q2⟩
  ·rw[e]at q1; exact absurd (Option.some.inj q1).symm (q2 po)
 refine⟨fun i b=>S' i b∧∃ po,ss[i]?=some (.own po),⟨by rw[hl]; exact r0.len,r.ex,fun i pv e=>?_,fun i po e=>?_,fun i b h=>?_,fun i j b h1 h2=>r.dist i j b h1.1 h2.1⟩,fun b ⟨i,h⟩=>⟨i,h.1⟩,fun b ⟨i,h⟩=>?_⟩
 ·rcases hg i _ e with⟨_,_,_,_,z⟩ | ⟨q1,_⟩
  ·cases z
  ·obtain⟨v,h1,h2⟩:=r0.val i pv q1
   exact⟨v,h1,h2.grow g r0.fit⟩
 ·rcases hg i _ e with⟨p1,p2,q1,q2,q3⟩ | ⟨_,q2⟩
  ·cases q3
   obtain⟨a,h1,h2,h3⟩:=inj i p1 q1
   obtain⟨a',h4,h5⟩:=r.own i po q2
   rw[h2]at h4
   cases h4
   refine⟨a,h1,?_⟩
   have eS:(fun b=>S' i b∧∃ po,ss[i]?=some (.own po))=S' i:=by funext b; exact propext ⟨fun z=>z.1,fun z=>⟨z,p1,q1⟩⟩
   rw[eS]; exact h5
  ·exact absurd rfl (q2 po)
 ·obtain⟨po,q⟩:=h.2
  obtain⟨po',z1,z2⟩:=bk i po q
  exact⟨⟨po',z1⟩,(r.foot i b h.1).2⟩
 ·obtain⟨⟨po,q⟩,_⟩:=r0.foot i b h
  obtain⟨a,h1,h2,h3⟩:=inj i po q
  obtain⟨po',z1,z2⟩:=bk i po q
  obtain⟨a',h4,h5⟩:=r.own i po' z2
  rw[h2]at h4
  cases h4
  have e:b=a:=(own_at h3 (hown i po q).2 b).mp h
  exact⟨i,e ▸ own_self h5,po,q⟩
end
theorem fnok_of{f:Addr}{fd:FuncData}{CX:CXT}{P:Program}{w:World}{K:PySem.W.Frag}{mg:Str→Option Value}{base:Heap}{x qual:Str}{st:Stmt}{N ps:List Str}{k n:Nat}{g:PEnv→R Slot}{d:PEnv→R Flw}{pin:List Nat}(Fn:Fun K x qual st f fd)(Sc:FnScope N ps (defScope st))(hn:N.length=ps.length+n)
  (hb:∀ (kV doc pm:Value) (an:Option Addr) (cdv ct:Value) (us:List Value),us.length=ps.length→bindArgs (PySem.W.fnOf x qual (defArgs st) (defBody st) (defScope st) .none kV doc pm an cdv ct) ⟨us,[]⟩=pure (ps.zip us))
  (hlen:∀ ss,g ss≠.no→ss.length=ps.length) (hown:∀ ss,g ss≠.no→∀ (i:Nat) po,ss[i]?=some (.own po)→i∈pin∧flatO po=true) (hg:∀ ss,g ss≠.no→fnD n d ss=g ss)
  (hbody:∀ (f:Addr) (cdv:Value) (A:Around) (outer:List Env) (s:Shared) (H:Hp) (E:XK),Room k (A.deeper (envOfC qual (defScope st) s.heap.objs.size f cdv))→DSs (cxOf CX P w K mg base N qual (defScope st) f cdv A outer s H E) E pin (defBody st) d) :
  FnOk P w K mg base CX (k+1) f fd ps (spG K g):=by
 obtain⟨oc,od,kV,doc,pm,an,cdv,ct,osl,rfl,lk,hcd⟩:=Fn.ex
 have ne:∀ {E:XK} {vs:List V} {F:Addr→Prop} {S:Nat→Addr→Prop} {H:Hp} {ss:PEnv} {Q:VK},OkG K E vs F S H (g ss) Q→g ss≠.no:=fun {E vs F S H ss Q} h z=>by rw[z]at h; exact h
 refine fn_of lk hcd Sc (fun vs H Q E ⟨F,S,ss,rl,ok⟩=>?_) fun A outer s H vs Q E hr hsp=>?_
 ·have:=hlen ss (ne ok)
  have h2:=rl.len
  rw[List.length_map]at h2
  ac_rfl
 ·obtain⟨F,S,ss,rl,ok⟩:=hsp
  refine⟨_,pss_wp,?_⟩
  have hl:=hlen ss (ne ok)
  have h2:=rl.len
  rw[List.length_map]at h2
  have es:L2.start N vs=vs.map some++List.replicate n none:=by
   unfold L2.start
   rw[show N.length-vs.length=n by ac_rfl]
  rw[es]
  refine hbody f cdv A outer s H E hr F S _ _ H _ (rl.start n) ?_
  have hown':=hown ss (ne ok)
  have hg':=hg ss (ne ok)
  rw[← hg']at ok
  unfold fnD at ok
  generalize d (ss++List.replicate n .none)=r at ok ⊢
  cases r with
  | no=>exact ok
  | er c ε' =>
   intro x F' S' σ' H' r' g' p'
   have ok:OkG K E vs F S H ((lift (back ss ε') []).bind fun ss' _=>.er c ss') Q:=ok
   cases e:back ss ε' with
   | none=>rw[e]at ok; exact ok.elim
   | some ss' =>
    rw[e]at ok
    obtain⟨S'',r'',sub,_⟩:=rl.back r' g' p' hown' e
    exact ok x F' S'' H' r'' ⟨g'.fro,g'.keep,g'.there,g'.fnew,fun b z=>g'.onew b (sub b z)⟩
  | ok fl ε' =>
   have fin:∀ (rs:Slot),OkG K E vs F S H ((lift (back ss ε') []).bind fun ss' _=>.ok rs ss') Q→∀ (v:V) F' S' σ' H' Sr,Rel K F' S' ε' σ' H'→Grow (U S) (fun b=>U S' b∨Sr b) F F' H H'→PinOk pin (vs.map some++List.replicate n none) σ'→RepS K H' F' rs v Sr→Loose F' S' H' Sr→Q v H':=by
    intro rs ok v F' S' σ' H' Sr r' g' p' hv lo
    cases e:back ss ε' with
    | none=>rw[e]at ok; exact ok.elim
    | some ss' =>
     rw[e]at ok
     obtain⟨S'',r'',sub,up⟩:=rl.back r' g' p' hown' e
     refine ok v F' S'' H' Sr r'' ⟨g'.fro,g'.keep,g'.there,g'.fnew,fun b z=>g'.onew b (z.imp (sub b) id)⟩ hv (fun b z=>⟨(lo b z).1,fun w=>(lo b z).2.1 (sub b w),(lo b z).2.2⟩) fun b z=>?_
     rcases g'.onew b (.inr z)with w | w
     ·exact absurd (sub b (up b w)) (lo b z).2.1
     ·exact w
   cases fl with
   | brk=>exact ok.elim
   | cont=>exact ok.elim
   | ret rs=>exact fin rs ok
   | next =>
    exact fun F' S' σ' H' r' g' p'=>fin (.val .non) ok .non F' S' σ' H' (fun _=>False) r' ⟨g'.fro,g'.keep,g'.there,g'.fnew,fun b z=>z.elim (g'.onew b) False.elim⟩ p' ⟨rfl,fun _ z=>z⟩ fun _ z=>z.elim
theorem cal_of{CX:CXT}{P:Program}{w:World}{K:PySem.W.Frag}{mg:Str→Option Value}{base:Heap}{x:Str}{st:Stmt}{N ps:List Str}{k n:Nat}{g:PEnv→R Slot}{d:PEnv→R Flw}{pin:List Nat}(D:Def K mg x st)(Sc:FnScope N ps (defScope st))(hn:N.length=ps.length+n)
  (hb:∀ (kV doc pm:Value) (an:Option Addr) (cdv ct:Value) (us:List Value),us.length=ps.length→bindArgs (PySem.W.fnOf x x (defArgs st) (defBody st) (defScope st) .none kV doc pm an cdv ct) ⟨us,[]⟩=pure (ps.zip us))
  (hlen:∀ ss,g ss≠.no→ss.length=ps.length) (hown:∀ ss,g ss≠.no→∀ (i:Nat) po,ss[i]?=some (.own po)→i∈pin∧flatO po=true) (hg:∀ ss,g ss≠.no→fnD n d ss=g ss)
  (hbody:∀ (f:Addr) (cdv:Value) (A:Around) (outer:List Env) (s:Shared) (H:Hp) (E:XK),Room k (A.deeper (envOfC x (defScope st) s.heap.objs.size f cdv))→DSs (cxOf CX P w K mg base N x (defScope st) f cdv A outer s H E) E pin (defBody st) d) :
  CalX CX P w K mg base x (k+1) ps (spG K g):=by
 obtain⟨f,fd,hm,Fn⟩:=D.ex
 exact⟨f,fd,hm,fnok_of Fn Sc hn hb hlen hown hg hbody,Fn.binds hb,Fn.kp⟩
end Pu
namespace Pu
open PySem PySem.Spec PyProof.Rows L2
noncomputable abbrev ASlot:=Sum PV Nat
def ArgsOk(K:PySem.W.Frag)(σ:St)(F:Addr→Prop)(H:Hp):List ASlot→List V→Prop
 | [],vs=>vs=[]
 | .inl pv::as,vs=>∃ v r,vs=v::r∧Rep K H F pv v∧ArgsOk K σ F H as r
 | .inr i::as,vs=>∃ v r,vs=v::r∧σ[i]?=some (some v)∧ArgsOk K σ F H as r
def DG(X:Cx)(E:XK)(es:List Expr)(d:PEnv→R (List ASlot)):Prop :=
 ∀ F S ε σ H Q,Rel X.K F S ε σ H→Ok X.K E σ F S H (d ε) (fun as _ F' _ H'=>∀ vs,ArgsOk X.K σ F' H' as vs→Q vs H')→wpA X es σ H Q
section
variable{X:Cx}{E:XK}{e:Expr}{es:List Expr}{de:PEnv→R PV}{dg:PEnv→R (List ASlot)}{pos:Pos}
def gNil:PEnv→R (List ASlot):=fun ε=>.ok [] ε
def gV(d:PEnv→R PV)(dg:PEnv→R (List ASlot)):PEnv→R (List ASlot):=fun ε=>(d ε).bind fun x ε1=>(dg ε1).bind fun xs ε2=>.ok (.inl x::xs) ε2
def gO(i:Nat)(dg:PEnv→R (List ASlot)):PEnv→R (List ASlot):=fun ε=>match ε[i]? with
 | some (.own _)=>(dg ε).bind fun xs ε2=>.ok (.inr i::xs) ε2
 | _=>.no
theorem dg_nil:DG X E [] gNil:=fun F S ε σ H Q rl h=>wp_a pa_nil (h F S H rl (Grow.refl ..) _ rfl)
theorem dg_v(ha:DE X E e de)(hr:DG X E es dg)(hs:starEach (e::es) X.env=(false,eval e X.env)::starEach es X.env:=by rfl):DG X E (e::es) (gV de dg):=fun F S ε σ H Q rl h=>by
 refine wp_a (pa_cons pe_wp pa_wp hs) (ha F S ε σ H _ rl ((Ok.bind h).imp fun x ε1 F1 S1 H1 r1 g1 h1 v rv=>?_))
 refine hr F1 S1 ε1 σ H1 _ r1 ((Ok.bind h1).imp fun xs ε2 F2 S2 H2 r2 g2 h2 vs rvs=>?_)
 exact h2 F2 S2 H2 r2 (Grow.refl ..) _ ⟨v,vs,rfl,rv.grow g2 r1.fit,rvs⟩
theorem dg_o(i:Nat){x:Str}{p:Pos}(hr:DG X E es dg)(hN:X.N[i]?=some x:=by rfl)(hv:Vis X.env.scope x:=by first | exact Or.inl rfl | exact Or.inr (Or.inl rfl) | exact Or.inr (Or.inr rfl))(hd:(x == ("__debug__" : Str))=false:=by decide)
  (hcd:(x == ("__classdict__" : Str))=false:=by decide) (hs:starEach (.Name x p::es) X.env=(false,eval (.Name x p) X.env)::starEach es X.env:=by rfl):DG X E (.Name x p::es) (gO i dg):=fun F S ε σ H Q rl h=>by
 unfold gO at h
 split at h
 ·rename_i po e
  obtain⟨a,e1,_⟩:=rl.own i po e
  refine wp_a (pa_cons (pe_var hN hv hd hcd) pa_wp hs) ⟨_,e1,hr F S ε σ H _ rl ((Ok.bind h).imp fun xs ε2 F2 S2 H2 r2 g2 h2 vs rvs=>?_)⟩
  exact h2 F2 S2 H2 r2 (Grow.refl ..) _ ⟨_,vs,rfl,e1,rvs⟩
 ·exact h.elim
end
def argS(ε:PEnv):List ASlot→Option PEnv
 | []=>some []
 | .inl pv::as=>(argS ε as).map (.val pv::·)
 | .inr i::as=>match ε[i]? with
  | some (.own po)=>(argS ε as).map (.own po::·)
  | _=>none
def putS:PEnv→List ASlot→PEnv→PEnv
 | ε,.inl _::as,_::ss=>putS ε as ss
 | ε,.inr i::as,s::ss=>putS (ε.set i s) as ss
 | ε,_,_=>ε
def owns:List ASlot→List Nat
 | []=>[]
 | .inl _::as=>owns as
 | .inr i::as=>i::owns as
theorem owns_mem:∀ {as:List ASlot} {i:Nat},i∈owns as↔∃ k:Nat,as[k]?=some (.inr i)
 | [],i=>by simp[owns]
 | .inl _::as,i=>by
  unfold owns
  rw[owns_mem]
  constructor
  ·rintro⟨k,h⟩; exact⟨k+1,by simpa using h⟩
  ·rintro⟨k,h⟩
   cases k with
   | zero=>simp at h
   | succ k=>exact⟨k,by simpa using h⟩
 | .inr j::as,i=>by
  unfold owns
  rw[List.mem_cons,owns_mem]
  constructor
  ·rintro(rfl | ⟨k,h⟩)
   ·exact⟨0,rfl⟩
   ·exact⟨k+1,by simpa using h⟩
  ·rintro⟨k,h⟩
   cases k with
   | zero=>simp at h; exact .inl h.symm
   | succ k=>exact .inr ⟨k,by simpa using h⟩
theorem argS_get{ε:PEnv}:∀ {as:List ASlot} {ss:PEnv},argS ε as=some ss→ss.length=as.length∧∀ (k:Nat) (s:Slot),ss[k]?=some s→(∃ pv,as[k]?=some (.inl pv)∧s = .val pv)∨∃ i po,as[k]?=some (.inr i)∧ε[i]?=some (.own po)∧s = .own po
 | [],ss,h=>by cases h; exact⟨rfl,fun k s e=>by simp at e⟩
 | .inl pv::as,ss,h=>by
  unfold argS at h
  cases e:argS ε as with
  | none=>rw[e]at h; cases h
  | some r =>
   rw[e]at h; cases h
   obtain⟨l,q⟩:=argS_get e
   refine⟨by simp[l],fun k s hk=>?_⟩
   cases k with
   | zero=>simp at hk; exact .inl ⟨pv,rfl,hk.symm⟩
   | succ k=>simpa using q k s (by simpa using hk)
 | .inr i::as,ss,h=>by
  unfold argS at h
  split at h
  ·rename_i po ei
   cases e:argS ε as with
   | none=>rw[e]at h; cases h
   | some r =>
    rw[e]at h; cases h
    obtain⟨l,q⟩:=argS_get e
    refine⟨by simp[l],fun k s hk=>?_⟩
    cases k with
    | zero=>simp at hk; exact .inr ⟨i,po,rfl,ei,hk.symm⟩
    | succ k=>simpa using q k s (by simpa using hk)
  ·cases h
theorem putS_len:∀ (as:List ASlot) (ε ss:PEnv),(putS ε as ss).length=ε.length
 | [],ε,ss=>by cases ss <;> rfl
 | .inl _::as,ε,[]=>rfl
 | .inr _::as,ε,[]=>rfl
 | .inl _::as,ε,s::ss=>putS_len as ε ss
 | .inr i::as,ε,s::ss=>by show(putS (ε.set i s) as ss).length=_; rw[putS_len,List.length_set]
theorem putS_other:∀ (as:List ASlot) (ε ss:PEnv) (j:Nat),j∉owns as→(putS ε as ss)[j]?=ε[j]?
 | [],ε,ss,j,_=>by cases ss <;> rfl
 | .inl _::as,ε,[],j,_=>rfl
 | .inr _::as,ε,[],j,_=>rfl
 | .inl _::as,ε,s::ss,j,h=>putS_other as ε ss j h
 | .inr i::as,ε,s::ss,j,h=>by
  have h1:¬ (j=i∨j∈owns as):=by simpa[owns]using h
  show(putS (ε.set i s) as ss)[j]?=_
  rw[putS_other as _ ss j fun z=>h1 (.inr z),List.getElem?_set_ne fun z=>h1 (.inl z.symm)]
theorem putS_own:∀ (as:List ASlot) (ε ss:PEnv) (j k:Nat) (s:Slot),(owns as).Nodup→j<ε.length→as[k]?=some (.inr j)→ss[k]?=some s→(putS ε as ss)[j]?=some s
 | [],ε,ss,j,k,s,_,_,h,_=>by simp at h
 | _::as,ε,[],j,k,s,_,_,_,h=>by simp at h
 | .inl _::as,ε,t::ss,j,0,s,_,_,h,_=>by simp at h
 | .inl _::as,ε,t::ss,j,k+1,s,nd,hj,h,g=>putS_own as ε ss j k s nd hj (by simpa using h) (by simpa using g)
 | .inr i::as,ε,t::ss,j,0,s,nd,hj,h,g=>by
  simp at h g
  subst h g
  have nd':i∉owns as:=(List.nodup_cons.mp nd).1
  show(putS (ε.set i t) as ss)[i]?=_
  rw[putS_other as _ ss i nd',List.getElem?_set_self hj]
 | .inr i::as,ε,t::ss,j,k+1,s,nd,hj,h,g =>
  putS_own as (ε.set i t) ss j k s (List.nodup_cons.mp nd).2 (by rw[List.length_set]; exact hj) (by simpa using h) (by simpa using g)
theorem ArgsOk.len{K:PySem.W.Frag}{σ:St}{F:Addr→Prop}{H:Hp}:∀ {as:List ASlot} {vs:List V},ArgsOk K σ F H as vs→vs.length=as.length
 | [],_,h=>by rw[show _=[] from h]; rfl
 | .inl _::as,_,⟨v,r,e,_,h⟩=>by rw[e,List.length_cons,List.length_cons,ArgsOk.len h]
 | .inr _::as,_,⟨v,r,e,_,h⟩=>by rw[e,List.length_cons,List.length_cons,ArgsOk.len h]
theorem ArgsOk.val{K:PySem.W.Frag}{σ:St}{F:Addr→Prop}{H:Hp}:∀ {as:List ASlot} {vs:List V} {k:Nat} {pv:PV},ArgsOk K σ F H as vs→as[k]?=some (.inl pv)→∃ v,vs[k]?=some v∧Rep K H F pv v
 | [],_,k,_,_,e=>by simp at e
 | .inl x::as,_,0,pv,⟨v,r,e,h,_⟩,q=>by simp at q; subst q e; exact⟨v,rfl,h⟩
 | .inr _::as,_,0,pv,_,q=>by simp at q
 | .inl x::as,_,k+1,pv,⟨v,r,e,_,h⟩,q=>by
  obtain⟨w,a,b⟩:=ArgsOk.val (k:=k) h (by simpa using q); subst e; exact⟨w,by simpa using a,b⟩
 | .inr x::as,_,k+1,pv,⟨v,r,e,_,h⟩,q=>by
  obtain⟨w,a,b⟩:=ArgsOk.val (k:=k) h (by simpa using q); subst e; exact⟨w,by simpa using a,b⟩
theorem ArgsOk.own{K:PySem.W.Frag}{σ:St}{F:Addr→Prop}{H:Hp}:∀ {as:List ASlot} {vs:List V} {k i:Nat},ArgsOk K σ F H as vs→as[k]?=some (.inr i)→∃ v,vs[k]?=some v∧σ[i]?=some (some v)
 | [],_,k,_,_,e=>by simp at e
 | .inr x::as,_,0,pv,⟨v,r,e,h,_⟩,q=>by simp at q; subst q e; exact⟨v,rfl,h⟩
 | .inl _::as,_,0,pv,_,q=>by simp at q
 | .inl x::as,_,k+1,pv,⟨v,r,e,_,h⟩,q=>by
  obtain⟨w,a,b⟩:=ArgsOk.own (k:=k) h (by simpa using q); subst e; exact⟨w,by simpa using a,b⟩
 | .inr x::as,_,k+1,pv,⟨v,r,e,_,h⟩,q=>by
  obtain⟨w,a,b⟩:=ArgsOk.own (k:=k) h (by simpa using q); subst e; exact⟨w,by simpa using a,b⟩
section
variable{K:PySem.W.Frag}{F F':Addr→Prop}{S S':Nat→Addr→Prop}{ε ss ss':PEnv}{σ:St}{H H':Hp}{as:List ASlot}{vs:List V}
def calS(as:List ASlot)(S:Nat→Addr→Prop)(k:Nat)(b:Addr):Prop:=∃ i,as[k]?=some (.inr i)∧S i b
theorem calS_sub(b:Addr)(h:U (calS as S) b):U S b:=let ⟨_,i,_,h⟩:=h; ⟨i,h⟩
theorem nodup_own:∀ {as:List ASlot} {i k l:Nat},(owns as).Nodup→as[k]?=some (.inr i)→as[l]?=some (.inr i)→k=l
 | [],_,_,_,_,h,_=>by simp at h
 | .inl _::as,i,0,_,_,h,_=>by simp at h
 | .inl _::as,i,_,0,_,_,h=>by simp at h
 | .inl _::as,i,k+1,l+1,nd,h1,h2=>by rw[nodup_own (as:=as) (i:=i) (k:=k) (l:=l) nd (by simpa using h1) (by simpa using h2)]
 | .inr j::as,i,0,0,_,_,_=>rfl
 | .inr j::as,i,0,l+1,nd,h1,h2=>by
  simp at h1; subst h1
  exact absurd (owns_mem.mpr ⟨l,by simpa using h2⟩) (List.nodup_cons.mp nd).1
 | .inr j::as,i,k+1,0,nd,h1,h2=>by
  simp at h2; subst h2
  exact absurd (owns_mem.mpr ⟨k,by simpa using h1⟩) (List.nodup_cons.mp nd).1
 | .inr j::as,i,k+1,l+1,nd,h1,h2=>by rw[nodup_own (as:=as) (i:=i) (k:=k) (l:=l) (List.nodup_cons.mp nd).2 (by simpa using h1) (by simpa using h2)]
theorem Rel.cal(r:Rel K F S ε σ H)(ha:ArgsOk K σ F H as vs)(hs:argS ε as=some ss)(nd:(owns as).Nodup):Rel K F (calS as S) ss (vs.map some) H:=by
 obtain⟨hl,hg⟩:=argS_get hs
 have up:∀ {k:Nat} {v:V},vs[k]?=some v→(vs.map some)[k]?=some (some v):=fun {k v} e=>by rw[List.getElem?_map,e]; rfl
 refine⟨by rw[hl,List.length_map,ha.len],r.ex,fun k pv e=>?_,fun k po e=>?_,fun k b h=>?_,fun k l b h1 h2=>?_⟩
 ·rcases hg k _ e with⟨p,q1,q2⟩ | ⟨_,_,_,_,z⟩
  ·cases q2
   obtain⟨v,a1,a2⟩:=ha.val q1
   exact⟨v,up a1,a2⟩
  ·cases z
 ·rcases hg k _ e with⟨_,_,z⟩ | ⟨i,p,q1,q2,q3⟩
  ·cases z
  ·cases q3
   obtain⟨v,a1,a2⟩:=ha.own q1
   obtain⟨a,b1,b2⟩:=r.own i po q2
   rw[a2]at b1
   cases b1
   have eS:calS as S k=S i:=by
    funext b
    exact propext ⟨fun⟨j,h1,h2⟩=>by rw[q1]at h1; cases h1; exact h2,fun h=>⟨i,q1,h⟩⟩
   exact⟨a,up a1,by rw[eS]; exact b2⟩
 ·obtain⟨i,h1,h2⟩:=h
  obtain⟨⟨po,q⟩,q2⟩:=r.foot i b h2
  have hk:k<ss.length:=by rw[hl]; exact(List.getElem?_eq_some_iff.mp h1).1
  refine⟨?_,q2⟩
  rcases hg k ss[k] (by simp[hk])with⟨_,z,_⟩ | ⟨j,p,z1,z2,z3⟩
  ·rw[h1]at z; cases z
  ·exact⟨p,by rw[List.getElem?_eq_getElem hk,z3]⟩
 ·obtain⟨i,a1,a2⟩:=h1
  obtain⟨j,b1,b2⟩:=h2
  have:=r.dist i j b a2 b2
  subst this
  exact nodup_own nd a1 b1
theorem Rel.called{O':Addr→Prop}(r:Rel K F S ε σ H)(ha:ArgsOk K σ F H as vs)(hs:argS ε as=some ss)(nd:(owns as).Nodup)(r':Rel K F' S' ss' (vs.map some) H')(g:Grow (U (calS as S)) O' F F' H H')(hO:∀ b,U S' b→O' b)
  (hso:∀ (k:Nat) i,as[k]?=some (.inr i)→∃ po,ss'[k]?=some (.own po)) :
  ∃ S2,Rel K F' S2 (putS ε as ss') σ H'∧Grow (U S) (U S2) F F' H H'∧∀ b,U S2 b→U S' b∨U S b:=by
 have up:∀ {k:Nat} {v:V},(vs.map some)[k]?=some (some v)→vs[k]?=some v:=fun {k v} e=>by
  rw[List.getElem?_map]at e
  cases q:vs[k]? with
  | none=>rw[q]at e; cases e
  | some x=>rw[q]at e; cases e; rfl
 have fit:Fit (U (calS as S)) F H:=fun b h=>r.fit b (calS_sub b h)
 have slen:∀ i po,ε[i]?=some (.own po)→i<ε.length:=fun i po e=>(List.getElem?_eq_some_iff.mp e).1
 have lt:∀ (k:Nat) i,as[k]?=some (.inr i)→i<ε.length:=fun k i e=>by
  obtain⟨hl,hg⟩:=argS_get hs
  have hk:k<ss.length:=by rw[hl]; exact(List.getElem?_eq_some_iff.mp e).1
  rcases hg k ss[k] (by simp[hk])with⟨_,z,_⟩ | ⟨j,p,z1,z2,z3⟩
  ·rw[e]at z; cases z
  ·rw[e]at z1; cases z1; exact slen _ _ z2
 refine⟨fun j b=>(∃ k:Nat,as[k]?=some (.inr j)∧S' k b)∨(j∉owns as∧S j b),⟨by rw[putS_len]; exact r.len,r'.ex,fun j pv e=>?_,fun j po e=>?_,fun j b h=>?_,fun i j b h1 h2=>?_⟩,⟨g.fro,fun b o e n=>g.keep b o e fun z=>n (calS_sub b z),g.there,fun a z=>(g.fnew a z).imp id fun w=>w.imp id (calS_sub a),fun b ⟨j,z⟩=>?_⟩,fun b ⟨j,z⟩=>?_⟩
 ·by_cases hj:j∈owns as
  ·obtain⟨k,hk⟩:=owns_mem.mp hj
   obtain⟨po,q⟩:=hso k j hk
   rw[putS_own as ε ss' j k _ nd (lt k j hk) hk q]at e
   cases e
  ·rw[putS_other as ε ss' j hj]at e
   obtain⟨v,h1,h2⟩:=r.val j pv e
   exact⟨v,h1,h2.grow g fit⟩
 ·by_cases hj:j∈owns as
  ·obtain⟨k,hk⟩:=owns_mem.mp hj
   obtain⟨po',q⟩:=hso k j hk
   rw[putS_own as ε ss' j k _ nd (lt k j hk) hk q]at e
   cases e
   obtain⟨a,h1,h2⟩:=r'.own k po q
   obtain⟨v,a1,a2⟩:=ha.own hk
   rw[up h1]at a1
   cases a1
   have eS:(fun b=>(∃ k:Nat,as[k]?=some (.inr j)∧S' k b)∨(j∉owns as∧S j b))=S' k:=by
    funext b
    refine propext ⟨fun z=>?_,fun z=>.inl ⟨k,hk,z⟩⟩
    rcases z with⟨l,z1,z2⟩ | ⟨z,_⟩
    ·rw[nodup_own nd hk z1]; exact z2
    ·exact absurd hj z
   exact⟨a,a2,by rw[eS]; exact h2⟩
  ·rw[putS_other as ε ss' j hj]at e
   obtain⟨a,h1,h2⟩:=r.own j po e
   have eS:(fun b=>(∃ k:Nat,as[k]?=some (.inr j)∧S' k b)∨(j∉owns as∧S j b))=S j:=by
    funext b
    refine propext ⟨fun z=>?_,fun z=>.inr ⟨hj,z⟩⟩
    rcases z with⟨l,z1,z2⟩ | ⟨_,z⟩
    ·exact absurd (owns_mem.mpr ⟨l,z1⟩) hj
    ·exact z
   have h3:Own K H' F' po a (S j):=by
    refine h2.mono (fun _ _ q=>q.grow g fit) (fun _ _ q=>q.grow g fit) fun b o z q=>g.keep b o q fun⟨l,i,w1,w2⟩=>?_
    have:=r.dist i j b w2 z
    subst this
    exact hj (owns_mem.mpr ⟨l,w1⟩)
   exact⟨a,h1,by rw[eS]; exact h3⟩
 ·rcases h with⟨k,h1,h2⟩ | ⟨h1,h2⟩
  ·obtain⟨⟨po,q⟩,q2⟩:=r'.foot k b h2
   exact⟨⟨po,putS_own as ε ss' j k _ nd (lt k j h1) h1 q⟩,q2⟩
  ·obtain⟨⟨po,q⟩,q2,o,q3,q4⟩:=r.foot j b h2
   have no:¬ U (calS as S) b:=fun⟨l,i,w1,w2⟩=>by
    have:=r.dist i j b w2 h2
    subst this
    exact h1 (owns_mem.mpr ⟨l,w1⟩)
   refine⟨⟨po,by rw[putS_other as ε ss' j h1]; exact q⟩,fun z=>?_,o,g.keep b o q3 no,q4⟩
   rcases g.fnew b z with w | w | w
   ·exact q2 w
   ·rw[q3]at w; cases w
   ·exact no w
 ·have cross:∀ {i j:Nat} {b:Addr},(∃ k:Nat,as[k]?=some (.inr i)∧S' k b)→(j∉owns as∧S j b)→False:=fun {i j b} ⟨k,w1,w2⟩ ⟨w3,w4⟩=>by
   obtain⟨_,_,o,q3,_⟩:=r.foot j b w4
   rcases g.onew b (hO b ⟨k,w2⟩)with⟨l,i',z1,z2⟩ | z
   ·have:=r.dist i' j b z2 w4
    subst this
    exact w3 (owns_mem.mpr ⟨l,z1⟩)
   ·rw[q3]at z; cases z
  rcases h1 with h1 | h1 <;> rcases h2 with h2 | h2
  ·obtain⟨k,a1,a2⟩:=h1
   obtain⟨l,b1,b2⟩:=h2
   have:=r'.dist k l b a2 b2
   subst this
   rw[a1]at b1; cases b1; rfl
  ·exact(cross h1 h2).elim
  ·exact(cross h2 h1).elim
  ·exact r.dist i j b h1.2 h2.2
 ·rcases z with⟨k,_,z⟩ | ⟨_,z⟩
  ·rcases g.onew b (hO b ⟨k,z⟩)with w | w
   ·exact .inl (calS_sub b w)
   ·exact .inr w
  ·exact .inl ⟨j,z⟩
 ·rcases z with⟨k,_,z⟩ | ⟨_,z⟩
  ·exact .inl ⟨k,z⟩
  ·exact .inr ⟨j,z⟩
end
def DR(X:Cx)(E:XK)(e:Expr)(d:PEnv→R Slot):Prop :=
 ∀ F S ε σ H Q,Rel X.K F S ε σ H→Ok X.K E σ F S H (d ε) (fun s _ F' S' H'=>∀ v Sr,RepS X.K H' F' s v Sr→(∀ b,Sr b→H b=none∧¬ F' b∧¬ U S' b∧∃ o,H' b=some o∧notImm o)→Q v H')→wpE X e σ H Q
def keptO:List ASlot→PEnv→Bool
 | [],_=>true
 | .inl _::as,_::ss=>keptO as ss
 | .inr _::as,.own _::ss=>keptO as ss
 | _,_=>false
theorem keptO_get:∀ {as:List ASlot} {ss:PEnv},keptO as ss=true→∀ (k:Nat) i,as[k]?=some (.inr i)→∃ po,ss[k]?=some (.own po)
 | [],_,_,k,i,h=>by simp at h
 | .inl _::as,s::ss,q,0,i,h=>by simp at h
 | .inl _::as,s::ss,q,k+1,i,h=>by simpa using keptO_get (as:=as) (ss:=ss) (by unfold keptO at q; exact q) k i (by simpa using h)
 | .inr _::as,.own po::ss,q,0,i,h=>⟨po,rfl⟩
 | .inr _::as,.own po::ss,q,k+1,i,h=>by simpa using keptO_get (as:=as) (ss:=ss) (by unfold keptO at q; exact q) k i (by simpa using h)
 | .inr _::as,.val _::ss,q,k,i,h=>by cases q
 | .inr _::as,.none::ss,q,k,i,h=>by cases q
 | .inl _::as,[],q,k,i,h=>by cases q
 | .inr _::as,[],q,k,i,h=>by cases q
def putR{α:Type}(ε:PEnv)(as:List ASlot)(r:R α):R α:=match r with
 | .ok s ss'=>if keptO as ss' then .ok s (putS ε as ss')else .no
 | .er c ss'=>if keptO as ss' then .er c (putS ε as ss')else .no
 | .no=>.no
def dCall(g:PEnv→R Slot)(dg:PEnv→R (List ASlot)):PEnv→R Slot:=fun ε=>(dg ε).bind fun as ε1=>(lift (if(owns as).Nodup then argS ε1 as else none) ε1).bind fun ss ε1=>putR ε1 as (g ss)
section
variable{CX:CXT}{X:Cx}{E:XK}{pin:List Nat}{e:Expr}{es:List Expr}{dg:PEnv→R (List ASlot)}{pos:Pos}{x:Str}{k:Nat}{ps:List Str}{g:PEnv→R Slot}{p:Pos}{d:PEnv→R Slot}
theorem dr_call(c:CalX CX X.prog X.w X.K X.mg X.base x k ps (spG X.K g))(hr:Room k X.A)(hx:Passes CX X E)(ha:DG X E (e::es) dg)(hg:Gl X x:=by rfl)
  (hd:(x == ("__debug__" : Str))=false:=by decide) (h1:starEach (e::es) X.env=(false,eval e X.env)::starEach es X.env:=by rfl) (h2:(backTo pos (starEach es X.env)).any (·.1)=false:=by rfl) :
  DR X E (.Call (.Name x p) (e::es) [] pos) (dCall g dg):=fun F S ε σ H Q rl h=>by
 obtain⟨f,fd,hm,Fn,hb,hk⟩:=c.ex
 refine wp_e (pe_call Fn hr hg hm hk hb .nil hx pa_wp hd h1 h2) (ha F S ε σ H _ rl ((Ok.bind h).imp fun as ε1 F1 S1 H1 r1 g1 q vs av=>?_))
 have q:=Ok.bind q
 by_cases nd:(owns as).Nodup
 ·rw[if_pos nd]at q
  cases es:argS ε1 as with
  | none=>rw[es]at q; exact q.elim
  | some ss =>
   rw[es]at q
   have q:=q F1 S1 H1 r1 (Grow.refl ..)
   dsimp only at q
   rw[List.append_nil]
   refine⟨F1,calS as S1,ss,r1.cal av es nd,?_⟩
   cases eg:g ss with
   | no=>rw[eg]at q; exact q.elim
   | er cv ss' =>
    rw[eg]at q
    intro y F' S' H' r' g'
    unfold putR at q
    dsimp only at q
    by_cases kp:keptO as ss'=true
    ·rw[if_pos kp]at q
     obtain⟨S2,r2,g2,_⟩:=r1.called av es nd r' g' (fun _ z=>z) (keptO_get kp)
     exact q y F' S2 H' r2 g2
    ·rw[if_neg kp]at q; exact q.elim
   | ok s ss' =>
    rw[eg]at q
    intro v F' S' H' Sr r' g' rv lo fr
    unfold putR at q
    dsimp only at q
    by_cases kp:keptO as ss'=true
    ·rw[if_pos kp]at q
     obtain⟨S2,r2,g2,u2⟩:=r1.called av es nd r' g' (fun _ z=>.inl z) (keptO_get kp)
     refine q F' S2 H' r2 g2 v Sr rv fun b z=>⟨fresh_back g1 (fr b z),(lo b z).1,fun w=>?_,(lo b z).2.2⟩
     rcases u2 b w with w | ⟨i,w⟩
     ·exact(lo b z).2.1 w
     ·obtain⟨_,_,o,y1,_⟩:=r1.foot i b w
      rw[fr b z]at y1; cases y1
    ·rw[if_neg kp]at q; exact q.elim
 ·rw[if_neg nd]at q; exact q.elim
def frzS:Slot→Option PV
 | .val pv=>some pv
 | .own (.lst xs)=>some (.lst xs)
 | _=>none
def dRE(d:PEnv→R Slot):PEnv→R PV:=fun ε=>(d ε).bind fun s ε1=>lift (frzS s) ε1
def newS:Slot→Option PO
 | .own po=>some po
 | _=>none
def dRN(d:PEnv→R Slot):PEnv→R PO:=fun ε=>(d ε).bind fun s ε1=>lift (newS s) ε1
theorem DR.dn(h:DR X E e d):DN X E e (dRN d):=fun F S ε σ H Q rl q=>by
 unfold dRN at q
 refine h F S ε σ H Q rl ?_
 cases e0:d ε with
 | no=>rw[e0]at q; exact q.elim
 | er c ε'=>rw[e0]at q; exact q
 | ok s ε1 =>
  rw[e0]at q
  cases s with
  | none=>exact q.elim
  | val pv=>exact q.elim
  | own po =>
   intro F1 S1 H1 r1 g1 v Sr rv fr
   obtain⟨a,rfl,ow⟩:=rv
   exact q F1 S1 H1 r1 g1 a Sr ow fr
theorem DR.de(h:DR X E e d):DE X E e (dRE d):=fun F S ε σ H Q rl q=>by
 unfold dRE at q
 cases e0:d ε with
 | no=>rw[e0]at q; exact q.elim
 | er c ε'=>refine h F S ε σ H Q rl ?_; rw[e0]at q ⊢; exact q
 | ok s ε1 =>
  cases s with
  | none=>rw[e0]at q; exact q.elim
  | val pv =>
   refine h F S ε σ H Q rl ?_
   rw[e0]at q ⊢
   exact fun F1 S1 H1 r1 g1 v Sr rv fr=>q F1 S1 H1 r1 g1 v rv.1
  | own po =>
   refine h.dn.de F S ε σ H Q rl ?_
   unfold dF dRN
   rw[e0]at q ⊢
   cases po with
   | lst xs=>exact q
   | dK kvs=>exact q
   | lls xss=>exact q
   | ins C fs=>exact q
def dRetR(d:PEnv→R Slot):PEnv→R Flw:=fun ε=>(d ε).bind fun s ε1=>.ok (.ret s) ε1
theorem ds_retR(he:DR X E e d):DS X E pin (.Return (some e) pos) (dRetR d):=fun F S ε σ H D rl h=>by
 refine wp_s (ps_ret pe_wp) (he F S ε σ H _ rl ?_)
 unfold dRetR at h
 cases e0:d ε with
 | no=>rw[e0]at h; exact h.elim
 | er c ε'=>rw[e0]at h; exact fun x F' S' H' r' g'=>h x F' S' σ H' r' g' (PinOk.refl _ _)
 | ok s ε1 =>
  rw[e0]at h
  intro F1 S1 H1 r1 g1 v Sr rv fr
  exact h v F1 S1 σ H1 Sr r1 ⟨g1.fro,g1.keep,g1.there,g1.fnew,fun b z=>z.elim (g1.onew b) fun w=>.inr (fr b w).1⟩ (PinOk.refl _ _) rv fun b z=>(fr b z).2
def dDropR(d:PEnv→R Slot):PEnv→R Flw:=fun ε=>(d ε).bind fun _ ε1=>.ok .next ε1
theorem ds_exprR(he:DR X E e d)(hs:swapsWith e none pos.line X.env=pure false:=by rfl):DS X E pin (.Expr e pos) (dDropR d):=fun F S ε σ H D rl h =>
 wp_s (ps_expr pe_wp hs) (he F S ε σ H _ rl (h.bindE.imp fun x ε1 F1 S1 H1 r1 g1 h1 v Sr rv fr=>h1 F1 S1 σ H1 r1 (Grow.refl ..) (PinOk.refl _ _)))
end
end Pu
namespace Pu
open PySem PySem.Spec PyProof.Rows L2
def capA(ε:PEnv):List Nat→Option (List ASlot)
 | []=>some []
 | j::cap=>match ε[j]? with
  | some (.val pv)=>(capA ε cap).map (.inl pv::·)
  | some (.own _)=>(capA ε cap).map (.inr j::·)
  | _=>none
def dBlk{α:Type}(cap:List Nat)(d:PEnv→R α)(x:PV):PEnv→R α:=fun ε=>(lift (capA ε cap) ε).bind fun as _=>(lift (if(owns as).Nodup then argS ε (.inl x::as)else none) ε).bind fun ss _=>putR ε (.inl x::as) (d ss)
def noE{α:Type}(r:R α):R α:=match r with
 | .er _ _=>.no
 | r=>r
def compD(cap:List Nat)(dt:PEnv→R Bool)(de:PEnv→R PV):List PV→List PV→PEnv→R (List PV)
 | [],acc,ε=>.ok acc ε
 | x::xs,acc,ε=>(noE (dBlk cap dt x ε)).bind fun k ε1=>match k with
  | true=>(noE (dBlk cap de x ε1)).bind fun y ε2=>compD cap dt de xs (acc++[y]) ε2
  | false=>compD cap dt de xs acc ε1
def dComp(cap:List Nat)(di:PEnv→R (List PV))(dt:PEnv→R Bool)(de:PEnv→R PV):PEnv→R PO:=fun ε=>(di ε).bind fun xs ε1=>(compD cap dt de xs [] ε1).bind fun ys ε2=>.ok (.lst ys) ε2
theorem capA_ok{K:PySem.W.Frag}{F:Addr→Prop}{S:Nat→Addr→Prop}{ε:PEnv}{σ:St}{H:Hp}(r:Rel K F S ε σ H):∀ {cap:List Nat} {as:List ASlot},capA ε cap=some as→∃ vs,ArgsOk K σ F H as vs∧capSt σ cap=vs.map some
 | [],as,h=>by cases h; exact⟨[],rfl,rfl⟩
 | j::cap,as,h=>by
  unfold capA at h
  split at h
  ·rename_i pv e
   cases q:capA ε cap with
   | none=>rw[q]at h; cases h
   | some bs =>
    rw[q]at h; cases h
    obtain⟨vs,h1,h2⟩:=capA_ok r q
    obtain⟨v,e1,e2⟩:=r.val j pv e
    refine⟨v::vs,⟨v,vs,rfl,e2,h1⟩,?_⟩
    show(σ[j]?).join::capSt σ cap=_
    rw[e1,h2]; rfl
  ·rename_i po e
   cases q:capA ε cap with
   | none=>rw[q]at h; cases h
   | some bs =>
    rw[q]at h; cases h
    obtain⟨vs,h1,h2⟩:=capA_ok r q
    obtain⟨a,e1,e2⟩:=r.own j po e
    refine⟨.ref a::vs,⟨_,vs,rfl,e1,h1⟩,?_⟩
    show(σ[j]?).join::capSt σ cap=_
    rw[e1,h2]; rfl
  ·cases h
theorem blk_ok{K:PySem.W.Frag}{E:XK}{F:Addr→Prop}{S:Nat→Addr→Prop}{ε:PEnv}{σ:St}{H:Hp}{α:Type}{cap:List Nat}{d:PEnv→R α}{x:PV}{v:V}{C:α→PEnv→(Addr→Prop)→(Nat→Addr→Prop)→Hp→Prop}
  (r:Rel K F S ε σ H) (rx:Rep K H F x v) (h:Ok K E σ F S H (noE (dBlk cap d x ε)) C) :
  ∃ Sb ss,Rel K F Sb ss (some v::capSt σ cap) H∧Ok K E0 (some v::capSt σ cap) F Sb H (d ss) (fun a _ F' _ H'=>∃ ε' S',Rel K F' S' ε' σ H'∧Grow (U S) (U S') F F' H H'∧C a ε' F' S' H'):=by
 unfold dBlk at h
 cases ec:capA ε cap with
 | none=>rw[ec]at h; exact h.elim
 | some as =>
  rw[ec]at h
  simp only[lift_some,R.bind_ok]at h
  by_cases nd:(owns as).Nodup
  ·rw[if_pos nd]at h
   cases es:argS ε (.inl x::as)with
   | none=>rw[es]at h; exact h.elim
   | some ss =>
    rw[es]at h
    simp only[lift_some,R.bind_ok]at h
    obtain⟨vs,av,ev⟩:=capA_ok r ec
    have av':ArgsOk K σ F H (.inl x::as) (v::vs):=⟨v,vs,rfl,rx,av⟩
    have eσ:some v::capSt σ cap=(v::vs).map some:=by rw[ev]; rfl
    have nd':(owns (.inl x::as)).Nodup:=nd
    refine⟨calS (.inl x::as) S,ss,by rw[eσ]; exact r.cal av' es nd',?_⟩
    rw[eσ]
    cases ed:d ss with
    | no=>rw[ed]at h; exact h.elim
    | er c ss' =>
     rw[ed]at h
     unfold putR at h
     dsimp only at h
     by_cases kp:keptO (.inl x::as) ss'=true
     ·rw[if_pos kp]at h; exact h.elim
     ·rw[if_neg kp]at h; exact h.elim
    | ok a ss' =>
     rw[ed]at h
     intro F' S' H' r' g'
     unfold putR at h
     dsimp only at h
     by_cases kp:keptO (.inl x::as) ss'=true
     ·rw[if_pos kp]at h
      obtain⟨S2,r2,g2,_⟩:=r.called av' es nd' r' g' (fun _ z=>z) (keptO_get kp)
      exact⟨_,S2,r2,g2,h F' S2 H' r2 g2⟩
     ·rw[if_neg kp]at h; exact h.elim
  ·rw[if_neg nd]at h; exact h.elim
def wpF(X:Cx)(ifs:List Expr):TT:=fun σ H Q=>Bx (∀ pins s,Inv X pins σ H s→wpAny (model X.prog X.w) X.A (forIn ifs true fun c r=>if r=true then do let ok ← isTrue c X.env (eval c X.env); pure (ForInStep.yield ok)else pure (ForInStep.yield r)) (TP X pins σ Q) X.xe s)
def DF(X:Cx)(E:XK)(ifs:List Expr)(d:PEnv→R Bool):Prop:=∀ F S ε σ H Q,Rel X.K F S ε σ H→Ok X.K E σ F S H (d ε) (fun b _ _ _ H'=>Q b H')→wpF X ifs σ H Q
def dYes:PEnv→R Bool:=fun ε=>.ok true ε
theorem df_nil{X:Cx}{E:XK}:DF X E [] dYes:=fun F S ε σ H Q rl h=>⟨fun pins s I=>pif_nil pins s σ H Q I (h F S H rl (Grow.refl ..))⟩
theorem df_one{X:Cx}{E:XK}{c:Expr}{d:PEnv→R Bool}(h:DT X E c d):DF X E [c] d:=fun F S ε σ H Q rl q=>⟨fun pins s I=>pif_one pt_wp pins s σ H Q I (h F S ε σ H Q rl q)⟩
theorem Ok.bindB{K:PySem.W.Frag}{E:XK}{σ:St}{F F1:Addr→Prop}{S S1:Nat→Addr→Prop}{H H1:Hp}{α β:Type}{D:β→PEnv→(Addr→Prop)→(Nat→Addr→Prop)→Hp→Prop}{r:R α}{k:α→PEnv→R β}(h:Ok K E σ F S H (r.bind k) D)(g:Grow (U S) (U S1) F F1 H H1) :
  Ok K E σ F1 S1 H1 r (fun a ε1 _ _ _=>Ok K E σ F S H (k a ε1) D):=by
 cases r with
 | no=>exact h
 | er c ε'=>exact fun x F' S' H' r' g'=>h x F' S' H' r' (g.trans g')
 | ok a ε'=>exact fun F' S' H' r' g'=>h
section
variable{X:Cx}{E:XK}{scope:Scope}{x:Str}{N':List Str}{cap:List Nat}
theorem Grow.stay{O O' F F':Addr→Prop}{H H':Hp}(g:Grow O O' F F' H H'){l:Addr}{o:HO}(e:H l=some o)(n:¬ O l)(nF:¬ F l):H' l=some o∧¬ F' l∧¬ O' l :=
 ⟨g.keep l o e n,fun z=>(g.fnew l z).elim nF fun w=>w.elim (fun q=>by rw[e]at q; cases q) n,fun z=>(g.onew l z).elim n fun q=>by rw[e]at q; cases q⟩
theorem comp_t{elt iter:Expr}{px:Pos}{ifs:List Expr}{di:PEnv→R (List PV)}{dt:PEnv→R Bool}{de:PEnv→R PV}(hi:DI X E (.Name x px) iter di)
  (ht:∀ C s₀ H₀ ex pn,DF (blk X scope N' C s₀ H₀ ex pn) E0 ifs dt) (he:∀ C s₀ H₀ ex pn,DE (blk X scope N' C s₀ H₀ ex pn) E0 elt de)
  {F:Addr→Prop} {S:Nat→Addr→Prop} {ε:PEnv} {σ:St} {H:Hp} {Q:VK} (rl:Rel X.K F S ε σ H) (h:Ok X.K E σ F S H (dComp cap di dt de ε) (fun po _ F' S' H'=>∀ a Sa,Own X.K H' F' po a Sa→(∀ b,Sa b→H b=none∧¬ F' b∧¬ U S' b∧∃ o,H' b=some o∧notImm o)→Q (.ref a) H')) :
  tComp (wpI X (.Name x px) iter) (fun σ H Q=>∀ C s₀ H₀ ex pn,wpF (blk X scope N' C s₀ H₀ ex pn) ifs σ H Q) (fun σ H Q=>∀ C s₀ H₀ ex pn,wpE (blk X scope N' C s₀ H₀ ex pn) elt σ H Q) cap σ H Q:=by
 refine hi F S ε σ H _ rl ((Ok.bind h).imp fun xs ε1 F1 S1 H1 r1 g1 h1 J vs RR rs hz hw keep l hl=>?_)
 have h1:=h1.bind
 have hvl:vs.length=xs.length:=rs.len
 have a0:Al F1 F1 H1 (upd H1 l (.lst [])):=Al.new0 hl
 have nF1:¬ F1 l:=fun z=>by obtain⟨o,q⟩:=r1.ex l z; rw[hl]at q; cases q
 have nS1:¬ U S1 l:=fun⟨i,z⟩=>by obtain⟨_,_,o,q,_⟩:=r1.foot i l z; rw[hl]at q; cases q
 have hH:H l=none:=fresh_back g1 hl
 refine⟨fun i m ys H'=>m=xs.length-i∧i≤xs.length∧∃ F' S' ε' acc,Rel X.K F' S' ε' σ H'∧Grow (U S1) (U S') F1 F' H1 H'∧H' l=some (.lst ys)∧¬ F' l∧¬ U S' l∧Reps X.K H' F' acc ys∧ys.length≤i ∧
  Ok X.K E σ F1 S1 H1 (compD cap dt de (xs.drop i) acc ε') (fun ys' ε2 F2 S2 H2=>Ok X.K E σ F2 S2 H2 (R.ok (PO.lst ys') ε2) (fun po _ F' S' H'=>∀ a Sa,Own X.K H' F' po a Sa→(∀ b,Sa b→H b=none∧¬ F' b∧¬ U S' b∧∃ o,H' b=some o∧notImm o)→Q (.ref a) H')),
  ⟨_,rfl,Nat.zero_le _,F1,S1,ε1,[],r1.al a0,a0.grow,upd_same,nF1,nS1,rfl,Nat.le_refl _,h1⟩,?_⟩
 rintro i m ys H2 ⟨rfl,hi,F2,S2,ε2,acc,r2,g2,el,nF2,nS2,racc,hyl,q2⟩
 have RH:=keep S2 F2 H2 g2
 by_cases hlt:i<xs.length
 ·obtain⟨v,hv⟩:∃ v,vs[i]?=some v:=⟨_,List.getElem?_eq_getElem (by ac_rfl)⟩
  obtain⟨go,yl⟩:=(hw H2 RH i).1 v hv
  refine .inr ⟨go,fun v' H' y=>?_⟩
  obtain⟨e1,e2⟩:=yl v' H' y
  subst e1 e2
  obtain⟨px',hx,rx⟩:=rs.back hv
  have ed:xs.drop i=px'::xs.drop (i+1):=by
   rw[List.drop_eq_getElem_cons hlt]
   congr 1
   exact(List.getElem?_eq_some_iff.mp hx).2
  rw[ed]at q2
  have rx2:=rx.grow g2 r1.fit
  have q3:=Ok.bindB q2 g2
  obtain⟨Sb,ss,rb,okb⟩:=blk_ok r2 rx2 q3
  intro C s₀ H₀ ex pn
  refine ht C s₀ H₀ ex pn F2 Sb ss _ H' _ rb (okb.imp fun b _ F3 _ H3 _ _ ⟨ε3,S3,r3,g3,q4⟩=>?_)
  obtain⟨el3,nF3,nS3⟩:=g3.stay el nS2 nF2
  cases b with
  | false=>exact iteF ⟨_,by ac_rfl,rfl,hlt,F3,S3,ε3,acc,r3,g2.trans g3,el3,nF3,nS3,racc.grow g3 r2.fit,by ac_rfl,q4⟩
  | true =>
   refine iteT ?_
   have q5:Ok X.K E σ F1 S1 H1 ((noE (dBlk cap de px' ε3)).bind fun y ε2=>compD cap dt de (xs.drop (i+1)) (acc++[y]) ε2) _:=q4
   obtain⟨Sc,sc,rc,okc⟩:=blk_ok r3 (rx2.grow g3 r2.fit) (Ok.bindB q5 (g2.trans g3))
   intro C s₀ H₀ ex pn
   refine he C s₀ H₀ ex pn F3 Sc sc _ H3 _ rc (okc.imp fun y _ F4 _ H4 _ _ ⟨ε4,S4,r4,g4,q6⟩ u ru=>?_)
   obtain⟨el4,nF4,nS4⟩:=g4.stay el3 nS3 nF3
   have racc4:=(racc.grow g3 r2.fit).grow g4 r3.fit
   -- the item is laid
   have gl:Grow (fun b=>U S4 b∨b=l) (U S4) F4 F4 H4 (upd H4 l (.lst (ys++[u]))):=⟨fun _ z=>z,fun b o e n=>by rw[upd_ne fun z=>n (.inr z)]; exact e,fun b o e=>by
    by_cases hb:b=l
    ·subst hb; exact⟨_,upd_same⟩
    ·exact⟨o,by rw[upd_ne hb]; exact e⟩,fun _ z=>.inl z,fun _ z=>.inl (.inl z)⟩
   have fit4:Fit (fun b=>U S4 b∨b=l) F4 H4:=fun b z=>by
    rcases z with z | rfl
    ·exact r4.fit b z
    ·exact⟨nF4,_,el4,trivial⟩
   have r5:Rel X.K F4 S4 ε4 σ (upd H4 l (.lst (ys++[u]))):=by
    refine⟨r4.len,fun b z=>let ⟨o,q⟩:=r4.ex b z; gl.there b o q,fun j pv e=>?_,fun j po e=>?_,fun j b z=>?_,r4.dist⟩
    ·obtain⟨w,x1,x2⟩:=r4.val j pv e; exact⟨w,x1,x2.grow gl fit4⟩
    ·obtain⟨w,x1,x2⟩:=r4.own j po e
     refine⟨w,x1,x2.mono (fun _ _ q=>q.grow gl fit4) (fun _ _ q=>q.grow gl fit4) fun b o z q=>?_⟩
     rw[upd_ne (by rintro rfl; exact nS4 ⟨j,z⟩)]; exact q
    ·obtain⟨x1,x2,o,x3,x4⟩:=r4.foot j b z
     exact⟨x1,x2,o,by rw[upd_ne (by rintro rfl; exact nS4 ⟨j,z⟩)]; exact x3,x4⟩
   have g5:Grow (U S1) (U S4) F1 F4 H1 (upd H4 l (.lst (ys++[u]))):=by
    have gg:=(g2.trans g3).trans g4
    refine⟨gg.fro,fun b o e n=>?_,fun b o e=>?_,gg.fnew,gg.onew⟩
    ·rw[upd_ne (by rintro rfl; rw[hl]at e; cases e)]; exact gg.keep b o e n
    ·obtain⟨o',q⟩:=gg.there b o e; exact gl.there b o' q
   refine⟨el4,?_,_,by ac_rfl,rfl,hlt,F4,S4,ε4,acc++[y],r5,g5,upd_same,nF4,nS4,(racc4.grow gl fit4).app (.one (ru.grow gl fit4)),by simp; ac_rfl,q6⟩
   ac_rfl
 ·have e:i=xs.length:=by ac_rfl
  subst e
  refine .inl ⟨(hw H2 RH _).2 hvl.symm,?_⟩
  rw[List.drop_length]at q2
  exact q2 F2 S2 H2 r2 g2 F2 S2 H2 r2 (Grow.refl ..) l (fun b=>b=l) ⟨⟨ys,el,racc⟩,fun b=>Iff.rfl⟩ fun b z=>by subst z; exact⟨hH,nF2,nS2,_,el,trivial⟩
theorem dn_comp{elt iter:Expr}{px pos:Pos}{ifs:List Expr}{di:PEnv→R (List PV)}{dt:PEnv→R Bool}{de:PEnv→R PV}(B:BlkOk X scope x N' cap)(hc:X.calm=true)(hi:DI X E (.Name x px) iter di)
  (ht:∀ C s₀ H₀ ex pn,DF (blk X scope N' C s₀ H₀ ex pn) E0 ifs dt) (he:∀ C s₀ H₀ ex pn,DE (blk X scope N' C s₀ H₀ ex pn) E0 elt de) (hs:∀ x,foldedSetIterable iter X.env x=pure x:=by intro _; rfl) :
  DN X E (.ListComp elt [⟨.Name x px,iter,ifs,0⟩] scope pos) (dComp cap di dt de):=fun F S ε σ H Q rl h =>
 wp_e (pe_comp (wi:=wpI X (.Name x px) iter) (ts:=fun σ H Q=>∀ C s₀ H₀ ex pn,wpF (blk X scope N' C s₀ H₀ ex pn) ifs σ H Q) (te:=fun σ H Q=>∀ C s₀ H₀ ex pn,wpE (blk X scope N' C s₀ H₀ ex pn) elt σ H Q) (pos:=pos) B hc pi_wp
  (fun C s₀ H₀ ex pn pins s σ H Q I h=>(h C s₀ H₀ ex pn).run pins s I) (fun C s₀ H₀ ex pn pins s σ H Q I h=>(h C s₀ H₀ ex pn).run pins s I) hs) (comp_t hi ht he rl h)
end
end Pu
namespace Pu
open PySem PySem.Spec PyProof.Rows L2
theorem tS_app'(x y:Tx):tS x++tS y=tS (x++y):=by
 show(⟨x.toArray++y.toArray⟩:Str)=⟨(x++y).toArray⟩
 simp
def addP:PV→PV→Option PV
 | .int i,.int j=>some (.int (i+j))
 | .str x,.str y=>if(x++y).length≤maxS then some (.str (x++y))else none
 | .tup xs,.tup ys=>if xs≠[]∧ys≠[]∧xs.length+ys.length≤1000 then some (.tup (xs++ys))else none
 | .lst xs,.lst ys=>if xs.length+ys.length≤maxS then some (.lst (xs++ys))else none
 | _,_=>none
def subP:PV→PV→Option PV
 | .int i,.int j=>some (.int (i-j))
 | _,_=>none
def small64(i:Int):Bool:=decide (-(2 ^ 64)<i∧i<2 ^ 64)
def mulP:PV→PV→Option PV
 | .int i,.int j=>if small64 i || small64 j then some (.int (i * j))else none
 | .str x,.int j=>if 0≤j∧j≤100∧x.length≤100 then some (.str (List.replicate j.toNat x).flatten)else none
 | _,_=>none
def modP:PV→PV→Option PV
 | .int i,.int j=>if 0<j then some (.int (i % j))else none
 | _,_=>none
def powP:PV→PV→Option PV
 | .int i,.int j=>if 0≤j∧j≤1000000∧i.natAbs<2 ^ 64 then some (.int (i ^ j.toNat))else none
 | _,_=>none
def negP:PV→Option PV
 | .int i=>some (.int (-i))
 | _=>none
def rCatQ:R2:=fun x y H Q=>∃ l b xs zs,x = .ref l∧y = .ref b∧Rd H l (.lst xs)∧Rd H b (.lst zs)∧xs.length+zs.length≤sizeLine∧∀ p,H p=none→Q (.ref p) (upd H p (.lst (xs++zs)))
def rAddQ(K:PySem.W.Frag):R2:=fun x y H Q=>((rI0 fun i j=>V.int (i+j)) x y H Q∨∃ i j,x = .str i∧y = .str j∧i.length+j.length≤sizeLine∧Q (.str (i++j)) H)∨(rCatT K x y H Q∨rCatQ x y H Q)
def rMulQ:R2:=fun x y H Q=>rI CMul (fun i j=>.int (i * j)) x y H Q∨∃ (z:Tx) (n:Nat),x=tV z∧y = .int n∧n≤100∧z.length≤100∧Q (tV (List.replicate n z).flatten) H
section
variable{X:Cx}{K:PySem.W.Frag}
theorem p2_sub:P2 K (rI0 fun i j=>.int (i-j)) subP:=fun F H x y v u Q pv rx ry e q=>by
 unfold subP at e
 split at e
 ·cases e; exact⟨_,_,rx,ry,q _ F H (Al.refl ..) rfl⟩
 ·cases e
theorem p2_mod:P2 K (rI (fun _ j=>0<j) fun i j=>.int (i % j)) modP:=fun F H x y v u Q pv rx ry e q=>by
 unfold modP at e
 split at e
 ·split at e
  ·cases e; exact⟨_,_,rx,ry,by assumption,q _ F H (Al.refl ..) rfl⟩
  ·cases e
 ·cases e
theorem p2_pow:P2 K (rI CPow fun i j=>.int (i ^ j.toNat)) powP:=fun F H x y v u Q pv rx ry e q=>by
 unfold powP at e
 split at e
 ·split at e
  ·cases e; exact⟨_,_,rx,ry,by assumption,q _ F H (Al.refl ..) rfl⟩
  ·cases e
 ·cases e
theorem p1_neg:P1 K (rU fun i=>.int (-i)) negP:=fun F H x v Q pv rx e q=>by
 unfold negP at e
 split at e
 ·cases e; exact⟨_,rx,q _ F H (Al.refl ..) rfl⟩
 ·cases e
theorem rd_lst{pins:List (Addr×Obj)}{σ:St}{H:Hp}{s:Shared}{l:Addr}{xs:List V}(I:Inv X pins σ H s)(h:Rd H l (.lst xs)):∃ (its:List Value) (n:Nat),Vals xs its∧s.heap.get? l=some { cls:=.type "list",data:=.seq its.toArray n }∧xs.length≤sizeLine:=by
 obtain⟨z,its,n,r,e⟩:=h.ok I.hok
 exact⟨its,n,r,e,z⟩
theorem op_catQ:OpR X (binaryOp .Add) rCatQ:=by
 intro pins s σ H x y v u Q I rx ry h
 obtain⟨l,b,xs,zs,rfl,rfl,hl,hb,hz,q⟩:=h
 cases rx
 cases ry
 obtain⟨its,n,r,e,_⟩:=rd_lst I hl
 obtain⟨its2,n2,r2,e2,_⟩:=rd_lst I hb
 have hl:=r.length
 have hl2:=r2.length
 refine PySem.P.add_list e e2 ?_ (by rw[List.size_toArray,List.size_toArray]; ac_rfl)
 have ea:its.toArray++its2.toArray=(its++its2).toArray:=by simp
 rw[ea]
 exact⟨.ref _,_,I.lnew (t':=s.toks) (r.append r2) (by rw[List.length_append]; ac_rfl),rfl,q _ I.fresh⟩
theorem op_addQ:OpR X (binaryOp .Add) (rAddQ X.K):=(op_add.or op_add_str).or (op_catT.or op_catQ)
theorem p2_add:P2 K (rAddQ K) addP:=fun F H x y v u Q pv rx ry e q=>by
 unfold addP at e
 split at e
 ·cases e; exact .inl (.inl ⟨_,_,rx,ry,q _ F H (Al.refl ..) rfl⟩)
 ·rename_i x y
  split at e
  ·rename_i hl
   cases e
   refine .inl (.inr ⟨_,_,rx.1,ry.1,?_,?_⟩)
   ·rw[tS_len,tS_len]; rw[List.length_append]at hl; exact Nat.le_trans hl maxS_le
   ·exact q _ F H (Al.refl ..) ⟨by rw[tS_app']; rfl,hl⟩
  ·cases e
 ·rename_i xs ys
  split at e
  ·rename_i hl
   cases e
   obtain⟨a,vs,rfl,ha,ra⟩:=rx
   obtain⟨b,ws,rfl,hb,rb⟩:=ry
   have la:=ra.len
   have lb:=rb.len
   refine .inr (.inl ⟨a,b,vs,ws,rfl,rfl,SqT.of ha,SqT.of hb,fun z=>hl.1 (by rw[z]at la; exact List.eq_nil_of_length_eq_zero la.symm),by rw[la,lb]; exact small_line hl.2.2,fun z=>absurd (by rw[z]at lb; exact List.eq_nil_of_length_eq_zero lb.symm) hl.2.1,fun _ p hp=>?_⟩)
   exact q _ F _ (Al.new0 hp) ⟨p,_,rfl,upd_same,(Al.new0 hp).reps (ra.app rb)⟩
  ·cases e
 ·rename_i xs ys
  split at e
  ·rename_i hl
   cases e
   obtain⟨a,vs,rfl,ha,fa,ra⟩:=rx
   obtain⟨b,ws,rfl,hb,fb,rb⟩:=ry
   have la:=ra.len
   have lb:=rb.len
   refine .inr (.inr ⟨a,b,vs,ws,rfl,rfl,ha,hb,by rw[la,lb]; exact Nat.le_trans hl maxS_le,fun p hp=>?_⟩)
   exact q _ _ _ (Al.new hp) ⟨p,_,rfl,.inl upd_same,.inr rfl,(Al.new hp).reps (ra.app rb)⟩
  ·cases e
 ·cases e
theorem op_mulQ:OpR X (binaryOp .Mult) rMulQ:=op_mul.or op_mulT
theorem p2_mul:P2 K rMulQ mulP:=fun F H x y v u Q pv rx ry e q=>by
 unfold mulP at e
 split at e
 ·rename_i i j
  split at e
  ·rename_i h
   cases e
   refine .inl ⟨_,_,rx,ry,?_,q _ F H (Al.refl ..) rfl⟩
   rw[Bool.or_eq_true]at h
   exact h.imp of_decide_eq_true of_decide_eq_true
  ·cases e
 ·rename_i x j
  split at e
  ·rename_i h
   cases e
   refine .inr ⟨x,j.toNat,rx.1,?_,by ac_rfl,h.2.2,q _ F H (Al.refl ..) ⟨rfl,?_⟩⟩
   ·rw[show u=V.int j from ry]; congr 1; ac_rfl
   ·rw[len_rep]
    have h1:j.toNat≤100:=by ac_rfl
    exact Nat.le_trans (Nat.mul_le_mul h1 h.2.2) (by decide)
  ·cases e
 ·cases e
def cmpI(f:Int→Int→Bool):PV→PV→Option PV
 | .int i,.int j=>some (.bl (f i j))
 | _,_=>none
theorem p2_cmpI{f:Int→Int→Bool}:P2 K (rI0 fun i j=>.bl (f i j)) (cmpI f):=fun F H x y v u Q pv rx ry e q=>by
 unfold cmpI at e
 split at e
 ·cases e; exact⟨_,_,rx,ry,q _ F H (Al.refl ..) rfl⟩
 ·cases e
def flP:PV→Option V
 | .non=>some .non
 | .bl b=>some (.bl b)
 | .int i=>some (.int i)
 | .str x=>some (tV x)
 | _=>none
theorem flP_rep{H:Hp}{F:Addr→Prop}{x:PV}{v w:V}(r:Rep K H F x v)(e:flP x=some w):v=w:=by
 cases x <;> simp[flP]at e <;> subst e
 ·exact r
 ·exact r
 ·exact r
 ·exact r.1
theorem flP_flat{x:PV}{w:V}(e:flP x=some w):flatV w=true:=by
 cases x <;> simp[flP]at e <;> subst e <;> rfl
mutual
def eqP:PV→PV→Option Bool
 | .tup xs,y=>match y with
  | .tup ys=>eqPs xs ys
  | _=>none
 | .lst xs,y=>match y with
  | .lst ys=>eqPs xs ys
  | _=>none
 | .non,y=>(flP y).map (eqV .non)
 | .bl b,y=>(flP y).map (eqV (.bl b))
 | .int i,y=>(flP y).map (eqV (.int i))
 | .str x,y=>(flP y).map (eqV (tV x))
 | .raw _,_=>none
 | .exc _,_=>none
def eqPs:List PV→List PV→Option Bool
 | [],ys=>some ys.isEmpty
 | x::xs,ys=>match ys with
  | []=>some false
  | y::ys=>(eqP x y).bind fun a=>(eqPs xs ys).map fun b=>a && b
end
mutual
def dep:PV→Nat
 | .tup xs=>deps xs+1
 | .lst xs=>deps xs+1
 | _=>0
def deps:List PV→Nat
 | []=>0
 | x::xs=>max (dep x) (deps xs)
end
theorem eqv_mono{H:Hp}{d d':Nat}{x y:V}{k:Bool}(h:EqV K H d x y k)(hd:d≤d'):EqV K H d' x y k:=fun X hK pins σ s u v A I ru rv hu=>h X hK pins σ s u v A I ru rv (by ac_rfl)
theorem eqP_fl{H:Hp}{F:Addr→Prop}{w:V}{y:PV}{u:V}{k:Bool}{d:Nat}(fw:flatV w=true)(e:(flP y).map (eqV w)=some k)(ry:Rep K H F y u):EqV K H d w u k:=by
 cases q:flP y with
 | none=>rw[q]at e; cases e
 | some z =>
  rw[q]at e
  cases e
  rw[flP_rep ry q]
  exact eqv_flat fw (flP_flat q)
theorem rd_fun{H:Hp}{a:Addr}{xs ys:List V}(h:Rd H a (.lst xs))(g:Rd H a (.lst ys)):xs=ys:=by
 rcases h with h | ⟨o,h⟩ <;> rcases g with g | ⟨o',g⟩ <;> rw[h]at g <;> cases g <;> rfl
theorem allEq_cons{a:Bool}{e:Nat→Bool}{n m:Nat}:allEq (fun j=>if j=0 then a else e (j-1)) (n+1) (m+1)=(a && allEq e n m):=by
 unfold allEq
 rw[show min (n+1) (m+1)=min n m+1 by ac_rfl,List.range_succ_eq_map,List.all_cons,List.all_map,if_pos rfl,Bool.and_assoc]
 congr 1
 congr 1
 ·simp
mutual
theorem eqP_same{H:Hp}{F:Addr→Prop}:∀ (x y:PV) {v:V} {k:Bool},eqP x y=some k→Rep K H F x v→Rep K H F y v→k=true
 | .tup xs,y,v,k,e,rx,ry=>by
  unfold eqP at e
  split at e
  ·obtain⟨a,vs,rfl,ha,ra⟩:=rx
   obtain⟨b,ws,eb,hb,rb⟩:=ry
   cases eb
   rw[ha]at hb
   cases hb
   exact eqPs_same xs _ e ra rb
  ·cases e
 | .lst xs,y,v,k,e,rx,ry=>by
  unfold eqP at e
  split at e
  ·obtain⟨a,vs,rfl,ha,_,ra⟩:=rx
   obtain⟨b,ws,eb,hb,_,rb⟩:=ry
   cases eb
   rw[rd_fun ha hb]at ra
   exact eqPs_same xs _ e ra rb
  ·cases e
 | .non,y,v,k,e,rx,ry=>by
  unfold eqP at e
  cases q:flP y with
  | none=>rw[q]at e; cases e
  | some z=>rw[q]at e; cases e; rw[← flP_rep ry q,show v=V.non from rx]; rfl
 | .bl b,y,v,k,e,rx,ry=>by
  unfold eqP at e
  cases q:flP y with
  | none=>rw[q]at e; cases e
  | some z=>rw[q]at e; cases e; rw[← flP_rep ry q,show v=V.bl b from rx]; exact beq_self_eq_true b
 | .int b,y,v,k,e,rx,ry=>by
  unfold eqP at e
  cases q:flP y with
  | none=>rw[q]at e; cases e
  | some z=>rw[q]at e; cases e; rw[← flP_rep ry q,show v=V.int b from rx]; exact beq_self_eq_true b
 | .str b,y,v,k,e,rx,ry=>by
  unfold eqP at e
  cases q:flP y with
  | none=>rw[q]at e; cases e
  | some z=>rw[q]at e; cases e; rw[← flP_rep ry q,show v=tV b from rx.1]; exact beq_self_eq_true (tS b)
 | .raw _,_,_,_,e,_,_=>by unfold eqP at e; cases e
 | .exc _,_,_,_,e,_,_=>by unfold eqP at e; cases e
theorem eqPs_same{H:Hp}{F:Addr→Prop}:∀ (xs ys:List PV) {vs:List V} {k:Bool},eqPs xs ys=some k→Reps K H F xs vs→Reps K H F ys vs→k=true
 | [],ys,vs,k,e,rx,ry=>by
  unfold eqPs at e
  rw[show vs=[] from rx]at ry
  have:=ry.len
  cases ys with
  | nil=>cases e; rfl
  | cons=>simp at this
 | x::xs,ys,vs,k,e,rx,ry=>by
  unfold eqPs at e
  obtain⟨v,r,rfl,h1,h2⟩:=rx
  cases ys with
  | nil=>have:=ry.len; simp at this
  | cons y ys =>
   obtain⟨v',r',ev,g1,g2⟩:=ry
   cases ev
   simp only at e
   cases q1:eqP x y with
   | none=>rw[q1]at e; cases e
   | some a =>
    cases q2:eqPs xs ys with
    | none=>rw[q1,q2]at e; cases e
    | some b =>
     rw[q1,q2]at e
     cases e
     rw[eqP_same x y q1 h1 g1,eqPs_same xs ys q2 h2 g2]; rfl
end
mutual
theorem eqP_ok{H:Hp}{F:Addr→Prop}:∀ (x y:PV) {v u:V} {k:Bool},eqP x y=some k→Rep K H F x v→Rep K H F y u→EqV K H (dep x) v u k
 | .tup xs,y,v,u,k,e,rx,ry=>by
  have e0:=e
  unfold eqP at e
  split at e
  ·rename_i ys
   obtain⟨a,vs,rfl,ha,ra⟩:=id rx
   obtain⟨b,ws,rfl,hb,rb⟩:=id ry
   by_cases hab:a=b
   ·subst hab
    rw[eqP_same _ _ e0 rx ry]
    exact eqv_same
   ·obtain⟨f,hf,rfl⟩:=eqPs_ok xs ys e ra rb
    unfold dep
    exact eqv_tup (SqT.of ha) (SqT.of hb) hab hf
  ·cases e
 | .lst xs,y,v,u,k,e,rx,ry=>by
  have e0:=e
  unfold eqP at e
  split at e
  ·rename_i ys
   obtain⟨a,vs,rfl,ha,_,ra⟩:=id rx
   obtain⟨b,ws,rfl,hb,_,rb⟩:=id ry
   by_cases hab:a=b
   ·subst hab
    rw[eqP_same _ _ e0 rx ry]
    exact eqv_same
   ·obtain⟨f,hf,rfl⟩:=eqPs_ok xs ys e ra rb
    unfold dep
    exact eqv_list (.inl ha) (.inl hb) hab hf
  ·cases e
 | .non,y,v,u,k,e,rx,ry=>by unfold eqP at e; rw[show v=V.non from rx]; exact eqP_fl rfl e ry
 | .bl b,y,v,u,k,e,rx,ry=>by unfold eqP at e; rw[show v=V.bl b from rx]; exact eqP_fl rfl e ry
 | .int b,y,v,u,k,e,rx,ry=>by unfold eqP at e; rw[show v=V.int b from rx]; exact eqP_fl rfl e ry
 | .str b,y,v,u,k,e,rx,ry=>by unfold eqP at e; rw[show v=tV b from rx.1]; exact eqP_fl rfl e ry
 | .raw _,_,_,_,_,e,_,_=>by unfold eqP at e; cases e
 | .exc _,_,_,_,_,e,_,_=>by unfold eqP at e; cases e
theorem eqPs_ok{H:Hp}{F:Addr→Prop}:∀ (xs ys:List PV) {vs us:List V} {k:Bool},eqPs xs ys=some k→Reps K H F xs vs→Reps K H F ys us →
  ∃ f:Nat→Bool,(∀ (j:Nat) x y,vs[j]?=some x→us[j]?=some y→EqV K H (deps xs) x y (f j))∧k=allEq f vs.length us.length
 | [],ys,vs,us,k,e,rx,ry=>by
  unfold eqPs at e
  rw[show vs=[] from rx]
  refine⟨fun _=>true,fun j x y h=>by simp at h,?_⟩
  have:=ry.len
  cases e
  unfold allEq
  cases ys with
  | nil=>simp at this; simp[this]
  | cons=>rw[this]; simp
 | x::xs,ys,vs,us,k,e,rx,ry=>by
  unfold eqPs at e
  obtain⟨v,r,rfl,h1,h2⟩:=rx
  cases ys with
  | nil =>
   cases e
   rw[show us=[] from ry]
   exact⟨fun _=>true,fun j x y _ h=>by simp at h,by simp[allEq]⟩
  | cons y ys =>
   obtain⟨u,r',rfl,g1,g2⟩:=ry
   simp only at e
   cases q1:eqP x y with
   | none=>rw[q1]at e; cases e
   | some a =>
    cases q2:eqPs xs ys with
    | none=>rw[q1,q2]at e; cases e
    | some b =>
     rw[q1,q2]at e
     cases e
     obtain⟨f,hf,rfl⟩:=eqPs_ok xs ys q2 h2 g2
     refine⟨fun j=>if j=0 then a else f (j-1),fun j p q hp hq=>?_,by rw[List.length_cons,List.length_cons,allEq_cons]⟩
     cases j with
     | zero =>
      simp at hp hq
      subst hp hq
      show EqV K H _ _ _ (if(0:Nat)=0 then a else f (0-1))
      rw[if_pos rfl]
      exact eqv_mono (eqP_ok x y q1 h1 g1) (by unfold deps; exact Nat.le_max_left _ _)
     | succ j =>
      show EqV K H _ _ _ (if j+1=0 then a else f (j+1-1))
      rw[if_neg (by ac_rfl)]
      exact eqv_mono (hf j p q (by simpa using hp) (by simpa using hq)) (show deps xs≤max (dep x) (deps xs)from Nat.le_max_right _ _)
end
def eqT(neg:Bool)(x y:PV):Option PV:=match flP x,flP y with
 | some v,some u=>if scal v u then some (.bl (neg ^^ decide (v=u)))else none
 | none,none=>if dep x≤8 then(eqP x y).map fun k=>.bl (neg ^^ k)else none
 | _,_=>none
def rEqA(K:PySem.W.Frag):R2:=fun x y H Q=>rEq x y H Q∨rEqQ K false x y H Q
def rNeA(K:PySem.W.Frag):R2:=fun x y H Q=>rNe x y H Q∨rEqQ K true x y H Q
theorem op_eqA(hu:X.A.units+64<cLine):OpR X (compareOp .Eq) (rEqA X.K):=op_eq.or (op_eqQ hu)
theorem op_neA(hu:X.A.units+64<cLine):OpR X (compareOp .NotEq) (rNeA X.K):=op_ne.or (op_neQ hu)
theorem eqT_seq{H:Hp}{F:Addr→Prop}{x y:PV}{v u:V}{k:Bool}{Q:VK}{neg:Bool}(hx:flP x=none)(e:eqP x y=some k)(hd:dep x≤8)(rx:Rep K H F x v)(ry:Rep K H F y u)(q:Q (.bl (neg ^^ k)) H):rEqQ K neg v u H Q:=by
 have fin:∀ {k':Bool},k=k'→Q (.bl (if neg=true then !k' else k')) H:=fun {k'} z=>by subst z; cases neg <;> simpa using q
 cases x with
 | tup xs =>
  unfold eqP at e
  split at e
  ·rename_i ys
   obtain⟨a,vs,rfl,ha,ra⟩:=rx
   obtain⟨b,ws,rfl,hb,rb⟩:=ry
   obtain⟨f,hf,ek⟩:=eqPs_ok xs ys e ra rb
   unfold dep at hd
   exact⟨a,b,vs,ws,deps xs,f,rfl,rfl,.inr ⟨SqT.of ha,SqT.of hb⟩,by ac_rfl,hf,fin ek⟩
  ·cases e
 | lst xs =>
  unfold eqP at e
  split at e
  ·rename_i ys
   obtain⟨a,vs,rfl,ha,_,ra⟩:=rx
   obtain⟨b,ws,rfl,hb,_,rb⟩:=ry
   obtain⟨f,hf,ek⟩:=eqPs_ok xs ys e ra rb
   unfold dep at hd
   exact⟨a,b,vs,ws,deps xs,f,rfl,rfl,.inl ⟨.inl ha,.inl hb⟩,by ac_rfl,hf,fin ek⟩
  ·cases e
 | raw _=>unfold eqP at e; cases e
 | exc _=>unfold eqP at e; cases e
 | non=>cases hx
 | bl _=>cases hx
 | int _=>cases hx
 | str _=>cases hx
theorem p2_eq:P2 K (rEqA K) (eqT false):=fun F H x y v u Q pv rx ry e q=>by
 unfold eqT at e
 split at e
 ·rename_i a b ea eb
  split at e
  ·rename_i hs
   cases e
   rw[flP_rep rx ea,flP_rep ry eb]
   refine .inl ⟨hs,?_⟩
   have:=q (.bl (decide (a=b))) F H (Al.refl ..) (by simp[Rep])
   exact this
  ·cases e
 ·rename_i ea eb
  split at e
  ·rename_i hd
   cases ek:eqP x y with
   | none=>rw[ek]at e; cases e
   | some k =>
    rw[ek]at e
    cases e
    exact .inr (eqT_seq (neg:=false) ea ek hd rx ry (q _ F H (Al.refl ..) rfl))
  ·cases e
 ·cases e
theorem p2_ne:P2 K (rNeA K) (eqT true):=fun F H x y v u Q pv rx ry e q=>by
 unfold eqT at e
 split at e
 ·rename_i a b ea eb
  split at e
  ·rename_i hs
   cases e
   rw[flP_rep rx ea,flP_rep ry eb]
   refine .inl ⟨hs,?_⟩
   have:=q (.bl (!decide (a=b))) F H (Al.refl ..) (by simp[Rep])
   exact this
  ·cases e
 ·rename_i ea eb
  split at e
  ·rename_i hd
   cases ek:eqP x y with
   | none=>rw[ek]at e; cases e
   | some k =>
    rw[ek]at e
    cases e
    exact .inr (eqT_seq (neg:=true) ea ek hd rx ry (q _ F H (Al.refl ..) rfl))
  ·cases e
 ·cases e
end
end Pu
namespace Pu
open PySem PySem.Spec PyProof.Rows L2
section
variable{X:Cx}{K:PySem.W.Frag}
def inS(i j:Tx):Bool:=!(Builtin.Str.occurrences (tS j) (tS i) 0 (tS j).length 1).isEmpty
def flPs:List PV→Option (List V)
 | []=>some []
 | x::xs=>(flP x).bind fun v=>(flPs xs).map fun r=>v::r
theorem flPs_rep{H:Hp}{F:Addr→Prop}:∀ {xs:List PV} {vs ws:List V},Reps K H F xs vs→flPs xs=some ws→vs=ws∧ws.all flatV=true
 | [],_,_,r,e=>by cases e; exact⟨r,rfl⟩
 | x::xs,_,ws,⟨v,r,rfl,h1,h2⟩,e=>by
  unfold flPs at e
  cases q:flP x with
  | none=>rw[q]at e; cases e
  | some w =>
   cases q2:flPs xs with
   | none=>rw[q,q2]at e; cases e
   | some wr =>
    rw[q,q2]at e
    cases e
    obtain⟨e1,e2⟩:=flPs_rep h2 q2
    exact⟨by rw[flP_rep h1 q,e1],by rw[List.all_cons,flP_flat q,e2]; rfl⟩
def inP(neg:Bool):PV→PV→Option PV
 | .str x,.str y=>some (.bl (neg ^^ inS x y))
 | x,.lst ys=>(flP x).bind fun v=>(flPs ys).map fun ws=>.bl (neg ^^ inV v ws)
 | x,.tup ys=>(flP x).bind fun v=>(flPs ys).map fun ws=>.bl (neg ^^ inV v ws)
 | _,_=>none
def rInA(K:PySem.W.Frag):R2:=fun x y H Q=>(∃ i j,x = .str i∧y = .str j∧Q (.bl (!(Builtin.Str.occurrences j i 0 j.length 1).isEmpty)) H)∨rIn K false x y H Q
theorem op_inA:OpR X (compareOp .In) (rInA X.K):=op_in_str.or op_in_seq
theorem in_seq{H:Hp}{F:Addr→Prop}{x:PV}{ys:List PV}{v:V}{p:Addr}{us:List V}{Q:VK}{neg:Bool}{pv:PV}(rx:Rep K H F x v)(hp:SqL K H p us∨SqT K H p us)(ru:Reps K H F ys us)
  (e:((flP x).bind fun v=>(flPs ys).map fun ws=>PV.bl (neg ^^ inV v ws))=some pv) (q:∀ w,Rep K H F pv w→Q w H):rIn K neg v (.ref p) H Q:=by
 cases q1:flP x with
 | none=>rw[q1]at e; cases e
 | some w =>
  cases q2:flPs ys with
  | none=>rw[q1,q2]at e; cases e
  | some ws =>
   rw[q1,q2]at e
   cases e
   obtain⟨rfl,hf⟩:=flPs_rep ru q2
   rw[flP_rep rx q1]
   refine⟨p,us,rfl,hp,flP_flat q1,hf,?_⟩
   have:=q _ rfl
   cases neg <;> simpa using this
theorem p2_in:P2 K (rInA K) (inP false):=fun F H x y v u Q pv rx ry e q=>by
 unfold inP at e
 split at e
 ·cases e; exact .inl ⟨_,_,rx.1,ry.1,by have:=q _ F H (Al.refl ..) rfl; simpa[inS]using this⟩
 ·obtain⟨a,us,rfl,ha,_,ra⟩:=ry
  exact .inr (in_seq (neg:=false) rx (.inl (.inl ha)) ra e fun w rw'=>q w F H (Al.refl ..) rw')
 ·obtain⟨a,us,rfl,ha,ra⟩:=ry
  exact .inr (in_seq (neg:=false) rx (.inr (SqT.of ha)) ra e fun w rw'=>q w F H (Al.refl ..) rw')
 ·cases e
def lenP:List PV→Option PV
 | [.str x]=>some (.int x.length)
 | [.lst xs]=>some (.int xs.length)
 | [.tup xs]=>some (.int xs.length)
 | _=>none
theorem reps1{H:Hp}{F:Addr→Prop}{x:PV}{vs:List V}(r:Reps K H F [x] vs):∃ v,vs=[v]∧Rep K H F x v:=by
 obtain⟨v,r',rfl,h1,h2⟩:=r
 rw[show r'=[] from h2]
 exact⟨v,rfl,h1⟩
theorem pl_len:PL K (fun xs H Q=>∃ x n,xs=[x]∧LenV K x H n∧Q (.int n) H) lenP:=fun F H xs vs Q pv rs e q=>by
 unfold lenP at e
 split at e
 ·cases e
  obtain⟨v,rfl,rv⟩:=reps1 rs
  rw[rv.1]
  exact⟨_,_,rfl,⟨by rw[tS_len]; exact Nat.le_trans rv.2 maxS_le,rfl⟩,by rw[tS_len]; exact q _ F H (Al.refl ..) rfl⟩
 ·cases e
  obtain⟨v,rfl,a,us,rfl,ha,_,ra⟩:=reps1 rs
  exact⟨_,_,rfl,.inl ⟨us,.inl ha,rfl⟩,by rw[ra.len]; exact q _ F H (Al.refl ..) rfl⟩
 ·cases e
  obtain⟨v,rfl,a,us,rfl,ha,ra⟩:=reps1 rs
  exact⟨_,_,rfl,.inr ⟨us,SqT.of ha,rfl⟩,by rw[ra.len]; exact q _ F H (Al.refl ..) rfl⟩
 ·cases e
def listP:List PV→Option PO
 | [.lst xs]=>some (.lst xs)
 | [.tup xs]=>some (.lst xs)
 | _=>none
theorem pln_list:PLn K (fun xs H Q=>∃ p ys,xs=[.ref p]∧(SqL K H p ys∨SqT K H p ys)∧∀ l,H l=none→Q (.ref l) (upd H l (.lst ys))) listP:=fun F H xs vs Q po hF rs e q=>by
 unfold listP at e
 split at e
 ·cases e
  obtain⟨v,rfl,a,us,rfl,ha,_,ra⟩:=reps1 rs
  exact⟨a,us,rfl,.inl (.inl ha),fun l hl=>q l F _ _ (Al.new0 hl) (own_new hl ra) (own_new_fr hl hF trivial)⟩
 ·cases e
  obtain⟨v,rfl,a,us,rfl,ha,ra⟩:=reps1 rs
  exact⟨a,us,rfl,.inr (SqT.of ha),fun l hl=>q l F _ _ (Al.new0 hl) (own_new hl ra) (own_new_fr hl hF trivial)⟩
 ·cases e
def tupleP:List PV→Option PV
 | [.lst xs]=>some (.tup xs)
 | [.tup xs]=>some (.tup xs)
 | _=>none
theorem pl_tuple:PL K (fun xs H Q=>∃ p ys,xs=[.ref p]∧((SqL K H p ys∧∀ l,H l=none→Q (.ref l) (upd H l (.tup ys)))∨(SqT K H p ys∧Q (.ref p) H))) tupleP:=fun F H xs vs Q pv rs e q=>by
 unfold tupleP at e
 split at e
 ·cases e
  obtain⟨v,rfl,a,us,rfl,ha,_,ra⟩:=reps1 rs
  exact⟨a,us,rfl,.inl ⟨.inl ha,fun l hl=>q _ F _ (Al.new0 hl) ⟨l,us,rfl,upd_same,(Al.new0 hl).reps ra⟩⟩⟩
 ·cases e
  obtain⟨v,rfl,a,us,rfl,ha,ra⟩:=reps1 rs
  exact⟨a,us,rfl,.inr ⟨SqT.of ha,q _ F H (Al.refl ..) ⟨a,us,rfl,ha,ra⟩⟩⟩
 ·cases e
def txs:List PV→Option (List Tx)
 | []=>some []
 | .str x::xs=>(txs xs).map (x::·)
 | _=>none
def txP(ls:List Tx):List PV:=ls.map .str
theorem txs_strs(ls:List Tx):txs (txP ls)=some ls:=by
 induction ls with
 | nil=>rfl
 | cons x ls ih=>show(txs (txP ls)).map (x::·)=_; rw[ih]; rfl
theorem txs_eq:∀ {xs:List PV} {ls:List Tx},txs xs=some ls→xs=txP ls
 | [],ls,e=>by cases e; rfl
 | .str x::xs,ls,e=>by
  unfold txs at e
  cases q:txs xs with
  | none=>rw[q]at e; cases e
  | some r=>rw[q]at e; cases e; rw[txs_eq q]; rfl
 | .non::_,_,e=>by cases e
 | .bl _::_,_,e=>by cases e
 | .int _::_,_,e=>by cases e
 | .tup _::_,_,e=>by cases e
 | .lst _::_,_,e=>by cases e
 | .raw _::_,_,e=>by cases e
 | .exc _::_,_,e=>by cases e
theorem strs_rep{H:Hp}{F:Addr→Prop}:∀ {ls:List Tx} {vs:List V},Reps K H F (txP ls) vs↔vs=tVs ls∧∀ x∈ls,x.length≤maxS
 | [],vs=>by simp[txP,Reps,tVs]
 | x::ls,vs=>by
  show(∃ v r,vs=v::r∧(v=tV x∧x.length≤maxS)∧Reps K H F (txP ls) r)↔_
  constructor
  ·rintro⟨v,r,rfl,⟨rfl,h1⟩,h2⟩
   obtain⟨rfl,h3⟩:=strs_rep.mp h2
   exact⟨rfl,fun y hy=>by
    rcases List.mem_cons.mp hy with rfl | hy
    ·exact h1
    ·exact h3 y hy⟩
  ·rintro⟨rfl,h⟩
   exact⟨tV x,tVs ls,rfl,⟨rfl,h x (by simp)⟩,strs_rep.mpr ⟨rfl,fun y hy=>h y (by simp[hy])⟩⟩
def bools:List PV→Option (List Bool)
 | []=>some []
 | .bl b::xs=>(bools xs).map (b::·)
 | _=>none
theorem bools_rep{H:Hp}{F:Addr→Prop}:∀ {xs:List PV} {vs:List V} {bs:List Bool},Reps K H F xs vs→bools xs=some bs→vs=bs.map V.bl
 | [],_,_,r,e=>by cases e; exact r
 | .bl b::xs,_,bs,⟨v,r,rfl,h1,h2⟩,e=>by
  unfold bools at e
  cases q:bools xs with
  | none=>rw[q]at e; cases e
  | some r'=>rw[q]at e; cases e; rw[bools_rep h2 q,show v=V.bl b from h1]; rfl
 | .non::_,_,_,_,e=>by cases e
 | .str _::_,_,_,_,e=>by cases e
 | .int _::_,_,_,_,e=>by cases e
 | .tup _::_,_,_,_,e=>by cases e
 | .lst _::_,_,_,_,e=>by cases e
 | .raw _::_,_,_,_,e=>by cases e
 | .exc _::_,_,_,_,e=>by cases e
def allP:List PV→Option PV
 | [.lst xs]=>(bools xs).map fun bs=>.bl (bs.all id)
 | _=>none
theorem pl_all:PL K (fun xs H Q=>∃ (p:Addr) (bs:List Bool),xs=[.ref p]∧SqL K H p (bs.map V.bl)∧Q (.bl (bs.all id)) H) allP:=fun F H xs vs Q pv rs e q=>by
 unfold allP at e
 split at e
 ·rename_i ys
  cases q1:bools ys with
  | none=>rw[q1]at e; cases e
  | some bs =>
   rw[q1]at e
   cases e
   obtain⟨v,rfl,a,us,rfl,ha,_,ra⟩:=reps1 rs
   rw[bools_rep ra q1]at ha
   exact⟨a,bs,rfl,.inl ha,q _ F H (Al.refl ..) rfl⟩
 ·cases e
def kindP:PV→Option String
 | .non=>some "NoneType"
 | .bl _=>some "bool"
 | .int _=>some "int"
 | .str _=>some "str"
 | .tup _=>some "tuple"
 | .lst _=>some "list"
 | _=>none
def isiP:List PV→Option PV
 | [x,.raw (.ty T)]=>(kindP x).bind fun t=>(PySem.W.kitOne [] (.type t) (.type T)).map fun b=>.bl b
 | _=>none
theorem call_isi:CallR X (.builtin "isinstance") (fun xs H Q=>∃ x t T b,xs=[x,.ty T]∧TyOf X.K H x (.type t)∧PySem.W.kitOne X.K (.type t) (.type T)=some b∧Q (.bl b) H):=by
 intro pins s σ H xs us Q I r h
 obtain⟨x,t,T,b,rfl,ty,e,q⟩:=h
 cases r with
 | cons r1 r2 =>
  cases r2 with
  | cons r3 r4 =>
   cases r4
   cases r3
   exact isinst_ok I r1 ty e fun tk=>⟨.bl b,H,I.tok _,rfl,q⟩
theorem kind_ty{H:Hp}{F:Addr→Prop}{x:PV}{v:V}{t:String}(r:Rep K H F x v)(e:kindP x=some t):TyOf K H v (.type t):=by
 cases x with
 | non=>cases e; rw[show v=V.non from r]; exact .non
 | bl b=>cases e; rw[show v=V.bl b from r]; exact .bl b
 | int b=>cases e; rw[show v=V.int b from r]; exact .int b
 | str b=>cases e; rw[show v=tV b from r.1]; exact .str _
 | tup xs=>cases e; obtain⟨a,vs,rfl,ha,_⟩:=r; exact .tup ha
 | lst xs =>
  cases e
  obtain⟨a,vs,rfl,ha,_⟩:=r
  rcases ha with ha | ⟨o,ha⟩
  ·exact .lst ha
  ·exact .frz ha
 | raw _=>cases e
 | exc _=>cases e
theorem pl_isi:PL K (fun xs H Q=>∃ x t T b,xs=[x,.ty T]∧TyOf K H x (.type t)∧PySem.W.kitOne K (.type t) (.type T)=some b∧Q (.bl b) H) isiP:=fun F H xs vs Q pv rs e q=>by
 unfold isiP at e
 split at e
 ·rename_i x T
  cases q1:kindP x with
  | none=>rw[q1]at e; cases e
  | some t =>
   cases q2:PySem.W.kitOne [] (.type t) (.type T)with
   | none=>rw[q1,Option.bind_some,q2]at e; cases e
   | some b =>
    rw[q1,Option.bind_some,q2]at e
    cases e
    obtain⟨v,r',rfl,h1,h2⟩:=rs
    obtain⟨u,rfl,h3⟩:=reps1 h2
    rw[show u=V.ty T from h3]
    exact⟨v,t,T,b,rfl,kind_ty h1 q1,q2,q _ F H (Al.refl ..) rfl⟩
 ·cases e
theorem de_bty{E:XK}{x:Str}{T:String}{pos:Pos}(hm:X.mg x=none)(hv:bootBuiltins x=some (.type T))(hg:Gl X x:=by rfl)(hn:x≠"__name__":=by decide)(hd:(x == ("__debug__" : Str))=false:=by decide):DE X E (.Name x pos) (dC (.raw (.ty T))):=fun F S ε σ H Q r q =>
 wp_e (pe_bltn (v:=.ty T) hg hm hv rfl hn hd) (q F S H r (Grow.refl ..) _ rfl)
def ixP:PV→PV→Option PV
 | .lst xs,.int i=>atI xs i
 | .tup xs,.int i=>atI xs i
 | .str x,.int i=>(atI x i).map fun c=>.str [c]
 | _,_=>none
theorem atI_rep{H:Hp}{F:Addr→Prop}{xs:List PV}{vs:List V}{i:Int}{x:PV}(r:Reps K H F xs vs)(e:atI xs i=some x):∃ v,atI vs i=some v∧Rep K H F x v:=by
 unfold atI at e ⊢
 rw[r.len]
 cases q:ixN xs.length i with
 | none=>rw[q]at e; cases e
 | some j=>rw[q]at e; exact r.get e
theorem p2_ix:P2 K (rIx K) ixP:=fun F H x y v u Q pv rx ry e q=>by
 unfold ixP at e
 split at e
 ·rename_i xs i
  obtain⟨a,us,rfl,ha,_,ra⟩:=rx
  obtain⟨w,e1,e2⟩:=atI_rep ra e
  exact .inl ⟨a,us,i,w,rfl,ry,.inl ha,e1,q _ F H (Al.refl ..) e2⟩
 ·rename_i xs i
  obtain⟨a,us,rfl,ha,ra⟩:=rx
  obtain⟨w,e1,e2⟩:=atI_rep ra e
  exact .inr (.inl ⟨a,us,i,w,rfl,ry,SqT.of ha,e1,q _ F H (Al.refl ..) e2⟩)
 ·rename_i x i
  cases q1:atI x i with
  | none=>rw[q1]at e; cases e
  | some c =>
   rw[q1]at e
   cases e
   rw[rx.1]
   exact .inr (.inr ⟨_,i,c,rfl,ry,by rw[tS_len]; exact Nat.le_trans rx.2 maxS_le,by rw[tS_cps]; exact q1,q _ F H (Al.refl ..) ⟨rfl,by show 1≤maxS; decide⟩⟩)
 ·cases e
def cutL{α:Type}(xs:List α)(lo hi:Option Int):List α:=(xs.drop (HT.sIx xs.length 0 lo)).take (HT.sIx xs.length xs.length hi-HT.sIx xs.length 0 lo)
theorem cutL_len{α:Type}(xs:List α)(lo hi:Option Int):(cutL xs lo hi).length≤xs.length:=by
 unfold cutL
 rw[List.length_take,List.length_drop]
 ac_rfl
def slP:PV→Option Int→Option Int→Option PV
 | .str x,lo,hi=>some (.str (cutL x lo hi))
 | .lst xs,lo,hi=>some (.lst (cutL xs lo hi))
 | .tup xs,lo,hi=>if HT.sIx xs.length 0 lo=0∧HT.sIx xs.length xs.length hi=xs.length then none else some (.tup (cutL xs lo hi))
 | _,_,_=>none
def rSlA(K:PySem.W.Frag):V→Option Int→Option Int→Hp→VK→Prop:=fun x lo hi H Q=>rSlS x lo hi H Q∨(rSlL K x lo hi H Q∨rSlT K x lo hi H Q)
theorem sl_A:SlR X (rSlA X.K):=sl_str.or (sl_list.or sl_tup)
theorem cut_rep{H:Hp}{F:Addr→Prop}{xs:List PV}{vs:List V}(r:Reps K H F xs vs)(lo hi:Option Int):Reps K H F (cutL xs lo hi) (cutV vs lo hi):=by
 unfold cutL cutV
 rw[r.len]
 exact(r.drop _).take _
theorem psl_A:PSl K (rSlA K) slP:=fun F H x lo hi v Q pv rx e q=>by
 unfold slP at e
 split at e
 ·cases e
  rw[rx.1]
  refine .inl ⟨_,rfl,by rw[tS_len]; exact Nat.le_trans rx.2 maxS_le,?_⟩
  refine q _ F H (Al.refl ..) ⟨?_,Nat.le_trans (cutL_len ..) rx.2⟩
  unfold cutS cutL
  rw[tS_len,tS_cps]; rfl
 ·cases e
  obtain⟨a,us,rfl,ha,_,ra⟩:=rx
  exact .inr (.inl ⟨a,us,rfl,.inl ha,fun p hp=>q _ _ _ (Al.new hp) ⟨p,_,rfl,.inl upd_same,.inr rfl,(Al.new hp).reps (cut_rep ra lo hi)⟩⟩)
 ·split at e
  ·cases e
  ·rename_i hw
   cases e
   obtain⟨a,us,rfl,ha,ra⟩:=rx
   exact .inr (.inr ⟨a,us,rfl,SqT.of ha,by rw[ra.len]; exact hw,fun p hp=>q _ _ _ (Al.new0 hp) ⟨p,_,rfl,upd_same,(Al.new0 hp).reps (cut_rep ra lo hi)⟩⟩)
 ·cases e
variable{E:XK}{tg l a b:Expr}{d:PEnv→R PV}{ds:PEnv→R (List PV)}{p pos:Pos}
def itemsP:PV→Option (List PV)
 | .lst xs=>some xs
 | .tup xs=>some xs
 | .str x=>some (x.map fun c=>.str [c])
 | _=>none
def dItems(d:PEnv→R PV):PEnv→R (List PV):=fun ε=>(d ε).bind fun x ε1=>lift (itemsP x) ε1
theorem sgs_rep{H:Hp}{F:Addr→Prop}:∀ (x:Tx),Reps K H F (x.map fun c=>PV.str [c]) (x.map sg)
 | []=>rfl
 | c::x=>⟨sg c,x.map sg,rfl,⟨rfl,by show 1≤maxS; decide⟩,sgs_rep x⟩
theorem di_seq(he:DE X E l d):DI X E tg l (dItems d):=fun F S ε σ H Rr rl h=>Bx.mk fun pins s I=>by
 have w:=he F S ε σ H (fun v H1=>∃ F1 S1 ε1 x,Rel X.K F1 S1 ε1 σ H1∧Rep X.K H1 F1 x v∧Ok X.K E σ F1 S1 H1 (lift (itemsP x) ε1) (fun pvs _ F' S' H'=>∀ J vs RR,Reps X.K H' F' pvs vs→vs.length≤sizeLine→Walk J vs RR→(∀ S'' F'' H'',Grow (U S') (U S'') F' F'' H' H''→RR H'')→Rr J H')) rl
  ((Ok.bind h).imp fun x ε1 F1 S1 H1 r1 g1 h1 v rv=>⟨F1,S1,ε1,x,r1,rv,h1⟩)
 refine thn (w.run pins s I) fun v s1 ⟨x,H1,I1,rx,F1,S1,ε1,pv,r1,rv,h1⟩=>?_
 -- a list,a tuple,a text
 cases pv with
 | lst xs =>
  obtain⟨a,us,rfl,ha,hF,ra⟩:=rv
  cases rx
  obtain⟨its,rr,pp,hz⟩:=I1.list (.inl ha)
  refine wpAny_pyIter_list pp.isList ?_
  refine⟨s1.heap.objs.size,[s1.heap.objs.size],_,_,H1,rfl,I1.kept (t':=s1.toks) fun b o e=>Heap.get?_push_of_some _ e,turn_list a _,⟨_,Heap.get?_push_size _ rfl,rfl,rfl⟩,fun b hb=>?_,h1 F1 S1 H1 r1 (Grow.refl ..) (Itl X.K a) us (fun H=>SqL X.K H a us) ra hz walk_list fun S2 F2 H2 g2=>.inl (g2.lst r1.fit hF ha)⟩
  have e:b=s1.heap.objs.size:=by simpa using hb
  subst e
  exact I1.fpOk (Nat.le_refl _) (I1.hok.fresh (Nat.le_refl _))
 | tup xs =>
  obtain⟨a,us,rfl,ha,ra⟩:=rv
  cases rx
  obtain⟨its,rr,pp,hz⟩:=I1.tuple (SqT.of ha)
  refine wpAny_pyIter_tuple (show s1.heap.IsTuple a its.toArray from pp) ?_
  refine⟨s1.heap.objs.size,[s1.heap.objs.size],_,_,H1,rfl,I1.kept (t':=s1.toks) fun b o e=>Heap.get?_push_of_some _ e,turn_tuple a _,⟨_,Heap.get?_push_size _ rfl,rfl,rfl⟩,fun b hb=>?_,h1 F1 S1 H1 r1 (Grow.refl ..) (Itt X.K a) us (fun H=>SqT X.K H a us) ra hz walk_tup fun S2 F2 H2 g2=>SqT.of (g2.imm r1.fit ha id)⟩
  have e:b=s1.heap.objs.size:=by simpa using hb
  subst e
  exact I1.fpOk (Nat.le_refl _) (I1.hok.fresh (Nat.le_refl _))
 | str z =>
  obtain⟨rfl,hz⟩:=rv
  obtain⟨t,rfl⟩:=rx
  have qq:Rr (Its (tS z)) H1:=h1 F1 S1 H1 r1 (Grow.refl ..) (Its (tS z)) (z.map sg) (fun _=>True) (sgs_rep z) (by rw[List.length_map]; exact Nat.le_trans hz maxS_le) (by have:=walk_str (z:=tS z); rw[tS_cps]at this; exact this) fun _ _ _ _=>trivial
  have fin:∀ (n:String) (St':Nat→Heap→Prop),(∀ i h,St' i h→∃ o n vs,h.get? s1.heap.objs.size=some o∧o.cls = .type n∧o.data = .fields vs ∧
     ["enumerate","zip","dict_itemiterator","dict_reverseitemiterator","odict_iterator","itertools.zip_longest","itertools.pairwise"].contains n=false) →
    (∀ (A:Around) (i:Nat) (s:Shared) (Q:Value→Shared→Prop) (E:Value→Shared→Prop),St' i s.heap→Q (.ref s1.heap.objs.size) s→wpAny (model X.prog X.w) A (pyIter (.ref s1.heap.objs.size)) Q E s) →
    (∀ A:Around,A.handled=none→Walks X.prog X.w A s1.heap.objs.size [s1.heap.objs.size] [s1.heap.objs.size] (tS z).cps.size (SignAt (tS z)) St') →
    St' 0 (s1.heap.push { cls:=.type n,data:=.fields #[.str (tS z) t,.int 0 0] }) →
    PIE X pins σ tg Rr (.ref s1.heap.objs.size) { s1 with heap:=s1.heap.push { cls:=.type n,data:=.fields #[.str (tS z) t,.int 0 0] } }:=fun n St' h1 h2 h3 h4=>by
   refine⟨s1.heap.objs.size,[s1.heap.objs.size],St',Its (tS z),H1,rfl,I1.kept (t':=s1.toks) fun b o e=>Heap.get?_push_of_some _ e,turn_walks h1 h2 h3,h4,fun b hb=>?_,qq⟩
   have e:b=s1.heap.objs.size:=by simpa using hb
   subst e
   exact I1.fpOk (Nat.le_refl _) (I1.hok.fresh (Nat.le_refl _))
  cases ha:(tS z).cps.all (· < 128)
  ·refine wpAny_pyIter_wide ha (fin "str_iterator" (fun i h=>h.IsStrIter s1.heap.objs.size "str_iterator" (tS z) t i) (fun i h ⟨o,e1,e2,e3⟩=>⟨o,_,_,e1,e2,e3,by decide⟩) (fun A i s Q E st h=>wpAny_pyIter_striter_wide st h) (fun A' hA=>Walks.strWide hA _ (tS z) t) ⟨_,Heap.get?_push_size _ rfl,rfl,rfl⟩)
  ·refine wpAny_pyIter_ascii ha (fin "str_ascii_iterator" (fun i h=>h.IsStrIter s1.heap.objs.size "str_ascii_iterator" (tS z) t i) (fun i h ⟨o,e1,e2,e3⟩=>⟨o,_,_,e1,e2,e3,by decide⟩) (fun A i s Q E st h=>wpAny_pyIter_striter_ascii st h) (fun A' hA=>Walks.strAscii hA _ (tS z) t) ⟨_,Heap.get?_push_size _ rfl,rfl,rfl⟩)
 | non=>exact(show False from h1).elim
 | bl _=>exact(show False from h1).elim
 | int _=>exact(show False from h1).elim
 | raw _=>exact(show False from h1).elim
 | exc _=>exact(show False from h1).elim
def rngP(lo:Int)(n:Nat):List PV:=(List.range n).map fun i=>PV.int (lo+(i:Nat))
theorem rng_rep{H:Hp}{F:Addr→Prop}(lo:Int)(n:Nat):Reps K H F (rngP lo n) (rngV lo n):=by
 unfold rngP rngV
 induction (List.range n)with
 | nil=>rfl
 | cons x xs ih=>exact⟨_,_,rfl,rfl,ih⟩
def range1:List PV→Option (List PV)
 | [.int j]=>if j≤1000000∧-1000000≤j then some (rngP 0 j.toNat)else none
 | _=>none
theorem di_range1(hm:X.mg "range" = none)(ha:DA X E [a] ds)(hg:Gl X "range":=by rfl)(hs:starEach [a] X.env=[(false,eval a X.env)]:=by rfl):DI X E tg (.Call (.Name "range" p) [a] [] pos) (dL range1 ds):=fun F S ε σ H Rr rl h=>by
 refine wp_i (pi_range1 hg hm pa_wp hs) (ha F S ε σ H _ rl ((Ok.bind h).imp fun xs ε1 F1 S1 H1 r1 g1 h1 vs rvs=>?_))
 unfold range1 at h1
 split at h1
 ·rename_i j
  split at h1
  ·rename_i hj
   obtain⟨v,rfl,rv⟩:=reps1 rvs
   refine⟨j,by rw[show v=V.int j from rv],by ac_rfl,by ac_rfl,h1 F1 S1 H1 r1 (Grow.refl ..) _ _ _ (rng_rep 0 j.toNat) (by rw[rngV_len,sizeLine_eq]; ac_rfl) walk_rng fun _ _ _ _=>trivial⟩
  ·exact h1.elim
 ·exact h1.elim
end
end Pu
namespace Pu
open PySem PySem.Spec PyProof.Rows L2
section
variable{K:PySem.W.Frag}{F:Addr→Prop}{S:Nat→Addr→Prop}{ε:PEnv}{σ:St}{H:Hp}{i:Nat}{xs xs':List PV}{vs':List V}{a:Addr}
theorem Rel.lstAt(r:Rel K F S ε σ H)(e:ε[i]?=some (.own (.lst xs))):∃ a vs,σ[i]?=some (some (.ref a))∧H a=some (.lst vs)∧Reps K H F xs vs∧S i a∧∀ b,S i b→b=a:=by
 obtain⟨a,e1,⟨vs,h1,h2⟩,h3⟩:=r.own i _ e
 exact⟨a,vs,e1,h1,h2,(h3 a).mpr rfl,fun b h=>(h3 b).mp h⟩
theorem Rel.upd(r:Rel K F S ε σ H)(e:ε[i]?=some (.own (.lst xs)))(ea:σ[i]?=some (some (.ref a)))(h:Reps K H F xs' vs') :
  Rel K F S (ε.set i (.own (.lst xs'))) σ (upd H a (.lst vs'))∧Grow (U S) (U S) F F H (upd H a (.lst vs')):=by
 obtain⟨a',vs,e1,h1,h2,h3,h4⟩:=r.lstAt e
 rw[ea]at e1
 cases e1
 have hi:i<ε.length:=(List.getElem?_eq_some_iff.mp e).1
 have g:Grow (U S) (U S) F F H (L2.upd H a (.lst vs')):=⟨fun _ z=>z,fun b o q n=>by rw[upd_ne (by rintro rfl; exact n ⟨i,h3⟩)]; exact q,fun b o q=>by
  by_cases hb:b=a
  ·subst hb; exact⟨_,upd_same⟩
  ·exact⟨o,by rw[upd_ne hb]; exact q⟩,fun _ z=>.inl z,fun _ z=>.inl z⟩
 refine⟨⟨by rw[List.length_set]; exact r.len,fun b z=>let ⟨o,q⟩:=r.ex b z; g.there b o q,fun j pv q=>?_,fun j po q=>?_,fun j b z=>?_,r.dist⟩,g⟩
 ·have hj:i≠j:=by rintro rfl; rw[List.getElem?_set_self hi]at q; cases q
  rw[List.getElem?_set_ne hj]at q
  obtain⟨v,q1,q2⟩:=r.val j pv q
  exact⟨v,q1,q2.grow g r.fit⟩
 ·by_cases hj:i=j
  ·subst hj
   rw[List.getElem?_set_self hi]at q
   cases q
   exact⟨a,ea,⟨vs',upd_same,h.grow g r.fit⟩,fun b=>⟨h4 b,fun z=>by rw[z]; exact h3⟩⟩
  ·rw[List.getElem?_set_ne hj]at q
   obtain⟨c,q1,q2⟩:=r.own j po q
   refine⟨c,q1,q2.mono (fun _ _ z=>z.grow g r.fit) (fun _ _ z=>z.grow g r.fit) fun b o z w=>?_⟩
   rw[upd_ne (by rintro rfl; exact hj (r.dist i j b h3 z))]; exact w
 ·obtain⟨⟨po,q1⟩,q2,o,q3,q4⟩:=r.foot j b z
  by_cases hj:i=j
  ·subst hj
   rw[h4 b z]
   exact⟨⟨_,List.getElem?_set_self hi⟩,by rw[← h4 b z]; exact q2,_,upd_same,trivial⟩
  ·exact⟨⟨po,by rw[List.getElem?_set_ne hj]; exact q1⟩,q2,o,by rw[upd_ne (by rintro rfl; exact hj (r.dist i j b h3 z))]; exact q3,q4⟩
end
section
variable{X:Cx}{E:XK}{pin:List Nat}{e b:Expr}{de db:PEnv→R PV}{pos:Pos}
def ownL(ε:PEnv)(i:Nat):Option (List PV):=match ε[i]? with
 | some (.own (.lst xs))=>some xs
 | _=>none
theorem ownL_eq{ε:PEnv}{i:Nat}{xs:List PV}(h:ownL ε i=some xs):ε[i]?=some (.own (.lst xs)):=by
 unfold ownL at h
 split at h
 ·cases h; assumption
 ·cases h
def dApp(i:Nat)(de:PEnv→R PV):PEnv→R Flw:=fun ε=>(lift (ownL ε i) ε).bind fun _ ε=>(de ε).bind fun y ε1=>(lift (ownL ε1 i) ε1).bind fun xs ε1=>if xs.length<maxS then .ok .next (ε1.set i (.own (.lst (xs++[y]))))else .no
theorem ds_append(i:Nat){x:Str}{p apos cpos:Pos}(he:DE X E e de)(hN:X.N[i]?=some x:=by rfl)(hv:Vis X.env.scope x:=by first | exact Or.inl rfl | exact Or.inr (Or.inl rfl) | exact Or.inr (Or.inr rfl))(hd:(x == ("__debug__" : Str))=false:=by decide)
  (hcd:(x == ("__classdict__" : Str))=false:=by decide) (h1:attributeBase (.Name x p) "append" X.env (eval (.Name x p) X.env)=eval (.Name x p) X.env:=by rfl)
  (h2:((backTo cpos (starEach [e] X.env)).all (fun x=>!x.1) && (backToKw cpos (keywordEach [] X.env)).all (fun x=>x.1.isSome) && decide ([e].length+([]:List Keyword).length+(if([]:List Keyword).isEmpty then 0 else 1)<30))=true:=by rfl)
  (h3:(apos.endLine == cpos.line)=true:=by rfl) (h4:starEach [e] X.env=(false,eval e X.env)::starEach [] X.env:=by rfl) (h5:(backTo cpos (starEach [] X.env)).any (·.1)=false:=by rfl)
  (hs:swapsWith (.Call (.Attribute (.Name x p) "append" apos) [e] [] cpos) none pos.line X.env=pure false:=by rfl) :
  DS X E pin (.Expr (.Call (.Attribute (.Name x p) "append" apos) [e] [] cpos) pos) (dApp i de):=fun F S ε σ H D rl h=>by
 unfold dApp at h
 cases e0:ownL ε i with
 | none=>rw[e0]at h; exact h.elim
 | some xs0 =>
  rw[e0]at h
  simp only[lift_some,R.bind_ok]at h
  obtain⟨a,vs0,ea,ha,_,_,_⟩:=rl.lstAt (ownL_eq e0)
  refine wp_s (ps_expr (pe_bm PySem.F.plainAttrs_list PySem.F.slot_list_append PySem.F.type_list_append mt_append (pe_var hN hv hd hcd) (pa_cons pe_wp pa_nil h4) h1 h2 h3 h4 h5) hs) ⟨.ref a,ea,.inl ⟨rfl,_,SqL.of ha⟩,?_⟩
  refine he F S ε σ H _ rl (h.bindE.imp fun y ε1 F1 S1 H1 r1 g1 q v rv=>?_)
  cases e1:ownL ε1 i with
  | none=>rw[e1]at q; exact q.elim
  | some xs =>
   rw[e1]at q
   simp only[lift_some,R.bind_ok]at q
   obtain⟨a',vs,ea',ha',ra,_,_⟩:=r1.lstAt (ownL_eq e1)
   rw[ea]at ea'
   cases ea'
   split at q
   ·rename_i hl
    obtain⟨r2,g2⟩:=r1.upd (ownL_eq e1) ea (ra.app (.one rv))
    exact⟨a,vs,v,rfl,rfl,ha',by rw[ra.len]; exact Nat.lt_of_lt_of_le hl maxS_le,q F1 S1 σ _ r2 g2 (PinOk.refl _ _)⟩
   ·exact q.elim
def rExtQ:V→List V→Hp→VK→Prop:=fun x vs H Q=>∃ l b xs zs,x = .ref l∧vs=[.ref b]∧H l=some (.lst xs)∧Rd H b (.lst zs)∧xs.length+zs.length≤sizeLine∧Q .non (L2.upd H l (.lst (xs++zs)))
theorem mt_extQ:MtM X "list.extend" rExtQ:=by
 intro pins s σ H x vs v us Q I rx rv h
 obtain⟨l,b,xs,zs,rfl,rfl,hH,hB,hz,q⟩:=h
 cases rx
 obtain⟨u,rfl,ru⟩:=rv.one
 cases ru
 obtain⟨z,its,n,r,hl,e⟩:=I.lstM hH
 obtain⟨its2,n2,r2,e2,_⟩:=rd_lst I hB
 have hl2:=r2.length
 have hsz:its.toArray.size+its2.toArray.size≤sizeLine:=by rw[List.size_toArray,List.size_toArray]; ac_rfl
 have hlong:¬ (!its.toArray.isEmpty && Builtin.List.listTooLong (its.toArray.size+its2.toArray.size))=true:=by
  rw[notLongL hsz,Bool.and_false]
  exact Bool.false_ne_true
 refine call_meets F.slot_list_extend ⟨_,e,rfl⟩ F.entry_list_extend (F.args_list_extend_2 _ _)
  (AutoSeq1.list_extend_list_list_0 l its.toArray n b its2.toArray n2 hlong (by rw[List.size_toArray]; ac_rfl) (by ac_rfl)) ⟨e,e2,?_⟩
 refine⟨.non,_,I.lset (its':=its++its2) hH e (by simp) (r.append r2) ?_,rfl,q⟩
 rw[List.length_append]
 ac_rfl
def dExt(i:Nat)(de:PEnv→R PV):PEnv→R Flw:=fun ε=>(lift (ownL ε i) ε).bind fun _ ε=>(de ε).bind fun y ε1=>(lift (ownL ε1 i) ε1).bind fun xs ε1=>match y with
 | .lst ys=>if xs.length+ys.length≤maxS then .ok .next (ε1.set i (.own (.lst (xs++ys))))else .no
 | _=>.no
theorem ds_extend(i:Nat){x:Str}{p apos cpos:Pos}(he:DE X E e de)(hN:X.N[i]?=some x:=by rfl)(hv:Vis X.env.scope x:=by first | exact Or.inl rfl | exact Or.inr (Or.inl rfl) | exact Or.inr (Or.inr rfl))(hd:(x == ("__debug__" : Str))=false:=by decide)
  (hcd:(x == ("__classdict__" : Str))=false:=by decide) (h1:attributeBase (.Name x p) "extend" X.env (eval (.Name x p) X.env)=eval (.Name x p) X.env:=by rfl)
  (h2:((backTo cpos (starEach [e] X.env)).all (fun x=>!x.1) && (backToKw cpos (keywordEach [] X.env)).all (fun x=>x.1.isSome) && decide ([e].length+([]:List Keyword).length+(if([]:List Keyword).isEmpty then 0 else 1)<30))=true:=by rfl)
  (h3:(apos.endLine == cpos.line)=true:=by rfl) (h4:starEach [e] X.env=(false,eval e X.env)::starEach [] X.env:=by rfl) (h5:(backTo cpos (starEach [] X.env)).any (·.1)=false:=by rfl)
  (hs:swapsWith (.Call (.Attribute (.Name x p) "extend" apos) [e] [] cpos) none pos.line X.env=pure false:=by rfl) :
  DS X E pin (.Expr (.Call (.Attribute (.Name x p) "extend" apos) [e] [] cpos) pos) (dExt i de):=fun F S ε σ H D rl h=>by
 unfold dExt at h
 cases e0:ownL ε i with
 | none=>rw[e0]at h; exact h.elim
 | some xs0 =>
  rw[e0]at h
  simp only[lift_some,R.bind_ok]at h
  obtain⟨a,vs0,ea,ha,_,_,_⟩:=rl.lstAt (ownL_eq e0)
  refine wp_s (ps_expr (pe_bm PySem.F.plainAttrs_list PySem.F.slot_list_extend PySem.F.type_list_extend mt_extQ (pe_var hN hv hd hcd) (pa_cons pe_wp pa_nil h4) h1 h2 h3 h4 h5) hs) ⟨.ref a,ea,.inl ⟨rfl,_,SqL.of ha⟩,?_⟩
  refine he F S ε σ H _ rl (h.bindE.imp fun y ε1 F1 S1 H1 r1 g1 q v rv=>?_)
  cases e1:ownL ε1 i with
  | none=>rw[e1]at q; exact q.elim
  | some xs =>
   rw[e1]at q
   simp only[lift_some,R.bind_ok]at q
   obtain⟨a',vs,ea',ha',ra,_,_⟩:=r1.lstAt (ownL_eq e1)
   rw[ea]at ea'
   cases ea'
   split at q
   ·rename_i ys
    split at q
    ·rename_i hl
     obtain⟨c,us,rfl,hc,_,rc⟩:=rv
     obtain⟨r2,g2⟩:=r1.upd (ownL_eq e1) ea (ra.app rc)
     exact⟨a,c,vs,us,rfl,rfl,ha',hc,by rw[ra.len,rc.len]; exact Nat.le_trans hl maxS_le,q F1 S1 σ _ r2 g2 (PinOk.refl _ _)⟩
    ·exact q.elim
   ·exact q.elim
def dPutIx(i:Nat)(db de:PEnv→R PV):PEnv→R Flw:=fun ε=>(de ε).bind fun y ε1=>(lift (ownL ε1 i) ε1).bind fun _ ε1=>(db ε1).bind fun k ε2=>(lift (ownL ε2 i) ε2).bind fun xs ε2=>match k with
 | .int k=>match ixN xs.length k with
  | some j=>.ok .next (ε2.set i (.own (.lst (xs.set j y))))
  | none=>.no
 | _=>.no
theorem ds_putIx(i:Nat){x:Str}{p tpos:Pos}(hb:DE X E b db)(he:DE X E e de)(hN:X.N[i]?=some x:=by rfl)(hv:Vis X.env.scope x:=by first | exact Or.inl rfl | exact Or.inr (Or.inl rfl) | exact Or.inr (Or.inr rfl))(hd:(x == ("__debug__" : Str))=false:=by decide)
  (hcd:(x == ("__classdict__" : Str))=false:=by decide) (ha:∀ v,assign (.Subscript (.Name x p) b tpos) X.env v=(do
   let ov ← holding [v] (eval (.Name x p) X.env)
   let iv ← holding [v,ov] (eval b X.env)
   standAt tpos
   holding [v,ov,iv] (setItem ov iv v)
   release [v,ov,iv] []):=by intro _; rfl) (hs:swapsWithSole [.Subscript (.Name x p) b tpos] e pos.line X.env=pure false:=by rfl) (hw:swappedStores [.Subscript (.Name x p) b tpos] e X.env=pure none:=by rfl)
  (h1:(assignEach [.Subscript (.Name x p) b tpos] X.env).map (·.2)=[assign (.Subscript (.Name x p) b tpos) X.env]:=by rfl):DS X E pin (.Assign [.Subscript (.Name x p) b tpos] e pos) (dPutIx i db de):=fun F S ε σ H D rl h=>by
 refine wp_s (ps_asg pe_wp (pg_sub (pe_var hN hv hd hcd) pe_wp set_list ha) hs hw h1) (he F S ε σ H _ rl (h.bindE.imp fun y ε1 F1 S1 H1 r1 g1 q v rv=>?_))
 cases e0:ownL ε1 i with
 | none=>rw[e0]at q; exact q.elim
 | some xs0 =>
  rw[e0]at q
  simp only[lift_some,R.bind_ok]at q
  obtain⟨a,vs0,ea,ha0,_,_,_⟩:=r1.lstAt (ownL_eq e0)
  refine⟨.ref a,ea,hb F1 S1 ε1 σ H1 _ r1 (q.bindE.imp fun k ε2 F2 S2 H2 r2 g2 q2 u ru=>?_)⟩
  cases e1:ownL ε2 i with
  | none=>rw[e1]at q2; exact q2.elim
  | some xs =>
   rw[e1]at q2
   simp only[lift_some,R.bind_ok]at q2
   obtain⟨a',vs,ea',ha',ra,_,_⟩:=r2.lstAt (ownL_eq e1)
   rw[ea]at ea'
   cases ea'
   split at q2
   ·rename_i k
    split at q2
    ·rename_i j hj
     obtain⟨r3,g3⟩:=r2.upd (ownL_eq e1) ea (ra.set (rv.grow g2 r1.fit) j)
     exact⟨a,vs,k,j,rfl,ru,ha',by rw[ra.len]; exact hj,q2 F2 S2 σ _ r3 g3 (PinOk.refl _ _)⟩
    ·exact q2.elim
   ·exact q2.elim
end
mutual
def imm:PV→Bool
 | .lst _=>false
 | .tup xs=>imms xs
 | _=>true
def imms:List PV→Bool
 | []=>true
 | x::xs=>imm x && imms xs
end
mutual
theorem Rep.imm{K:PySem.W.Frag}{H:Hp}{F F':Addr→Prop}:∀ (x:PV) {v:V},imm x=true→Rep K H F x v→Rep K H F' x v
 | .non,_,_,h=>h
 | .bl _,_,_,h=>h
 | .int _,_,_,h=>h
 | .str _,_,_,h=>h
 | .raw _,_,_,h=>h
 | .exc _,_,_,h=>h
 | .lst _,_,e,_=>by simp[Pu.imm]at e
 | .tup xs,_,e,⟨a,vs,e1,h1,h2⟩=>⟨a,vs,e1,h1,Reps.imm xs (by simpa[Pu.imm]using e) h2⟩
theorem Reps.imm{K:PySem.W.Frag}{H:Hp}{F F':Addr→Prop}:∀ (xs:List PV) {vs:List V},imms xs=true→Reps K H F xs vs→Reps K H F' xs vs
 | [],_,_,h=>h
 | x::xs,_,e,⟨v,r,e1,h1,h2⟩=>by
  have e':imm x=true∧imms xs=true:=by simpa[imms]using e
  exact⟨v,r,e1,Rep.imm x e'.1 h1,Reps.imm xs e'.2 h2⟩
end
section
variable{K:PySem.W.Frag}{F:Addr→Prop}{S:Nat→Addr→Prop}{ε:PEnv}{σ:St}{H:Hp}{i:Nat}{xs:List PV}
theorem Rel.look(r:Rel K F S ε σ H)(e:ε[i]?=some (.own (.lst xs))):∃ a,σ[i]?=some (some (.ref a))∧¬ F a∧Rep K H (fun b=>F b∨b=a) (.lst xs) (.ref a)∧(∀ b,F b∨b=a→∃ o,H b=some o) ∧
  (∀ {F' H'},Al (fun b=>F b∨b=a) F' H H'→Al F (fun b=>F' b∧b≠a) H H'):=by
 obtain⟨a,vs,e1,h1,h2,h3,h4⟩:=r.lstAt e
 have nF:¬ F a:=(r.foot i a h3).2.1
 refine⟨a,e1,nF,⟨a,vs,rfl,.inl h1,.inr rfl,Reps.mono (fun _ z=>.inl z) (fun _ _ _ z=>z) (fun _ _ z _=>z) _ _ h2⟩,fun b z=>z.elim (r.ex b) fun z=>by rw[z]; exact⟨_,h1⟩,fun {F' H'} al=>⟨fun b z=>⟨al.fro b (.inl z),by rintro rfl; exact nF z⟩,al.same,fun b z=>?_⟩⟩
 rcases al.fnew b z.1 with(w | w) | w
 ·exact .inl w
 ·exact absurd w z.2
 ·exact .inr w
end
section
variable{X:Cx}{E:XK}{e b:Expr}{de db:PEnv→R PV}{pos p:Pos}{x y:Str}{id T:String}{r:List V→Hp→VK→Prop}{f:List PV→Option PV}{fn:List PV→Option PO}
def immO(o:Option PV):Option PV:=o.bind fun v=>if imm v then some v else none
theorem immO_eq{o:Option PV}{v:PV}(h:immO o=some v):o=some v∧imm v=true:=by
 cases o with
 | none=>cases h
 | some w =>
  have h:(if imm w then some w else none)=some v:=h
  split at h
  ·cases h; exact⟨rfl,by assumption⟩
  ·cases h
def immPO:PO→Bool
 | .lst xs=>imms xs
 | _=>false
def dOwn1{α:Type}(f:List PV→Option α)(i:Nat):PEnv→R α:=fun ε=>(lift (ownL ε i) ε).bind fun xs ε=>lift (f [.lst xs]) ε
theorem own1_run{F:Addr→Prop}{S:Nat→Addr→Prop}{ε:PEnv}{σ:St}{H:Hp}{Q:VK}{i:Nat}(hp:PL X.K r f)(rl:Rel X.K F S ε σ H)(h:Ok X.K E σ F S H (dOwn1 (fun xs=>immO (f xs)) i ε) (fun pv _ F' _ H'=>∀ v,Rep X.K H' F' pv v→Q v H')) :
  ∃ a,σ[i]?=some (some (.ref a))∧r [.ref a] H Q:=by
 unfold dOwn1 at h
 cases e0:ownL ε i with
 | none=>rw[e0]at h; exact h.elim
 | some xs =>
  rw[e0]at h
  simp only[lift_some,R.bind_ok]at h
  obtain⟨a,ea,nF,ra,hex,hal⟩:=rl.look (ownL_eq e0)
  refine⟨a,ea,?_⟩
  cases e1:immO (f [.lst xs])with
  | none=>rw[e1]at h; exact h.elim
  | some pv =>
   rw[e1]at h
   obtain⟨e2,e3⟩:=immO_eq e1
   exact hp _ H [.lst xs] [.ref a] Q pv (.one ra) e2 fun w F' H' al rw'=>h _ S H' (rl.al (hal al)) (hal al).grow w (Rep.imm pv e3 rw')
theorem de_own1B(i:Nat)(hc:CallR X (.builtin id) r)(hp:PL X.K r f)(hm:X.mg x=none)(hv:bootBuiltins x=some (.builtin id))(hN:X.N[i]?=some y:=by rfl)(hvs:Vis X.env.scope y:=by first | exact Or.inl rfl | exact Or.inr (Or.inl rfl) | exact Or.inr (Or.inr rfl))
  (hd:(y == ("__debug__" : Str))=false:=by decide) (hcd:(y == ("__classdict__" : Str))=false:=by decide) (hg:Gl X x:=by rfl) (hn:x≠"__name__":=by decide) (hdb:(x == ("__debug__" : Str))=false:=by decide) {yp:Pos}
  (he:starEach [.Name y yp] X.env=(false,eval (.Name y yp) X.env)::starEach [] X.env:=by rfl) (hpl:(backTo pos (starEach [] X.env)).any (·.1)=false:=by rfl):DE X E (.Call (.Name x p) [.Name y yp] [] pos) (dOwn1 (fun xs=>immO (f xs)) i):=fun F S ε σ H Q rl q=>by
 obtain⟨a,ea,hr⟩:=own1_run hp rl q
 exact wp_e (pe_callB hc hg hm hv (pa_cons (pe_var hN hvs hd hcd) pa_nil he) hn hdb he hpl) ⟨_,ea,hr⟩
def immN(o:Option PO):Option PO:=o.bind fun v=>if immPO v then some v else none
theorem own1n_run{F:Addr→Prop}{S:Nat→Addr→Prop}{ε:PEnv}{σ:St}{H:Hp}{Q:VK}{i:Nat}(hp:PLn X.K r fn)(rl:Rel X.K F S ε σ H)
  (h:Ok X.K E σ F S H (dOwn1 (fun xs=>immN (fn xs)) i ε) (fun po _ F' S' H'=>∀ a Sa,Own X.K H' F' po a Sa→(∀ b,Sa b→H b=none∧¬ F' b∧¬ U S' b∧∃ o,H' b=some o∧notImm o)→Q (.ref a) H')) :
  ∃ a,σ[i]?=some (some (.ref a))∧r [.ref a] H Q:=by
 unfold dOwn1 at h
 cases e0:ownL ε i with
 | none=>rw[e0]at h; exact h.elim
 | some xs =>
  rw[e0]at h
  simp only[lift_some,R.bind_ok]at h
  obtain⟨a,ea,nF,ra,hex,hal⟩:=rl.look (ownL_eq e0)
  refine⟨a,ea,?_⟩
  cases e1:fn [.lst xs]with
  | none=>rw[e1]at h; exact h.elim
  | some po =>
   rw[e1]at h
   cases po with
   | dK kvs=>exact h.elim
   | lls xss=>exact h.elim
   | ins C fs=>exact h.elim
   | lst ys =>
    have h:Ok X.K E σ F S H (lift (if imms ys then some (PO.lst ys)else none) ε) _:=h
    split at h
    ·rename_i hi
     refine hp _ H [.lst xs] [.ref a] Q _ hex (.one ra) e1 fun c F' H' Sa al ow fr=>h _ S H' (rl.al (hal al)) (hal al).grow c Sa ?_ fun b z=>?_
     ·obtain⟨⟨vs,o1,o2⟩,o3⟩:=ow
      exact⟨⟨vs,o1,Reps.imm ys hi o2⟩,o3⟩
     ·obtain⟨z1,z2,o,z3,z4⟩:=fr b z
      refine⟨z1,fun w=>z2 w.1,fun⟨j,w⟩=>?_,o,z3,z4⟩
      obtain⟨_,_,o',w1,_⟩:=rl.foot j b w
      rw[z1]at w1; cases w1
    ·exact h.elim
theorem dn_own1B(i:Nat)(hc:CallR X (.builtin id) r)(hp:PLn X.K r fn)(hm:X.mg x=none)(hv:bootBuiltins x=some (.builtin id))(hN:X.N[i]?=some y:=by rfl)(hvs:Vis X.env.scope y:=by first | exact Or.inl rfl | exact Or.inr (Or.inl rfl) | exact Or.inr (Or.inr rfl))
  (hd:(y == ("__debug__" : Str))=false:=by decide) (hcd:(y == ("__classdict__" : Str))=false:=by decide) (hg:Gl X x:=by rfl) (hn:x≠"__name__":=by decide) (hdb:(x == ("__debug__" : Str))=false:=by decide) {yp:Pos}
  (he:starEach [.Name y yp] X.env=(false,eval (.Name y yp) X.env)::starEach [] X.env:=by rfl) (hpl:(backTo pos (starEach [] X.env)).any (·.1)=false:=by rfl):DN X E (.Call (.Name x p) [.Name y yp] [] pos) (dOwn1 (fun xs=>immN (fn xs)) i):=fun F S ε σ H Q rl q=>by
 obtain⟨a,ea,hr⟩:=own1n_run hp rl q
 exact wp_e (pe_callB hc hg hm hv (pa_cons (pe_var hN hvs hd hcd) pa_nil he) hn hdb he hpl) ⟨_,ea,hr⟩
end
end Pu
namespace Pu
open PySem PySem.Spec PyProof.Rows L2
def Fly(h:Heap)(e T:Addr)(c fl:Value):Prop:=∃ oe vs oT ts,h.get? e=some oe∧oe.cls=c∧(oe.data = .fields vs∧oe.dict=none)∧vs[1]?=some (.ref T)∧T≠e∧h.get? T=some oT∧oT.data = .fields ts∧ts[3]?=some fl
def Made(h:Heap)(e:Addr)(c:Value):Prop:=∃ oe vs,h.get? e=some oe∧oe.cls=c∧(oe.data = .fields vs∧oe.dict=none)∧vs[1]?=some .none
structure Kp(fs:List Addr)(X:Addr→Prop)(h h':Heap):Prop where
 keep:∀ b o,h.get? b=some o→b∉fs→¬ X b→h'.get? b=some o
 slot:∀ b o,h.get? b=some o→b∈fs→¬ X b→∃ sl,h'.get? b=some { o with slots:=sl }
 there:∀ b o,h.get? b=some o→∃ o',h'.get? b=some o'
theorem Kp.trans{fs:List Addr}{X Y:Addr→Prop}{h h1 h2:Heap}(a:Kp fs X h h1)(b:Kp fs Y h1 h2):Kp fs (fun c=>X c∨Y c) h h2 where
 keep:=fun c o e n x=>b.keep c o (a.keep c o e n fun z=>x (.inl z)) n fun z=>x (.inr z)
 slot:=fun c o e n x=>by
  obtain⟨sl,e1⟩:=a.slot c o e n fun z=>x (.inl z)
  obtain⟨sl2,e2⟩:=b.slot c _ e1 n fun z=>x (.inr z)
  exact⟨sl2,e2⟩
 there:=fun c o e=>let ⟨o',e'⟩:=a.there c o e; b.there c o' e'
theorem Kp.imp{fs fs':List Addr}{X Y:Addr→Prop}{h h':Heap}(a:Kp fs X h h')(hfs:∀ b,b∈fs→b∈fs')(hX:∀ b o,h.get? b=some o→X b→Y b):Kp fs' Y h h' where
 keep:=fun c o e n x=>a.keep c o e (fun z=>n (hfs c z)) fun z=>x (hX c o e z)
 slot:=fun c o e n x=>by
  by_cases hc:c∈fs
  ·exact a.slot c o e hc fun z=>x (hX c o e z)
  ·exact⟨o.slots,a.keep c o e hc fun z=>x (hX c o e z)⟩
 there:=a.there
theorem dict_mapFields(f:Array Value→Array Value)(o:Obj):(Obj.mapFields f o).dict=o.dict:=by
 obtain⟨c,d,dt,sl⟩:=o
 cases dt <;> rfl
section
variable{M:Model}{A:Around}{E:Value→Shared→Prop}{s:Shared}
theorem wp_entry{base:Heap}{env:Env}{outer:List Env}{L e:Addr}{oe:Obj}{vs:Array Value}{head:Value}{hadNext:Bool}{Q:Unit→Shared→Prop}
  (hfr:A.frames=some (env::outer)) (hl:s.heap.FunFrames base (env::outer)) (hf:env.frame=some L) (he:s.heap.get? e=some oe) (hd:oe.data = .fields vs) (hdn:oe.dict=none) (hsz:1<vs.size)
  (h:∀ h' T,Kp (frs (env::outer)) (fun b=>b=e) s.heap h'→Fly h' e T oe.cls .none→s.heap.objs.size≤T→Q () { s with heap:=h' }) :
  wpAny M A (do let a ← frameOf env; let pl ← entryPlaceOf L hadNext; let b ← EntryCells.newEntry head a .none (rawInt L) .none pl; setField (.ref e) 1 b) (fun _ s'=>wpAny M A (setFlight (.ref e) none) Q E s') E s:=by
 have hene:e∉(env::outer).filterMap (·.frame):=fun hm=>by
  obtain⟨_,o,ho,hnf⟩:=hl.mem hm
  rw[he]at ho; injection ho with ho; subst ho; exact hnf vs hd
 refine wpAny_bind (wpAny_frameOf_fun hfr hl hf fun h₁ hs₁=>?_)
 refine wpAny_bind (wpAny_entryPlaceOf fun pl hpl=>?_)
 unfold EntryCells.newEntry newFields
 refine wpAny_bind (wpAny_newObj_type ?_ (hpl.sizeOk5 _ _ _ _ _))
 have he₁:h₁.get? e=some oe:=(hs₁.2.1 e hene).trans he
 have he₂:=Heap.get?_push_of_some (h:=h₁) { cls:=.type "traceback",dict:=none,data:=.fields ([head,.ref L,.none,rawInt L,.none]++(if pl.isEmpty then List.replicate 6 Value.none else pl)).toArray } he₁
 refine wpAny_setField he₂ hd hsz ?_
 have hTe:h₁.objs.size≠e:=Nat.ne_of_gt (Heap.lt_size he₁)
 have hd₃:=Obj.data_mapFields hd (·.setIfInBounds 1 (Value.ref h₁.objs.size))
 have he₃:=Heap.get?_update_self (Obj.mapFields (·.setIfInBounds 1 (Value.ref h₁.objs.size))) he₂ (Obj.isFreed_of_fields hd₃)
 have hT₃:=(Heap.get?_update_other (h₁.push { cls:=.type "traceback",dict:=none,data:=.fields ([head,.ref L,.none,rawInt L,.none]++(if pl.isEmpty then List.replicate 6 Value.none else pl)).toArray })
  (Obj.mapFields (·.setIfInBounds 1 (Value.ref h₁.objs.size))) (Ne.symm hTe)).trans (Heap.get?_push_size h₁ rfl)
 unfold setFlight
 refine wpAny_bind (wpAny_field he₃ hd₃ (x:=.ref h₁.objs.size) (by simp[hsz]) ?_)
 rw[if_pos (show(Value.ref h₁.objs.size != Value.none)=true from by simp)]
 refine wpAny_setField hT₃ rfl (by simp only[List.size_toArray,List.length_append,List.length_cons,List.length_nil] <;> ac_rfl) (h _ h₁.objs.size ?_ ?_ ?_)
 ·have keep:∀ b o,b≠e→h₁.get? b=some o →
    (((h₁.push { cls:=.type "traceback",dict:=none,data:=.fields ([head,.ref L,.none,rawInt L,.none]++(if pl.isEmpty then List.replicate 6 Value.none else pl)).toArray }).update e (Obj.mapFields (·.setIfInBounds 1 (Value.ref h₁.objs.size)))).update h₁.objs.size
     (Obj.mapFields (·.setIfInBounds 3 ((none:Option Addr).elim Value.none fun f=>rawInt f)))).get? b=some o:=fun b o hbe hb=>by
   have hbT:h₁.objs.size≠b:=Nat.ne_of_gt (Heap.lt_size hb)
   rw[Heap.get?_update_other _ _ hbT,Heap.get?_update_other _ _ (Ne.symm hbe)]
   exact Heap.get?_push_of_some _ hb
  refine⟨fun b o hb hn hx=>keep b o hx ((hs₁.2.1 b hn).trans hb),fun b o hb hn hx=>?_,fun b o hb=>?_⟩
  ·obtain⟨sl,q⟩:=hs₁.2.2 b o hb
   exact⟨sl,keep b _ hx q⟩
  ·by_cases hbe:b=e
   ·subst hbe
    exact⟨_,(Heap.get?_update_other _ _ hTe).trans he₃⟩
   ·obtain⟨sl,q⟩:=hs₁.2.2 b o hb
    exact⟨_,keep b _ hbe q⟩
 ·refine⟨_,_,_,_,(Heap.get?_update_other _ _ hTe).trans he₃,Obj.cls_mapFields _ _,⟨hd₃,by rw[dict_mapFields]; exact hdn⟩,by simp[hsz],hTe,Heap.get?_update_self _ hT₃ (Obj.isFreed_of_fields (Obj.data_mapFields rfl _)),Obj.data_mapFields rfl _,by first | (simp; done) | (rcases hpl with rfl | ⟨_,_,_,_,_,_,_,rfl⟩ <;> simp)⟩
 ·exact Nat.le_of_eq hs₁.1.symm
theorem wp_leave_first{base:Heap}{env:Env}{outer:List Env}{L e:Addr}{c:Value}{Q:Unit→Shared→Prop}(hfr:A.frames=some (env::outer))(hl:s.heap.FunFrames base (env::outer))(hf:env.frame=some L)(hm:Made s.heap e c)
  (h:∀ h' T,Kp (frs (env::outer)) (fun b=>b=e) s.heap h'→Fly h' e T c .none→s.heap.objs.size≤T→Q () { s with heap:=h' }):wpAny M A (leaving env (.ref e)) Q E s:=by
 obtain⟨oe,vs,he,hc,⟨hd,hdn⟩,h1⟩:=hm
 subst hc
 unfold leaving noteFrame
 simp only[hf]
 refine wpAny_bind (wpAny_bind (wpAny_field he hd h1 ?_))
 rw[if_neg (by decide)]
 exact wp_entry hfr hl hf he hd hdn (Array.getElem?_eq_some_iff.mp h1).1 h
theorem wp_note_next{base:Heap}{env:Env}{outer:List Env}{L e T:Addr}{c:Value}{Q:Unit→Shared→Prop}(hfr:A.frames=some (env::outer))(hl:s.heap.FunFrames base (env::outer))(hf:env.frame=some L)(ht:Fly s.heap e T c .none)
  (h:∀ h' T',Kp (frs (env::outer)) (fun b=>b=e∨b=T) s.heap h'→Fly h' e T' c .none→s.heap.objs.size≤T'→Q () { s with heap:=h' }) :
  wpAny M A (noteFrame (.ref e) env) (fun _ s2=>wpAny M A (setFlight (.ref e) none) Q E s2) E s:=by
 obtain⟨oe,vs,oT,ts,he,hcls,⟨hd,hdn⟩,h1,hTe,hT,hdT,h3⟩:=ht
 subst hcls
 unfold noteFrame
 simp only[hf]
 refine wpAny_bind (wpAny_field he hd h1 ?_)
 rw[if_pos (show(Value.ref T != Value.none)=true from by simp)]
 refine wpAny_bind (wpAny_field hT hdT h3 ?_)
 rw[if_neg (show ¬ ((Value.none == rawInt L)=true)from by simp[rawInt])]
 refine wpAny_bind (wpAny_setField hT hdT (Array.getElem?_eq_some_iff.mp h3).1 ?_)
 have other:∀ b,b≠T→(s.heap.update T (Obj.mapFields (·.setIfInBounds 3 Value.none))).get? b=s.heap.get? b:=fun b hb=>Heap.get?_update_other _ _ (Ne.symm hb)
 have noRecord:∀ b o,s.heap.get? b=some o→(∀ vs,o.data≠.fields vs)→b≠T:=fun b o hb hnf q=>by
  rw[q,hT]at hb; injection hb with hb; subst hb; exact hnf ts hdT
 refine wp_entry hfr (hl.of_keeps fun b o hb hnf=>⟨o,(other b (noRecord b o hb hnf)).trans hb,rfl⟩) hf ((other e (Ne.symm hTe)).trans he) hd hdn (Array.getElem?_eq_some_iff.mp h1).1 fun h' T' k fl hn=>?_
 have k0:Kp (frs (env::outer)) (fun b=>b=T) s.heap (s.heap.update T (Obj.mapFields (·.setIfInBounds 3 Value.none))):=by
  refine⟨fun b o hb _ hx=>(other b hx).trans hb,fun b o hb _ hx=>⟨o.slots,(other b hx).trans hb⟩,fun b o hb=>?_⟩
  by_cases hx:b=T
  ·subst hx
   exact⟨_,Heap.get?_update_self _ hT (Obj.isFreed_of_fields (Obj.data_mapFields hdT _))⟩
  ·exact⟨o,(other b hx).trans hb⟩
 refine h h' T' ((k0.trans k).imp (fun _ z=>z) fun b o _ z=>z.symm) fl ?_
 have e2:(s.heap.update T (Obj.mapFields (·.setIfInBounds 3 Value.none))).objs.size≤T':=hn
 rwa[Heap.size_update]at e2
theorem wp_leave_next{base:Heap}{env:Env}{outer:List Env}{L e T:Addr}{c:Value}{Q:Unit→Shared→Prop}(hfr:A.frames=some (env::outer))(hl:s.heap.FunFrames base (env::outer))(hf:env.frame=some L)(ht:Fly s.heap e T c .none)
  (h:∀ h' T',Kp (frs (env::outer)) (fun b=>b=e∨b=T) s.heap h'→Fly h' e T' c .none→s.heap.objs.size≤T'→Q () { s with heap:=h' }):wpAny M A (leaving env (.ref e)) Q E s:=by
 unfold leaving
 exact wpAny_bind (wp_note_next hfr hl hf ht h)
theorem wp_lands{e T:Addr}{c fl:Value}{Q:Unit→Shared→Prop}(ht:Fly s.heap e T c fl)(h:∀ h',Kp [] (fun b=>b=T) s.heap h'→Fly h' e T c .none→Q () { s with heap:=h' }):wpAny M A (setFlight (.ref e) none) Q E s:=by
 obtain⟨oe,vs,oT,ts,he,hcls,⟨hd,hdn⟩,h1,hTe,hT,hdT,h3⟩:=ht
 have hsz3:3<ts.size:=(Array.getElem?_eq_some_iff.mp h3).1
 have other:∀ b,b≠T→(s.heap.update T (Obj.mapFields (·.setIfInBounds 3 ((none:Option Addr).elim Value.none fun f=>rawInt f)))).get? b=s.heap.get? b:=fun b hb=>Heap.get?_update_other _ _ (Ne.symm hb)
 have self:=Heap.get?_update_self (Obj.mapFields (·.setIfInBounds 3 ((none:Option Addr).elim Value.none fun f=>rawInt f))) hT (Obj.isFreed_of_fields (Obj.data_mapFields hdT _))
 unfold setFlight
 refine wpAny_bind (wpAny_field he hd h1 ?_)
 rw[if_pos (show(Value.ref T != Value.none)=true from by simp)]
 refine wpAny_setField hT hdT hsz3 (h _ ⟨fun b o hb _ hx=>(other b hx).trans hb,fun b o hb _ hx=>⟨o.slots,(other b hx).trans hb⟩,fun b o hb=>?_⟩ ⟨oe,vs,_,_,(other e (Ne.symm hTe)).trans he,hcls,⟨hd,hdn⟩,h1,hTe,self,Obj.data_mapFields hdT _,by simp[hsz3]⟩)
 by_cases hx:b=T
 ·subst hx; exact⟨_,self⟩
 ·exact⟨o,(other b hx).trans hb⟩
end
end Pu
namespace Pu
open PySem PySem.Spec PyProof.Rows L2
def CXE(P:Program)(w:World):CXT:=fun outer H s E e s'=>∃ (a T:Addr) (c:Value) (H':Hp),e = .ref a∧s'.os=s.os∧AllBare s'.gens∧Un (frs outer) [] H H' s.heap s'.heap∧HOk P w H' s'.heap∧Fly s'.heap a T c .none ∧
 (s.heap.get? a=none∧s.heap.get? T=none∧H' a=none∧H' T=none)∧E c none H'
theorem obj_ex{P:Program}{w:World}{H:Hp}{h:Heap}{a:Addr}{o:HO}(x:ObjOk P w H h a o):∃ u,h.get? a=some u:=by
 cases o with
 | lst xs=>obtain⟨_,_,_,_,e⟩:=x; exact⟨_,e⟩
 | tup xs=>obtain⟨_,_,_,⟨o,e,_⟩,_⟩:=x; exact⟨_,e⟩
 | dK kvs=>obtain⟨_,_,_,_,o,_,_,e,_⟩:=x; exact⟨_,e⟩
 | dT kvs=>obtain⟨_,_,_,_,o,_,_,e,_⟩:=x; exact⟨_,e⟩
 | set S n=>obtain⟨o,_,_,_,e,_⟩:=x; exact⟨_,e⟩
 | ins C dx fs=>obtain⟨_,_,_,e,_⟩:=x; exact⟨_,e⟩
 | own y=>exact x
 | xd fs=>obtain⟨_,⟨_,_,_,e,_⟩,_⟩:=x; exact⟨_,e⟩
 | rng lo hi=>obtain⟨_,_,_,e⟩:=x; exact⟨_,e⟩
 | frz ob u=>obtain⟨e,_⟩:=x; exact⟨_,e⟩
 | tbl ps=>exact⟨_,x⟩
 | met f y=>exact⟨_,x⟩
 | ext φ=>obtain⟨_,e,_⟩:=x; exact e
theorem hok_new{P:Program}{w:World}{H:Hp}{h:Heap}{a:Addr}(x:HOk P w H h)(e:h.get? a=none):H a=none:=by
 cases q:H a with
 | none=>rfl
 | some u=>obtain⟨o,z⟩:=obj_ex (x a u q); rw[e]at z; cases z
theorem un_old{fs:List Addr}{H H':Hp}{h h':Heap}{a:Addr}(u:Un fs [] H H' h h')(e:h'.get? a=none):h.get? a=none:=by
 cases q:h.get? a with
 | none=>rfl
 | some o=>obtain⟨o',z⟩:=u.there a o q (by simp); rw[e]at z; cases z
theorem un_kp{fs fs':List Addr}{H H':Hp}{h h1 h2:Heap}{X:Addr→Prop}(u:Un fs [] H H' h h1)(k:Kp fs' X h1 h2)(hf:∀ b o,h.get? b=some o→b∈fs'→b∈fs)(hX:∀ b o,h.get? b=some o→¬ X b):Un fs [] H H' h h2 where
 keep:=fun b o e n hb hx=>k.keep b o (u.keep b o e n hb hx) (fun z=>hb (hf b o e z)) (hX b o e)
 slot:=fun b o e n hb hx=>by
  obtain⟨sl,e1⟩:=u.slot b o e n hb hx
  by_cases hb':b∈fs'
  ·obtain⟨sl2,e2⟩:=k.slot b _ e1 hb' (hX b o e)
   exact⟨sl2,e2⟩
  ·exact⟨sl,k.keep b _ e1 hb' (hX b o e)⟩
 free:=u.free
 there:=fun b o e hx=>let ⟨o',e'⟩:=u.there b o e hx; k.there b o' e'
 tups:=u.tups
 frzs:=u.frzs
 tbls:=u.tbls
theorem hok_kp{P:Program}{w:World}{fs:List Addr}{H:Hp}{h h':Heap}{X:Addr→Prop}(x:HOk P w H h)(k:Kp fs X h h')(hf:∀ b∈fs,H b=none)(hX:∀ b,X b→H b=none):HOk P w H h':=fun b u e =>
 (x b u e).stay (fun c v hc q=>k.keep c v q (fun z=>by
   have:=hf c z
   rcases hc with rfl | hc
   ·rw[e]at this; cases this
   ·rw[hc]at this; cases this) fun z=>by
   have:=hX c z
   rcases hc with rfl | hc
   ·rw[e]at this; cases this
   ·rw[hc]at this; cases this) (fun _ q=>q) fun _ _ q=>q
section
variable{P:Program}{w:World}{K:PySem.W.Frag}{mg:Str→Option Value}{base:Heap}{N:List Str}{qual:Str}{scope:Scope}{f:Addr}{cd:Value}{A:Around}{outer:List Env}{s₀:Shared}{H₀:Hp}{E:XK}
theorem passE:Passes (CXE P w) (cxOf (CXE P w) P w K mg base N qual scope f cd A outer s₀ H₀ E) E:=fun pins σ H s e s' I h=>by
 obtain⟨a,T,c,H',rfl,ho,hg,un,hok,fl,⟨fa,fT,na,nT⟩,hE⟩:=h
 have I':=I.call' (s':=s') (ch:=[]) ho un hok hg (fun b z=>absurd z (by simp))
 refine wp_leave_next (L:=s₀.heap.objs.size) I.ok.frames I'.stack rfl fl fun h'' T' k fl' fT'=>?_
 have ex0:(cxOf (CXE P w) P w K mg base N qual scope f cd A outer s₀ H₀ E).ex=[]:=rfl
 have fa0:s₀.heap.get? a=none:=un_old I.base fa
 have fT0:s₀.heap.get? T=none:=un_old I.base fT
 have fT0':s₀.heap.get? T'=none:=un_old I'.base (Heap.get?_none_of_le fT')
 have old:∀ b o,s₀.heap.get? b=some o→b≠a∧b≠T:=fun b o e=>⟨(by rintro rfl; rw[fa0]at e; cases e),(by rintro rfl; rw[fT0]at e; cases e)⟩
 refine⟨a,T',c,H',rfl,I'.os,I'.bare,un_kp I'.base k (fun b o e z=>?_) (fun b o e z=>z.elim (old b o e).1 (old b o e).2),hok_kp I'.hok k I'.stkFree (fun b z=>by rcases z with rfl | rfl <;> assumption),fl',⟨fa0,fT0',na,I'.hok.fresh fT'⟩,hE⟩
 rcases List.mem_cons.mp (I.stkSub b z)with q | q
 ·exact absurd (Heap.lt_size e) (by rw[q]; exact Nat.lt_irrefl _)
 ·exact q
end
section
variable{X:Cx}{E:XK}{pin:List Nat}{e:Expr}{de:PEnv→R PV}{x:Str}{C:Addr}{bmB:List Value}{newId initId B:String}{np cpos pos:Pos}
def Raises(X:Cx)(E:XK):Prop:=∀ (pins:List (Addr×Obj)) (σ:St) (H:Hp) (s:Shared) (a:Addr) (c:Value) (h':Heap),Inv X pins σ H s→(∀ b o,s.heap.get? b=some o→h'.get? b=some o)→Made h' a c→s.heap.get? a=none→(E c none H)→X.xe (.ref a) { s with heap:=h' }
def dRaise(c:Value)(de:PEnv→R PV):PEnv→R Flw:=fun ε=>(de ε).bind fun _ ε1=>.er c ε1
theorem made_of{h h':Heap}{e:Addr}{cls:Value}{args:List Value}(m:Heap.MadeExcOf h h' e cls args):Made h' e cls:=by
 obtain⟨t,he,_,_⟩:=m.there
 exact⟨_,_,he,rfl,⟨rfl,rfl⟩,rfl⟩
theorem ds_raise(hx:Raises X E)(hc:X.calm=true)(O:OwnCls x C bmB newId X.mg X.base)(FB:ExcBaseFacts B newId initId bmB)(he:DE X.nox E0 e de)(hg:Gl X x:=by rfl)(hd:(x == ("__debug__" : Str))=false:=by decide)
  (h1:starEach [e] X.env=[(false,eval e X.env)]:=by rfl):DS X E pin (.Raise (some (.Call (.Name x np) [e] [] cpos)) none pos) (dRaise (.ref C) (fun ε=>noE (de ε))):=fun F S ε σ H D rl q=>Bx.mk fun pins s I=>by
 obtain⟨tl,N,nm,qn,bs,hdct,sn,sub,ab,col,dd,k0,k1,k2,k3,k5,mN,hC,hN,hni,T⟩:=O.obj
 refine wpAny_Raise_call_subT (C:=C) (nm:=nm) (q:=qn) (N:=N) (bs:=bs) (bm:=tl) (hdct:=hdct) (sn:=sn) (sub:=sub) (ab:=ab) (col:=col) (dd:=dd) (k0:=k0) (k1:=k1) (k2:=k2) (k3:=k3) (k5:=k5)
  FB (mN:=mN) (T.hasType FB.hasBase) (I.ok.hd hc) (by rw[h1]; rfl) hni (ld_glob I hg O.bound ⟨rfl,?_⟩ hd)
 have q2:Ok X.K E0 σ F S H (de ε) (fun _ ε1 F1 S1 H1=>OkS X.K E pin σ F1 S1 H1 (.er (.ref C) ε1) D):=by
  have q:OkS X.K E pin σ F S H ((noE (de ε)).bind fun _ ε1=>.er (.ref C) ε1) D:=q
  cases e0:de ε with
  | no=>rw[e0]at q; exact q.elim
  | er c ε'=>rw[e0]at q; exact q.elim
  | ok v ε'=>rw[e0]at q; exact fun F' S' H' r' g'=>q.from g' (PinOk.refl _ _)
 rw[h1]
 refine Calls.evalArgs_plain (wpAny_mono (Calls.spliced_cons (wpAny_mono ((he F S ε σ H (fun v H1=>∃ F1 S1 ε1,Rel X.K F1 S1 ε1 σ H1∧OkS X.K E pin σ F1 S1 H1 (.er (.ref C) ε1) D) rl (q2.imp fun v ε1 F1 S1 H1 r1 g1 h v' rv=>⟨F1,S1,ε1,r1,h⟩)).run pins s (I.wish _)) (fun u s1 ⟨v,H1,I1,r1,F1,S1,ε1,rl1,ok⟩=>?_) fun _ _ z=>z.elim)) (fun _ _ z=>z) fun _ _ z=>z)
 have I1:=I1.unwish
 refine Calls.spliced_nil ⟨rfl,(by show 1≤sizeLine; decide),I1.bk _ _ hC,hN.keeps I1.bk,T.keeps I1.bk,fun h' a m=>?_⟩
 exact hx pins σ H1 s1 a (.ref C) h' I1 m.keeps (made_of m) m.new (ok none F1 S1 σ H1 rl1 (Grow.refl ..) (PinOk.refl _ _))
end
section
variable{P:Program}{w:World}{K:PySem.W.Frag}{mg:Str→Option Value}{base:Heap}{N:List Str}{qual:Str}{scope:Scope}{f:Addr}{cd:Value}{A:Around}{outer:List Env}{s₀:Shared}{H₀:Hp}{E:XK}
theorem raisesE:Raises (cxOf (CXE P w) P w K mg base N qual scope f cd A outer s₀ H₀ E) E:=fun pins σ H s a c h' I kp md new hE=>by
 have I':Inv _ pins σ H { s with heap:=h' }:=I.kept (t':=s.toks) kp
 refine wp_leave_first (s:={ s with heap:=h' }) (L:=s₀.heap.objs.size) I.ok.frames I'.stack rfl md fun h'' T' k fl' fT'=>?_
 have fa0:s₀.heap.get? a=none:=un_old I.base new
 have fT0':s₀.heap.get? T'=none:=un_old I'.base (Heap.get?_none_of_le fT')
 have na:H a=none:=hok_new I.hok new
 refine⟨a,T',c,H,rfl,I'.os,I'.bare,un_kp I'.base k (fun b o e z=>?_) (fun b o e z=>by rw[show b=a from z,fa0]at e; cases e),hok_kp I'.hok k I'.stkFree (fun b z=>by rw[show b=a from z]; exact na),fl',⟨fa0,fT0',na,I'.hok.fresh fT'⟩,hE⟩
 rcases List.mem_cons.mp (I.stkSub b z)with q | q
 ·exact absurd (Heap.lt_size e) (by rw[q]; exact Nat.lt_irrefl _)
 ·exact q
end
end Pu
namespace Pu
open PySem PySem.Spec PyProof.Rows L2
section
variable{X:Cx}{pins:List (Addr×Obj)}{σ:St}{H:Hp}{s:Shared}
theorem unbind_ok{M:Model}{A:Around}{E:Value→Shared→Prop}{i:Nat}{x:Str}{v:V}{Q:Unit→Shared→Prop}(I:Inv X pins σ H s)(hN:X.N.Nodup)(hi:X.N[i]?=some x)(hk:X.env.scope.names.lookup x=some .local)(hv:σ[i]?=some (some v))
  (h:∀ s',Inv X pins (σ.set i none) H s'→Q () s'):wpAny M A (unbindName X.env x) Q E s:=by
 obtain⟨m,hn,hl⟩:=id I.loc
 have hcls:(X.env.scope.kind == .class || (X.env.scope.kind == .module && X.env.locals != X.env.globals))=false:=by rw[I.ok.kind]; rfl
 have hiσ:i<σ.length:=(List.getElem?_eq_some_iff.mp hv).1
 obtain⟨u,_,lk⟩:=hl i x v hi hv (.inl hk)
 have hm:m x=some u:=by
  rcases lk with⟨_,z⟩ | ⟨z,_⟩
  ·exact z
  ·have z:X.env.scope.names.lookup x=some .cell∨X.env.scope.names.lookup x=some .free:=z
   rcases z with z | z <;> rw[hk]at z <;> cases z
 refine wpAny_unbindName_local hk hn hm hcls fun h' u' hn' hs=>?_
 obtain⟨oL,_,_,hoL,_⟩:=id hn
 have up:∀ b o,X.s₀.heap.get? b=some o→h'.get? b=s.heap.get? b:=fun b o e=>hs.2 b (Nat.ne_of_lt (Nat.lt_of_lt_of_le (Heap.lt_size e) I.ok.above))
 refine h _ ⟨I.ok,I.os,I.bare,⟨fun b o e n hb hx=>(up b o e).trans (I.base.keep b o e n hb hx),fun b o e n hb hx=>?_,I.base.free,fun b o e hx=>?_,I.base.tups,I.base.frzs,I.base.tbls⟩,⟨_,hn',fun j y v' e1 e2 e3=>?_⟩,fun y c e=>?_,I.free,I.freeC,fun p hp=>?_,fun b ob e=>?_,by rw[List.length_set]; exact I.len⟩
 ·obtain⟨sl,q⟩:=I.base.slot b o e n hb hx; exact⟨sl,(up b o e).trans q⟩
 ·obtain⟨o',q⟩:=I.base.there b o e hx; exact⟨o',(up b o e).trans q⟩
 ·by_cases hj:j=i
  ·subst hj; rw[List.getElem?_set_self hiσ]at e2; cases e2
  ·rw[List.getElem?_set_ne (Ne.symm hj)]at e2
   obtain⟨w,r',q⟩:=hl j y v' e1 e2 e3
   refine⟨w,r',?_⟩
   rcases q with⟨k,e⟩ | ⟨k,c,e,z⟩
   ·have:y≠x:=fun e=>hj (nodup_ix hN e1 (e ▸ hi))
    exact .inl ⟨k,by simp[this,e]⟩
   ·exact .inr ⟨k,c,e,z.sameBut hs (I.cne y c e)⟩
 ·obtain⟨w',z⟩:=I.cell y c e
  exact⟨w',z.sameBut hs (I.cne y c e)⟩
 ·obtain⟨e,n,ne,nf,d⟩:=I.pin p hp
  exact⟨(hs.2 p.1 ne).trans e,n,ne,nf,d⟩
 ·refine(I.hok b ob e).stay (fun c w' hc q=>(hs.2 c ?_).trans q) (fun _ q=>q) fun _ _ q=>q
  rintro rfl
  rcases hc with rfl | hc
  ·rw[I.free]at e; cases e
  ·rw[I.free]at hc; cases hc
end
def XP(X:Cx)(pins:List (Addr×Obj))(σ:St)(XE:Value→Hp→Prop)(e:Value)(s':Shared):Prop:=∃ s1 H1,Inv X pins σ H1 s1∧CXE X.prog X.w X.stack H1 s1 (fun c _ H'=>XE c H') e s'
def DX(X:Cx)(e:Expr)(d:PEnv→R Slot):Prop :=
 ∀ F S ε σ H Q (XE:Value→Hp→Prop),Rel X.K F S ε σ H→Ok X.K (fun c _ H'=>XE c H') σ F S H (d ε) (fun s _ F' S' H'=>∀ v Sr,RepS X.K H' F' s v Sr→(∀ b,Sr b→H b=none∧¬ F' b∧¬ U S' b∧∃ o,H' b=some o∧notImm o)→Q v H') →
  ∀ pins s,Inv X pins σ H s→wpAny (model X.prog X.w) X.A (eval e X.env) (EP X pins σ Q) (XP X pins σ XE) s
noncomputable abbrev hand(X:Cx)(a:Addr):Cx:={ X with A:=X.A.mark (some (.ref a)),calm:=false,xe:=fun _ _=>False }
section
variable{X:Cx}{pins:List (Addr×Obj)}{σ:St}{H:Hp}{s:Shared}{a:Addr}
theorem Inv.hand(I:Inv X pins σ H s)(hf:(X.A.mark (some (.ref a))).frames=X.A.frames:=by rfl):Inv (Pu.hand X a) pins σ H s :=
 ⟨⟨I.ok.mod,I.ok.kind,I.ok.glob,I.ok.blt,I.ok.above,I.ok.inj,I.ok.has,I.ok.cab,(fun z=>by cases z),hf.trans I.ok.frames,I.ok.stk,I.ok.exf,I.ok.bs,I.ok.bsz,I.ok.noex,I.ok.exfs,I.ok.funs,I.ok.frf⟩,I.os,I.bare,I.base,I.loc,I.cell,I.free,I.freeC,I.pin,I.hok,I.len⟩
theorem Inv.unhand(I:Inv (Pu.hand X a) pins σ H s)(ok:X.Ok):Inv X pins σ H s:=⟨ok,I.os,I.bare,I.base,I.loc,I.cell,I.free,I.freeC,I.pin,I.hok,I.len⟩
end
end Pu
namespace Pu
open PySem PySem.Spec PyProof.Rows L2
def Under(h:Heap)(D:Addr)(c:Value):Prop:=∃ C bm N nm q bs hdct sn sub ab col dd k0 k1 k2 k3 k5 newId,c = .ref C∧h.get? C=some (excClassObj nm q C N bs bm hdct sn sub ab col dd k0 k1 k2 k3 k5 newId)∧(Value.ref C::bm).contains (.ref D)=true
def ErrC(h:Heap)(D:Addr):Prop:=∃ bm N nm q bs hdct sn sub ab col dd k0 k1 k2 k3 k5 newId,h.get? D=some (excClassObj nm q D N bs bm hdct sn sub ab col dd k0 k1 k2 k3 k5 newId)∧bm.contains (.type "BaseException")=true
theorem Under.keeps{h h':Heap}{D:Addr}{c:Value}(x:Under h D c)(k:∀ b o,h.get? b=some o→h'.get? b=some o):Under h' D c:=by
 obtain⟨C,bm,N,nm,q,bs,hdct,sn,sub,ab,col,dd,k0,k1,k2,k3,k5,newId,e,h1,h2⟩:=x
 exact⟨C,bm,N,nm,q,bs,hdct,sn,sub,ab,col,dd,k0,k1,k2,k3,k5,newId,e,k _ _ h1,h2⟩
theorem ErrC.keeps{h h':Heap}{D:Addr}(x:ErrC h D)(k:∀ b o,h.get? b=some o→h'.get? b=some o):ErrC h' D:=by
 obtain⟨bm,N,nm,q,bs,hdct,sn,sub,ab,col,dd,k0,k1,k2,k3,k5,newId,h1,h2⟩:=x
 exact⟨bm,N,nm,q,bs,hdct,sn,sub,ab,col,dd,k0,k1,k2,k3,k5,newId,k _ _ h1,h2⟩
theorem wp_matches{M:Model}{A:Around}{E:Value→Shared→Prop}{s:Shared}{e D:Addr}{oe:Obj}{c:Value}{Q:Bool→Shared→Prop}(hu:Under s.heap D c)(hD:ErrC s.heap D)(he:s.heap.get? e=some oe)(hcls:oe.cls=c)(hq:Q true s):wpAny M A (excMatches (.ref e) (.ref D)) Q E s:=by
 obtain⟨C,bm,N,nm,q,bs,hdct,sn,sub,ab,col,dd,k0,k1,k2,k3,k5,newId,rfl,hC,hin⟩:=hu
 obtain⟨bm',N',nm',q',bs',hdct',sn',sub',ab',col',dd',k0',k1',k2',k3',k5',newId',hD,hb⟩:=hD
 obtain⟨h,g,d,t,os⟩:=s
 have hcB:(Value.ref D::bm').contains (.type "BaseException")=true:=by rw[List.contains_cons,hb,Bool.or_true]
 have f:=tc_notTuple
 unfold excMatches
 repeat (first | (with_reducible refine wpAny_loadPart_at he ?_; rw[hcls]) | with_reducible refine wpAny_loadPart_at hC ?_ | with_reducible refine wpAny_loadPart_at hD ?_ | (with_reducible refine wpAny_isSubtype_exc hC ?_; rw[hin]) | (with_reducible refine wpAny_isSubtype_exc hD ?_; rw[hcB]) | wp_step)
 exact hq
def dTry(i:Nat)(caught:Value→Bool)(dx:PEnv→R Slot)(dh:PEnv→R Flw):PEnv→R Flw:=fun ε=>match dx ε with
 | .ok s ε'=>.ok (.ret s) ε'
 | .er c ε'=>if caught c=true∧i<ε'.length then(match dh (ε'.set i (.val (.exc c)))with
  | .ok f ε2=>(match ε2[i]? with
   | some (.val _)=>.ok f (ε2.set i .none)
   | _=>.no)
  | _=>.no)else .no
 | .no=>.no
section
variable{X:Cx}{E:XK}{pin:List Nat}{e:Expr}{dx:PEnv→R Slot}{dh:PEnv→R Flw}{rp np hp pos:Pos}{sx n:Str}{D:Addr}{suite:List Stmt}{b₀:Stmt}{caught:Value→Bool}
theorem Rel.unset{K:PySem.W.Frag}{F:Addr→Prop}{S:Nat→Addr→Prop}{ε:PEnv}{σ:St}{H:Hp}{i:Nat}(r:Rel K F S ε σ H):Rel K F (fun j b=>S j b∧j≠i) (ε.set i .none) (σ.set i none) H:=by
 have r0:=r.drop i
 have ne:∀ {j:Nat} {s:Slot},(ε.set i .none)[j]?=some s→s≠.none→j≠i:=fun {j s} e hs z=>by
  subst z
  by_cases hj:j<ε.length
  ·rw[List.getElem?_set_self hj]at e; exact hs (Option.some.inj e).symm
  ·rw[List.getElem?_eq_none (by rw[List.length_set]; ac_rfl)]at e; cases e
 refine⟨by rw[List.length_set,List.length_set]; exact r.len,r.ex,fun j pv e=>?_,fun j po e=>?_,r0.foot,r0.dist⟩
 ·obtain⟨v,h1,h2⟩:=r0.val j pv e
  exact⟨v,by rw[List.getElem?_set_ne (Ne.symm (ne e (by intro z; cases z)))]; exact h1,h2⟩
 ·obtain⟨v,h1,h2⟩:=r0.own j po e
  exact⟨v,by rw[List.getElem?_set_ne (Ne.symm (ne e (by intro z; cases z)))]; exact h1,h2⟩
theorem exc_track{P:Program}{w:World}{H:Hp}{h:Heap}{a T:Addr}{c fl:Value}(ok:HOk P w H h)(na:H a=none)(f:Fly h a T c fl):HOk P w (upd H a (excO a c)) h:=fun b u q=>by
 by_cases hb:b=a
 ·subst hb
  rw[upd_same]at q
  cases q
  obtain⟨oe,vs,_,_,he,hc,hd,_⟩:=f
  exact⟨⟨oe,vs,he,hc,hd⟩,⟨oe,he⟩,fun h1 h2 ⟨o,ws,e1,e2,e3⟩ k=>⟨o,ws,k o e1,e2,e3⟩⟩
 ·rw[upd_ne hb]at q
  exact(ok b u q).stay (fun _ _ _ z=>z) (fun d z=>by rw[upd_ne (ne_of_none z na)]; exact z) fun d xs z=>by rw[upd_ne (ne_of_none z na)]; exact z
theorem ds_tryRet(i:Nat)(hN:X.N.Nodup)(hx:DX X e dx)(hD:X.mg sx=some (.ref D))(hE:ErrC X.base D)(hcg:∀ c,caught c=true→Under X.base D c)(hh:∀ a,DSs (hand X a) E0 pin (b₀::suite) dh)
  (hp':i∉pin:=by decide) (hi:X.N[i]?=some n:=by rfl) (hl:X.env.scope.names.lookup n=some .local:=by rfl) (hg:Gl X sx:=by rfl) (hd:(sx == ("__debug__" : Str))=false:=by decide) (hst:X.stack=X.env::X.outer:=by rfl) (hfm:X.env.frame=some X.env.locals:=by rfl) (hf:X.fn n=true∨X.env.scope.names.lookup n=some .local:=by first | exact .inl rfl | exact .inr rfl) :
  DS X E pin (.Try [.Return (some e) rp] [.ExceptHandler (some (.Name sx np)) (some n) (b₀::suite) hp] [] [] pos) (dTry i caught dx dh):=fun F S ε σ H Dn rl q=>Bx.mk fun pins s I=>by
 refine wpAny_Try_except ?_
 -- the suite that is tried
 have body:=hx F S ε σ H (fun v H'=>Dn.rt v H') (fun c H'=>∃ F' S' ε',Rel X.K F' S' ε' σ H'∧Grow (U S) (U S') F F' H H'∧caught c=true∧i<ε'.length∧OkS X.K E pin σ F S H (match dh (ε'.set i (.val (.exc c)))with
  | .ok f ε2=>(match ε2[i]? with
   | some (.val _)=>.ok f (ε2.set i .none)
   | _=>.no)
  | _=>.no) Dn) rl (by
  unfold dTry at q
  cases e0:dx ε with
  | no=>rw[e0]at q; exact q.elim
  | ok sl ε' =>
   rw[e0]at q
   intro F' S' H' r' g' v Sr rv fr
   exact q v F' S' σ H' Sr r' ⟨g'.fro,g'.keep,g'.there,g'.fnew,fun b z=>z.elim (g'.onew b) fun w=>.inr (fr b w).1⟩ (PinOk.refl _ _) rv fun b z=>(fr b z).2
  | er c ε' =>
   rw[e0]at q
   intro y F' S' H' r' g'
   dsimp only at q
   by_cases hc:caught c=true∧i<ε'.length
   ·rw[if_pos hc]at q
    exact⟨F',S',ε',r',g',hc.1,hc.2,q⟩
   ·rw[if_neg hc]at q; exact q.elim) pins s I
 refine wpAny_execs_cons (wpAny_Return_some (wpAny_mono body (fun u s1 ⟨v,H1,I1,r1,q1⟩=>?_) fun ev s1 xp=>?_))
 ·exact⟨v,σ,H1,I1,r1,q1⟩
 -- an exception has come
 obtain⟨s0,H0,I0,a,T,c,H1,rfl,ho,hg1,un,hok,fl,⟨fa,fT,na,nT⟩,F1,S1,ε1,rl1,g1,hcc,hlt,okh⟩:=xp
 have I1:=I0.call' (s':=s1) (ch:=[]) ho un hok hg1 (fun b z=>absurd z (by simp))
 have kpI:∀ {h2:Heap} {Y:Addr→Prop} {T':Addr},Kp (frs X.stack) Y s1.heap h2→(∀ b o,s0.heap.get? b=some o→¬ Y b)→(∀ b,Y b→H1 b=none)→Fly h2 a T' c .none→∀ tk,Inv X pins σ (upd H1 a (excO a c)) { s1 with heap:=h2,toks:=tk }:=fun {h2 Y T'} k hY1 hY2 f2 tk=>by
  refine I0.call' (s':={ s1 with heap:=h2,toks:=tk }) (ch:=[]) ho ?_ (exc_track (hok_kp hok k (fun b hb=>I1.stkFree b hb) hY2) na f2) hg1 (fun b z=>absurd z (by simp))
  have u2:=un_kp un k (fun b o _ z=>z) hY1
  have na':∀ b o,H1 b=some o→b≠a:=fun b o e=>ne_of_none e na
  refine⟨u2.keep,u2.slot,fun b o e n hx=>?_,u2.there,fun b xs e=>?_,fun b o u e=>?_,fun b ps e=>?_⟩
  ·rw[upd_ne (by rintro rfl; rw[fa]at e; cases e)]; exact u2.free b o e n hx
  ·have:=u2.tups b xs e; rw[upd_ne (na' b _ this)]; exact this
  ·have:=u2.frzs b o u e; rw[upd_ne (na' b _ this)]; exact this
  ·obtain⟨m,z⟩:=u2.tbls b ps e; exact⟨m,by rw[upd_ne (na' b _ z)]; exact z⟩
 have H1T:∀ b,b=a∨b=T→H1 b=none:=fun b z=>by rcases z with rfl | rfl <;> assumption
 have old1:∀ b o,s0.heap.get? b=some o→¬ (b=a∨b=T):=fun b o e z=>by rcases z with rfl | rfl <;> rename_i z <;> simp_all
 refine wp_note_next (outer:=X.outer) (by rw[I0.ok.frames,hst]) (by rw[← hst]; exact I1.stack) hfm fl fun h2 T' k fl2 fT'=>?_
 rw[← hst]at k
 have I2:=kpI k old1 H1T fl2 s1.toks
 refine wpAny_handleBy_cons (codeAny_handlers_test ?_) (by intro z; cases z)
 have I2h:Inv (hand X a) pins σ (upd H1 a (excO a c)) { s1 with heap:=h2 }:=Inv.hand I2
 refine ld_glob (X:=hand X a) I2h hg hD ?_ hd
 obtain⟨oe,vs,oT,ts,he2,hcls2,_⟩:=id fl2
 refine wp_matches (s:={ s1 with heap:=h2 }) ((hcg c hcc).keeps I2.bk) (hE.keeps I2.bk) he2 hcls2 ?_
 show codeAny _ _ _ _ _
 refine codeAny_handlers_suite_as (wp_lands (s:={ s1 with heap:=h2 }) fl2 fun h3 k3 fl3=>?_)
 have k':Kp (frs X.stack) (fun b=>(b=a∨b=T)∨b=T') s1.heap h3:=k.trans (k3.imp (fun b z=>by simp at z) fun b o _ z=>z)
 have I3:=kpI (T':=T') k' (fun b o e z=>by
  rcases z with z | rfl
  ·exact old1 b o e z
  ·rw[un_old un (Heap.get?_none_of_le fT')]at e; cases e) (fun b z=>by
  rcases z with z | rfl
  ·exact H1T b z
  ·exact I1.hok.fresh fT') fl3 s1.toks
 have I3h:Inv (hand X a) pins σ (upd H1 a (excO a c)) { s1 with heap:=h3 }:=Inv.hand I3
 refine store_ok (X:=hand X a) (v:=.ref a) I3h hN hi (.inl hl) rfl (fun s4 I4=>?_) hf
 -- the suite
 have al:Al F1 F1 H1 (upd H1 a (excO a c)):=Al.new0 na
 have r2:=rl1.al al
 have r3:=r2.set (i:=i) (pv:=.exc c) (v:=.ref a) ⟨a,rfl,upd_same⟩
 have g3:Grow (U S) (U fun j b=>S1 j b∧j≠i) F F1 H (upd H1 a (excO a c)):=(g1.trans al.grow).trans (Grow.less i)
 have less:∀ {S':Nat→Addr→Prop} {F':Addr→Prop} {H':Hp},Grow (U S') (U fun j b=>S' j b∧j≠i) F' F' H' H':=fun {S' F' H'}=>Grow.less i
 have pn:∀ {σ':St},PinOk pin (σ.set i (some (.ref a))) σ'→PinOk pin σ (σ'.set i none):=fun {σ'} p=>((PinOk.set hp').trans p).trans (PinOk.set hp')
 have okd:OkS (hand X a).K E0 pin (σ.set i (some (.ref a))) F1 (fun j b=>S1 j b∧j≠i) (upd H1 a (excO a c)) (dh (ε1.set i (.val (.exc c)))) { nx:=fun σ' H'=>Dn.nx (σ'.set i none) H',rt:=Dn.rt,bk:=fun σ' H'=>Dn.bk (σ'.set i none) H',ct:=fun σ' H'=>Dn.ct (σ'.set i none) H' }:=by
  cases ed:dh (ε1.set i (.val (.exc c)))with
  | no=>rw[ed]at okh; exact okh.elim
  | er c' ε2=>rw[ed]at okh; exact okh.elim
  | ok f ε2 =>
   rw[ed]at okh
   dsimp only at okh
   split at okh
   ·cases f with
    | next=>exact fun F' S' σ' H' r' g' p'=>okh F' _ _ H' r'.unset ((g3.trans g').trans less) (pn p')
    | brk=>exact fun F' S' σ' H' r' g' p'=>okh F' _ _ H' r'.unset ((g3.trans g').trans less) (pn p')
    | cont=>exact fun F' S' σ' H' r' g' p'=>okh F' _ _ H' r'.unset ((g3.trans g').trans less) (pn p')
    | ret sl =>
     intro v F' S' σ' H' Sr r' g' p' rv lo
     refine okh v F' _ _ H' Sr r'.unset ?_ (pn p') rv fun b z=>⟨(lo b z).1,fun⟨j,w⟩=>(lo b z).2.1 ⟨j,w.1⟩,(lo b z).2.2⟩
     have gg:=g3.trans g'
     exact⟨gg.fro,gg.keep,gg.there,gg.fnew,fun b z=>gg.onew b (z.imp (fun⟨j,w⟩=>⟨j,w.1⟩) id)⟩
   ·exact okh.elim
 refine wpAny_mono ((hh a F1 _ _ _ _ _ r3 okd).run pins s4 I4) (fun f s5 sp=>?_) fun _ _ z=>z.elim
 -- behind the suite the name is taken away
 have away:∀ {σ5:St} {H5:Hp} {Q:Unit→Shared→Prop},Inv (hand X a) pins σ5 H5 s5→(∀ s6,Inv X pins (σ5.set i none) H5 s6→Q () s6)→wpAny (model X.prog X.w) X.A (do bindName X.env n .none; unbindBehindTheSuite X.env n hp) Q X.xe s5:=fun {σ5 H5 Q} I5 hQ=>by
  have I5':=Inv.unhand I5 I0.ok
  refine wpAny_bind (wpAny_bindName (store_ok (v:=.non) I5' hN hi (.inl hl) rfl (fun s6 I6=>?_) hf))
  unfold unbindBehindTheSuite
  refine wpAny_onRaise ?_
  have hiσ:i<σ5.length:=by rw[I5'.len]; exact(List.getElem?_eq_some_iff.mp hi).1
  refine unbind_ok I6 hN hi hl (List.getElem?_set_self hiσ) fun s7 I7=>hQ s7 ?_
  rw[List.set_set]at I7
  exact I7
 cases f with
 | next=>obtain⟨σ5,H5,I5,q5⟩:=sp; exact away I5 fun s6 I6=>⟨_,H5,I6,q5⟩
 | brk=>obtain⟨σ5,H5,I5,q5⟩:=sp; exact away I5 fun s6 I6=>⟨_,H5,I6,q5⟩
 | cont=>obtain⟨σ5,H5,I5,q5⟩:=sp; exact away I5 fun s6 I6=>⟨_,H5,I6,q5⟩
 | ret u=>obtain⟨v,σ5,H5,I5,rv,q5⟩:=sp; exact away I5 fun s6 I6=>⟨v,_,H5,I6,rv,q5⟩
end
end Pu
namespace Pu
open PySem PySem.Spec PyProof.Rows L2
structure RoomU(k:Nat)(A:Around):Prop where
 dp:A.depth+3 * k+5<recursionLimit
 un:A.units+16 * k+200<cLine
theorem Room.u{k:Nat}{A:Around}(r:Room k A):RoomU k A:=⟨r.dp,r.un⟩
theorem Room.hand{k:Nat}{A:Around}{v:Option Value}(r:Room k A):RoomU k (A.mark v):=⟨r.dp,r.un⟩
theorem RoomU.mono{j k:Nat}{A:Around}(r:RoomU k A)(h:j≤k):RoomU j A:=⟨by have:=r.dp; ac_rfl,by have:=r.un; ac_rfl⟩
theorem RoomU.deeper{k:Nat}{A:Around}(r:RoomU (k+1) A)(env:Env):RoomU k (A.deeper env) :=
 ⟨by have:=r.dp; show A.depth+1+3 * k+5<_; ac_rfl,by have:=r.un; show A.units+3+16 * k+200<_; ac_rfl⟩
theorem RoomU.units{k:Nat}{A:Around}(r:RoomU k A):A.units+64<cLine:=by have:=r.un; ac_rfl
def cxU(P:Program)(w:World)(K:PySem.W.Frag)(mg:Str→Option Value)(base:Heap)(N:List Str)(qual:Str)(scope:Scope)(f:Addr)(cd:Value)(A:Around)(outer:List Env)(s:Shared)(H:Hp):Cx :=
 { (cxOf CX0 P w K mg base N qual scope f cd A outer s H E0)with calm:=false,xe:=fun _ _=>False }
structure FnOkU(P:Program)(w:World)(K:PySem.W.Frag)(mg:Str→Option Value)(base:Heap)(k:Nat)(f:Addr)(fd:FuncData)(ps:List Str)(sp:Sp):Prop where
 len:∀ vs H Q E,sp vs H Q E→vs.length=ps.length
 run:∀ (A:Around) (outer:List Env) (s:Shared) (H:Hp) (args:Args) (us:List Value) (vs:List V) (Q:VK),RoomU k A→Env0 P w K mg base A outer s H→BindsTo s fd args (ps.zip us)→Vals vs us→sp vs H Q E0 →
  codeAny (model P w) A (.call (.ref f) args) (CR CX0 outer P w H s Q E0) s
structure CalU(P:Program)(w:World)(K:PySem.W.Frag)(mg:Str→Option Value)(base:Heap)(x:Str)(k:Nat)(ps:List Str)(sp:Sp):Prop where
 ex:∃ f fd,mg x=some (.ref f)∧FnOkU P w K mg base k f fd ps sp∧Binds K fd ps []∧PySem.W.keepIn K (.ref f)=true
theorem fn_ofU{P:Program}{w:World}{K:PySem.W.Frag}{mg:Str→Option Value}{base:Heap}{k:Nat}{f:Addr}{name qual:Str}{params:Arguments}{body:List Stmt}{scope:Scope}{dV kV doc pm cdv ct oc:Value}{an od:Option Addr}
  {osl:Array (Option Value)} {N ps:List Str} {sp:Sp} (lk:K.lookup f=some ⟨oc,od,.func (PySem.W.fnOf name qual params body scope dV kV doc pm an cdv ct),osl⟩) (hcd:PySem.W.codeIn K cdv qual=true) (S:FnScope N ps scope)
  (len:∀ vs H Q E,sp vs H Q E→vs.length=ps.length)
  (hbody:∀ (A:Around) (outer:List Env) (s:Shared) (H:Hp) (vs:List V) (Q:VK),RoomU k (A.deeper (envOfC qual scope s.heap.objs.size f cdv))→sp vs H Q E0 →
   wpSs (cxU P w K mg base N qual scope f cdv A outer s H) body { nx:=fun _ H'=>Q .non H',rt:=Q } (L2.start N vs) H) :
  FnOkU P w K mg base (k+1) f (PySem.W.fnOf name qual params body scope dV kV doc pm an cdv ct) ps sp:=by
 refine⟨len,fun A outer s H args us vs Q hr e0 hb r hsp=>?_⟩
 have hl:=len _ _ _ _ hsp
 have KX:K.In s.heap:=e0.mod.kin.keeps fun b o e=>(e0.bs b o e).1
 have lim:s.heap.NoLimit:=e0.mod.nolimit.keeps fun b o e=>(e0.bs b o e).1
 have hkind:∀ y∈ps.zip us,scope.names.lookup y.1=some .local∨(scope.names.lookup y.1=some .cell∧((cellsFrom (s.heap.objs.size+1) scope.names []).lookup y.1).isSome=true):=fun⟨n,v⟩ hy =>
  (S.par n (List.of_mem_zip hy).1).imp id fun q=>⟨q,PySem.W.cellsFrom_some _ _ _ (.inl q)⟩
 refine codeAny_call_function (by have:=hr.dp; ac_rfl) (KX _ _ lk) rfl S.co S.gen rfl (PySem.W.codeRec_of KX hcd) (hb _ _ _ _ ?_)
 refine wpAny_newFunctionEnv_cells S.kind hkind fun env he s1 x=>?_
 subst he
 refine⟨lim.keeps x.toInCall.keep,codeAny_func ?_⟩
 -- the entry,as if nothing were handled
 have e1:Env0 P w K mg base { A with handled:=none } outer s H:=⟨e0.frames,e0.mod,e0.bs,e0.bsz,e0.funs,e0.frf,e0.hok,e0.bare⟩
 have I0:Inv (cxOf CX0 P w K mg base N qual scope f cdv { A with handled:=none } outer s H E0) [] (L2.start N vs) H s1:=inv_start S rfl e1 hl r x
 have I:Inv (cxU P w K mg base N qual scope f cdv A outer s H) [] (L2.start N vs) H s1 :=
  ⟨⟨I0.ok.mod,I0.ok.kind,I0.ok.glob,I0.ok.blt,I0.ok.above,I0.ok.inj,I0.ok.has,I0.ok.cab,(fun z=>by cases z),Around.frames_deeper e0.frames,I0.ok.stk,I0.ok.exf,I0.ok.bs,I0.ok.bsz,I0.ok.noex,I0.ok.exfs,I0.ok.funs,I0.ok.frf⟩,I0.os,I0.bare,I0.base,I0.loc,I0.cell,I0.free,I0.freeC,I0.pin,I0.hok,I0.len⟩
 refine wpAny_mono ((hbody A outer s H vs Q (hr.deeper _) hsp).run [] s1 I) (fun fl s' hs=>?_) fun e s' hs=>hs.elim
 have fin:∀ {σ':St} {H':Hp} {v:V} {u:Value},Inv (cxU P w K mg base N qual scope f cdv A outer s H) [] σ' H' s'→RelV v u→Q v H'→CE outer P w H s Q u s':=fun {σ' H' v u} J rv q=>⟨v,H',J.os,J.bare,J.base,J.hok,rv,q⟩
 cases fl with
 | ret u=>obtain⟨v,σ',H',J,rv,q⟩:=hs; exact fin J rv q
 | next=>obtain⟨σ',H',J,q⟩:=hs; exact fin (v:=V.non) (u:=Value.none) J rfl q
 | brk=>obtain⟨_,_,_,q⟩:=hs; exact False.elim q
 | cont=>obtain⟨_,_,_,q⟩:=hs; exact False.elim q
theorem calU_of{P:Program}{w:World}{K:PySem.W.Frag}{mg:Str→Option Value}{base:Heap}{x:Str}{st:Stmt}{N ps:List Str}{k n:Nat}{g:PEnv→R Slot}{d:PEnv→R Flw}{pin:List Nat}(D:Def K mg x st)(Sc:FnScope N ps (defScope st))(hn:N.length=ps.length+n)
  (hb:∀ (kV doc pm:Value) (an:Option Addr) (cdv ct:Value) (us:List Value),us.length=ps.length→bindArgs (PySem.W.fnOf x x (defArgs st) (defBody st) (defScope st) .none kV doc pm an cdv ct) ⟨us,[]⟩=pure (ps.zip us))
  (hlen:∀ ss,g ss≠.no→ss.length=ps.length) (hown:∀ ss,g ss≠.no→∀ (i:Nat) po,ss[i]?=some (.own po)→i∈pin∧flatO po=true) (hg:∀ ss,g ss≠.no→fnD n d ss=g ss)
  (hbody:∀ (f:Addr) (cdv:Value) (A:Around) (outer:List Env) (s:Shared) (H:Hp),RoomU k (A.deeper (envOfC x (defScope st) s.heap.objs.size f cdv))→DSs (cxU P w K mg base N x (defScope st) f cdv A outer s H) E0 pin (defBody st) d) :
  CalU P w K mg base x (k+1) ps (spG K g):=by
 obtain⟨f,fd,hm,Fn⟩:=D.ex
 refine⟨f,fd,hm,?_,Fn.binds hb,Fn.kp⟩
 obtain⟨oc,od,kV,doc,pm,an,cdv,ct,osl,rfl,lk,hcd⟩:=Fn.ex
 have ne:∀ {E:XK} {vs:List V} {F:Addr→Prop} {S:Nat→Addr→Prop} {H:Hp} {ss:PEnv} {Q:VK},OkG K E vs F S H (g ss) Q→g ss≠.no:=fun {E vs F S H ss Q} h z=>by rw[z]at h; exact h
 refine fn_ofU lk hcd Sc (fun vs H Q E ⟨F,S,ss,rl,ok⟩=>?_) fun A outer s H vs Q hr hsp=>?_
 ·have:=hlen ss (ne ok)
  have h2:=rl.len
  rw[List.length_map]at h2
  ac_rfl
 ·obtain⟨F,S,ss,rl,ok⟩:=hsp
  have hl:=hlen ss (ne ok)
  have h2:=rl.len
  rw[List.length_map]at h2
  have es:L2.start N vs=vs.map some++List.replicate n none:=by
   unfold L2.start
   rw[show N.length-vs.length=n by ac_rfl]
  rw[es]
  refine hbody f cdv A outer s H hr F S _ _ H _ (rl.start n) ?_
  have hown':=hown ss (ne ok)
  have hg':=hg ss (ne ok)
  rw[← hg']at ok
  unfold fnD at ok
  generalize d (ss++List.replicate n .none)=r at ok ⊢
  cases r with
  | no=>exact ok
  | er c ε' =>
   intro x F' S' σ' H' r' g' p'
   have ok:OkG K E0 vs F S H ((lift (back ss ε') []).bind fun ss' _=>.er c ss') Q:=ok
   cases e:back ss ε' with
   | none=>rw[e]at ok; exact ok.elim
   | some ss' =>
    rw[e]at ok
    obtain⟨S'',r'',sub,_⟩:=rl.back r' g' p' hown' e
    exact ok x F' S'' H' r'' ⟨g'.fro,g'.keep,g'.there,g'.fnew,fun b z=>g'.onew b (sub b z)⟩
  | ok fl ε' =>
   have fin:∀ (rs:Slot),OkG K E0 vs F S H ((lift (back ss ε') []).bind fun ss' _=>.ok rs ss') Q→∀ (v:V) F' S' σ' H' Sr,Rel K F' S' ε' σ' H'→Grow (U S) (fun b=>U S' b∨Sr b) F F' H H'→PinOk pin (vs.map some++List.replicate n none) σ'→RepS K H' F' rs v Sr→Loose F' S' H' Sr→Q v H':=by
    intro rs ok v F' S' σ' H' Sr r' g' p' hv lo
    cases e:back ss ε' with
    | none=>rw[e]at ok; exact ok.elim
    | some ss' =>
     rw[e]at ok
     obtain⟨S'',r'',sub,up⟩:=rl.back r' g' p' hown' e
     refine ok v F' S'' H' Sr r'' ⟨g'.fro,g'.keep,g'.there,g'.fnew,fun b z=>g'.onew b (z.imp (sub b) id)⟩ hv (fun b z=>⟨(lo b z).1,fun w=>(lo b z).2.1 (sub b w),(lo b z).2.2⟩) fun b z=>?_
     rcases g'.onew b (.inr z)with w | w
     ·exact absurd (sub b (up b w)) (lo b z).2.1
     ·exact w
   cases fl with
   | brk=>exact ok.elim
   | cont=>exact ok.elim
   | ret rs=>exact fin rs ok
   | next=>exact fun F' S' σ' H' r' g' p'=>fin (.val .non) ok .non F' S' σ' H' (fun _=>False) r' ⟨g'.fro,g'.keep,g'.there,g'.fnew,fun b z=>z.elim (g'.onew b) False.elim⟩ p' ⟨rfl,fun _ z=>z⟩ fun _ z=>z.elim
section
variable{X:Cx}{E:XK}{e:Expr}{es:List Expr}{dg:PEnv→R (List ASlot)}{pos:Pos}{x:Str}{k:Nat}{ps:List Str}{g:PEnv→R Slot}{p:Pos}
theorem pe_callU{f:Addr}{fd:FuncData}{sp:Sp}{t:TA}(Fn:FnOkU X.prog X.w X.K X.mg X.base k f fd ps sp)(hr:RoomU k X.A)(hg:Gl X x)(hm:X.mg x=some (.ref f))(hk:PySem.W.keepIn X.K (.ref f)=true)(hb:Binds X.K fd ps [])
  (ha:PA X (e::es) t) (hd:(x == ("__debug__" : Str))=false) (he:starEach (e::es) X.env=(false,eval e X.env)::starEach es X.env) (hpl:(backTo pos (starEach es X.env)).any (·.1)=false) :
  PE X (.Call (.Name x p) (e::es) [] pos) (fun σ H Q=>t σ H fun vs H1=>sp vs H1 Q E0):=fun pins s σ H Q I h=>by
 refine wpAny_Call_Name_kw (ld_glob I hg hm ?_ hd)
 refine PySem.W.callWith_K (h₀:=X.base) I.ok.mod.kin hk (thn (ha pos pins s σ H _ I h) fun us s1 ⟨vs,H1,I1,r,q⟩=>⟨I1.kIn,?_⟩) he hpl
 have hl:us.length=ps.length:=by rw[← r.length]; exact Fn.len _ _ _ _ q
 refine wpAny_call (codeAny_mono (Fn.run X.A X.stack s1 H1 ⟨us,[]⟩ us vs Q hr I1.env0 (by have:=hb s1 us I1.kIn (by rw[List.append_nil]; exact hl); rwa[List.append_nil]at this) r q) fun rr s' hq=>?_)
 cases rr with
 | error er=>exact(show False from hq).elim
 | ok fl =>
  cases fl with
  | ret u=>exact I1.after hq
  | next=>exact False.elim hq
  | brk=>exact False.elim hq
  | cont=>exact False.elim hq
theorem dr_callU(c:CalU X.prog X.w X.K X.mg X.base x k ps (spG X.K g))(hr:RoomU k X.A)(ha:DG X E (e::es) dg)(hg:Gl X x:=by rfl)
  (hd:(x == ("__debug__" : Str))=false:=by decide) (h1:starEach (e::es) X.env=(false,eval e X.env)::starEach es X.env:=by rfl) (h2:(backTo pos (starEach es X.env)).any (·.1)=false:=by rfl) :
  DR X E (.Call (.Name x p) (e::es) [] pos) (fun ε=>noE (dCall g dg ε)):=fun F S ε σ H Q rl h=>by
 obtain⟨f,fd,hm,Fn,hb,hk⟩:=c.ex
 have h':Ok X.K E σ F S H (dg ε) (fun as ε1 F1 S1 H1=>Ok X.K E σ F1 S1 H1 (noE ((lift (if(owns as).Nodup then argS ε1 as else none) ε1).bind fun ss ε1=>putR ε1 as (g ss))) (fun s _ F' S' H'=>∀ v Sr,RepS X.K H' F' s v Sr→(∀ b,Sr b→H b=none∧¬ F' b∧¬ U S' b∧∃ o,H' b=some o∧notImm o)→Q v H')):=by
  have h:Ok X.K E σ F S H (noE ((dg ε).bind fun as ε1=>(lift (if(owns as).Nodup then argS ε1 as else none) ε1).bind fun ss ε1=>putR ε1 as (g ss))) _:=h
  cases e0:dg ε with
  | no=>rw[e0]at h; exact h.elim
  | er c ε'=>rw[e0]at h; exact h.elim
  | ok as ε1=>rw[e0]at h; exact fun F1 S1 H1 r1 g1=>Ok.from h g1
 refine wp_e (pe_callU Fn hr hg hm hk hb pa_wp hd h1 h2) (ha F S ε σ H _ rl (h'.imp fun as ε1 F1 S1 H1 r1 g1 q vs av=>?_))
 by_cases nd:(owns as).Nodup
 ·rw[if_pos nd]at q
  cases es:argS ε1 as with
  | none=>rw[es]at q; exact q.elim
  | some ss =>
   rw[es]at q
   simp only[lift_some,R.bind_ok]at q
   refine⟨F1,calS as S1,ss,r1.cal av es nd,?_⟩
   cases eg:g ss with
   | no=>rw[eg]at q; exact q.elim
   | er cv ss' =>
    rw[eg]at q
    unfold putR at q
    dsimp only at q
    by_cases kp:keptO as ss'=true
    ·rw[if_pos kp]at q; exact q.elim
    ·rw[if_neg kp]at q; exact q.elim
   | ok s ss' =>
    rw[eg]at q
    intro v F' S' H' Sr r' g' rv lo fr
    unfold putR at q
    dsimp only at q
    by_cases kp:keptO as ss'=true
    ·rw[if_pos kp]at q
     obtain⟨S2,r2,g2,u2⟩:=r1.called av es nd r' g' (fun _ z=>.inl z) (keptO_get kp)
     refine q F' S2 H' r2 g2 v Sr rv fun b z=>⟨fresh_back g1 (fr b z),(lo b z).1,fun w=>?_,(lo b z).2.2⟩
     rcases u2 b w with w | ⟨i,w⟩
     ·exact(lo b z).2.1 w
     ·obtain⟨_,_,o,y1,_⟩:=r1.foot i b w
      rw[fr b z]at y1; cases y1
    ·rw[if_neg kp]at q; exact q.elim
 ·rw[if_neg nd]at q; exact q.elim
end
end Pu
namespace Pu
open PySem PySem.Spec PyProof.Rows L2
structure ExcK(K:PySem.W.Frag)(C:Addr):Prop where
 ga:PySem.W.findIn K (.ref C) "__getattribute__" = some (some (.builtin "BaseException.__getattribute__"))
 gt:PySem.W.findIn K (.ref C) "__getattr__" = some none
 cl:PySem.W.findIn K (.ref C) "__class__" = some (some (.builtin "object.__class__"))
 gs:PySem.W.specialIn K (.builtin "object.__class__") "__get__" = some (some (.builtin "getset_descriptor.__get__"))
 tk:PySem.W.takesIn K (.builtin "object.__class__")=some true
 ob:PySem.W.mroIn K C (.type "object")=some true
 be:PySem.W.mroIn K C (.type "BaseException")=some true
 cs:(PySem.W.clsIn K C).isSome=true
section
variable{prog:Program}{w:World}{A:Around}{E:Value→Shared→Prop}{K:PySem.W.Frag}{h:Heap}{g:Array GenState}{d:Drawn}{t:Nat}{os:OsState}{a C:Addr}{o:Obj}
theorem exc_ga_check{M:Model}{nameV:Value}{Q:Unit→Shared→Prop}(X:K.In h)(k:ExcK K C)(I:PySem.W.InstAt h a o C none)(hq:Q () ⟨h,g,d,t,os⟩):wpAny M A (checkBuiltinCall "BaseException.__getattribute__" ⟨[.ref a,nameV],[]⟩) Q E ⟨h,g,d,t,os⟩:=by
 have hk:builtinKind "BaseException.__getattribute__" = some .slot:=by decide +kernel
 have hsplit:splitId "BaseException.__getattribute__" = some ("BaseException","__getattribute__"):=by decide +kernel
 have ha:=F.args_bexc_ga (.ref a) nameV
 have L0:=I.type (M:=M)
 have L1:=PySem.W.looks_mroIn (M:=M) X k.be
 simp only[checkBuiltinCall,hk,hsplit]
 refine wpAny_bind ?_
 ·unfold isInstance
  repeat (first | with_reducible refine wpAny_bind (L0.at ?_) | with_reducible refine L1.at ?_ | with_reducible refine wpAny_bind (L1.at ?_) | wp_step)
  exact hq
theorem exc_entry{tk:Tok}{Q:Fin→Shared→Prop}(X:K.In h)(k:ExcK K C)(I:PySem.W.InstAt h a o C none)(hq:Q (.done (.ret (.ref C))) ⟨h,g,d,t,os⟩):wpAny (model prog w) A (Builtin.«object.__getattribute__» ⟨[.ref a,.str "__class__" tk],[]⟩) Q E ⟨h,g,d,t,os⟩:=by
 have L0:=I.type (M:=model prog w)
 have hf:PySem.W.findObj K C none "__class__" = some (.bind (.builtin "getset_descriptor.__get__") (.builtin "object.__class__")):=by
  obtain⟨cd,hc⟩:=Option.isSome_iff_exists.mp k.cs
  unfold PySem.W.findObj
  rw[hc,Option.bind_some,k.cl,Option.bind_some]
  simp[k.gs,k.tk]
 have L1:=PySem.W.looks_find (M:=model prog w) X I hf
 have gg:codeAny (model prog w) A (.call (.builtin "getset_descriptor.__get__") ⟨[.builtin "object.__class__",.ref a,.ref C],[]⟩) (fun r s'=>r = .ok (.ret (.ref C))∧s'=⟨h,g,d,t,os⟩) ⟨h,g,d,t,os⟩:=PySem.W.class_get (s:=⟨h,g,d,t,os⟩) X I k.ob ⟨rfl,rfl⟩
 refine wpAny_bind (wpAny_pure (wpAny_bind (wpAny_pure (wpAny_bind (L0.at (wpAny_bind (L1.at ?_)))))))
 show wpAny _ _ (do ret (← holding [Value.builtin "object.__class__"] (call (.builtin "getset_descriptor.__get__") [.builtin "object.__class__",.ref a,.ref C]))) _ _ _
 refine wpAny_bind (wpAny_holding (wpAny_call (codeAny_mono gg fun r s' z=>?_)))
 obtain⟨rfl,rfl⟩:=z
 exact wpAny_pure hq
theorem exc_by{tk:Tok}{Q:Value→Shared→Prop}(X:K.In h)(k:ExcK K C)(I:PySem.W.InstAt h a o C none)(hq:Q (.ref C) ⟨h,g,d,t,os⟩):wpAny (model prog w) A (getAttrBy (.ref a) (.str "__class__" tk) false) Q E ⟨h,g,d,t,os⟩:=by
 have L0:=I.type (M:=model prog w)
 have L1:=PySem.W.looks_findIn (M:=model prog w) X k.ga
 have L2':=PySem.W.looks_findIn (M:=model prog w) X k.gt
 have hx2:(Value.builtin "BaseException.__getattribute__" == Value.builtin "object.__getattribute__")=false:=by decide +kernel
 have hx1:(onTheHeap (Value.ref C) && Value.builtin "BaseException.__getattribute__" == Value.builtin "object.__getattribute__")=false:=by rw[hx2]; rfl
 unfold getAttrBy
 refine wpAny_holding (wpAny_bind (L0.at (wpAny_bind (L1.at ?_))))
 dsimp only
 rw[hx1]
 rw[if_neg (by decide)]
 have f3:=F.attr_ValueError.ga.bind (.ref a)
 have hx0:(false && onTheHeap (Value.builtin "BaseException.__getattribute__"))=false:=rfl
 repeat (any_goals (first | assumption | with_reducible refine L2'.at ?_ | with_reducible refine wpAny_bind (L2'.at ?_) | wp_step))
 refine codeAny_call_builtin F.attr_ValueError.ga.plain F.entry_bexc_ga (exc_ga_check X k I (exc_entry X k I ?_))
 repeat (any_goals (first | assumption | wp_step))
theorem exc_attr{Q:Option Value→Shared→Prop}(X:K.In h)(k:ExcK K C)(I:PySem.W.InstAt h a o C none)(hq:Q (some (.ref C)) ⟨h,g,d,t+1,os⟩):wpAny (model prog w) A (getAttr? (.ref a) "__class__") Q E ⟨h,g,d,t,os⟩:=by
 unfold getAttr? getAttrBy?
 repeat (any_goals (first | assumption | with_reducible apply exc_by X k I | wp_step))
theorem kitx_exc(k:ExcK K C):PySem.W.KitX K (.ref a) (.ref C) (fun h=>∃ o,PySem.W.InstAt h a o C none) where
 ty:=fun _ _ _ ⟨o,I⟩=>I.type
 it:=fun _ _ X _=>by
  obtain⟨cd,hc⟩:=Option.isSome_iff_exists.mp k.cs
  unfold PySem.W.clsIn at hc
  split at hc
  ·rename_i c' d' cd' sl' ho
   intro A' Q' E' s' kk q
   unfold isType loadHead
   exact wpAny_bind (wpAny_loadPart (kk _ _ (X _ _ ho)) (wpAny_pure q))
  ·cases hc
 ne:=fun h tp dd its n sl X htp=>by
  obtain⟨cd,hc⟩:=Option.isSome_iff_exists.mp k.cs
  refine Bool.eq_false_iff.mpr fun q=>?_
  have e:C=tp:=Value.ref.inj (beq_iff_eq.mp q)
  subst e
  unfold PySem.W.clsIn at hc
  split at hc
  ·rename_i c' d' cd' sl' ho
   have z:=(X _ _ ho).symm.trans htp
   cases z
  ·cases hc
 ca:=fun {_ _ _ _ _ s} X I q=>by
  obtain⟨o,I⟩:=I
  obtain⟨h,g,d,t,os⟩:=s
  exact exc_attr X k I q
end
def clsV:V→Option Value
 | .ref D=>some (.ref D)
 | .ty T=>some (.type T)
 | _=>none
theorem clsV_rel{v:V}{u u':Value}(e:clsV v=some u)(r:RelV v u'):u'=u:=by
 cases v <;> simp[clsV]at e <;> subst e <;> exact r
section
variable{X:Cx}{K:PySem.W.Frag}
def rIsiE(K:PySem.W.Frag):List V→Hp→VK→Prop:=fun xs H Q=>∃ a C D u b,xs=[.ref a,D]∧H a=some (excO a (.ref C))∧ExcK K C∧clsV D=some u∧PySem.W.kitOne K (.ref C) u=some b∧Q (.bl b) H
theorem call_isiE:CallR X (.builtin "isinstance") (rIsiE X.K):=by
 intro pins s σ H xs us Q I r h
 obtain⟨a,C,D,u,b,rfl,ha,k,hu,e,q⟩:=h
 cases r with
 | cons r1 r2 =>
  cases r2 with
  | cons r3 r4 =>
   cases r4
   cases r1
   have e3:=clsV_rel hu r3
   subst e3
   obtain⟨⟨o,vs,h1,h2,h3,h4⟩,_,_⟩:=I.hok a _ ha
   refine PySem.W.kia_one (kitx_exc (a:=a) k) I.kIn ⟨o,h1,h2,?_,?_⟩ e (by intro z; cases z) fun tk=>⟨.bl b,H,I.tok _,rfl,q⟩
   ·unfold PySem.W.notCls; rw[h3]
   ·rw[h4]; trivial
def isiQ(tab:Value→V→Option Bool):List PV→Option PV
 | [.exc c,.raw D]=>(tab c D).map .bl
 | xs=>isiP xs
def rIsiA(K:PySem.W.Frag):List V→Hp→VK→Prop:=fun xs H Q=>rIsiE K xs H Q∨∃ x t T b,xs=[x,.ty T]∧TyOf K H x (.type t)∧PySem.W.kitOne K (.type t) (.type T)=some b∧Q (.bl b) H
theorem call_isiA:CallR X (.builtin "isinstance") (rIsiA X.K):=call_isiE.or call_isi
def TabOk(K:PySem.W.Frag)(tab:Value→V→Option Bool):Prop:=∀ c D b,tab c D=some b→∃ C u,c = .ref C∧ExcK K C∧clsV D=some u∧PySem.W.kitOne K (.ref C) u=some b
theorem pl_isiA{tab:Value→V→Option Bool}(ht:TabOk K tab):PL K (rIsiA K) (isiQ tab):=fun F H xs vs Q pv rs e q=>by
 unfold isiQ at e
 split at e
 ·rename_i c D
  cases q1:tab c D with
  | none=>rw[q1]at e; cases e
  | some b =>
   rw[q1]at e
   cases e
   obtain⟨C,u,rfl,k,hu,hk⟩:=ht c D b q1
   obtain⟨v,r',rfl,⟨a,rfl,ha⟩,h2⟩:=rs
   obtain⟨v2,rfl,h3⟩:=reps1 h2
   rw[show v2=D from h3]
   exact .inl ⟨a,C,D,u,b,rfl,ha,k,hu,hk,q _ F H (Al.refl ..) rfl⟩
 ·exact .inr (pl_isi F H _ vs Q pv rs e q)
theorem de_gref{E:XK}{x:Str}{D:Addr}{pos:Pos}(hm:X.mg x=some (.ref D))(hg:Gl X x:=by rfl)(hd:(x == ("__debug__" : Str))=false:=by decide):DE X E (.Name x pos) (dC (.raw (.ref D))):=fun F S ε σ H Q r q =>
 wp_e (pe_glob (v:=.ref D) hg hm rfl hd) (q F S H r (Grow.refl ..) _ rfl)
variable{E:XK}{e:Expr}{de:PEnv→R PV}{pos:Pos}{y:Str}
def cntP(xs:List PV)(y:PV):Option PV:=(flP y).bind fun v=>(flPs xs).map fun ws=>.int (ws.countP fun z=>eqV z v)
def idxP(xs:List PV)(y:PV):Option PV:=(flP y).bind fun v=>(flPs xs).bind fun ws=>(ws.findIdx? fun z=>eqV z v).map fun j=>.int j
def dOwnM(f:List PV→PV→Option PV)(i:Nat)(de:PEnv→R PV):PEnv→R PV:=fun ε=>(lift (ownL ε i) ε).bind fun _ ε=>(de ε).bind fun k ε1=>(lift (ownL ε1 i) ε1).bind fun xs ε1=>lift (f xs k) ε1
theorem de_ownCount(i:Nat){p apos cpos:Pos}(he:DE X E e de)(hN:X.N[i]?=some y:=by rfl)(hv:Vis X.env.scope y:=by first | exact Or.inl rfl | exact Or.inr (Or.inl rfl) | exact Or.inr (Or.inr rfl))(hd:(y == ("__debug__" : Str))=false:=by decide)
  (hcd:(y == ("__classdict__" : Str))=false:=by decide) (h1:attributeBase (.Name y p) "count" X.env (eval (.Name y p) X.env)=eval (.Name y p) X.env:=by rfl)
  (h2:((backTo cpos (starEach [e] X.env)).all (fun x=>!x.1) && (backToKw cpos (keywordEach [] X.env)).all (fun x=>x.1.isSome) && decide ([e].length+([]:List Keyword).length+(if([]:List Keyword).isEmpty then 0 else 1)<30))=true:=by rfl)
  (h3:(apos.endLine == cpos.line)=true:=by rfl) (h4:starEach [e] X.env=(false,eval e X.env)::starEach [] X.env:=by rfl) (h5:(backTo cpos (starEach [] X.env)).any (·.1)=false:=by rfl) :
  DE X E (.Call (.Attribute (.Name y p) "count" apos) [e] [] cpos) (dOwnM cntP i de):=fun F S ε σ H Q rl h=>by
 unfold dOwnM at h
 cases e0:ownL ε i with
 | none=>rw[e0]at h; exact h.elim
 | some xs0 =>
  rw[e0]at h
  simp only[lift_some,R.bind_ok]at h
  obtain⟨a,vs0,ea,ha,_,_,_⟩:=rl.lstAt (ownL_eq e0)
  refine wp_e (pe_bm PySem.F.plainAttrs_list PySem.F.slot_list_count PySem.F.type_list_count mt_count (pe_var hN hv hd hcd) (pa_cons pe_wp pa_nil h4) h1 h2 h3 h4 h5) ⟨.ref a,ea,.inl ⟨rfl,_,SqL.of ha⟩,?_⟩
  refine he F S ε σ H _ rl ((Ok.bind h).imp fun k ε1 F1 S1 H1 r1 g1 q v rv=>?_)
  cases e1:ownL ε1 i with
  | none=>rw[e1]at q; exact q.elim
  | some xs =>
   rw[e1]at q
   simp only[lift_some,R.bind_ok]at q
   obtain⟨a',vs,ea',ha',ra,_,_⟩:=r1.lstAt (ownL_eq e1)
   rw[ea]at ea'
   cases ea'
   unfold cntP at q
   cases q1:flP k with
   | none=>rw[q1]at q; exact q.elim
   | some w =>
    cases q2:flPs xs with
    | none=>rw[q1,q2]at q; exact q.elim
    | some ws =>
     rw[q1,q2]at q
     obtain⟨rfl,hf⟩:=flPs_rep ra q2
     rw[flP_rep rv q1]
     exact⟨a,vs,w,rfl,rfl,ha',flP_flat q1,hf,q F1 S1 H1 r1 (Grow.refl ..) _ rfl⟩
theorem de_ownIndex(i:Nat){p apos cpos:Pos}(he:DE X E e de)(hN:X.N[i]?=some y:=by rfl)(hv:Vis X.env.scope y:=by first | exact Or.inl rfl | exact Or.inr (Or.inl rfl) | exact Or.inr (Or.inr rfl))(hd:(y == ("__debug__" : Str))=false:=by decide)
  (hcd:(y == ("__classdict__" : Str))=false:=by decide) (h1:attributeBase (.Name y p) "index" X.env (eval (.Name y p) X.env)=eval (.Name y p) X.env:=by rfl)
  (h2:((backTo cpos (starEach [e] X.env)).all (fun x=>!x.1) && (backToKw cpos (keywordEach [] X.env)).all (fun x=>x.1.isSome) && decide ([e].length+([]:List Keyword).length+(if([]:List Keyword).isEmpty then 0 else 1)<30))=true:=by rfl)
  (h3:(apos.endLine == cpos.line)=true:=by rfl) (h4:starEach [e] X.env=(false,eval e X.env)::starEach [] X.env:=by rfl) (h5:(backTo cpos (starEach [] X.env)).any (·.1)=false:=by rfl) :
  DE X E (.Call (.Attribute (.Name y p) "index" apos) [e] [] cpos) (dOwnM idxP i de):=fun F S ε σ H Q rl h=>by
 unfold dOwnM at h
 cases e0:ownL ε i with
 | none=>rw[e0]at h; exact h.elim
 | some xs0 =>
  rw[e0]at h
  simp only[lift_some,R.bind_ok]at h
  obtain⟨a,vs0,ea,ha,_,_,_⟩:=rl.lstAt (ownL_eq e0)
  refine wp_e (pe_bm PySem.F.plainAttrs_list PySem.F.slot_list_index PySem.F.type_list_index mt_index (pe_var hN hv hd hcd) (pa_cons pe_wp pa_nil h4) h1 h2 h3 h4 h5) ⟨.ref a,ea,.inl ⟨rfl,_,SqL.of ha⟩,?_⟩
  refine he F S ε σ H _ rl ((Ok.bind h).imp fun k ε1 F1 S1 H1 r1 g1 q v rv=>?_)
  cases e1:ownL ε1 i with
  | none=>rw[e1]at q; exact q.elim
  | some xs =>
   rw[e1]at q
   simp only[lift_some,R.bind_ok]at q
   obtain⟨a',vs,ea',ha',ra,_,_⟩:=r1.lstAt (ownL_eq e1)
   rw[ea]at ea'
   cases ea'
   unfold idxP at q
   cases q1:flP k with
   | none=>rw[q1]at q; exact q.elim
   | some w =>
    cases q2:flPs xs with
    | none=>rw[q1,q2]at q; exact q.elim
    | some ws =>
     cases q3:ws.findIdx? fun z=>eqV z w with
     | none=>rw[q1,q2]at q; simp only[Option.bind_some]at q; rw[q3]at q; exact q.elim
     | some j =>
      rw[q1,q2]at q
      simp only[Option.bind_some]at q
      rw[q3]at q
      obtain⟨rfl,hf⟩:=flPs_rep ra q2
      rw[flP_rep rv q1]
      rw[List.findIdx?_eq_some_iff_getElem]at q3
      obtain⟨hj,h6,h7⟩:=q3
      refine⟨a,vs,w,j,rfl,rfl,ha',flP_flat q1,hf,hj,fun z hz=>?_,fun m z hm hz=>?_,q F1 S1 H1 r1 (Grow.refl ..) _ rfl⟩
      ·rw[List.getElem?_eq_getElem hj]at hz; cases hz; exact h6
      ·have:=h7 m hm
       rw[List.getElem?_eq_getElem (by ac_rfl)]at hz; cases hz
       simpa using this
end
end Pu
namespace Pu
open PySem PySem.Spec PyProof.Rows L2
theorem inS_one(c:Nat)(x:Tx):inS [c] x=x.contains c:=by
 unfold inS
 have:=StrLaws.found_one (tS x) c
 rw[tS_cps]at this
 rw[show(tS [c])=⟨#[c]⟩from rfl,this]
 simp[List.contains_eq_mem]
end Pu
namespace Pu
open PySem PySem.Spec PyProof.Rows L2
theorem noFill_tuple_mul:fillsNumberSlot (.type "tuple") "mul" = pure false :=
 PySem.fillsNumberSlot_seq (id:="tuple.__mul__") (r:=some (.builtin "tuple.__rmul__")) F.slot_tuple_mul.lookup (by decide +kernel) F.slot_tuple_rmul.lookup (by decide +kernel)
theorem repeat_tuple:seqRepeat? (.type "tuple")=pure (some (.builtin "tuple.__mul__")):=by
 unfold seqRepeat?
 rw[PySem.seqSlot_of (T:="tuple") (name:="__mul__") (id:="tuple.__mul__") F.slot_tuple_mul.lookup (by decide +kernel),PySem.seqSlot_of (T:="tuple") (name:="__rmul__") (id:="tuple.__rmul__") F.slot_tuple_rmul.lookup (by decide +kernel)]
 rfl
theorem int_rmul_tuple(a:Int)(t:Tok)(l:Addr)(items:Array Value)(n:Nat)(dd:Option Addr)(sl:Array (Option Value)) :
  Meets (Builtin.«int.__rmul__» ⟨[.int a t,.ref l],[]⟩) (fun _ R s=>s.heap.get? l=some { cls:=.type "tuple",dict:=dd,data:=.seq items n,slots:=sl }∧R (.ok (.ret Value.notImplemented)) s) :=
 .of_wp fun prog w A R s h=>by obtain⟨hp,g,d,tk,os⟩:=s; obtain⟨hl,h⟩:=h; wp_walk; exact⟨_,rfl,h⟩
theorem tuple_mul_int(l:Addr)(items:Array Value)(n:Nat)(dd:Option Addr)(sl:Array (Option Value))(x:Int)(u:Tok)(h0:(decide (x < -(2 ^ 63)) || decide (x ≥ 2 ^ 63))=false)(h1:(items.isEmpty || x == 1)=false)(h2:(decide (x≤0) || items.isEmpty)=false)(h3:¬ (items.size * x > (2 ^ 63-1) / 8))(h4:Builtin.Tuple.tupleTooMany (items.size * x)=false)
  (h5:((List.replicate x.toNat items).foldl (·++·) #[]).size≤sizeLine) :
  Meets (Builtin.«tuple.__mul__» ⟨[.ref l,.int x u],[]⟩) (fun _ R s=>s.heap.get? l=some { cls:=.type "tuple",dict:=dd,data:=.seq items n,slots:=sl }∧R (.ok (.ret (.ref s.heap.objs.size))) { s with heap:=s.heap.push { cls:=.type "tuple",data:=.seq ((List.replicate x.toNat items).foldl (·++·) #[]) } }) :=
 .of_wp fun prog w A R s h=>by
  obtain⟨hp,g,d,tk,os⟩:=s; obtain⟨hl,h⟩:=h
  wp_walk
  refine wpAny_ite_false (decide_eq_false (by rw[h0]; exact Bool.false_ne_true)) ?_
  wp_walk
  refine wpAny_ite_false (decide_eq_false h3) ?_
  wp_walk
  exact⟨_,rfl,h⟩
section
variable{X:Cx}{K:PySem.W.Frag}
def rRepT(K:PySem.W.Frag):R2:=fun x y H Q=>∃ a k xs,x = .ref a∧y = .int k∧SqT K H a xs∧xs≠[]∧2≤k∧k≤1000∧xs.length≤1000∧∀ p,H p=none→Q (.ref p) (upd H p (.tup (List.replicate k.toNat xs).flatten))
theorem op_repT:OpR X (binaryOp .Mult) (rRepT X.K):=by
 intro pins s σ H x y v u Q I rx ry h
 obtain⟨l,k,xs,rfl,rfl,hH,hne,h1,h2,hz,q⟩:=h
 cases rx
 obtain⟨t,rfl⟩:=ry
 obtain⟨its,r,p1,_⟩:=I.tuple hH
 obtain⟨⟨cls,dd,data,sl⟩,ho,hc,n,hd⟩:=id p1
 simp only at hc hd
 subst hc hd
 have hl:=r.length
 have hne':its≠[]:=fun z=>hne (r.nil_iff.mp z)
 have f0:List.foldl (fun x1 x2=>x1++x2) #[] (List.replicate k.toNat its.toArray)=(List.replicate k.toNat its).flatten.toArray:=by
  have:=foldl_rep its k.toNat []
  rw[List.nil_append]at this
  exact this
 have he:its.toArray.isEmpty=false:=by cases its with | nil=>exact absurd rfl hne' | cons=>rfl
 have e1:(k == 1)=false:=by rw[beq_eq_false_iff_ne]; ac_rfl
 have hmul:its.toArray.size * k≤1000000:=by
  rw[List.size_toArray]
  have ha:(its.length:Int)≤1000:=by ac_rfl
  have:=Int.mul_le_mul ha h2 (by ac_rfl) (by ac_rfl)
  ac_rfl
 refine wpAny_binaryOp_repeat_ref (T:="tuple") (U:="int") (by decide) ⟨_,ho,rfl⟩ (fun s'=>typeIs_int s' k t) noFill_tuple_mul F.fills_int_mul F.slot_int_rmul repeat_tuple F.slot_int_index.lookup
  (call_meets F.slot_int_rmul (typeIs_int s k t) F.entry_int_rmul (F.args_int_rmul_2 _ _) (int_rmul_tuple k t l its.toArray n dd sl)
   ⟨ho,rfl,⟨_,ho,rfl⟩,call_meets F.slot_tuple_mul ⟨_,ho,rfl⟩ F.entry_tuple_mul (F.args_tuple_mul_2 _ _) (tuple_mul_int l its.toArray n dd sl k t ?_ ?_ ?_ ?_ ?_ ?_) ⟨ho,?_⟩⟩)
 ·rw[decide_eq_false (by ac_rfl),decide_eq_false (by ac_rfl)]; rfl
 ·rw[he,e1]; rfl
 ·rw[he,decide_eq_false (by ac_rfl)]; rfl
 ·ac_rfl
 ·unfold Builtin.Tuple.tupleTooMany; exact decide_eq_false (by rw[sizeLine_eq]; ac_rfl)
 ·rw[f0,List.size_toArray,len_rep,sizeLine_eq]
  have:=Nat.mul_le_mul (show k.toNat≤1000 by ac_rfl) (show its.length≤1000 by ac_rfl)
  ac_rfl
 ·rw[f0]
  refine⟨.ref s.heap.objs.size,_,I.laid (t':=s.toks) (o:=.tup (List.replicate k.toNat xs).flatten) (fun b ob q=>Heap.get?_push_of_some _ q) (Nat.le_refl _) ?_,rfl,q _ (I.hok.fresh (Nat.le_refl _))⟩
  refine⟨?_,_,r.rep k.toNat,IsTupD.new _ _⟩
  rw[len_rep,sizeLine_eq]
  have:=Nat.mul_le_mul (show k.toNat≤1000 by ac_rfl) hz
  ac_rfl
theorem _root_.Pu.Reps.rep{H:Hp}{F:Addr→Prop}{xs:List PV}{vs:List V}(r:Reps K H F xs vs):∀ n:Nat,Reps K H F (List.replicate n xs).flatten (List.replicate n vs).flatten
 | 0=>rfl
 | n+1=>by
  rw[List.replicate_succ,List.replicate_succ,List.flatten_cons,List.flatten_cons]
  exact r.app (r.rep n)
def mulPT:PV→PV→Option PV
 | .tup xs,.int k=>if xs≠[]∧2≤k∧k≤1000∧xs.length≤1000 then some (.tup (List.replicate k.toNat xs).flatten)else none
 | _,_=>none
theorem p2_repT:P2 K (rRepT K) mulPT:=fun F H x y v u Q pv rx ry e q=>by
 unfold mulPT at e
 split at e
 ·split at e
  ·rename_i xs k h
   cases e
   obtain⟨a,us,rfl,ha,ra⟩:=rx
   have hl:=ra.len
   exact⟨a,k,us,rfl,ry,SqT.of ha,(fun z=>h.1 (by rw[z]at hl; exact List.eq_nil_of_length_eq_zero hl.symm)),h.2.1,h.2.2.1,by ac_rfl,fun p hp=>q _ F _ (Al.new0 hp) ⟨p,_,rfl,upd_same,(Al.new0 hp).reps (ra.rep _)⟩⟩
  ·cases e
 ·cases e
end
end Pu
namespace Pu
open PySem PySem.Spec PyProof.Rows L2
section
variable{K:PySem.W.Frag}{F F':Addr→Prop}{S S':Nat→Addr→Prop}{ε ε':PEnv}{σ:St}{H H':Hp}{i:Nat}{po:PO}
variable{a b:Addr}{xss:List (List PV)}{as:List Addr}{j:Nat}{xs:List PV}{vs:List V}
theorem LReps.len(h:LReps K H F xss as):as.length=xss.length:=by
 unfold LReps at h
 induction h with
 | nil=>rfl
 | cons _ _ ih=>simp[ih]
theorem LReps.set(h:LReps K H F xss as)(nd:as.Nodup)(e:as[j]?=some b){H':Hp}(hFs:∀ x v,Reps K H F x v→Reps K H' F x v)(ho:∀ c o,c∈as→c≠b→H c=some o→H' c=some o)(hb:∃ vs',H' b=some (.lst vs')∧Reps K H' F xs vs'):LReps K H' F (xss.set j xs) as:=by
 unfold LReps at h ⊢
 induction h generalizing j with
 | nil=>exact .nil
 | cons r hr ih =>
  rename_i x c xss as
  have nd2:=List.nodup_cons.mp nd
  cases j with
  | zero =>
   simp at e; subst e
   refine .cons hb ?_
   exact LReps.mono (K:=K) hFs (fun d o hd=>ho d o (by simp[hd]) (by rintro rfl; exact nd2.1 hd)) hr
  | succ j =>
   have e2:as[j]?=some b:=by simpa using e
   have hbm:b∈as:=List.mem_of_getElem? e2
   obtain⟨vs,h1,h2⟩:=r
   exact .cons ⟨vs,ho c _ (by simp) (by rintro rfl; exact nd2.1 hbm) h1,hFs _ _ h2⟩ (ih nd2.2 e2 fun d o hd=>ho d o (by simp[hd]))
end
end Pu
namespace Pu
open PySem PySem.Spec PyProof.Rows L2
theorem LReps.snoc{K:PySem.W.Frag}{H:Hp}{F:Addr→Prop}{xss:List (List PV)}{as:List Addr}{xs:List PV}{b:Addr}{vs:List V}(h:LReps K H F xss as)(hb:H b=some (.lst vs))(hr:Reps K H F xs vs):LReps K H F (xss++[xs]) (as++[b]):=Paired.snoc h ⟨vs,hb,hr⟩
end Pu
namespace Pu
open PySem PySem.Spec PyProof.Rows L2
def ownsIn(pin:List Nat):Nat→PEnv→Bool
 | _,[]=>true
 | i,.own po::ss=>pin.contains i && flatO po && ownsIn pin (i+1) ss
 | i,_::ss=>ownsIn pin (i+1) ss
theorem ownsIn_get{pin:List Nat}:∀ {ss:PEnv} {k:Nat},ownsIn pin k ss=true→∀ (i:Nat) po,ss[i]?=some (.own po)→k+i∈pin∧flatO po=true
 | [],_,_,i,po,e=>by simp at e
 | .own q::ss,k,h,0,po,e=>by
  simp only[List.getElem?_cons_zero,Option.some.injEq,Slot.own.injEq]at e
  subst e
  simp only[ownsIn,Bool.and_eq_true]at h
  exact⟨by simpa using h.1.1,h.1.2⟩
 | .own q::ss,k,h,i+1,po,e=>by
  simp only[ownsIn,Bool.and_eq_true]at h
  have:=ownsIn_get (k:=k+1) h.2 i po (by simpa using e)
  rwa[Nat.add_right_comm,Nat.add_assoc]at this
 | .val q::ss,k,h,0,po,e=>by simp at e
 | .none::ss,k,h,0,po,e=>by simp at e
 | .val q::ss,k,h,i+1,po,e=>by
  have:=ownsIn_get (k:=k+1) (by simpa[ownsIn]using h) i po (by simpa using e)
  rwa[Nat.add_right_comm,Nat.add_assoc]at this
 | .none::ss,k,h,i+1,po,e=>by
  have:=ownsIn_get (k:=k+1) (by simpa[ownsIn]using h) i po (by simpa using e)
  rwa[Nat.add_right_comm,Nat.add_assoc]at this
def grd(len:Nat)(pin:List Nat)(g:PEnv→R Slot):PEnv→R Slot:=fun ss=>if ss.length=len∧ownsIn pin 0 ss=true then g ss else .no
theorem cal_gen{CX:CXT}{P:Program}{w:World}{K:PySem.W.Frag}{mg:Str→Option Value}{base:Heap}{x:Str}{st:Stmt}{N ps:List Str}{k n:Nat}{d:PEnv→R Flw}{pin:List Nat}(D:Def K mg x st)(Sc:FnScope N ps (defScope st))(hn:N.length=ps.length+n)
  (hb:∀ (kV doc pm:Value) (an:Option Addr) (cdv ct:Value) (us:List Value),us.length=ps.length→bindArgs (PySem.W.fnOf x x (defArgs st) (defBody st) (defScope st) .none kV doc pm an cdv ct) ⟨us,[]⟩=pure (ps.zip us))
  (hbody:∀ (f:Addr) (cdv:Value) (A:Around) (outer:List Env) (s:Shared) (H:Hp) (E:XK),Room k (A.deeper (envOfC x (defScope st) s.heap.objs.size f cdv))→DSs (cxOf CX P w K mg base N x (defScope st) f cdv A outer s H E) E pin (defBody st) d) :
  CalX CX P w K mg base x (k+1) ps (spG K (grd ps.length pin (fnD n d))):=by
 have no:∀ {ss},grd ps.length pin (fnD n d) ss≠.no→ss.length=ps.length∧ownsIn pin 0 ss=true:=fun {ss} h=>by
  unfold grd at h
  by_cases z:ss.length=ps.length∧ownsIn pin 0 ss=true
  ·exact z
  ·rw[if_neg z]at h; exact absurd rfl h
 exact cal_of D Sc hn hb (fun ss h=>(no h).1) (fun ss h i po e=>by have:=ownsIn_get (no h).2 i po e; rwa[Nat.zero_add]at this) (fun ss h=>by unfold grd; rw[if_pos (no h)]) hbody
theorem fn_gen{f:Addr}{fd:FuncData}{CX:CXT}{P:Program}{w:World}{K:PySem.W.Frag}{mg:Str→Option Value}{base:Heap}{x qual:Str}{st:Stmt}{N ps:List Str}{k n:Nat}{d:PEnv→R Flw}{pin:List Nat}(Fn:Fun K x qual st f fd)(Sc:FnScope N ps (defScope st))(hn:N.length=ps.length+n)
  (hb:∀ (kV doc pm:Value) (an:Option Addr) (cdv ct:Value) (us:List Value),us.length=ps.length→bindArgs (PySem.W.fnOf x qual (defArgs st) (defBody st) (defScope st) .none kV doc pm an cdv ct) ⟨us,[]⟩=pure (ps.zip us))
  (hbody:∀ (f:Addr) (cdv:Value) (A:Around) (outer:List Env) (s:Shared) (H:Hp) (E:XK),Room k (A.deeper (envOfC qual (defScope st) s.heap.objs.size f cdv))→DSs (cxOf CX P w K mg base N qual (defScope st) f cdv A outer s H E) E pin (defBody st) d) :
  FnOk P w K mg base CX (k+1) f fd ps (spG K (grd ps.length pin (fnD n d))):=by
 have no:∀ {ss},grd ps.length pin (fnD n d) ss≠.no→ss.length=ps.length∧ownsIn pin 0 ss=true:=fun {ss} h=>by
  unfold grd at h
  by_cases z:ss.length=ps.length∧ownsIn pin 0 ss=true
  ·exact z
  ·rw[if_neg z]at h; exact absurd rfl h
 exact fnok_of Fn Sc hn hb (fun ss h=>(no h).1) (fun ss h i po e=>by have:=ownsIn_get (no h).2 i po e; rwa[Nat.zero_add]at this) (fun ss h=>by unfold grd; rw[if_pos (no h)]) hbody
theorem calU_gen{P:Program}{w:World}{K:PySem.W.Frag}{mg:Str→Option Value}{base:Heap}{x:Str}{st:Stmt}{N ps:List Str}{k n:Nat}{d:PEnv→R Flw}{pin:List Nat}(D:Def K mg x st)(Sc:FnScope N ps (defScope st))(hn:N.length=ps.length+n)
  (hb:∀ (kV doc pm:Value) (an:Option Addr) (cdv ct:Value) (us:List Value),us.length=ps.length→bindArgs (PySem.W.fnOf x x (defArgs st) (defBody st) (defScope st) .none kV doc pm an cdv ct) ⟨us,[]⟩=pure (ps.zip us))
  (hbody:∀ (f:Addr) (cdv:Value) (A:Around) (outer:List Env) (s:Shared) (H:Hp),RoomU k (A.deeper (envOfC x (defScope st) s.heap.objs.size f cdv))→DSs (cxU P w K mg base N x (defScope st) f cdv A outer s H) E0 pin (defBody st) d) :
  CalU P w K mg base x (k+1) ps (spG K (grd ps.length pin (fnD n d))):=by
 have no:∀ {ss},grd ps.length pin (fnD n d) ss≠.no→ss.length=ps.length∧ownsIn pin 0 ss=true:=fun {ss} h=>by
  unfold grd at h
  by_cases z:ss.length=ps.length∧ownsIn pin 0 ss=true
  ·exact z
  ·rw[if_neg z]at h; exact absurd rfl h
 exact calU_of D Sc hn hb (fun ss h=>(no h).1) (fun ss h i po e=>by have:=ownsIn_get (no h).2 i po e; rwa[Nat.zero_add]at this) (fun ss h=>by unfold grd; rw[if_pos (no h)]) hbody
theorem arg1{P:List Value→Prop}(h:∀ a,P [a])(us:List Value)(hl:us.length=1):P us:=by
 cases us with
 | nil=>cases hl
 | cons a r=>cases r with
  | nil=>exact h a
  | cons b r=>cases hl
theorem arg2{P:List Value→Prop}(h:∀ a b,P [a,b])(us:List Value)(hl:us.length=2):P us:=by
 cases us with
 | nil=>cases hl
 | cons a r=>exact arg1 (P:=fun r=>P (a::r)) (h a) r (Nat.succ.inj hl)
theorem arg3{P:List Value→Prop}(h:∀ a b c,P [a,b,c])(us:List Value)(hl:us.length=3):P us:=by
 cases us with
 | nil=>cases hl
 | cons a r=>exact arg2 (P:=fun r=>P (a::r)) (h a) r (Nat.succ.inj hl)
theorem arg4{P:List Value→Prop}(h:∀ a b c d,P [a,b,c,d])(us:List Value)(hl:us.length=4):P us:=by
 cases us with
 | nil=>cases hl
 | cons a r=>exact arg3 (P:=fun r=>P (a::r)) (h a) r (Nat.succ.inj hl)
theorem argB1{fd:FuncData}{ps:List Str}(h:∀ a,bindArgs fd ⟨[a],[]⟩=pure (ps.zip [a]))(us:List Value)(hl:us.length=1):bindArgs fd ⟨us,[]⟩=pure (ps.zip us):=arg1 (P:=fun us=>bindArgs fd ⟨us,[]⟩=pure (ps.zip us)) h us hl
theorem argB2{fd:FuncData}{ps:List Str}(h:∀ a b,bindArgs fd ⟨[a,b],[]⟩=pure (ps.zip [a,b]))(us:List Value)(hl:us.length=2):bindArgs fd ⟨us,[]⟩=pure (ps.zip us):=arg2 (P:=fun us=>bindArgs fd ⟨us,[]⟩=pure (ps.zip us)) h us hl
theorem argB3{fd:FuncData}{ps:List Str}(h:∀ a b c,bindArgs fd ⟨[a,b,c],[]⟩=pure (ps.zip [a,b,c]))(us:List Value)(hl:us.length=3):bindArgs fd ⟨us,[]⟩=pure (ps.zip us):=arg3 (P:=fun us=>bindArgs fd ⟨us,[]⟩=pure (ps.zip us)) h us hl
theorem argB4{fd:FuncData}{ps:List Str}(h:∀ a b c d,bindArgs fd ⟨[a,b,c,d],[]⟩=pure (ps.zip [a,b,c,d]))(us:List Value)(hl:us.length=4):bindArgs fd ⟨us,[]⟩=pure (ps.zip us):=arg4 (P:=fun us=>bindArgs fd ⟨us,[]⟩=pure (ps.zip us)) h us hl
theorem passE0{P:Program}{w:World}{X:Cx}:Passes (CXE P w) X E0:=fun _ _ _ _ _ _ _ h=>by
 obtain⟨a,T,c,H',_,_,_,_,_,_,_,z⟩:=h
 exact z.elim
theorem bt_len:bootBuiltins "len" = some (.builtin "len"):=by decide +kernel
theorem bt_all:bootBuiltins "all" = some (.builtin "all"):=by decide +kernel
theorem bt_any:bootBuiltins "any" = some (.builtin "any"):=by decide +kernel
theorem bt_sorted:bootBuiltins "sorted" = some (.builtin "sorted"):=by decide +kernel
theorem bt_isinstance:bootBuiltins "isinstance" = some (.builtin "isinstance"):=by decide +kernel
theorem bt_int:bootBuiltins "int" = some (.type "int"):=by decide +kernel
theorem bt_bool:bootBuiltins "bool" = some (.type "bool"):=by decide +kernel
theorem bt_str:bootBuiltins "str" = some (.type "str"):=by decide +kernel
theorem bt_list:bootBuiltins "list" = some (.type "list"):=by decide +kernel
theorem bt_tuple:bootBuiltins "tuple" = some (.type "tuple"):=by decide +kernel
theorem bt_set:bootBuiltins "set" = some (.type "set"):=by decide +kernel
theorem bt_ValueError:bootBuiltins "ValueError" = some (.type "ValueError"):=by decide +kernel
end Pu
namespace Pu
open PySem PySem.Spec PyProof.Rows L2
def isStar:Expr→Bool
 | .Starred _ _=>true
 | _=>false
theorem star_ne{e:Expr}{es:List Expr}{env:Env}(h:isStar e=false):starEach (e::es) env=(false,eval e env)::starEach es env:=by
 cases e <;> first | rfl | cases h
section
variable{X:Cx}{E:XK}{e:Expr}{es:List Expr}{d:PEnv→R PV}{ds:PEnv→R (List PV)}{dg:PEnv→R (List ASlot)}
theorem da_c(ha:DE X E e d)(hr:DA X E es ds)(h:isStar e=false:=by rfl):DA X E (e::es) (dCons d ds):=da_cons ha hr (star_ne h)
theorem dg_w(ha:DE X E e d)(hr:DG X E es dg)(h:isStar e=false:=by rfl):DG X E (e::es) (gV d dg):=dg_v ha hr (star_ne h)
end
end Pu
namespace Pu
open PySem PySem.Spec PyProof.Rows L2
def veB:List Value:=[.type "ValueError",.type "Exception",.type "BaseException",.type "object"]
theorem exc_at{K:PySem.W.Frag}{h:Heap}{C:Addr}{B:List Value}{nw:String}(X:K.In h)(q:PySem.W.excIn K C B nw=true) :
  ∃ bm N nm qn bs hd sn sub ab col dd k0 k1 k2 k3 k5 mN,h.get? C=some (excClassObj nm qn C N bs bm hd sn sub ab col dd k0 k1 k2 k3 k5 nw)∧h.Ns N mN∧mN "__init__" = none∧OwnTail h B bm:=by
 unfold PySem.W.excIn at q
 split at q
 case h_2=>cases q
 case h_1 d0 cdata slots look =>
  split at q
  case h_2=>cases q
  case h_1 C2 tl s0 s1 s2 s3 nn s5 em es =>
   rw[Bool.and_eq_true,Bool.and_eq_true,Bool.and_eq_true,Bool.and_eq_true,Bool.and_eq_true]at q
   obtain⟨⟨⟨⟨⟨q1,q2⟩,q3⟩,q4⟩,q5⟩,q6⟩:=q
   have r1:=beq_iff_eq.mp q1
   have r2:=beq_iff_eq.mp q2
   have r6:=beq_iff_eq.mp q6
   subst r1 r2
   cases cdata
   dsimp only at em q3 q5 r6
   subst em
   have r3:=Bool.not_eq_true' _ |>.mp q3
   subst r3
   have r7:slots = #[s0,s1,s2,s3,some (.builtin nn),s5]:=by cases slots; exact congrArg Array.mk es
   subst r7
   exact⟨tl,_,_,_,_,_,_,_,_,_,d0,s0,s1,s2,s3,s5,_,X _ _ look,Heap.Ns.of_isNs (PySem.W.isNs_of_in X q5),PySem.W.nsMap_none_of_in X q5 r6,PySem.W.tail_of_in X q4⟩
theorem own_at_in{K:PySem.W.Frag}{h:Heap}{mg:Str→Option Value}{x:Str}{C:Addr}{B:List Value}{nw:String}(X:K.In h)(e:mg x=some (.ref C))(q:PySem.W.excIn K C B nw=true):OwnCls x C B nw mg h:=⟨e,exc_at X q⟩
theorem err_at_in{K:PySem.W.Frag}{h:Heap}{C:Addr}{nw:String}(X:K.In h)(q:PySem.W.excIn K C veB nw=true):ErrC h C:=by
 obtain⟨bm,N,nm,qn,bs,hd,sn,sub,ab,col,dd,k0,k1,k2,k3,k5,mN,e,_,_,t⟩:=exc_at X q
 exact⟨bm,N,nm,qn,bs,hd,sn,sub,ab,col,dd,k0,k1,k2,k3,k5,nw,e,t.hasType rfl⟩
def subB(K:PySem.W.Frag)(D C:Addr):Bool:=match K.lookup C with
 | some ⟨_,_,.cls cd,_⟩=>cd.mro.contains (.ref D)
 | _=>false
theorem und_at_in{K:PySem.W.Frag}{h:Heap}{C D:Addr}{B:List Value}{nw:String}(X:K.In h)(q:PySem.W.excIn K C B nw=true)(s:subB K D C=true):Under h D (.ref C):=by
 obtain⟨bm,N,nm,qn,bs,hd,sn,sub,ab,col,dd,k0,k1,k2,k3,k5,mN,e,_⟩:=exc_at X q
 refine⟨C,bm,N,nm,qn,bs,hd,sn,sub,ab,col,dd,k0,k1,k2,k3,k5,nw,rfl,e,?_⟩
 unfold subB at s
 split at s
 ·rename_i o1 o2 cd o3 look
  have e2:=X _ _ look
  rw[e]at e2
  unfold excClassObj at e2
  cases e2
  exact s
 ·cases s
def excKB(K:PySem.W.Frag)(C:Addr):Bool :=
 PySem.W.findIn K (.ref C) "__getattribute__" == some (some (.builtin "BaseException.__getattribute__")) && PySem.W.findIn K (.ref C) "__getattr__" == some none && PySem.W.findIn K (.ref C) "__class__" == some (some (.builtin "object.__class__")) &&
 PySem.W.specialIn K (.builtin "object.__class__") "__get__" == some (some (.builtin "getset_descriptor.__get__")) && PySem.W.takesIn K (.builtin "object.__class__") == some true && PySem.W.mroIn K C (.type "object") == some true && PySem.W.mroIn K C (.type "BaseException") == some true && (PySem.W.clsIn K C).isSome
theorem excK_of{K:PySem.W.Frag}{C:Addr}(h:excKB K C=true):ExcK K C:=by
 simp only[excKB,Bool.and_eq_true,beq_iff_eq]at h
 obtain⟨⟨⟨⟨⟨⟨⟨h1,h2⟩,h3⟩,h4⟩,h5⟩,h6⟩,h7⟩,h8⟩:=h
 exact⟨h1,h2,h3,h4,h5,h6,h7,h8⟩
def noList(K:PySem.W.Frag):Bool:=K.all fun p=>match p.2.cls with
 | .type t=>t != "list"
 | _=>true
theorem lookup_mem{a:Addr}{o:Obj}:∀ {K:PySem.W.Frag},K.lookup a=some o→(a,o)∈K
 | [],e=>by cases e
 | (b,u)::K,e=>by
  rw[List.lookup_cons]at e
  cases q:a == b with
  | true=>rw[q]at e; cases e; rw[beq_iff_eq.mp q]; exact List.mem_cons_self ..
  | false=>rw[q]at e; exact List.mem_cons_of_mem _ (lookup_mem e)
theorem ints_rep{K:PySem.W.Frag}{H:Hp}{F:Addr→Prop}:∀ ns:List Int,Reps K H F (ns.map .int) (ns.map V.int)
 | []=>rfl
 | x::ns=>⟨.int x,ns.map V.int,rfl,rfl,ints_rep ns⟩
theorem noList_rd{K:PySem.W.Frag}{H:Hp}{a:Addr}{xs:List V}(h:noList K=true)(s:SqL K H a xs):Rd H a (.lst xs):=by
 rcases s with s | ⟨o,its,n,lk,hc,_⟩
 ·exact s
 ·have:=List.all_eq_true.mp h _ (lookup_mem lk)
  rw[hc]at this
  simp at this
theorem spG_script{K:PySem.W.Frag}{g:PEnv→R Slot}{H:Hp}{a:Addr}{ns:List Int}{E:XK}(hr:Rd H a (.lst (ns.map V.int)))(h:g [.val (.lst (ns.map .int))] = .ok (.val (.bl true)) [.val (.lst (ns.map .int))]):spG K g [.ref a] H (fun v _=>v = .bl true) E:=by
 refine⟨fun b=>b=a,fun _ _=>False,[.val (.lst (ns.map .int))],⟨rfl,fun b e=>?_,fun i pv e=>?_,fun i po e=>?_,fun i b z=>z.elim,fun i j b z=>z.elim⟩,?_⟩
 ·subst e
  rcases hr with hr | ⟨o,hr⟩ <;> exact⟨_,hr⟩
 ·cases i with
  | zero=>cases e; exact⟨_,rfl,a,_,rfl,hr,rfl,ints_rep ns⟩
  | succ i=>simp at e
 ·cases i with
  | zero=>cases e
  | succ i=>simp at e
 ·rw[h]
  exact fun v F' S' H' Sr _ _ rv _ _=>rv.1
theorem vi_mk{K:PySem.W.Frag}{x:Str}{i:Int}{t:Tok}(e:PySem.W.nsIn K mainGlobals x=some (some (.int i t))):∃ t,PySem.W.nsIn K mainGlobals x=some (some (.int i t)):=⟨t,e⟩
theorem vs_mk{K:PySem.W.Frag}{x:Str}{l:Tx}{t:Tok}(e:PySem.W.nsIn K mainGlobals x=some (some (.str (tS l) t))):∃ t,PySem.W.nsIn K mainGlobals x=some (some (.str (tS l) t)):=⟨t,e⟩
def Def0(K:PySem.W.Frag)(x:Str)(st:Stmt):Prop:=∃ f oc od kV dc pm an cd ct sl,PySem.W.nsIn K mainGlobals x=some (some (.ref f))∧K.lookup f=some ⟨oc,od,.func (PySem.W.fnOf x x (defArgs st) (defBody st) (defScope st) .none kV dc pm an cd ct),sl⟩∧PySem.W.codeIn K cd x=true∧PySem.W.keepIn K (.ref f)=true
theorem def0_mk{K:PySem.W.Frag}{x:Str}{st:Stmt}{f:Addr}{oc kV dc pm cd ct:Value}{od an:Option Addr}{sl:Array (Option Value)}(a:PySem.W.nsIn K mainGlobals x=some (some (.ref f)))(l:K.lookup f=some ⟨oc,od,.func (PySem.W.fnOf x x (defArgs st) (defBody st) (defScope st) .none kV dc pm an cd ct),sl⟩)
  (c:PySem.W.codeIn K cd x=true) (k:PySem.W.keepIn K (.ref f)=true):Def0 K x st:=⟨f,oc,od,kV,dc,pm,an,cd,ct,sl,a,l,c,k⟩
theorem Def0.at{K:PySem.W.Frag}{h:Heap}{mg:Str→Option Value}{x:Str}{st:Stmt}(d:Def0 K x st)(X:K.In h)(G:h.Ns mainGlobals mg):Def K mg x st:=by
 obtain⟨f,oc,od,kV,dc,pm,an,cd,ct,sl,a,l,c,k⟩:=d
 exact⟨f,_,PySem.W.mg_of X G a,fun_mk l c k⟩
end Pu
namespace Pu
open PySem PySem.Spec PyProof.Rows L2
def valP(kvs:List (Key×PV))(k:Key):Option PV:=(kvs.find? fun kv=>decide (kv.1=k)).map (·.2)
def putP(kvs:List (Key×PV))(k:Key)(v:PV):List (Key×PV):=if(kvs.any fun kv=>decide (kv.1=k))=true then kvs.map (fun kv=>if kv.1=k then(kv.1,v)else kv)else kvs++[(k,v)]
def keyP:PV→Option Key
 | .int i=>some (.inl i)
 | .str x=>some (.inr (tS x))
 | _=>none
section
variable{K:PySem.W.Frag}{F:Addr→Prop}{S:Nat→Addr→Prop}{ε:PEnv}{σ:St}{H:Hp}{i:Nat}{kvs:List (Key×PV)}{ws:List (Key×V)}{a:Addr}
theorem keyP_rep{x:PV}{v:V}{k:Key}(r:Rep K H F x v)(e:keyP x=some k):v=kV k:=by
 cases x <;> simp[keyP]at e
 ·subst e; exact r
 ·subst e; exact r.1
theorem KReps.len(h:KReps K H F kvs ws):ws.length=kvs.length:=by
 unfold KReps at h
 induction h with
 | nil=>rfl
 | cons _ _ ih=>simp[ih]
theorem KReps.val(h:KReps K H F kvs ws)(k:Key):(∃ x v,valP kvs k=some x∧valV ws k=some v∧Rep K H F x v)∨(valP kvs k=none∧valV ws k=none):=by
 unfold KReps at h
 induction h with
 | nil=>exact .inr ⟨rfl,rfl⟩
 | @cons p q ps qs r _ ih =>
  by_cases e:p.1=k
  ·refine .inl ⟨p.2,q.2,by simp[valP,List.find?_cons,e],?_,r.2⟩
   rw[valV_pos (by rw[← r.1]; exact e)]
  ·have e2:¬ q.1=k:=by rw[← r.1]; exact e
   rw[valV_neg e2]
   have:valP (p::ps) k=valP ps k:=by simp[valP,List.find?_cons,e]
   rw[this]; exact ih
theorem KReps.any(h:KReps K H F kvs ws)(k:Key):(kvs.any fun kv=>decide (kv.1=k))=ws.any fun kv=>decide (kv.1=k):=by
 unfold KReps at h
 induction h with
 | nil=>rfl
 | cons r _ ih=>rw[List.any_cons,List.any_cons,ih,r.1]
theorem KReps.put(h:KReps K H F kvs ws)(k:Key){x:PV}{v:V}(r:Rep K H F x v):KReps K H F (putP kvs k x) (putK ws k v):=by
 unfold putP putK
 rw[h.any k]
 split
 ·rename_i hA
  clear hA
  unfold KReps at h ⊢
  induction h with
  | nil=>exact .nil
  | @cons p q ps qs r1 _ ih =>
   refine .cons ?_ ih
   dsimp only
   by_cases e:p.1=k
   ·rw[if_pos e,if_pos (by rw[← r1.1]; exact e)]; exact⟨r1.1,r⟩
   ·rw[if_neg e,if_neg (by rw[← r1.1]; exact e)]; exact r1
 ·exact Paired.snoc h ⟨rfl,r⟩
theorem Rel.dkAt(r:Rel K F S ε σ H)(e:ε[i]?=some (.own (.dK kvs))):∃ a ws,σ[i]?=some (some (.ref a))∧H a=some (.dK ws)∧KReps K H F kvs ws∧S i a∧∀ b,S i b→b=a:=by
 obtain⟨a,e1,⟨vs,h1,h2⟩,h3⟩:=r.own i _ e
 exact⟨a,vs,e1,h1,h2,(h3 a).mpr rfl,fun b h=>(h3 b).mp h⟩
theorem Rel.updO{po po':PO}{o':HO}(r:Rel K F S ε σ H)(e:ε[i]?=some (.own po))(hf:flatO po=true)(ea:σ[i]?=some (some (.ref a)))(hn:notImm o')
  (h:∀ H',(∀ x v,Rep K H F x v→Rep K H' F x v)→(∀ x v,Reps K H F x v→Reps K H' F x v)→H' a=some o'→∀ Sa:Addr→Prop,(∀ b,Sa b↔b=a)→Own K H' F po' a Sa) :
  Rel K F S (ε.set i (.own po')) σ (L2.upd H a o')∧Grow (U S) (U S) F F H (L2.upd H a o'):=by
 obtain⟨a',e1,ow⟩:=r.own i po e
 rw[ea]at e1
 cases e1
 have h34:=own_at ow hf
 have h3:S i a:=(h34 a).mpr rfl
 have h4:∀ b,S i b→b=a:=fun b z=>(h34 b).mp z
 have hi:i<ε.length:=(List.getElem?_eq_some_iff.mp e).1
 have g:Grow (U S) (U S) F F H (L2.upd H a o'):=⟨fun _ z=>z,fun b o q n=>by rw[upd_ne (by rintro rfl; exact n ⟨i,h3⟩)]; exact q,fun b o q=>by
  by_cases hb:b=a
  ·subst hb; exact⟨_,upd_same⟩
  ·exact⟨o,by rw[upd_ne hb]; exact q⟩,fun _ z=>.inl z,fun _ z=>.inl z⟩
 refine⟨⟨by rw[List.length_set]; exact r.len,fun b z=>let ⟨o,q⟩:=r.ex b z; g.there b o q,fun j pv q=>?_,fun j po q=>?_,fun j b z=>?_,r.dist⟩,g⟩
 ·have hj:i≠j:=by rintro rfl; rw[List.getElem?_set_self hi]at q; cases q
  rw[List.getElem?_set_ne hj]at q
  obtain⟨v,q1,q2⟩:=r.val j pv q
  exact⟨v,q1,q2.grow g r.fit⟩
 ·by_cases hj:i=j
  ·subst hj
   rw[List.getElem?_set_self hi]at q
   cases q
   exact⟨a,ea,h _ (fun _ _ z=>z.grow g r.fit) (fun _ _ z=>z.grow g r.fit) upd_same _ h34⟩
  ·rw[List.getElem?_set_ne hj]at q
   obtain⟨c,q1,q2⟩:=r.own j po q
   refine⟨c,q1,q2.mono (fun _ _ z=>z.grow g r.fit) (fun _ _ z=>z.grow g r.fit) fun b o z w=>?_⟩
   rw[upd_ne (by rintro rfl; exact hj (r.dist i j b h3 z))]; exact w
 ·obtain⟨⟨po,q1⟩,q2,o,q3,q4⟩:=r.foot j b z
  by_cases hj:i=j
  ·subst hj
   rw[h4 b z]
   exact⟨⟨_,List.getElem?_set_self hi⟩,by rw[← h4 b z]; exact q2,_,upd_same,hn⟩
  ·exact⟨⟨po,by rw[List.getElem?_set_ne hj]; exact q1⟩,q2,o,by rw[upd_ne (by rintro rfl; exact hj (r.dist i j b h3 z))]; exact q3,q4⟩
end
def ownD(ε:PEnv)(i:Nat):Option (List (Key×PV)):=match ε[i]? with
 | some (.own (.dK kvs))=>some kvs
 | _=>none
theorem ownD_eq{ε:PEnv}{i:Nat}{kvs:List (Key×PV)}(h:ownD ε i=some kvs):ε[i]?=some (.own (.dK kvs)):=by
 unfold ownD at h
 split at h
 ·cases h; assumption
 ·cases h
section
variable{X:Cx}{E:XK}{pin:List Nat}{e b c:Expr}{de db dc:PEnv→R PV}{pos:Pos}
def dDNew:PEnv→R PO:=fun ε=>.ok (.dK []) ε
theorem dn_dnew:DN X E (.Dict [] [] pos) dDNew:=fun F S ε σ H Q rl h=>wp_e pe_dnewK fun p hp=>by
 have al:Al F F H (upd H p (.dK [])):=Al.new0 hp
 refine h F S _ (rl.al al) al.grow p (fun b=>b=p) ⟨⟨[],upd_same,.nil⟩,fun b=>Iff.rfl⟩ fun b z=>?_
 subst z
 refine⟨hp,fun z=>?_,fun⟨j,z⟩=>?_,_,upd_same,trivial⟩
 ·obtain⟨o,q⟩:=rl.ex b z; rw[hp]at q; cases q
 ·obtain⟨_,_,o,q,_⟩:=rl.foot j b z; rw[hp]at q; cases q
def dDGet(i:Nat)(db:PEnv→R PV):PEnv→R PV:=fun ε=>(lift (ownD ε i) ε).bind fun _ ε=>(db ε).bind fun k ε1=>(lift (ownD ε1 i) ε1).bind fun kvs ε1=>lift ((keyP k).bind fun k=>valP kvs k) ε1
theorem de_dget(i:Nat){y:Str}{yp:Pos}(hu:X.A.units+64<cLine)(hb:DE X E b db)(hN:X.N[i]?=some y:=by rfl)(hvs:Vis X.env.scope y:=by first | exact Or.inl rfl | exact Or.inr (Or.inl rfl) | exact Or.inr (Or.inr rfl))
  (hd:(y == ("__debug__" : Str))=false:=by decide) (hcd:(y == ("__classdict__" : Str))=false:=by decide) (hs:NoSl b:=by exact fun _ _=>rfl):DE X E (.Subscript (.Name y yp) b pos) (dDGet i db):=fun F S ε σ H Q rl h=>by
 unfold dDGet at h
 cases e0:ownD ε i with
 | none=>rw[e0]at h; exact h.elim
 | some kvs0 =>
  rw[e0]at h
  simp only[lift_some,R.bind_ok]at h
  obtain⟨a,ws0,ea,_⟩:=rl.dkAt (ownD_eq e0)
  refine wp_e (pe_dget (by ac_rfl) (pe_var hN hvs hd hcd) pe_wp hs) ⟨.ref a,ea,hb F S ε σ H _ rl ((Ok.bind h).imp fun k ε1 F1 S1 H1 r1 g1 q u ru=>?_)⟩
  cases e1:ownD ε1 i with
  | none=>rw[e1]at q; exact q.elim
  | some kvs =>
   rw[e1]at q
   simp only[lift_some,R.bind_ok]at q
   obtain⟨a',ws,ea',ha,hk,_⟩:=r1.dkAt (ownD_eq e1)
   rw[ea]at ea'
   cases ea'
   cases e2:keyP k with
   | none=>rw[e2]at q; exact q.elim
   | some ky =>
    rw[e2,Option.bind_some]at q
    rw[keyP_rep ru e2]
    rcases hk.val ky with⟨x,v,h1,h2,h3⟩ | ⟨h1,h2⟩
    ·rw[h1]at q
     exact⟨a,v,rfl,by rw[← h2]; exact DGet.k ha,q F1 S1 H1 r1 (Grow.refl ..) v h3⟩
    ·rw[h1]at q; exact q.elim
def dDGet2(i:Nat)(db dc:PEnv→R PV):PEnv→R PV:=fun ε=>(lift (ownD ε i) ε).bind fun _ ε=>(db ε).bind fun k ε1=>(dc ε1).bind fun z ε2=>(lift (ownD ε2 i) ε2).bind fun kvs ε2=>lift ((keyP k).map fun k=>(valP kvs k).getD z) ε2
theorem de_dget2(i:Nat){y:Str}{yp apos:Pos}(hu:X.A.units+64<cLine)(hb:DE X E b db)(hc:DE X E c dc)(hN:X.N[i]?=some y:=by rfl)(hvs:Vis X.env.scope y:=by first | exact Or.inl rfl | exact Or.inr (Or.inl rfl) | exact Or.inr (Or.inr rfl))
  (hd:(y == ("__debug__" : Str))=false:=by decide) (hcd:(y == ("__classdict__" : Str))=false:=by decide)
  (h1:attributeBase (.Name y yp) "get" X.env (eval (.Name y yp) X.env)=eval (.Name y yp) X.env:=by rfl) (h3:(apos.endLine == pos.line)=true:=by rfl) (s1:isStar b=false:=by rfl) (s2:isStar c=false:=by rfl) :
  DE X E (.Call (.Attribute (.Name y yp) "get" apos) [b,c] [] pos) (dDGet2 i db dc):=fun F S ε σ H Q rl h=>by
 have st:starEach [b,c] X.env=[(false,eval b X.env),(false,eval c X.env)]:=by rw[star_ne s1,star_ne s2]; rfl
 have m:M2 X (.Name y yp) "get" apos b c pos:=⟨h1,by rw[st]; rfl,h3,by rw[st]; rfl⟩
 unfold dDGet2 at h
 cases e0:ownD ε i with
 | none=>rw[e0]at h; exact h.elim
 | some kvs0 =>
  rw[e0]at h
  simp only[lift_some,R.bind_ok]at h
  obtain⟨a,ws0,ea,ha0,_⟩:=rl.dkAt (ownD_eq e0)
  refine wp_e (pe_dget2 (by ac_rfl) (pe_var hN hvs hd hcd) pe_wp pe_wp m) ⟨.ref a,ea,a,rfl,.inl ⟨_,.inl ha0⟩,hb F S ε σ H _ rl ((Ok.bind h).imp fun k ε1 F1 S1 H1 r1 g1 q u ru=>?_)⟩
  refine hc F1 S1 ε1 σ H1 _ r1 ((Ok.bind q).imp fun z ε2 F2 S2 H2 r2 g2 q w rw'=>?_)
  cases e1:ownD ε2 i with
  | none=>rw[e1]at q; exact q.elim
  | some kvs =>
   rw[e1]at q
   simp only[lift_some,R.bind_ok]at q
   obtain⟨a',ws,ea',ha,hk,_⟩:=r2.dkAt (ownD_eq e1)
   rw[ea]at ea'
   cases ea'
   cases e2:keyP k with
   | none=>rw[e2]at q; exact q.elim
   | some ky =>
    rw[e2,Option.map_some]at q
    rw[keyP_rep ru e2]
    rcases hk.val ky with⟨x,v,h1,h2,h3⟩ | ⟨h1,h2⟩
    ·rw[h1]at q
     exact⟨some v,by rw[← h2]; exact DGet.k ha,q F2 S2 H2 r2 (Grow.refl ..) v h3⟩
    ·rw[h1]at q
     exact⟨none,by rw[← h2]; exact DGet.k ha,q F2 S2 H2 r2 (Grow.refl ..) w rw'⟩
def dDPut(i:Nat)(db de:PEnv→R PV):PEnv→R Flw:=fun ε=>(de ε).bind fun y ε1=>(lift (ownD ε1 i) ε1).bind fun _ ε1=>(db ε1).bind fun k ε2=>(lift (ownD ε2 i) ε2).bind fun kvs ε2=>(lift (keyP k) ε2).bind fun k ε2 =>
 if kvs.length<maxS then .ok .next (ε2.set i (.own (.dK (putP kvs k y))))else .no
theorem ds_dput(i:Nat){y:Str}{yp tpos:Pos}(hu:X.A.units+64<cLine)(hb:DE X E b db)(he:DE X E e de)(hN:X.N[i]?=some y:=by rfl)(hvs:Vis X.env.scope y:=by first | exact Or.inl rfl | exact Or.inr (Or.inl rfl) | exact Or.inr (Or.inr rfl))
  (hd:(y == ("__debug__" : Str))=false:=by decide) (hcd:(y == ("__classdict__" : Str))=false:=by decide) (hs:swapsWith e (some (.Subscript (.Name y yp) b tpos)) pos.line X.env=pure false:=by rfl) :
  DS X E pin (.Assign [.Subscript (.Name y yp) b tpos] e pos) (dDPut i db de):=fun F S ε σ H D rl h=>by
 refine wp_s (ps_dput (by ac_rfl) (pe_var hN hvs hd hcd) pe_wp pe_wp hs) (he F S ε σ H _ rl (h.bindE.imp fun y ε1 F1 S1 H1 r1 g1 q v rv=>?_))
 cases e0:ownD ε1 i with
 | none=>rw[e0]at q; exact q.elim
 | some kvs0 =>
  rw[e0]at q
  simp only[lift_some,R.bind_ok]at q
  obtain⟨a,ws0,ea,ha0,_⟩:=r1.dkAt (ownD_eq e0)
  refine⟨.ref a,ea,hb F1 S1 ε1 σ H1 _ r1 (q.bindE.imp fun k ε2 F2 S2 H2 r2 g2 q2 u ru=>?_)⟩
  cases e1:ownD ε2 i with
  | none=>rw[e1]at q2; exact q2.elim
  | some kvs =>
   rw[e1]at q2
   simp only[lift_some,R.bind_ok]at q2
   obtain⟨a',ws,ea',ha,hk,_⟩:=r2.dkAt (ownD_eq e1)
   rw[ea]at ea'
   cases ea'
   cases e2:keyP k with
   | none=>rw[e2]at q2; exact q2.elim
   | some ky =>
    rw[e2]at q2
    simp only[lift_some,R.bind_ok]at q2
    split at q2
    ·rename_i hl
     rw[keyP_rep ru e2]
     have hk2:=hk.put ky (rv.grow g2 r1.fit)
     obtain⟨r3,g3⟩:=r2.updO (po':=.dK (putP kvs ky y)) (o':=.dK (putK ws ky v)) (ownD_eq e1) rfl ea trivial fun H' m1 m2 hH' Sa hSa=>⟨⟨_,hH',hk2.mono m1⟩,hSa⟩
     exact⟨a,_,rfl,DPut.k ha (by rw[hk.len]; exact Nat.lt_of_lt_of_le hl maxS_le),q2 F2 S2 σ _ r3 g3 (PinOk.refl _ _)⟩
    ·exact q2.elim
end
section
variable{X:Cx}
def viewO(a d:Addr):HO:=.ext fun h=>h.IsValuesView a d
theorem mt_values:MtR X "dict.values" (fun x xs H Q=>∃ d kvs,x = .ref d∧xs=[]∧H d=some (.dK kvs)∧∀ a,H a=none→Q (.ref a) (upd H a (viewO a d))):=by
 intro pins s σ H x xs v us Q I rx rs h
 obtain⟨d,kvs,rfl,rfl,hd,q⟩:=h
 cases rx
 cases rs.zero
 obtain⟨z,hs,vs,rel,dd⟩:=dk_of I.hok hd
 refine call_meetsIn PySem.F.slot_dict_values dd.typeIs PySem.F.entry_dict_values (PySem.F.args_dict_values_1 _) (meets_dict_values (mixKind X.prog X.w) d hs) ⟨⟨vs,dd⟩,?_⟩
 refine⟨.ref s.heap.objs.size,_,I.laid (a:=s.heap.objs.size) (o:=viewO s.heap.objs.size d) (t':=s.toks) (fun _ _ q=>Heap.get?_push_of_some _ q) (Nat.le_refl _) ?_,rfl,q _ I.fresh⟩
 exact⟨⟨_,Heap.get?_push_size _ rfl,rfl,rfl⟩,⟨_,Heap.get?_push_size _ rfl⟩,fun h1 h2 ⟨o,q1,q2⟩ k=>⟨o,k o q1,q2⟩⟩
theorem KV.at{kvs:List (Key×V)}{vs:List (Key×Value)}(r:KV kvs vs){i:Nat}{k:Key}{u:Value}(h:vs[i]?=some (k,u)):∃ v,kvs[i]?=some (k,v)∧RelV v u:=by
 unfold KV at r
 induction r generalizing i with
 | nil=>simp at h
 | @cons p q ps qs r1 _ ih =>
  cases i with
  | zero =>
   simp at h
   subst h
   exact⟨p.2,by simp[show k=p.1 from r1.1.symm],r1.2⟩
  | succ i=>exact ih (by simpa using h)
def anyI(kvs:List (Key×V)):Option Bool:=match kvs with
 | []=>some false
 | (_,.int i)::r=>(anyI r).map fun b=>(decide (i≠0)) || b
 | _=>none
theorem anyI_at:∀ {kvs:List (Key×V)} {b:Bool},anyI kvs=some b→(∀ (i:Nat) k v,kvs[i]?=some (k,v)→∃ n,v = .int n)∧b=(List.range kvs.length).any fun i=>match kvs[i]? with | some (_,.int n)=>decide (n≠0) | _=>false
 | [],b,h=>by simp[anyI]at h; subst h; exact⟨by simp,rfl⟩
 | (k,.int n)::r,b,h=>by
  simp only[anyI,Option.map_eq_some_iff]at h
  obtain⟨b',h1,h2⟩:=h
  obtain⟨i1,i2⟩:=anyI_at h1
  refine⟨fun i k' v e=>?_,?_⟩
  ·cases i with
   | zero=>simp at e; exact⟨n,e.2.symm⟩
   | succ i=>exact i1 i k' v (by simpa using e)
  ·rw[List.length_cons,List.range_succ_eq_map,List.any_cons,List.any_map,← h2,i2]
   rfl
 | (_,.non)::_,_,h=>by simp[anyI]at h
 | (_,.bl _)::_,_,h=>by simp[anyI]at h
 | (_,.str _)::_,_,h=>by simp[anyI]at h
 | (_,.ref _)::_,_,h=>by simp[anyI]at h
 | (_,.ty _)::_,_,h=>by simp[anyI]at h
theorem call_anyV(hc:X.calm=true):CallR X (.builtin "any") (fun xs H Q=>∃ (p d:Addr) (kvs:List (Key×V)) (b:Bool),xs=[.ref p]∧H p=some (viewO p d)∧H d=some (.dK kvs)∧anyI kvs=some b∧Q (.bl b) H):=by
 intro pins s σ H xs us Q I r h
 obtain⟨p,d,kvs,b,rfl,hp,hd,ha,q⟩:=h
 obtain⟨u,rfl,ru⟩:=vals1 r
 cases ru
 obtain⟨hv,_,_⟩:=(show ObjOk X.prog X.w H s.heap p (viewO p d)from I.hok p _ hp)
 obtain⟨z,hs,vs,rel,dd⟩:=dk_of I.hok hd
 obtain⟨ep,hat⟩:=dd.dictAt
 obtain⟨i1,i2⟩:=anyI_at ha
 refine call_any_walk (wpAny_pyIter_values hv hat ?_)
 refine⟨s.heap.objs.size,_,_,_,_,_,fun i=>match kvs[i]? with | some (_,.int n)=>decide (n≠0) | _=>false,rfl,Walks.dictValues (in1_handled (I.ok.hd hc)) _ d (Nat.ne_of_lt hat.lt_size) vs ep,⟨⟨_,Heap.get?_push_size _ rfl,rfl,rfl⟩,hat.push _⟩,fun i v s' Q' E' hv hQ=>?_,fun h' tk k=>?_⟩
 ·obtain⟨ky,hx⟩:=hv
  obtain⟨w,e1,e2⟩:=KV.at rel hx
  obtain⟨n,rfl⟩:=i1 i ky w e1
  obtain⟨t,rfl⟩:=e2
  dsimp only at hQ
  rw[e1]at hQ
  exact PyProof.Rows.truthy_int (by rw[show(n != 0)=decide (n≠0) by by_cases z:n=0 <;> simp[z]]; exact hQ)
 ·have I1:Inv X pins σ H { s with heap:=s.heap.push { cls:=.type "dict_valueiterator",data:=.fields #[.ref d,.int 0 0,.int vs.length 0,.int ep 0] },toks:=s.toks }:=I.kept (t':=s.toks) fun b o e=>Heap.get?_push_of_some _ e
  have e5:(List.range vs.length).any (fun i=>match kvs[i]? with | some (_,.int n)=>decide (n≠0) | _=>false)=b:=by rw[← rel.length]; exact i2.symm
  rw[e5]
  exact⟨.bl _,H,Inv.turned (t':=tk) I1 (it:=s.heap.objs.size) (fun b o hb e=>k b o (by simpa using hb) e) I.fresh (Nat.ne_of_gt I.lt) (.inr I.sz) (fun x c e z=>by
   obtain⟨v,qq⟩:=I.cell x c e
   exact absurd qq.lt (by rw[z]; exact Nat.lt_irrefl _)) (fun pp hp z=>absurd (Heap.lt_size (I.pin pp hp).1) (by rw[z]; exact Nat.lt_irrefl _)),rfl,q⟩
end
end Pu
namespace Pu
open PySem PySem.Spec PyProof.Rows L2
section
variable{X:Cx}{E:XK}{pin:List Nat}{e b c:Expr}{de db dc:PEnv→R PV}{pos:Pos}
def anyP:List (Key×PV)→Option Bool
 | []=>some false
 | (_,.int i)::r=>(anyP r).map fun b=>(decide (i≠0)) || b
 | _=>none
theorem anyP_rep{K:PySem.W.Frag}{H:Hp}{F:Addr→Prop}{kvs:List (Key×PV)}{ws:List (Key×V)}{k:Bool}(h:KReps K H F kvs ws)(e:anyP kvs=some k):anyI ws=some k:=by
 unfold KReps at h
 induction h generalizing k with
 | nil=>exact e
 | @cons p q ps qs r _ ih =>
  obtain⟨pk,pv⟩:=p
  obtain⟨qk,qv⟩:=q
  cases pv <;> simp only[anyP,Option.map_eq_some_iff]at e <;> try cases e
  obtain⟨r1,r2⟩:=r
  obtain rfl:qv=V.int _:=r2
  rename_i h
  simp only[anyI,ih h.1,Option.map_some]
  rw[← h.2]
def dAnyV(i:Nat):PEnv→R PV:=fun ε=>(lift (ownD ε i) ε).bind fun kvs ε=>lift ((anyP kvs).map .bl) ε
theorem de_anyV(i:Nat){y:Str}{yp p apos cpos:Pos}(hc:X.calm=true)(hm:X.mg "any" = none)(hN:X.N[i]?=some y:=by rfl)(hvs:Vis X.env.scope y:=by first | exact Or.inl rfl | exact Or.inr (Or.inl rfl) | exact Or.inr (Or.inr rfl))
  (hd:(y == ("__debug__" : Str))=false:=by decide) (hcd:(y == ("__classdict__" : Str))=false:=by decide) (hg:Gl X "any":=by rfl)
  (hbase:attributeBase (.Name y yp) "values" X.env (eval (.Name y yp) X.env)=eval (.Name y yp) X.env:=by rfl) (hline:(apos.endLine == cpos.line)=true:=by rfl)
  (he:starEach [.Call (.Attribute (.Name y yp) "values" apos) [] [] cpos] X.env=(false,eval (.Call (.Attribute (.Name y yp) "values" apos) [] [] cpos) X.env)::starEach [] X.env:=by rfl) (hpl:(backTo pos (starEach [] X.env)).any (·.1)=false:=by rfl) :
  DE X E (.Call (.Name "any" p) [.Call (.Attribute (.Name y yp) "values" apos) [] [] cpos] [] pos) (dAnyV i):=fun F S ε σ H Q rl h=>by
 unfold dAnyV at h
 cases e0:ownD ε i with
 | none=>rw[e0]at h; exact h.elim
 | some kvs =>
  rw[e0]at h
  simp only[lift_some,R.bind_ok]at h
  obtain⟨a,ws,ea,ha,hk,ia,_⟩:=rl.dkAt (ownD_eq e0)
  cases e1:anyP kvs with
  | none=>rw[e1]at h; exact h.elim
  | some k =>
   rw[e1,Option.map_some]at h
   refine wp_e (pe_callB (call_anyV hc) hg hm bt_any (pa_cons (pe_bm0 PySem.F.plainAttrs_dict PySem.F.slot_dict_values PySem.F.type_dict_values mt_values (pe_var hN hvs hd hcd) hbase hline) pa_nil he) (by decide) (by decide) he hpl) ⟨.ref a,ea,.inr (.inr (.inl ⟨rfl,.inl ⟨_,ha⟩⟩)),a,ws,rfl,rfl,ha,fun q hq=>?_⟩
   have al:Al F F H (L2.upd H q (viewO q a)):=Al.new0 hq
   have hne:a≠q:=by rintro rfl; rw[ha]at hq; cases hq
   exact⟨q,a,ws,k,rfl,upd_same,by rw[upd_ne hne]; exact ha,anyP_rep hk e1,h F S _ (rl.al al) al.grow _ rfl⟩
def DGn(X:Cx)(E:XK)(es:List Expr)(d:PEnv→R (PO×List ASlot)):Prop :=
 ∀ F S ε σ H Q,Rel X.K F S ε σ H→Ok X.K E σ F S H (d ε) (fun p _ F' S' H'=>∀ a Sa vs,Own X.K H' F' p.1 a Sa→(∀ b,Sa b→H b=none∧¬ F' b∧¬ U S' b∧∃ o,H' b=some o∧notImm o)→ArgsOk X.K (σ++[some (.ref a)]) F' H' p.2 vs→Q vs H')→wpA X es σ H Q
theorem ArgsOk.app{K:PySem.W.Frag}{σ:St}{F:Addr→Prop}{H:Hp}(τ:St):∀ {as:List ASlot} {vs:List V},ArgsOk K σ F H as vs→ArgsOk K (σ++τ) F H as vs
 | [],_,h=>h
 | .inl _::_,_,⟨v,r,e,h1,h2⟩=>⟨v,r,e,h1,h2.app τ⟩
 | .inr i::_,_,⟨v,r,e,h1,h2⟩=>⟨v,r,e,by rw[List.getElem?_append_left (List.getElem?_eq_some_iff.mp h1).1]; exact h1,h2.app τ⟩
theorem Own.stay{K:PySem.W.Frag}{O O' F F':Addr→Prop}{H H':Hp}{po:PO}{a:Addr}{Sa:Addr→Prop}(ow:Own K H F po a Sa)(g:Grow O O' F F' H H')(fit:Fit O F H)(lo:∀ b,Sa b→¬ F b∧¬ O b∧∃ o,H b=some o∧notImm o) :
  Own K H' F' po a Sa∧∀ b,Sa b→¬ F' b∧¬ O' b∧∃ o,H' b=some o∧notImm o:=by
 refine⟨ow.mono (fun _ _ z=>z.grow g fit) (fun _ _ z=>z.grow g fit) fun b o z w=>(g.stay w (lo b z).2.1 (lo b z).1).1,fun b z=>?_⟩
 obtain⟨l1,l2,o,l3,l4⟩:=lo b z
 obtain⟨s1,s2,s3⟩:=g.stay l3 l2 l1
 exact⟨s2,s3,o,s1,l4⟩
variable{es:List Expr}{dn:PEnv→R PO}{dg:PEnv→R (List ASlot)}{dh:PEnv→R (PO×List ASlot)}
def gN(dn:PEnv→R PO)(dg:PEnv→R (List ASlot)):PEnv→R (PO×List ASlot):=fun ε=>(dn ε).bind fun po ε1=>(dg ε1).bind fun as ε2=>.ok (po,.inr ε2.length::as) ε2
theorem dgn_new(ha:DN X E e dn)(hr:DG X E es dg)(hs:isStar e=false:=by rfl):DGn X E (e::es) (gN dn dg):=fun F S ε σ H Q rl h=>by
 refine wp_a (pa_cons pe_wp pa_wp (star_ne hs)) (ha F S ε σ H _ rl ((Ok.bind h).imp fun po ε1 F1 S1 H1 r1 g1 h1 a Sa ow lo=>?_))
 refine hr F1 S1 ε1 σ H1 _ r1 ((Ok.bind h1).imp fun as ε2 F2 S2 H2 r2 g2 h2 vs av=>?_)
 obtain⟨ow2,lo2⟩:=ow.stay g2 r1.fit fun b z=>(lo b z).2
 refine h2 F2 S2 H2 r2 (Grow.refl ..) a Sa (.ref a::vs) ow2 (fun b z=>⟨(lo b z).1,lo2 b z⟩) ⟨.ref a,vs,rfl,?_,av.app _⟩
 rw[r2.len,List.getElem?_append_right (Nat.le_refl _),Nat.sub_self]
 rfl
def gNV(d:PEnv→R PV)(dh:PEnv→R (PO×List ASlot)):PEnv→R (PO×List ASlot):=fun ε=>(d ε).bind fun x ε1=>(dh ε1).bind fun p ε2=>.ok (p.1,.inl x::p.2) ε2
theorem dgn_v(ha:DE X E e de)(hr:DGn X E es dh)(hs:isStar e=false:=by rfl):DGn X E (e::es) (gNV de dh):=fun F S ε σ H Q rl h=>by
 refine wp_a (pa_cons pe_wp pa_wp (star_ne hs)) (ha F S ε σ H _ rl ((Ok.bind h).imp fun x ε1 F1 S1 H1 r1 g1 h1 v rv=>?_))
 refine hr F1 S1 ε1 σ H1 _ r1 ((Ok.bind h1).imp fun p ε2 F2 S2 H2 r2 g2 h2 a Sa vs ow lo av=>?_)
 exact h2 F2 S2 H2 r2 (Grow.refl ..) a Sa _ ow (fun b z=>⟨fresh_back g1 (lo b z).1,(lo b z).2⟩) ⟨v,vs,rfl,rv.grow g2 r1.fit,av⟩
theorem Rel.push{K:PySem.W.Frag}{F:Addr→Prop}{S:Nat→Addr→Prop}{ε:PEnv}{σ:St}{H:Hp}{po:PO}{a:Addr}{Sa:Addr→Prop}(r:Rel K F S ε σ H)(ow:Own K H F po a Sa)(lo:∀ b,Sa b→¬ F b∧¬ U S b∧∃ o,H b=some o∧notImm o) :
  Rel K F (fun j b=>S j b∨(j=ε.length∧Sa b)) (ε++[.own po]) (σ++[some (.ref a)]) H:=by
 have lt:∀ j b,S j b→j<ε.length:=fun j b z=>by obtain⟨⟨p,q⟩,_⟩:=r.foot j b z; exact(List.getElem?_eq_some_iff.mp q).1
 refine⟨by simp[r.len],r.ex,fun j pv q=>?_,fun j p q=>?_,fun j b z=>?_,fun j k b z1 z2=>?_⟩
 ·by_cases hj:j<ε.length
  ·rw[List.getElem?_append_left hj]at q
   obtain⟨v,q1,q2⟩:=r.val j pv q
   exact⟨v,by rw[List.getElem?_append_left (by rw[← r.len]; exact hj)]; exact q1,q2⟩
  ·rw[List.getElem?_append_right (by ac_rfl)]at q
   cases hk:j-ε.length with
   | zero=>rw[hk]at q; simp at q
   | succ n=>rw[hk]at q; simp at q
 ·by_cases hj:j<ε.length
  ·rw[List.getElem?_append_left hj]at q
   obtain⟨v,q1,q2⟩:=r.own j p q
   refine⟨v,by rw[List.getElem?_append_left (by rw[← r.len]; exact hj)]; exact q1,?_⟩
   have:(fun b=>S j b∨(j=ε.length∧Sa b))=S j:=by
    funext b
    exact propext ⟨fun z=>z.elim id fun z=>absurd z.1 (Nat.ne_of_lt hj),.inl⟩
   rw[this]; exact q2
  ·rw[List.getElem?_append_right (by ac_rfl)]at q
   cases hk:j-ε.length with
   | zero =>
    rw[hk]at q
    simp at q
    subst q
    have ej:j=ε.length:=by ac_rfl
    subst ej
    refine⟨a,by rw[r.len,List.getElem?_append_right (Nat.le_refl _),Nat.sub_self]; rfl,?_⟩
    have:(fun b=>S ε.length b∨(ε.length=ε.length∧Sa b))=Sa:=by
     funext b
     exact propext ⟨fun z=>z.elim (fun z=>absurd (lt _ _ z) (Nat.lt_irrefl _)) (·.2),fun z=>.inr ⟨rfl,z⟩⟩
    rw[this]; exact ow
   | succ n=>rw[hk]at q; simp at q
 ·rcases z with z | ⟨rfl,z⟩
  ·obtain⟨⟨p,q⟩,q2⟩:=r.foot j b z
   exact⟨⟨p,by rw[List.getElem?_append_left (lt j b z)]; exact q⟩,q2⟩
  ·obtain⟨l1,l2,l3⟩:=lo b z
   exact⟨⟨po,by rw[List.getElem?_append_right (Nat.le_refl _),Nat.sub_self]; rfl⟩,l1,l3⟩
 ·rcases z1 with z1 | ⟨rfl,z1⟩ <;> rcases z2 with z2 | ⟨rfl,z2⟩
  ·exact r.dist j k b z1 z2
  ·exact absurd ⟨j,z1⟩ (lo b z2).2.1
  ·exact absurd ⟨k,z2⟩ (lo b z1).2.1
  ·rfl
theorem Rel.pop{K:PySem.W.Frag}{F:Addr→Prop}{S:Nat→Addr→Prop}{ε:PEnv}{sl:Slot}{σ:St}{u:Option V}{H:Hp}(r:Rel K F S (ε++[sl]) (σ++[u]) H):Rel K F (fun j b=>S j b∧j<ε.length) ε σ H:=by
 have len:ε.length=σ.length:=by have:=r.len; simpa using this
 refine⟨len,r.ex,fun j pv q=>?_,fun j p q=>?_,fun j b z=>?_,fun j k b z1 z2=>r.dist j k b z1.1 z2.1⟩
 ·have hj:=(List.getElem?_eq_some_iff.mp q).1
  obtain⟨v,q1,q2⟩:=r.val j pv (by rw[List.getElem?_append_left hj]; exact q)
  exact⟨v,by rw[List.getElem?_append_left (by rw[← len]; exact hj)]at q1; exact q1,q2⟩
 ·have hj:=(List.getElem?_eq_some_iff.mp q).1
  obtain⟨v,q1,q2⟩:=r.own j p (by rw[List.getElem?_append_left hj]; exact q)
  refine⟨v,by rw[List.getElem?_append_left (by rw[← len]; exact hj)]at q1; exact q1,?_⟩
  have:(fun b=>S j b∧j<ε.length)=S j:=by funext b; simp[hj]
  rw[this]; exact q2
 ·obtain⟨⟨p,q⟩,q2⟩:=r.foot j b z.1
  exact⟨⟨p,by rw[List.getElem?_append_left z.2]at q; exact q⟩,q2⟩
def popR{α:Type}:R α→R α
 | .ok s ε=>.ok s ε.dropLast
 | .er c ε=>.er c ε.dropLast
 | .no=>.no
def dCallN(g:PEnv→R Slot)(dh:PEnv→R (PO×List ASlot)):PEnv→R Slot:=fun ε=>(dh ε).bind fun p ε1=>(lift (if(owns p.2).Nodup then argS (ε1++[.own p.1]) p.2 else none) ε1).bind fun ss ε1=>popR (putR (ε1++[.own p.1]) p.2 (g ss))
theorem split_last{ε:PEnv}{n:Nat}(h:ε.length=n+1):∃ l x,ε=l++[x]∧l.length=n:=by
 refine⟨ε.dropLast,ε.getLast (by intro z; rw[z]at h; cases h),(List.dropLast_concat_getLast _).symm,by rw[List.length_dropLast,h]; rfl⟩
theorem Grow.pushed{K:PySem.W.Frag}{F F':Addr→Prop}{S S2:Nat→Addr→Prop}{H0 H H':Hp}{n:Nat}{Sa:Addr→Prop}(g:Grow (U fun j b=>S j b∨(j=n∧Sa b)) (U S2) F F' H H'){F0:Addr→Prop}{S0:Nat→Addr→Prop}(g0:Grow (U S0) (U S) F0 F H0 H)(fr:∀ b,Sa b→H0 b=none) :
  Grow (U S0) (U fun j b=>S2 j b∧j<n) F0 F' H0 H' where
 fro:=fun b z=>g.fro b (g0.fro b z)
 keep:=fun b o q no=>g.keep b o (g0.keep b o q no) fun⟨j,z⟩=>by
  rcases z with z | ⟨_,z⟩
  ·rcases g0.onew b ⟨j,z⟩with w | w
   ·exact no w
   ·rw[w]at q; cases q
  ·rw[fr b z]at q; cases q
 there:=fun b o q=>let ⟨o',q'⟩:=g0.there b o q; g.there b o' q'
 fnew:=fun b z=>by
  rcases g.fnew b z with w | w | ⟨j,w | ⟨_,w⟩⟩
  ·exact g0.fnew b w
  ·exact .inr (.inl (fresh_back g0 w))
  ·exact .inr ((g0.onew b ⟨j,w⟩).symm)
  ·exact .inr (.inl (fr b w))
 onew:=fun b ⟨j,z,_⟩=>by
  rcases g.onew b ⟨j,z⟩with⟨k,w | ⟨_,w⟩⟩ | w
  ·exact g0.onew b ⟨k,w⟩
  ·exact .inr (fr b w)
  ·exact .inr (fresh_back g0 w)
variable{CX:CXT}{x:Str}{k:Nat}{ps:List Str}{g:PEnv→R Slot}{p:Pos}
theorem dr_callN(c:CalX CX X.prog X.w X.K X.mg X.base x k ps (spG X.K g))(hr:Room k X.A)(hx:Passes CX X E)(ha:DGn X E (e::es) dh)(hg:Gl X x:=by rfl)
  (hd:(x == ("__debug__" : Str))=false:=by decide) (h1:starEach (e::es) X.env=(false,eval e X.env)::starEach es X.env:=by rfl) (h2:(backTo pos (starEach es X.env)).any (·.1)=false:=by rfl) :
  DR X E (.Call (.Name x p) (e::es) [] pos) (dCallN g dh):=fun F S ε σ H Q rl h=>by
 obtain⟨f,fd,hm,Fn,hb,hk⟩:=c.ex
 refine wp_e (pe_call Fn hr hg hm hk hb .nil hx pa_wp hd h1 h2) (ha F S ε σ H _ rl ?_)
 unfold dCallN at h
 cases ed:dh ε with
 | no=>rw[ed]at h; exact h.elim
 | er cv ε1=>rw[ed]at h; exact h
 | ok pa ε1 =>
  obtain⟨po,as⟩:=pa
  rw[ed]at h
  simp only[R.bind_ok]at h
  intro F1 S1 H1 r1 g1 a Sa vs ow lo av
  dsimp only at h av ow
  have rp:=r1.push ow fun b z=>(lo b z).2
  by_cases nd:(owns as).Nodup
  ·rw[if_pos nd]at h
   cases es:argS (ε1++[.own po]) as with
   | none=>rw[es]at h; exact h.elim
   | some ss =>
    rw[es]at h
    simp only[lift_some,R.bind_ok]at h
    rw[List.append_nil]
    refine⟨F1,calS as _,ss,rp.cal av es nd,?_⟩
    have len:∀ ss',(putS (ε1++[.own po]) as ss').length=ε1.length+1:=fun ss'=>by rw[putS_len]; simp
    cases eg:g ss with
    | no=>rw[eg]at h; exact h.elim
    | er cv ss' =>
     rw[eg]at h
     intro y F' S' H' r' g'
     unfold putR at h
     dsimp only at h
     by_cases kp:keptO as ss'=true
     ·rw[if_pos kp]at h
      obtain⟨S2,r2,g2,_⟩:=rp.called av es nd r' g' (fun _ z=>z) (keptO_get kp)
      obtain⟨l,sl,el,ll⟩:=split_last (len ss')
      rw[el]at r2
      have h:Ok X.K E σ F S H (R.er cv (putS (ε1++[.own po]) as ss').dropLast:R Slot) _:=h
      rw[el,List.dropLast_concat]at h
      have gp:=Grow.pushed (K:=X.K) g2 g1 fun b z=>(lo b z).1
      rw[← ll]at gp
      exact h y F' _ H' r2.pop gp
     ·rw[if_neg kp]at h; exact h.elim
    | ok s ss' =>
     rw[eg]at h
     intro v F' S' H' Sr r' g' rv lo' fr
     unfold putR at h
     dsimp only at h
     by_cases kp:keptO as ss'=true
     ·rw[if_pos kp]at h
      obtain⟨S2,r2,g2,u2⟩:=rp.called av es nd r' g' (fun _ z=>.inl z) (keptO_get kp)
      obtain⟨l,sl,el,ll⟩:=split_last (len ss')
      rw[el]at r2
      have h:Ok X.K E σ F S H (R.ok s (putS (ε1++[.own po]) as ss').dropLast:R Slot) _:=h
      rw[el,List.dropLast_concat]at h
      have gp:=Grow.pushed (K:=X.K) g2 g1 fun b z=>(lo b z).1
      rw[← ll]at gp
      refine h F' _ H' r2.pop gp v Sr rv fun b z=>⟨fresh_back g1 (fr b z),(lo' b z).1,fun⟨j,w,_⟩=>?_,(lo' b z).2.2⟩
      rcases u2 b ⟨j,w⟩with w | ⟨i,w⟩
      ·exact(lo' b z).2.1 w
      ·obtain⟨_,_,o,y1,_⟩:=rp.foot i b w
       rw[fr b z]at y1; cases y1
     ·rw[if_neg kp]at h; exact h.elim
  ·rw[if_neg nd]at h; exact h.elim
end
end Pu
namespace Pu
open PySem PySem.Spec PyProof.Rows L2
section
variable{X:Cx}{E:XK}{pin:List Nat}{e b c o:Expr}{de db dc d:PEnv→R PV}{ds:PEnv→R (List PV)}{pos p q pos':Pos}
def sortSetP:List PV→Option PO
 | [.lst xs]=>(txs xs).bind fun ls=>if ls≠[]∧(uniqT ls).length<60 then some (.lst (txP (sortT (uniqT ls))))else none
 | _=>none
def rSetThen(X:Cx)(r:List V→Hp→VK→Prop):List V→Hp→VK→Prop:=fun xs H Q=>∃ (p:Addr) (ls:List Tx),xs=[.ref p]∧SqL X.K H p (tVs ls)∧(uniqT ls).length<4000∧∀ a,H a=none→r [.ref a] (upd H a (setHO X a (uniqT ls))) Q
def rSortS(X:Cx):List V→Hp→VK→Prop:=fun xs H Q=>∃ (p:Addr) (ls:List Tx),xs=[.ref p]∧H p=some (setHO X p ls)∧ls≠[]∧ls.length<64∧∀ l,H l=none→Q (.ref l) (upd H l (.lst (tVs (sortT ls))))
theorem uniqT_ne{l:List Tx}(h:l≠[]):uniqT l≠[]:=fun z=>by
 cases l with
 | nil=>exact h rfl
 | cons x r =>
  have:x∈uniqT (x::r):=(uniqT_mem _ _).mpr (by simp)
  rw[z]at this; simp at this
theorem pln_sortSet:PLn X.K (rSetThen X (rSortS X)) sortSetP:=fun F H xs vs Q po hF rs e q=>by
 unfold sortSetP at e
 split at e
 ·obtain⟨v,rfl,a,us,rfl,ha,_,ru⟩:=reps1 rs
  obtain⟨ls,e1,e2⟩:=Option.bind_eq_some_iff.mp e
  rw[txs_eq e1]at ru
  obtain⟨rfl,hl⟩:=strs_rep.mp ru
  split at e2
  ·rename_i hh
   cases e2
   refine⟨a,ls,rfl,.inl ha,by ac_rfl,fun b hb=>⟨b,uniqT ls,rfl,upd_same,uniqT_ne hh.1,by ac_rfl,fun l hl'=>?_⟩⟩
   have hlb:l≠b:=by rintro rfl; rw[upd_same]at hl'; cases hl'
   have hl0:H l=none:=by rw[upd_ne hlb]at hl'; exact hl'
   have al:Al F F H (upd (upd H b (setHO X b (uniqT ls))) l (.lst (tVs (sortT (uniqT ls))))):=(Al.new0 hb).trans (Al.new0 hl')
   refine q l F _ (fun c=>c=l) al ⟨⟨_,upd_same,strs_rep.mpr ⟨rfl,fun x hx=>hl x ((uniqT_mem _ _).mp ((sortT_perm _).mem_iff.mp hx))⟩⟩,fun c=>Iff.rfl⟩ fun c z=>?_
   subst z
   exact⟨hl0,fun z=>Exists.elim (hF _ z) (fun o w=>by rw[hl0]at w; cases w),_,upd_same,trivial⟩
  ·cases e2
 ·cases e
theorem dn_sortSet(hc:X.calm=true)(ha:DA X E [e] ds)(hm:X.mg "sorted" = none)(hm2:X.mg "set" = none)(hg:Gl X "sorted":=by rfl)(hg2:Gl X "set":=by rfl)(h:isStar e=false:=by rfl) :
  DN X E (.Call (.Name "sorted" p) [.Call (.Name "set" q) [e] [] pos'] [] pos) (dL sortSetP ds):=fun F S ε σ H Q rl h' =>
 wp_e (pe_callB (call_sortedSet hc) hg hm bt_sorted (pa_cons (pe_callTy (call_setL hc) hg2 hm2 bt_set pa_wp (by decide) (by decide) (star_ne h) rfl) pa_nil (star_ne rfl)) (by decide) (by decide) (star_ne rfl) rfl) (dLn_run pln_sortSet ha rl h')
def dSet2(i j:Nat)(d:PEnv→R PV):PEnv→R Flw:=fun ε=>(d ε).bind fun x ε1=>match x with
 | .tup [a,b]=>.ok .next ((ε1.set i (.val a)).set j (.val b))
 | _=>.no
theorem ds_set2(i j:Nat){x y:Str}{k:Nat}{tp px py:Pos}(hc:X.calm=true)(hN:X.N.Nodup)(he:DE X E e de)(hp:i∉pin:=by decide)(hp2:j∉pin:=by decide)(hi:X.N[i]?=some x:=by rfl)(hj:X.N[j]?=some y:=by rfl)
  (hx:Loc X.env.scope x:=by first | exact Or.inl rfl | exact Or.inr rfl) (hy:Loc X.env.scope y:=by first | exact Or.inl rfl | exact Or.inr rfl)
  (hf:X.fn x=true∨X.env.scope.names.lookup x=some .local:=by first | exact .inl rfl | exact .inr rfl) (hf2:X.fn y=true∨X.env.scope.names.lookup y=some .local:=by first | exact .inl rfl | exact .inr rfl)
  (hs:swapsWithSole [.Tuple [.Name x px,.Name y py] k tp] e pos.line X.env=pure false:=by rfl) (hw:swappedStores [.Tuple [.Name x px,.Name y py] k tp] e X.env=pure none:=by rfl) :
  DS X E pin (.Assign [.Tuple [.Name x px,.Name y py] k tp] e pos) (dSet2 i j de):=fun F S ε σ H D rl h=>by
 refine wp_s (ps_asg pe_wp (pg_tup hc (pgs_cons (pg_name hN hi hx hf) (pgs_cons (pg_name hN hj hy hf2) pgs_nil))) hs hw rfl) (he F S ε σ H _ rl (h.bindE.imp fun z ε1 F1 S1 H1 r1 g1 h1 v rv=>?_))
 split at h1
 ·rename_i a b
  obtain⟨p,us,rfl,hp',ru⟩:=rv
  obtain⟨va,ra,rfl,r2,vb,rb,rfl,r3,rfl⟩:=ru
  refine⟨p,_,rfl,SqT.of hp',rfl,va,_,rfl,vb,_,rfl,rfl,?_⟩
  exact h1 F1 _ _ H1 ((r1.set r2).set r3) ((Grow.less i).trans (Grow.less j)) ((PinOk.set hp).trans (PinOk.set hp2))
 ·exact h1.elim
def tBT(K:PySem.W.Frag)(r:V→List V→Hp→VK→Prop)(to:TE)(t:TA):TE:=fun σ H Q=>to σ H fun x H1=>(∃ p xs,x = .ref p∧H1 p=some (.tup xs))∧t σ H1 fun xs H2=>r x xs H2 Q
theorem pe_bmT{name:Str}{id:String}{r:V→List V→Hp→VK→Prop}{to:TE}{t:TA}{apos cpos:Pos}{es:List Expr}(slot:PySem.Slot "tuple" name id)(hty:typeOf (.builtin id)=pure (.type "method_descriptor"))(hm:MtR X id r)(ho:PE X o to)(ha:PA X (e::es) t)
  (hbase:attributeBase o name X.env (eval o X.env)=eval o X.env:=by rfl)
  (hfew:((backTo cpos (starEach (e::es) X.env)).all (fun x=>!x.1) && (backToKw cpos (keywordEach [] X.env)).all (fun x=>x.1.isSome)
   && decide ((e::es).length+([]:List Keyword).length+(if([]:List Keyword).isEmpty then 0 else 1)<30))=true:=by rfl)
  (hline:(apos.endLine == cpos.line)=true:=by rfl) (hs:starEach (e::es) X.env=(false,eval e X.env)::starEach es X.env:=by rfl) (hplain:(backTo cpos (starEach es X.env)).any (·.1)=false:=by rfl) :
  PE X (.Call (.Attribute o name apos) (e::es) [] cpos) (tBT X.K r to t):=by
 intro pins s σ H Q I h
 refine wpAny_Call_method_late hbase hfew hline rfl (thn (ho pins s σ H _ I h) fun v s1 h'=>?_)
 obtain⟨x,H1,I1,r1,⟨p,xs,rfl,hp⟩,q1⟩:=h'
 cases r1
 obtain⟨_,its,_,⟨ob,e1,e2,_⟩,o2,e3,e4⟩:=(show ObjOk X.prog X.w H1 s1.heap p (.tup xs)from I1.hok p _ hp)
 refine⟨"tuple",id,PySem.F.plainAttrs_tuple,slot,hty,⟨ob,e1,e2⟩,fun a z=>?_,?_⟩
 ·cases z; exact⟨o2,e3,e4⟩
 have hA:=ha cpos pins s1 σ H1 _ I1 q1
 rw[hs]at hA ⊢
 refine Calls.callWith_builtin (by show(false || (backTo cpos (starEach es X.env)).any (·.1))=false; rw[hplain] <;> rfl) (Calls.evalArgs_plain ?_)
 exact thn hA fun us s2 h2=>by
  obtain⟨vs,H2,I2,r2,q2⟩:=h2
  exact hm pins s2 σ H2 (.ref p) vs (.ref p) us Q I2 rfl r2 q2
def dMtT(f:List PV→PV→Option PV)(d de:PEnv→R PV):PEnv→R PV:=fun ε=>(d ε).bind fun x ε1=>match x with
 | .tup xs=>(de ε1).bind fun k ε2=>lift (f xs k) ε2
 | _=>.no
theorem de_countT{apos cpos:Pos}(ho:DE X E o d)(he:DE X E e de)(hbase:attributeBase o "count" X.env (eval o X.env)=eval o X.env:=by rfl)
  (hline:(apos.endLine == cpos.line)=true:=by rfl) (hst:isStar e=false:=by rfl) :
  DE X E (.Call (.Attribute o "count" apos) [e] [] cpos) (dMtT cntP d de):=fun F S ε σ H Q rl h=>by
 have hs:=star_ne (es:=[]) (env:=X.env) hst
 refine wp_e (pe_bmT PySem.F.slot_tuple_count PySem.F.type_tuple_count mt_countT pe_wp (pa_cons pe_wp pa_nil hs) hbase (by rw[hs]; rfl) hline hs rfl) (ho F S ε σ H _ rl ((Ok.bind h).imp fun x ε1 F1 S1 H1 r1 g1 h1 v rv=>?_))
 split at h1
 ·rename_i xs
  obtain⟨p,us,rfl,hp,ru⟩:=rv
  refine⟨⟨p,us,rfl,hp⟩,he F1 S1 ε1 σ H1 _ r1 ((Ok.bind h1).imp fun k ε2 F2 S2 H2 r2 g2 q w rw'=>?_)⟩
  unfold cntP at q
  cases q1:flP k with
  | none=>rw[q1]at q; exact q.elim
  | some z =>
   cases q2:flPs xs with
   | none=>rw[q1,q2]at q; exact q.elim
   | some ws =>
    rw[q1,q2]at q
    obtain⟨rfl,hf⟩:=flPs_rep (ru.grow g2 r1.fit) q2
    rw[flP_rep rw' q1]
    exact⟨p,us,z,rfl,rfl,SqT.of (g2.imm r1.fit hp id),flP_flat q1,hf,q F2 S2 H2 r2 (Grow.refl ..) _ rfl⟩
 ·exact h1.elim
end
end Pu
namespace Pu
open PySem PySem.Spec PyProof.Rows L2
section
variable{X:Cx}
theorem KReps.keys{K:PySem.W.Frag}{H:Hp}{F:Addr→Prop}{kvs:List (Key×PV)}{ws:List (Key×V)}(h:KReps K H F kvs ws):ws.map (·.1)=kvs.map (·.1):=by
 unfold KReps at h
 induction h with
 | nil=>rfl
 | cons r _ ih=>rw[List.map_cons,List.map_cons,ih,r.1]
end
end Pu
namespace L2
open PySem PySem.Spec PyProof.Rows
def gallop':Bool→Keyed→Array Keyed→Nat→Nat→Nat→StateT SortSt Sem (Option Nat):=sortPriv% PySem.Builtin.gallop
def mergeLo':Array Keyed→Array Keyed→StateT SortSt Sem (Array Keyed):=sortPriv% PySem.Builtin.mergeLo
def mergeHi':Array Keyed→Array Keyed→StateT SortSt Sem (Array Keyed):=sortPriv% PySem.Builtin.mergeHi
def kO(κ:KeyKind)(p:Keyed):κ.α:=(κ.keyOf p.1).getD κ.dflt
def HasK(κ:KeyKind)(p:Keyed):Prop:=∃ a,κ.keyOf p.1=some a
theorem HasK.k{κ:KeyKind}{p:Keyed}(h:HasK κ p):κ.keyOf p.1=some (kO κ p):=by
 obtain⟨a,e⟩:=h; unfold kO; rw[e]; rfl
structure SB(st:SortSt):Prop where
 kind:kindOf st=oneType'
 failed:failedOf st=none
section
variable{prog:Program}{w:World}{A:Around}{E:Value→Shared→Prop}{s:Shared}{κ:KeyKind}
theorem wpS_ltP(hO:κ.OneLt){st:SortSt}{x y:Keyed}{Q:Option Bool→SortSt→Prop}(hk:SB st)(hx:HasK κ x)(hy:HasK κ y)
  (h:Q (some (κ.blt (kO κ x) (kO κ y))) st):wpS (model prog w) A E s (lt' x y) Q st:=by
 rw[lt'_eq]
 refine wpS_bind (wpS_get ?_)
 rw[hk.kind,keyLt'_oneType]
 exact wpS_bind (wpS_lift (wpAny_attempt (hO prog w A _ s x.1 y.1 _ _ hx.k hy.k ⟨rfl,wpS_pure h⟩)))
theorem wpS_elem{st:SortSt}{arr:Array Keyed}{i:Nat}(hi:i<arr.size){Q:Keyed→SortSt→Prop}(h:Q arr[i] st):wpS (model prog w) A E s (elem' arr i) Q st:=by
 rw[elem'_eq,getElem?_pos arr i hi]; exact wpS_pure h
def bey(left:Bool)(key:Keyed)(arr:Array Keyed)(base i:Nat):StateT SortSt Sem (Option Bool) :=
 elem' arr (base+i) >>= fun x=>if left=true then lt' x key else lt' key x >>= fun b=>pure (b.map (!·))
def beyB(κ:KeyKind)(left:Bool)(key x:Keyed):Bool:=if left=true then κ.blt (kO κ x) (kO κ key)else !κ.blt (kO κ key) (kO κ x)
theorem wpS_bey(hO:κ.OneLt){st:SortSt}{left:Bool}{key:Keyed}{arr:Array Keyed}{base i:Nat}{Q:Option Bool→SortSt→Prop}(hk:SB st)(hx:HasK κ key)(hi:base+i<arr.size)(hy:HasK κ arr[base+i])
  (h:Q (some (beyB κ left key arr[base+i])) st):wpS (model prog w) A E s (bey left key arr base i) Q st:=by
 refine wpS_bind (wpS_elem hi ?_)
 cases left
 ·rw[if_neg (by simp)]
  exact wpS_bind (wpS_ltP hO hk hx hy (wpS_pure h))
 ·rw[if_pos rfl]
  exact wpS_ltP hO hk hy hx h
theorem wpS_gallop(hO:κ.OneLt){st:SortSt}(hk:SB st){left:Bool}{key:Keyed}{arr:Array Keyed}{base n hint:Nat}{Q:Option Nat→SortSt→Prop}(hkey:HasK κ key)(hn:base+n≤arr.size)
  (hA:∀ i (hi:i<arr.size),HasK κ arr[i]) (B:Nat→Bool) (hB:∀ i (hi:i<n),B i=beyB κ left key (arr[base+i]'(by ac_rfl)))
  (mono:∀ i j,i≤j→j<n→B j=true→B i=true) (hh:hint<n)
  (h:∀ r,r≤n→(∀ i,i<r→B i=true)→(∀ i,r≤i→i<n→B i=false)→Q (some r) st) :
  wpS (model prog w) A E s (gallop' left key arr base n hint) Q st:=by
 have hb:∀ {i:Nat} {Q:Option Bool→SortSt→Prop},i<n→Q (some (B i)) st→wpS (model prog w) A E s (bey left key arr base i) Q st:=fun {i Q} hi q =>
  wpS_bey hO hk hkey (by ac_rfl) (hA _ _) (by rw[← hB i hi]; exact q)
 have dn:∀ {i j:Nat},i≤j→j<n→B i=false→B j=false:=fun {i j} hij hj hf=>by
  cases e:B j with
  | false=>rfl
  | true=>rw[mono i j hij hj e]at hf; cases hf
 unfold gallop'
 refine wpS_bind (hb hh ?_)
 cases hr:B hint with
 | true =>
  dsimp only
  rw[if_pos rfl]
  refine wpS_bind (wpS_mono (wpS_forRange (I:=fun x c st'=>st'=st∧∃ l o,c=(none,l,o)∧l<o∧x<o∧l<n-hint∧B (hint+l)=true)
   (Q:=fun c st'=>st'=st∧∃ l o,c=(none,l,o)∧l<o∧l<n-hint∧B (hint+l)=true∧(n-hint≤o∨(o<n-hint∧B (hint+o)=false))) ?_ ?_ ?_) ?_)
  ·rintro x c st' _ hx ⟨rfl,l,o,rfl,h1,h2,h3,h4⟩
   dsimp only
   by_cases hge:o ≥ n-hint
   ·rw[if_pos hge]; exact wpS_pure ⟨rfl,l,o,rfl,h1,h3,h4,.inl hge⟩
   ·rw[if_neg hge]
    refine wpS_bind (hb (by ac_rfl) ?_)
    cases e:B (hint+o)with
    | true=>exact wpS_pure ⟨rfl,o,2 * o+1,rfl,by ac_rfl,by ac_rfl,by ac_rfl,e⟩
    | false=>exact wpS_pure ⟨rfl,l,o,rfl,h1,h3,h4,.inr ⟨by ac_rfl,e⟩⟩
  ·rintro c st' ⟨rfl,l,o,rfl,h1,h2,h3,h4⟩
   exact⟨rfl,l,o,rfl,h1,h3,h4,.inl (by ac_rfl)⟩
  ·exact⟨rfl,0,1,rfl,by ac_rfl,by ac_rfl,by ac_rfl,hr⟩
  rintro c st' ⟨rfl,l,o,rfl,h1,h3,h4,h5⟩
  dsimp only
  have g1:hint+l+1≤hint+min o (n-hint):=by ac_rfl
  have g2:hint+min o (n-hint)≤n:=by ac_rfl
  have g3:∀ i,i<hint+l+1→B i=true:=fun i hi=>mono i (hint+l) (by ac_rfl) (by ac_rfl) h4
  have g4:∀ i,hint+min o (n-hint)≤i→i<n→B i=false:=by
   intro i hi hin
   rcases h5 with h5 | ⟨h5,h6⟩
   ·ac_rfl
   ·exact dn (i:=hint+o) (by ac_rfl) hin h6
  clear h5
  generalize hint+l+1=lo at *
  generalize hint+min o (n-hint)=hi at *
  refine wpS_bind (wpS_mono (wpS_forRange (I:=fun x c st''=>st''=st'∧∃ l r,c=(none,l,r)∧l≤r∧r≤n∧r-l≤n-x∧(∀ i,i<l→B i=true)∧(∀ i,r≤i→i<n→B i=false))
   (Q:=fun c st''=>st''=st'∧∃ l r,c=(none,l,r)∧r≤n∧(∀ i,i<r→B i=true)∧(∀ i,r≤i→i<n→B i=false)) ?_ ?_ ?_) ?_)
  ·rintro x c st'' _ hx ⟨rfl,l,r,rfl,a1,a2,a3,a4,a5⟩
   dsimp only
   by_cases hge:l ≥ r
   ·rw[if_pos hge]
    have:l=r:=by ac_rfl
    subst this
    exact wpS_pure ⟨rfl,l,l,rfl,a2,a4,a5⟩
   ·rw[if_neg hge]
    refine wpS_bind (hb (by ac_rfl) ?_)
    cases e:B (l+(r-l) / 2)with
    | true=>exact wpS_pure ⟨rfl,_,r,rfl,by ac_rfl,a2,by ac_rfl,fun i hi=>mono _ _ (by ac_rfl) (by ac_rfl) e,a5⟩
    | false=>exact wpS_pure ⟨rfl,l,_,rfl,by ac_rfl,by ac_rfl,by ac_rfl,a4,fun i hi hin=>dn (i:=l+(r-l) / 2) hi hin e⟩
  ·rintro c st'' ⟨rfl,l,r,rfl,a1,a2,a3,a4,a5⟩
   have:l=r:=by ac_rfl
   subst this
   exact⟨rfl,l,l,rfl,a2,a4,a5⟩
  ·exact⟨rfl,lo,hi,rfl,g1,g2,by ac_rfl,g3,g4⟩
  ·rintro c st'' ⟨rfl,l,r,rfl,a2,a4,a5⟩
   exact wpS_pure (h r a2 a4 a5)
 | false =>
  dsimp only
  rw[if_neg (by simp)]
  refine wpS_bind (wpS_mono (wpS_forRange (I:=fun x c st'=>st'=st∧∃ l o,c=(none,l,o)∧l<o∧x<o∧l≤hint∧B (hint-l)=false)
   (Q:=fun c st'=>st'=st∧∃ l o,c=(none,l,o)∧l<o∧l≤hint∧B (hint-l)=false∧(hint+1≤o∨(o≤hint∧B (hint-o)=true))) ?_ ?_ ?_) ?_)
  ·rintro x c st' _ hx ⟨rfl,l,o,rfl,h1,h2,h3,h4⟩
   dsimp only
   by_cases hge:o ≥ hint+1
   ·rw[if_pos hge]; exact wpS_pure ⟨rfl,l,o,rfl,h1,h3,h4,.inl hge⟩
   ·rw[if_neg hge]
    refine wpS_bind (hb (by ac_rfl) ?_)
    cases e:B (hint-o)with
    | false=>exact wpS_pure ⟨rfl,o,2 * o+1,rfl,by ac_rfl,by ac_rfl,by ac_rfl,e⟩
    | true=>exact wpS_pure ⟨rfl,l,o,rfl,h1,h3,h4,.inr ⟨by ac_rfl,e⟩⟩
  ·rintro c st' ⟨rfl,l,o,rfl,h1,h2,h3,h4⟩
   exact⟨rfl,l,o,rfl,h1,h3,h4,.inl (by ac_rfl)⟩
  ·exact⟨rfl,0,1,rfl,by ac_rfl,by ac_rfl,by ac_rfl,hr⟩
  rintro c st' ⟨rfl,l,o,rfl,h1,h3,h4,h5⟩
  dsimp only
  have g1:hint+1-min o (hint+1)≤hint-l:=by ac_rfl
  have g2:hint-l≤n:=by ac_rfl
  have g3:∀ i,i<hint+1-min o (hint+1)→B i=true:=by
   intro i hi
   rcases h5 with h5 | ⟨h5,h6⟩
   ·ac_rfl
   ·exact mono i (hint-o) (by ac_rfl) (by ac_rfl) h6
  have g4:∀ i,hint-l≤i→i<n→B i=false:=fun i hi hin=>dn (i:=hint-l) (by ac_rfl) hin h4
  clear h5 h4
  generalize hint+1-min o (hint+1)=lo at *
  generalize hint-l=hi at *
  refine wpS_bind (wpS_mono (wpS_forRange (I:=fun x c st''=>st''=st'∧∃ l r,c=(none,l,r)∧l≤r∧r≤n∧r-l≤n-x∧(∀ i,i<l→B i=true)∧(∀ i,r≤i→i<n→B i=false))
   (Q:=fun c st''=>st''=st'∧∃ l r,c=(none,l,r)∧r≤n∧(∀ i,i<r→B i=true)∧(∀ i,r≤i→i<n→B i=false)) ?_ ?_ ?_) ?_)
  ·rintro x c st'' _ hx ⟨rfl,l,r,rfl,a1,a2,a3,a4,a5⟩
   dsimp only
   by_cases hge:l ≥ r
   ·rw[if_pos hge]
    have:l=r:=by ac_rfl
    subst this
    exact wpS_pure ⟨rfl,l,l,rfl,a2,a4,a5⟩
   ·rw[if_neg hge]
    refine wpS_bind (hb (by ac_rfl) ?_)
    cases e:B (l+(r-l) / 2)with
    | true=>exact wpS_pure ⟨rfl,_,r,rfl,by ac_rfl,a2,by ac_rfl,fun i hi=>mono _ _ (by ac_rfl) (by ac_rfl) e,a5⟩
    | false=>exact wpS_pure ⟨rfl,l,_,rfl,by ac_rfl,by ac_rfl,by ac_rfl,a4,fun i hi hin=>dn (i:=l+(r-l) / 2) hi hin e⟩
  ·rintro c st'' ⟨rfl,l,r,rfl,a1,a2,a3,a4,a5⟩
   have:l=r:=by ac_rfl
   subst this
   exact⟨rfl,l,l,rfl,a2,a4,a5⟩
  ·exact⟨rfl,lo,hi,rfl,g1,g2,by ac_rfl,g3,g4⟩
  ·rintro c st'' ⟨rfl,l,r,rfl,a2,a4,a5⟩
   exact wpS_pure (h r a2 a4 a5)
end
end L2
namespace L2
open PySem PySem.Spec PyProof.Rows
section
variable{κ:KeyKind}
def leK(κ:KeyKind)(x y:Keyed):Prop:=κ.kle (kO κ x) (kO κ y)
theorem leK.trans{x y z:Keyed}(h1:leK κ x y)(h2:leK κ y z):leK κ x z:=KeyOrd.kle_trans h1 h2
structure MS(κ:KeyKind)(T o ra rb:List Keyed):Prop where
 perm:(o++(ra++rb)).Perm T
 so:o.Pairwise (leK κ)
 sa:ra.Pairwise (leK κ)
 sb:rb.Pairwise (leK κ)
 oa:∀ x∈o,∀ y∈ra,leK κ x y
 ob:∀ x∈o,∀ y∈rb,leK κ x y
theorem MS.stepA{T o x ra rb:List Keyed}(h:MS κ T o (x++ra) rb)(hx:∀ u∈x,∀ v∈rb,leK κ u v):MS κ T (o++x) ra rb:=by
 obtain⟨h1,h2,h3,h4,h5,h6⟩:=h
 rw[List.pairwise_append]at h3
 refine⟨by simpa[List.append_assoc]using h1,?_,h3.2.1,h4,?_,?_⟩
 ·rw[List.pairwise_append]
  exact⟨h2,h3.1,fun u hu v hv=>h5 u hu v (List.mem_append_left _ hv)⟩
 ·intro u hu v hv
  rcases List.mem_append.mp hu with hu | hu
  ·exact h5 u hu v (List.mem_append_right _ hv)
  ·exact h3.2.2 u hu v hv
 ·intro u hu v hv
  rcases List.mem_append.mp hu with hu | hu
  ·exact h6 u hu v hv
  ·exact hx u hu v hv
theorem MS.swap{T o ra rb:List Keyed}(h:MS κ T o ra rb):MS κ T o rb ra :=
 ⟨(List.Perm.append_left _ List.perm_append_comm).trans h.perm,h.so,h.sb,h.sa,h.ob,h.oa⟩
theorem MS.stepB{T o x ra rb:List Keyed}(h:MS κ T o ra (x++rb))(hx:∀ u∈x,∀ v∈ra,leK κ u v):MS κ T (o++x) ra rb :=
 (h.swap.stepA hx).swap
def Done(κ:KeyKind)(T:List Keyed)(r:Array Keyed):Prop:=r.toList.Perm T∧r.toList.Pairwise (leK κ)
theorem MS.endA{T o ra:List Keyed}{r:Array Keyed}(h:MS κ T o ra [])(e:r.toList=o++ra):Done κ T r:=by
 obtain⟨h1,h2,h3,h4,h5,h6⟩:=h
 refine⟨by rw[e]; simpa using h1,?_⟩
 rw[e,List.pairwise_append]; exact⟨h2,h3,h5⟩
theorem MS.last{T o ra rb:List Keyed}{r:Array Keyed}(h:MS κ T o ra rb)(hx:∀ u∈rb,∀ v∈ra,leK κ u v)(e:r.toList=o++(rb++ra)):Done κ T r:=by
 have h':MS κ T o ra (rb++[]):=by simpa using h
 exact(h'.stepB hx).endA (by rw[e]; simp)
theorem ex_list(a:Array Keyed)(i j:Nat):(a.extract i j).toList=(a.toList.drop i).take (j-i):=by
 simp[Array.toList_extract,List.extract_eq_take_drop]
theorem ex_all(a:Array Keyed)(i:Nat):(a.extract i a.size).toList=a.toList.drop i:=by
 rw[ex_list,List.take_of_length_le]; simp
theorem drop_at{a:Array Keyed}{i:Nat}(h:i<a.size):a.toList.drop i=a[i]::a.toList.drop (i+1):=by
 rw[List.drop_eq_getElem_cons (by simpa using h)]; simp
theorem drop_by(a:Array Keyed)(i k:Nat):a.toList.drop i=(a.extract i (i+k)).toList++a.toList.drop (i+k):=by
 rw[ex_list,show i+k-i=k by ac_rfl,← List.drop_drop,List.take_append_drop]
theorem mem_drop{a:Array Keyed}{i:Nat}{x:Keyed}(h:x∈a.toList.drop i):∃ j,∃ hj:j<a.size,i≤j∧a[j]=x:=by
 obtain⟨k,hk,e⟩:=List.getElem_of_mem h
 rw[List.getElem_drop]at e
 have hk':i+k<a.size:=by simp at hk; ac_rfl
 exact⟨i+k,hk',by ac_rfl,by simpa using e⟩
theorem mem_ext{a:Array Keyed}{i k:Nat}{x:Keyed}(h:x∈(a.extract i (i+k)).toList):∃ j,∃ hj:j<a.size,i≤j∧j<i+k∧a[j]=x:=by
 rw[ex_list]at h
 obtain⟨m,hm,e⟩:=List.getElem_of_mem h
 rw[List.getElem_take,List.getElem_drop]at e
 refine⟨i+m,?_,by ac_rfl,?_,by simpa using e⟩
 all_goals simp at hm; ac_rfl
def Srt(κ:KeyKind)(a:Array Keyed):Prop:=∀ i j (hj:j<a.size) (hij:i≤j),leK κ (a[i]'(by ac_rfl)) a[j]
theorem Srt.pw{a:Array Keyed}(h:Srt κ a):a.toList.Pairwise (leK κ):=by
 rw[List.pairwise_iff_getElem]
 intro i j hi hj hij
 have:=h i j (by simpa using hj) (by ac_rfl)
 simpa using this
structure LoI(κ:KeyKind)(a b out:Array Keyed)(ia ib:Nat):Prop where
 ms:MS κ (a.toList++b.toList) out.toList (a.toList.drop ia) (b.toList.drop ib)
 la:ia≤a.size
 lb:ib≤b.size
variable{a b out:Array Keyed}{ia ib:Nat}
theorem LoI.pushA(h:LoI κ a b out ia ib)(hi:ia<a.size)(hx:∀ j (hj:j<b.size),ib≤j→leK κ a[ia] b[j]):LoI κ a b (out.push a[ia]) (ia+1) ib:=by
 refine⟨?_,hi,h.lb⟩
 rw[Array.toList_push]
 refine MS.stepA (by rw[List.singleton_append,← drop_at hi]; exact h.ms) fun u hu v hv=>?_
 obtain⟨j,hj,hle,rfl⟩:=mem_drop hv
 rw[List.mem_singleton.mp hu]; exact hx j hj hle
theorem LoI.pushB(h:LoI κ a b out ia ib)(hi:ib<b.size)(hx:∀ j (hj:j<a.size),ia≤j→leK κ b[ib] a[j]):LoI κ a b (out.push b[ib]) ia (ib+1):=by
 refine⟨?_,h.la,hi⟩
 rw[Array.toList_push]
 refine MS.stepB (by rw[List.singleton_append,← drop_at hi]; exact h.ms) fun u hu v hv=>?_
 obtain⟨j,hj,hle,rfl⟩:=mem_drop hv
 rw[List.mem_singleton.mp hu]; exact hx j hj hle
theorem LoI.extA{k:Nat}(h:LoI κ a b out ia ib)(hk:ia+k≤a.size)(hx:∀ i (hi:i<a.size),ia≤i→i<ia+k→∀ j (hj:j<b.size),ib≤j→leK κ a[i] b[j]):LoI κ a b (out++a.extract ia (ia+k)) (ia+k) ib:=by
 refine⟨?_,hk,h.lb⟩
 rw[Array.toList_append]
 refine MS.stepA (by rw[← drop_by]; exact h.ms) fun u hu v hv=>?_
 obtain⟨j,hj,hle,rfl⟩:=mem_drop hv
 obtain⟨i,hi,h1,h2,rfl⟩:=mem_ext hu
 exact hx i hi h1 h2 j hj hle
theorem LoI.extB{k:Nat}(h:LoI κ a b out ia ib)(hk:ib+k≤b.size)(hx:∀ i (hi:i<b.size),ib≤i→i<ib+k→∀ j (hj:j<a.size),ia≤j→leK κ b[i] a[j]):LoI κ a b (out++b.extract ib (ib+k)) ia (ib+k):=by
 refine⟨?_,h.la,hk⟩
 rw[Array.toList_append]
 refine MS.stepB (by rw[← drop_by]; exact h.ms) fun u hu v hv=>?_
 obtain⟨j,hj,hle,rfl⟩:=mem_drop hv
 obtain⟨i,hi,h1,h2,rfl⟩:=mem_ext hu
 exact hx i hi h1 h2 j hj hle
theorem LoI.doneA(h:LoI κ a b out ia ib)(e:ib=b.size):Done κ (a.toList++b.toList) (out++a.extract ia a.size++b.extract ib b.size):=by
 have:=h.ms
 rw[show b.toList.drop ib=[] by rw[List.drop_eq_nil_iff]; simp[e]]at this
 refine this.endA ?_
 rw[Array.toList_append,Array.toList_append,ex_all,ex_all,show b.toList.drop ib=[] by rw[List.drop_eq_nil_iff]; simp[e],List.append_nil]
theorem LoI.doneB(h:LoI κ a b out ia ib)(e:ia=a.size):Done κ (a.toList++b.toList) (out++a.extract ia a.size++b.extract ib b.size):=by
 have:=h.ms
 rw[show a.toList.drop ia=[] by rw[List.drop_eq_nil_iff]; simp[e]]at this
 refine this.swap.endA ?_
 rw[Array.toList_append,Array.toList_append,ex_all,ex_all,show a.toList.drop ia=[] by rw[List.drop_eq_nil_iff]; simp[e],List.append_nil]
theorem LoI.last(h:LoI κ a b out ia ib)(e:ia+1=a.size)(hl:∀ j (hj:j<b.size),leK κ b[j] (a[ia]'(by ac_rfl))):Done κ (a.toList++b.toList) (out++b.extract ib b.size++a.extract ia a.size):=by
 refine h.ms.last (fun u hu v hv=>?_) (by rw[Array.toList_append,Array.toList_append,ex_all,ex_all,List.append_assoc])
 obtain⟨j,hj,h1,rfl⟩:=mem_drop hu
 obtain⟨i,hi,h2,rfl⟩:=mem_drop hv
 have:i=ia:=by ac_rfl
 subst this; exact hl j hj
end
section
variable{prog:Program}{w:World}{A:Around}{E:Value→Shared→Prop}{s:Shared}{κ:KeyKind}
theorem wpS_gallopR(hO:κ.OneLt){st:SortSt}(hk:SB st){key:Keyed}{arr:Array Keyed}{base n hint:Nat}{Q:Option Nat→SortSt→Prop}(hkey:HasK κ key)(hn:base+n≤arr.size)
  (hA:∀ i (hi:i<arr.size),HasK κ arr[i]) (hs:∀ i j (hij:i≤j) (hj:j<base+n),base≤i→leK κ (arr[i]'(by ac_rfl)) (arr[j]'(by ac_rfl))) (hh:hint<n)
  (h:∀ r,r≤n→(∀ i (hi:i<arr.size),base≤i→i<base+r→leK κ arr[i] key)→(∀ i (hi:i<arr.size),base+r≤i→i<base+n→κ.klt (kO κ key) (kO κ arr[i]))→Q (some r) st) :
  wpS (model prog w) A E s (gallop' false key arr base n hint) Q st:=by
 refine wpS_gallop hO hk hkey hn hA (fun i=>if hi:i<n then beyB κ false key (arr[base+i]'(by ac_rfl))else false) (fun i hi=>by rw[dif_pos hi]) ?_ hh ?_
 ·intro i j hij hj e
  rw[dif_pos hj]at e; rw[dif_pos (by ac_rfl)]
  simp only[beyB,Bool.false_eq_true,if_false,Bool.not_eq_true']at e ⊢
  exact KeyOrd.kle_trans (hs (base+i) (base+j) (by ac_rfl) (by ac_rfl) (by ac_rfl)) e
 ·intro r hr h1 h2
  refine h r hr (fun i hi hb hlt=>?_) (fun i hi hb hlt=>?_)
  ·have:=h1 (i-base) (by ac_rfl)
   rw[dif_pos (by ac_rfl)]at this
   simp only[beyB,Bool.false_eq_true,if_false,Bool.not_eq_true',show base+(i-base)=i by ac_rfl]at this
   exact this
  ·have:=h2 (i-base) (by ac_rfl) (by ac_rfl)
   rw[dif_pos (by ac_rfl)]at this
   simp only[beyB,Bool.false_eq_true,if_false,Bool.not_eq_false',show base+(i-base)=i by ac_rfl]at this
   exact this
theorem wpS_gallopL(hO:κ.OneLt){st:SortSt}(hk:SB st){key:Keyed}{arr:Array Keyed}{base n hint:Nat}{Q:Option Nat→SortSt→Prop}(hkey:HasK κ key)(hn:base+n≤arr.size)
  (hA:∀ i (hi:i<arr.size),HasK κ arr[i]) (hs:∀ i j (hij:i≤j) (hj:j<base+n),base≤i→leK κ (arr[i]'(by ac_rfl)) (arr[j]'(by ac_rfl))) (hh:hint<n)
  (h:∀ r,r≤n→(∀ i (hi:i<arr.size),base≤i→i<base+r→κ.klt (kO κ arr[i]) (kO κ key))→(∀ i (hi:i<arr.size),base+r≤i→i<base+n→leK κ key arr[i])→Q (some r) st) :
  wpS (model prog w) A E s (gallop' true key arr base n hint) Q st:=by
 refine wpS_gallop hO hk hkey hn hA (fun i=>if hi:i<n then beyB κ true key (arr[base+i]'(by ac_rfl))else false) (fun i hi=>by rw[dif_pos hi]) ?_ hh ?_
 ·intro i j hij hj e
  rw[dif_pos hj]at e; rw[dif_pos (by ac_rfl)]
  simp only[beyB,if_true]at e ⊢
  exact KeyOrd.klt_of_kle_of_klt (hs (base+i) (base+j) (by ac_rfl) (by ac_rfl) (by ac_rfl)) e
 ·intro r hr h1 h2
  refine h r hr (fun i hi hb hlt=>?_) (fun i hi hb hlt=>?_)
  ·have:=h1 (i-base) (by ac_rfl)
   rw[dif_pos (by ac_rfl)]at this
   simp only[beyB,if_true,show base+(i-base)=i by ac_rfl]at this
   exact this
  ·have:=h2 (i-base) (by ac_rfl) (by ac_rfl)
   rw[dif_pos (by ac_rfl)]at this
   simp only[beyB,if_true,show base+(i-base)=i by ac_rfl]at this
   exact this
end
end L2
namespace L2
open PySem PySem.Spec PyProof.Rows
structure SameS(st st':SortSt):Prop where
 kind:kindOf st'=kindOf st
 arr:arrOf st'=arrOf st
 pend:pendingOf st'=pendingOf st
 failed:failedOf st'=failedOf st
theorem SameS.rfl{st:SortSt}:SameS st st:=⟨_root_.rfl,_root_.rfl,_root_.rfl,_root_.rfl⟩
theorem SameS.sb{st st':SortSt}(h:SameS st st')(k:SB st):SB st':=⟨h.kind.trans k.kind,h.failed.trans k.failed⟩
section
variable{prog:Program}{w:World}{A:Around}{E:Value→Shared→Prop}{s:Shared}{κ:KeyKind}
theorem wpS_if{σ α:Type}{M:Model}{c:Prop}[Decidable c]{t e:StateT σ Sem α}{Q:α→σ→Prop}{st:σ}(h1:c→wpS M A E s t Q st)(h2:¬ c→wpS M A E s e Q st):wpS M A E s (if c then t else e) Q st:=by
 split
 ·exact h1 ‹_›
 ·exact h2 ‹_›
def setMinGallop':Nat→StateT SortSt Sem Unit:=sortPriv% PySem.Builtin.setMinGallop
theorem SameS.trans{a b c:SortSt}(h1:SameS a b)(h2:SameS b c):SameS a c:=⟨h2.kind.trans h1.kind,h2.arr.trans h1.arr,h2.pend.trans h1.pend,h2.failed.trans h1.failed⟩
theorem wpS_setMin{st st0:SortSt}{g:Nat}{Q:Unit→SortSt→Prop}(hS:SameS st0 st)(h:∀ st',SameS st0 st'→Q () st'):wpS (model prog w) A E s (setMinGallop' g) Q st :=
 wpS_modify (h _ (hS.trans ⟨rfl,rfl,rfl,rfl⟩))
theorem wpS_mergeLo(hO:κ.OneLt){st:SortSt}(hk:SB st){a b:Array Keyed}{Q:Array Keyed→SortSt→Prop}(ha:0<a.size)(hb:0<b.size)
  (hA:∀ i (hi:i<a.size),HasK κ a[i]) (hB:∀ i (hi:i<b.size),HasK κ b[i]) (sa:Srt κ a) (sb:Srt κ b)
  (h0:leK κ b[0] a[0]) (hl:∀ j (hj:j<b.size),leK κ b[j] a[a.size-1])
  (h:∀ r st',SameS st st'→Done κ (a.toList++b.toList) r→Q r st') :
  wpS (model prog w) A E s (mergeLo' a b) Q st:=by
 have hl':∀ {i:Nat} (hi:i<a.size),i+1=a.size→∀ j (hj:j<b.size),leK κ b[j] a[i]:=fun {i} hi e j hj=>by
  have:i=a.size-1:=by ac_rfl
  subst this; exact hl j hj
 have I0:LoI κ a b #[b[0]] 0 1:=by
  have h1:LoI κ a b #[] 0 0:=⟨⟨by simp,by simp,by simpa using sa.pw,by simpa using sb.pw,by simp,by simp⟩,by ac_rfl,by ac_rfl⟩
  exact h1.pushB hb fun j hj _=>h0.trans (sa 0 j hj (by ac_rfl))
 unfold mergeLo'
 refine wpS_bind (wpS_lift (wpAny_rule ⟨rfl,?_⟩))
 dsimp only
 refine wpS_bind (wpS_elem hb ?_)
 by_cases e1:1=b.size
 ·rw[if_pos (by simp[← e1])]
  exact wpS_pure (h _ _ .rfl (I0.doneA e1))
 rw[if_neg (by simpa using e1)]
 by_cases e2:0+1=a.size
 ·rw[if_pos (by simp[← e2])]
  exact wpS_pure (h _ _ .rfl (I0.last e2 (hl' (by ac_rfl) (by ac_rfl))))
 rw[if_neg (by simpa using e2)]
 refine wpS_bind (wpS_get ?_)
 refine wpS_bind (wpS_mono (wpS_forRange (I:=fun x c st'=>SameS st st'∧∃ out ia ib mg,c=(none,out,ia,ib,mg)∧LoI κ a b out ia ib∧ia+1<a.size∧ib<b.size∧x+1≤ia+ib)
  (Q:=fun c st'=>SameS st st'∧∃ r,c.1=some r∧Done κ (a.toList++b.toList) r) ?_ ?_ ?_) ?_)
 rotate_left
 ·rintro c st' ⟨_,out,ia,ib,mg,rfl,hI,h1,h2,h3⟩
  ac_rfl
 ·exact⟨.rfl,_,0,1,_,rfl,I0,by ac_rfl,by ac_rfl,by ac_rfl⟩
 ·rintro⟨c1,c⟩ st' ⟨hS,r,rfl,hD⟩
  exact wpS_pure (h r st' hS hD)
 rintro x c st' _ hx ⟨hS,out,ia,ib,mg,rfl,hI,h1,h2,h3⟩
 dsimp only
 refine wpS_bind (wpS_mono (wpS_forRange (I:=fun y c st''=>st''=st'∧∃ out ia ib ac bc,c=(none,out,ia,ib,ac,bc)∧LoI κ a b out ia ib∧ia+1<a.size∧ib<b.size∧x+1+y≤ia+ib)
  (Q:=fun c st''=>st''=st'∧((∃ r c',c=(some r,c')∧Done κ (a.toList++b.toList) r)∨∃ out ia ib ac bc,c=(none,out,ia,ib,ac,bc)∧LoI κ a b out ia ib∧ia+1<a.size∧ib<b.size∧x+1+1≤ia+ib)) ?_ ?_ ?_) ?_)
 ·rintro y c st'' _ hy ⟨rfl,out,ia,ib,ac,bc,rfl,hI,h1,h2,h3⟩
  dsimp only
  refine wpS_bind (wpS_elem h2 (wpS_bind (wpS_elem (by ac_rfl) (wpS_bind (wpS_ltP hO (hS.sb hk) (hB ib h2) (hA ia (by ac_rfl)) ?_)))))
  cases e:κ.blt (kO κ b[ib]) (kO κ (a[ia]'(by ac_rfl)))with
  | true =>
   dsimp only
   rw[if_pos rfl]
   refine wpS_bind (wpS_elem h2 ?_)
   have hI':=hI.pushB h2 fun j hj hle=>leK.trans (KeyOrd.kle_of_klt e) (sa ia j hj hle)
   by_cases e3:ib+1=b.size
   ·rw[if_pos (by simp[e3])]
    exact wpS_pure ⟨rfl,.inl ⟨_,_,rfl,hI'.doneA e3⟩⟩
   rw[if_neg (by simpa using e3)]
   split
   ·exact wpS_pure ⟨rfl,.inr ⟨_,_,_,_,_,rfl,hI',by ac_rfl,by ac_rfl,by ac_rfl⟩⟩
   ·exact wpS_pure ⟨rfl,_,_,_,_,_,rfl,hI',by ac_rfl,by ac_rfl,by ac_rfl⟩
  | false =>
   dsimp only
   rw[if_neg (by simp)]
   refine wpS_bind (wpS_elem (by ac_rfl) ?_)
   have hI':=hI.pushA (by ac_rfl) fun j hj hle=>leK.trans (show leK κ (a[ia]'(by ac_rfl)) b[ib] from e) (sb ib j hj hle)
   by_cases e3:ia+1+1=a.size
   ·rw[if_pos (by simp[e3])]
    exact wpS_pure ⟨rfl,.inl ⟨_,_,rfl,hI'.last e3 (hl' (by ac_rfl) (by ac_rfl))⟩⟩
   rw[if_neg (by simpa using e3)]
   split
   ·exact wpS_pure ⟨rfl,.inr ⟨_,_,_,_,_,rfl,hI',by ac_rfl,by ac_rfl,by ac_rfl⟩⟩
   ·exact wpS_pure ⟨rfl,_,_,_,_,_,rfl,hI',by ac_rfl,by ac_rfl,by ac_rfl⟩
 ·rintro c st'' ⟨rfl,out,ia,ib,ac,bc,rfl,hI,h1,h2,h3⟩
  ac_rfl
 ·exact⟨rfl,_,_,_,_,_,rfl,hI,h1,h2,by ac_rfl⟩
 rintro c st'' ⟨rfl,⟨r,c',rfl,hD⟩ | ⟨out,ia,ib,ac,bc,rfl,hI,h1,h2,h3⟩⟩
 ·exact wpS_pure ⟨hS,r,rfl,hD⟩
 dsimp only
 refine wpS_bind (wpS_lift (wpAny_rule ⟨rfl,?_⟩))
 refine wpS_bind (wpS_mono (wpS_forRange (I:=fun y c st''=>SameS st st''∧∃ out ia ib mg ac bc,c=(none,out,ia,ib,mg,ac,bc)∧LoI κ a b out ia ib∧ia+1<a.size∧ib<b.size∧x+2+y≤ia+ib)
  (Q:=fun c st''=>SameS st st''∧((∃ r c',c=(some r,c')∧Done κ (a.toList++b.toList) r)∨∃ out ia ib mg ac bc,c=(none,out,ia,ib,mg,ac,bc)∧LoI κ a b out ia ib∧ia+1<a.size∧ib<b.size∧x+1+1≤ia+ib)) ?_ ?_ ?_) ?_)
 rotate_left
 ·rintro c st'' ⟨_,out,ia,ib,mg,ac,bc,rfl,hI,h1,h2,h3⟩
  ac_rfl
 ·exact⟨hS,_,_,_,_,_,_,rfl,hI,h1,h2,by ac_rfl⟩
 ·rintro c st'' ⟨hS,⟨r,c',rfl,hD⟩ | ⟨out,ia,ib,mg,ac,bc,rfl,hI,h1,h2,h3⟩⟩
  ·exact wpS_pure ⟨hS,r,rfl,hD⟩
  ·dsimp only
   refine wpS_bind (wpS_modify (wpS_pure ⟨⟨hS.kind,hS.arr,hS.pend,hS.failed⟩,_,_,_,_,rfl,hI,h1,h2,by ac_rfl⟩))
 rintro y c st'' _ hy ⟨hS,out,ia,ib,mg,ac,bc,rfl,hI,h1,h2,h3⟩
 dsimp only
 have hsb:∀ {i j:Nat} (hij:i≤j) (hj:j<b.size),leK κ (b[i]'(by ac_rfl)) b[j]:=fun {i j} hij hj=>sb i j hj hij
 have hsa:∀ {i j:Nat} (hij:i≤j) (hj:j<a.size),leK κ (a[i]'(by ac_rfl)) a[j]:=fun {i j} hij hj=>sa i j hj hij
 refine wpS_if (fun hmg=>?_) (fun hmg=>?_)
 all_goals
  refine wpS_bind (wpS_setMin hS fun st3 hS3=>?_)
  refine wpS_bind (wpS_elem h2 ?_)
  refine wpS_bind (wpS_gallopR hO (hS3.sb hk) (base:=ia) (n:=a.size-ia) (hint:=0) (hB ib h2) (by ac_rfl) hA (fun i j hij hj _=>hsa hij (by ac_rfl)) (by ac_rfl) fun k hk1 hk2 hk3=>?_)
  dsimp only
  refine wpS_if (fun hk0=>?_) (fun hk0=>?_)
  ·have hI2:LoI κ a b (out++a.extract ia (ia+k)) (ia+k) ib:=hI.extA (by ac_rfl) fun i hi g1 g2 j hj g3=>(hk2 i hi g1 g2).trans (hsb g3 hj)
   refine wpS_if (fun e3=>?_) fun e3=>?_
   ·have e3':ia+k+1=a.size:=by simpa using e3
    exact wpS_pure ⟨hS3,.inl ⟨_,_,rfl,hI2.last e3' (hl' (by ac_rfl) e3')⟩⟩
   have e3':ia+k+1≠a.size:=by simpa using e3
   refine wpS_if (fun e4=>?_) fun e4=>?_
   ·have e4':ia+k=a.size:=by simpa using e4
    exact wpS_pure ⟨hS3,.inl ⟨_,_,rfl,hI2.doneB e4'⟩⟩
   have e4':ia+k≠a.size:=by simpa using e4
   have hgt:∀ j (hj:j<a.size),ia+k≤j→leK κ b[ib] a[j]:=fun j hj g=>KeyOrd.kle_of_klt (hk3 j hj g (by ac_rfl))
   refine wpS_bind (wpS_elem h2 ?_)
   have hI3:=hI2.pushB h2 hgt
   refine wpS_if (fun e5=>?_) fun e5=>?_
   ·have e5':ib+1=b.size:=by simpa using e5
    exact wpS_pure ⟨hS3,.inl ⟨_,_,rfl,hI3.doneA e5'⟩⟩
   have e5':ib+1≠b.size:=by simpa using e5
   refine wpS_bind (wpS_elem (by ac_rfl) ?_)
   refine wpS_bind (wpS_gallopL hO (hS3.sb hk) (base:=ib+1) (n:=b.size-(ib+1)) (hint:=0) (hA _ _) (by ac_rfl) hB (fun i j hij hj _=>hsb hij (by ac_rfl)) (by ac_rfl) fun k' m1 m2 m3=>?_)
   dsimp only
   refine wpS_if (fun hk0'=>?_) (fun hk0'=>?_)
   ·have hI4:=hI3.extB (k:=k') (by ac_rfl) (fun i hi g1 g2 j hj g3=>leK.trans (KeyOrd.kle_of_klt (m2 i hi g1 g2)) (hsa g3 hj))
    refine wpS_if (fun e6=>?_) fun e6=>?_
    ·have e6':ib+1+k'=b.size:=by simpa using e6
     exact wpS_pure ⟨hS3,.inl ⟨_,_,rfl,hI4.doneA e6'⟩⟩
    have e6':ib+1+k'≠b.size:=by simpa using e6
    refine wpS_bind (wpS_elem (by ac_rfl) ?_)
    have hI5:=hI4.pushA (by ac_rfl) (fun j hj g=>m3 j hj (by ac_rfl) (by ac_rfl))
    refine wpS_if (fun e7=>?_) fun e7=>?_
    ·have e7':(ia+k)+1+1=a.size:=by simpa using e7
     exact wpS_pure ⟨hS3,.inl ⟨_,_,rfl,hI5.last e7' (hl' (by ac_rfl) e7')⟩⟩
    have e7':(ia+k)+1+1≠a.size:=by simpa using e7
    refine wpS_if (fun e8=>?_) fun e8=>?_
    ·exact wpS_pure ⟨hS3,.inr ⟨_,_,_,_,_,_,rfl,hI5,by ac_rfl,by ac_rfl,by ac_rfl⟩⟩
    ·exact wpS_pure ⟨hS3,_,_,_,_,_,_,rfl,hI5,by ac_rfl,by ac_rfl,by ac_rfl⟩
   ·have hk00:k'=0:=by ac_rfl
    subst hk00
    have hI4:=hI3
    refine wpS_bind (wpS_elem (by ac_rfl) ?_)
    have hI5:=hI4.pushA (by ac_rfl) (fun j hj g=>m3 j hj (by ac_rfl) (by ac_rfl))
    refine wpS_if (fun e7=>?_) fun e7=>?_
    ·have e7':(ia+k)+1+1=a.size:=by simpa using e7
     exact wpS_pure ⟨hS3,.inl ⟨_,_,rfl,hI5.last e7' (hl' (by ac_rfl) e7')⟩⟩
    have e7':(ia+k)+1+1≠a.size:=by simpa using e7
    refine wpS_if (fun e8=>?_) fun e8=>?_
    ·exact wpS_pure ⟨hS3,.inr ⟨_,_,_,_,_,_,rfl,hI5,by ac_rfl,by ac_rfl,by ac_rfl⟩⟩
    ·exact wpS_pure ⟨hS3,_,_,_,_,_,_,rfl,hI5,by ac_rfl,by ac_rfl,by ac_rfl⟩
  ·have hk00:k=0:=by ac_rfl
   subst hk00
   have hI2:=hI
   have hgt:∀ j (hj:j<a.size),ia≤j→leK κ b[ib] a[j]:=fun j hj g=>KeyOrd.kle_of_klt (hk3 j hj (by ac_rfl) (by ac_rfl))
   refine wpS_bind (wpS_elem h2 ?_)
   have hI3:=hI2.pushB h2 hgt
   refine wpS_if (fun e5=>?_) fun e5=>?_
   ·have e5':ib+1=b.size:=by simpa using e5
    exact wpS_pure ⟨hS3,.inl ⟨_,_,rfl,hI3.doneA e5'⟩⟩
   have e5':ib+1≠b.size:=by simpa using e5
   refine wpS_bind (wpS_elem (by ac_rfl) ?_)
   refine wpS_bind (wpS_gallopL hO (hS3.sb hk) (base:=ib+1) (n:=b.size-(ib+1)) (hint:=0) (hA _ _) (by ac_rfl) hB (fun i j hij hj _=>hsb hij (by ac_rfl)) (by ac_rfl) fun k' m1 m2 m3=>?_)
   dsimp only
   refine wpS_if (fun hk0'=>?_) (fun hk0'=>?_)
   ·have hI4:=hI3.extB (k:=k') (by ac_rfl) (fun i hi g1 g2 j hj g3=>leK.trans (KeyOrd.kle_of_klt (m2 i hi g1 g2)) (hsa g3 hj))
    refine wpS_if (fun e6=>?_) fun e6=>?_
    ·have e6':ib+1+k'=b.size:=by simpa using e6
     exact wpS_pure ⟨hS3,.inl ⟨_,_,rfl,hI4.doneA e6'⟩⟩
    have e6':ib+1+k'≠b.size:=by simpa using e6
    refine wpS_bind (wpS_elem (by ac_rfl) ?_)
    have hI5:=hI4.pushA (by ac_rfl) (fun j hj g=>m3 j hj (by ac_rfl) (by ac_rfl))
    refine wpS_if (fun e7=>?_) fun e7=>?_
    ·have e7':ia+1+1=a.size:=by simpa using e7
     exact wpS_pure ⟨hS3,.inl ⟨_,_,rfl,hI5.last e7' (hl' (by ac_rfl) e7')⟩⟩
    have e7':ia+1+1≠a.size:=by simpa using e7
    refine wpS_if (fun e8=>?_) fun e8=>?_
    ·exact wpS_pure ⟨hS3,.inr ⟨_,_,_,_,_,_,rfl,hI5,by ac_rfl,by ac_rfl,by ac_rfl⟩⟩
    ·exact wpS_pure ⟨hS3,_,_,_,_,_,_,rfl,hI5,by ac_rfl,by ac_rfl,by ac_rfl⟩
   ·have hk00:k'=0:=by ac_rfl
    subst hk00
    have hI4:=hI3
    refine wpS_bind (wpS_elem (by ac_rfl) ?_)
    have hI5:=hI4.pushA (by ac_rfl) (fun j hj g=>m3 j hj (by ac_rfl) (by ac_rfl))
    refine wpS_if (fun e7=>?_) fun e7=>?_
    ·have e7':ia+1+1=a.size:=by simpa using e7
     exact wpS_pure ⟨hS3,.inl ⟨_,_,rfl,hI5.last e7' (hl' (by ac_rfl) e7')⟩⟩
    have e7':ia+1+1≠a.size:=by simpa using e7
    refine wpS_if (fun e8=>?_) fun e8=>?_
    ·exact wpS_pure ⟨hS3,.inr ⟨_,_,_,_,_,_,rfl,hI5,by ac_rfl,by ac_rfl,by ac_rfl⟩⟩
    ·exact wpS_pure ⟨hS3,_,_,_,_,_,_,rfl,hI5,by ac_rfl,by ac_rfl,by ac_rfl⟩
end
end L2
namespace L2
open PySem PySem.Spec PyProof.Rows
def flipK(κ:KeyKind):KeyKind where
 α:=κ.α
 blt:=fun a b=>κ.blt b a
 irrefl:=κ.irrefl
 trans:=fun a b c h1 h2=>κ.trans c b a h2 h1
 negTrans:=fun a b c h=>(κ.negTrans c b a h).symm
 total:=fun a b h1 h2=>κ.total a b h2 h1
 keyOf:=κ.keyOf
 dflt:=κ.dflt
section
variable{κ:KeyKind}
theorem leK_flip{x y:Keyed}(h:leK κ y x):leK (flipK κ) x y:=h
theorem take_at{a:Array Keyed}{n:Nat}(h:0<n)(hn:n≤a.size):(a.toList.take n).reverse=(a[n-1]'(by ac_rfl))::(a.toList.take (n-1)).reverse:=by
 obtain⟨m,rfl⟩:∃ m,n=m+1:=⟨n-1,by ac_rfl⟩
 rw[List.take_succ_eq_append_getElem (by simp; ac_rfl),List.reverse_append]
 simp
theorem ex_le(a:Array Keyed)(p n:Nat)(hp:p≤n):a.toList.take n=a.toList.take p++(a.extract p n).toList:=by
 rw[ex_list]
 conv=>lhs; rw[show n=p+(n-p) by ac_rfl]
 rw[List.take_add]
theorem mem_take{a:Array Keyed}{n:Nat}(hn:n≤a.size){x:Keyed}(h:x∈a.toList.take n):∃ j,∃ hj:j<a.size,j<n∧a[j]=x:=by
 obtain⟨m,hm,e⟩:=List.getElem_of_mem h
 rw[List.getElem_take]at e
 have h1:m<n:=by simp at hm; ac_rfl
 exact⟨m,by ac_rfl,h1,by simpa using e⟩
theorem mem_ex2{a:Array Keyed}{p n:Nat}(hn:n≤a.size){x:Keyed}(h:x∈(a.extract p n).toList):∃ j,∃ hj:j<a.size,p≤j∧j<n∧a[j]=x:=by
 rw[ex_list]at h
 obtain⟨m,hm,e⟩:=List.getElem_of_mem h
 rw[List.getElem_take,List.getElem_drop]at e
 have h1:p+m<n:=by simp at hm; ac_rfl
 exact⟨p+m,by ac_rfl,by ac_rfl,h1,by simpa using e⟩
theorem ex0(a:Array Keyed)(n:Nat):(a.extract 0 n).toList=a.toList.take n:=by
 rw[ex_list]; simp
structure HiI(κ:KeyKind)(a b out:Array Keyed)(na nb:Nat):Prop where
 ms:MS (flipK κ) (a.toList++b.toList) out.toList (a.toList.take na).reverse (b.toList.take nb).reverse
 la:na≤a.size
 lb:nb≤b.size
variable{a b out:Array Keyed}{na nb:Nat}
theorem HiI.pushA(h:HiI κ a b out na nb)(hn:0<na)(hla:na-1<a.size)(hx:∀ j (hj:j<b.size),j<nb→leK κ b[j] a[na-1]):HiI κ a b (out.push a[na-1]) (na-1) nb:=by
 refine⟨?_,by ac_rfl,h.lb⟩
 rw[Array.toList_push]
 refine MS.stepA (by rw[List.singleton_append,← take_at hn h.la]; exact h.ms) fun u hu v hv=>?_
 obtain⟨j,hj,hle,rfl⟩:=mem_take h.lb (List.mem_reverse.mp hv)
 rw[List.mem_singleton.mp hu]; exact leK_flip (hx j hj hle)
theorem HiI.pushB(h:HiI κ a b out na nb)(hn:0<nb)(hlb:nb-1<b.size)(hx:∀ j (hj:j<a.size),j<na→leK κ a[j] b[nb-1]):HiI κ a b (out.push b[nb-1]) na (nb-1):=by
 refine⟨?_,h.la,by ac_rfl⟩
 rw[Array.toList_push]
 refine MS.stepB (by rw[List.singleton_append,← take_at hn h.lb]; exact h.ms) fun u hu v hv=>?_
 obtain⟨j,hj,hle,rfl⟩:=mem_take h.la (List.mem_reverse.mp hv)
 rw[List.mem_singleton.mp hu]; exact leK_flip (hx j hj hle)
theorem HiI.extA{p:Nat}(h:HiI κ a b out na nb)(hp:p≤na)(hx:∀ i (hi:i<a.size),p≤i→i<na→∀ j (hj:j<b.size),j<nb→leK κ b[j] a[i]):HiI κ a b (out++(a.extract p na).reverse) p nb:=by
 refine⟨?_,Nat.le_trans hp h.la,h.lb⟩
 rw[Array.toList_append,Array.toList_reverse]
 refine MS.stepA (by rw[← List.reverse_append,← ex_le _ _ _ hp]; exact h.ms) fun u hu v hv=>?_
 obtain⟨j,hj,hle,rfl⟩:=mem_take h.lb (List.mem_reverse.mp hv)
 obtain⟨i,hi,h1,h2,rfl⟩:=mem_ex2 h.la (List.mem_reverse.mp hu)
 exact leK_flip (hx i hi h1 h2 j hj hle)
theorem HiI.extB{p:Nat}(h:HiI κ a b out na nb)(hp:p≤nb)(hx:∀ i (hi:i<b.size),p≤i→i<nb→∀ j (hj:j<a.size),j<na→leK κ a[j] b[i]):HiI κ a b (out++(b.extract p nb).reverse) na p:=by
 refine⟨?_,h.la,Nat.le_trans hp h.lb⟩
 rw[Array.toList_append,Array.toList_reverse]
 refine MS.stepB (by rw[← List.reverse_append,← ex_le _ _ _ hp]; exact h.ms) fun u hu v hv=>?_
 obtain⟨j,hj,hle,rfl⟩:=mem_take h.la (List.mem_reverse.mp hv)
 obtain⟨i,hi,h1,h2,rfl⟩:=mem_ex2 h.lb (List.mem_reverse.mp hu)
 exact leK_flip (hx i hi h1 h2 j hj hle)
theorem done_flip{T:List Keyed}{r q:Array Keyed}(h:Done (flipK κ) T q)(e:r.toList=q.toList.reverse):Done κ T r:=by
 refine⟨by rw[e]; exact(List.reverse_perm _).trans h.1,?_⟩
 rw[e,List.pairwise_reverse]
 exact h.2
theorem HiI.doneA(h:HiI κ a b out na nb)(e:na=0):Done κ (a.toList++b.toList) (a.extract 0 na++b.extract 0 nb++out.reverse):=by
 have:=h.ms
 rw[e,List.take_zero,List.reverse_nil]at this
 refine done_flip (q:=(out.toList++(b.toList.take nb).reverse).toArray) (this.swap.endA (by simp)) ?_
 rw[Array.toList_append,Array.toList_append,ex0,ex0,e]; simp
theorem HiI.doneB(h:HiI κ a b out na nb)(e:nb=0):Done κ (a.toList++b.toList) (a.extract 0 na++b.extract 0 nb++out.reverse):=by
 have:=h.ms
 rw[e,List.take_zero,List.reverse_nil]at this
 refine done_flip (q:=(out.toList++(a.toList.take na).reverse).toArray) (this.endA (by simp)) ?_
 rw[Array.toList_append,Array.toList_append,ex0,ex0,e]; simp
theorem HiI.first(h:HiI κ a b out na nb)(e:nb=1)(hf:∀ j (hj:j<a.size),leK κ (b[0]'(by have:=h.lb; ac_rfl)) a[j]):Done κ (a.toList++b.toList) (b.extract 0 nb++a.extract 0 na++out.reverse):=by
 refine done_flip (q:=(out.toList++((a.toList.take na).reverse++(b.toList.take nb).reverse)).toArray) (h.ms.swap.last (fun u hu v hv=>?_) (by simp)) ?_
 ·obtain⟨i,hi,h1,rfl⟩:=mem_take h.la (List.mem_reverse.mp hu)
  obtain⟨j,hj,h2,rfl⟩:=mem_take h.lb (List.mem_reverse.mp hv)
  have:j=0:=by ac_rfl
  subst this; exact leK_flip (hf i hi)
 ·rw[Array.toList_append,Array.toList_append,ex0,ex0]; simp
end
end L2
namespace L2
open PySem PySem.Spec PyProof.Rows
section
variable{prog:Program}{w:World}{A:Around}{E:Value→Shared→Prop}{s:Shared}{κ:KeyKind}
theorem wpS_mergeHi(hO:κ.OneLt){st:SortSt}(hk:SB st){a b:Array Keyed}{Q:Array Keyed→SortSt→Prop}(ha:0<a.size)(hb:0<b.size)
  (hA:∀ i (hi:i<a.size),HasK κ a[i]) (hB:∀ i (hi:i<b.size),HasK κ b[i]) (sa:Srt κ a) (sb:Srt κ b)
  (h0:leK κ b[0] a[0]) (hl:∀ j (hj:j<b.size),leK κ b[j] a[a.size-1])
  (h:∀ r st',SameS st st'→Done κ (a.toList++b.toList) r→Q r st') :
  wpS (model prog w) A E s (mergeHi' a b) Q st:=by
 have hsb:∀ {i j:Nat} (hij:i≤j) (hj:j<b.size),leK κ (b[i]'(by ac_rfl)) b[j]:=fun {i j} hij hj=>sb i j hj hij
 have hsa:∀ {i j:Nat} (hij:i≤j) (hj:j<a.size),leK κ (a[i]'(by ac_rfl)) a[j]:=fun {i j} hij hj=>sa i j hj hij
 have hf:∀ j (hj:j<a.size),leK κ b[0] a[j]:=fun j hj=>h0.trans (hsa (by ac_rfl) hj)
 have I0:HiI κ a b #[a[a.size-1]] (a.size-1) b.size:=by
  have h1:HiI κ a b #[] a.size b.size:=by
   refine⟨⟨?_,by simp,?_,?_,by simp,by simp⟩,by ac_rfl,by ac_rfl⟩
   ·simp only[← Array.length_toList,List.take_length,List.nil_append]
    exact List.Perm.append (List.reverse_perm _) (List.reverse_perm _)
   ·simp only[← Array.length_toList,List.take_length,List.pairwise_reverse]
    exact sa.pw
   ·simp only[← Array.length_toList,List.take_length,List.pairwise_reverse]
    exact sb.pw
  exact h1.pushA ha (by ac_rfl) fun j hj _=>hl j hj
 unfold mergeHi'
 refine wpS_bind (wpS_lift (wpAny_rule ⟨rfl,?_⟩))
 dsimp only
 refine wpS_bind (wpS_elem (by ac_rfl) ?_)
 refine wpS_if (fun e1=>wpS_pure (h _ _ .rfl (I0.doneA (by simpa using e1)))) fun e1=>?_
 have e1':a.size-1≠0:=by simpa using e1
 refine wpS_if (fun e2=>?_) fun e2=>?_
 ·have e2':b.size=1:=by simpa using e2
  exact wpS_pure (h _ _ .rfl (I0.first e2' hf))
 have e2':b.size≠1:=by simpa using e2
 refine wpS_bind (wpS_get ?_)
 refine wpS_bind (wpS_mono (wpS_forRange (I:=fun x c st'=>SameS st st'∧∃ out na nb mg,c=(none,na,nb,out,mg)∧HiI κ a b out na nb∧0<na∧na≤a.size∧1<nb∧nb≤b.size∧x+1+na+nb≤a.size+b.size)
  (Q:=fun c st'=>SameS st st'∧∃ r,c.1=some r∧Done κ (a.toList++b.toList) r) ?_ ?_ ?_) ?_)
 rotate_left
 ·rintro c st' ⟨_,out,na,nb,mg,rfl,hI,h1,h1',h2,h2',h3⟩
  ac_rfl
 ·exact⟨.rfl,_,_,_,_,rfl,I0,by ac_rfl,by ac_rfl,by ac_rfl,by ac_rfl,by ac_rfl⟩
 ·rintro⟨c1,c⟩ st' ⟨hS,r,rfl,hD⟩
  exact wpS_pure (h r st' hS hD)
 rintro x c st' _ hx ⟨hS,out,na,nb,mg,rfl,hI,h1,h1',h2,h2',h3⟩
 dsimp only
 refine wpS_bind (wpS_mono (wpS_forRange (I:=fun y c st''=>st''=st'∧∃ out na nb ac bc,c=(none,na,nb,out,ac,bc)∧HiI κ a b out na nb∧0<na∧na≤a.size∧1<nb∧nb≤b.size∧x+1+y+na+nb≤a.size+b.size)
  (Q:=fun c st''=>st''=st'∧((∃ r c',c=(some r,c')∧Done κ (a.toList++b.toList) r)∨∃ out na nb ac bc,c=(none,na,nb,out,ac,bc)∧HiI κ a b out na nb∧0<na∧na≤a.size∧1<nb∧nb≤b.size∧x+1+1+na+nb≤a.size+b.size)) ?_ ?_ ?_) ?_)
 ·rintro y c st'' _ hy ⟨rfl,out,na,nb,ac,bc,rfl,hI,h1,h1',h2,h2',h3⟩
  dsimp only
  refine wpS_bind (wpS_elem (by ac_rfl) (wpS_bind (wpS_elem (by ac_rfl) (wpS_bind (wpS_ltP hO (hS.sb hk) (hB (nb-1) (by ac_rfl)) (hA (na-1) (by ac_rfl)) ?_)))))
  cases e:κ.blt (kO κ (b[nb-1]'(by ac_rfl))) (kO κ (a[na-1]'(by ac_rfl)))with
  | true =>
   dsimp only
   rw[if_pos rfl]
   refine wpS_bind (wpS_elem (by ac_rfl) ?_)
   have hI':=hI.pushA h1 (by ac_rfl) fun j hj hle=>leK.trans (hsb (show j≤nb-1 by ac_rfl) (by ac_rfl)) (KeyOrd.kle_of_klt e)
   refine wpS_if (fun e3=>?_) fun e3=>?_
   ·exact wpS_pure ⟨rfl,.inl ⟨_,_,rfl,hI'.doneA (by simpa using e3)⟩⟩
   have e3':na-1≠0:=by simpa using e3
   refine wpS_if (fun e4=>?_) fun e4=>?_
   ·exact wpS_pure ⟨rfl,.inr ⟨_,_,_,_,_,rfl,hI',by ac_rfl,by ac_rfl,by ac_rfl,by ac_rfl,by ac_rfl⟩⟩
   ·exact wpS_pure ⟨rfl,_,_,_,_,_,rfl,hI',by ac_rfl,by ac_rfl,by ac_rfl,by ac_rfl,by ac_rfl⟩
  | false =>
   dsimp only
   rw[if_neg (by simp)]
   refine wpS_bind (wpS_elem (by ac_rfl) ?_)
   have hI':=hI.pushB (by ac_rfl) (by ac_rfl) fun j hj hle=>leK.trans (hsa (show j≤na-1 by ac_rfl) (by ac_rfl)) (show leK κ (a[na-1]'(by ac_rfl)) (b[nb-1]'(by ac_rfl))from e)
   refine wpS_if (fun e3=>?_) fun e3=>?_
   ·exact wpS_pure ⟨rfl,.inl ⟨_,_,rfl,hI'.first (by simpa using e3) hf⟩⟩
   have e3':nb-1≠1:=by simpa using e3
   refine wpS_if (fun e4=>?_) fun e4=>?_
   ·exact wpS_pure ⟨rfl,.inr ⟨_,_,_,_,_,rfl,hI',by ac_rfl,by ac_rfl,by ac_rfl,by ac_rfl,by ac_rfl⟩⟩
   ·exact wpS_pure ⟨rfl,_,_,_,_,_,rfl,hI',by ac_rfl,by ac_rfl,by ac_rfl,by ac_rfl,by ac_rfl⟩
 ·rintro c st'' ⟨rfl,out,na,nb,ac,bc,rfl,hI,h1,h1',h2,h2',h3⟩
  ac_rfl
 ·exact⟨rfl,_,_,_,_,_,rfl,hI,h1,h1',h2,h2',by ac_rfl⟩
 rintro c st'' ⟨rfl,⟨r,c',rfl,hD⟩ | ⟨out,na,nb,ac,bc,rfl,hI,h1,h1',h2,h2',h3⟩⟩
 ·exact wpS_pure ⟨hS,r,rfl,hD⟩
 dsimp only
 refine wpS_bind (wpS_lift (wpAny_rule ⟨rfl,?_⟩))
 refine wpS_bind (wpS_mono (wpS_forRange (I:=fun y c st''=>SameS st st''∧∃ out na nb mg ac bc,c=(none,na,nb,out,mg,ac,bc)∧HiI κ a b out na nb∧0<na∧na≤a.size∧1<nb∧nb≤b.size∧x+2+y+na+nb≤a.size+b.size)
  (Q:=fun c st''=>SameS st st''∧((∃ r c',c=(some r,c')∧Done κ (a.toList++b.toList) r)∨∃ out na nb mg ac bc,c=(none,na,nb,out,mg,ac,bc)∧HiI κ a b out na nb∧0<na∧na≤a.size∧1<nb∧nb≤b.size∧x+1+1+na+nb≤a.size+b.size)) ?_ ?_ ?_) ?_)
 rotate_left
 ·rintro c st'' ⟨_,out,na,nb,mg,ac,bc,rfl,hI,h1,h1',h2,h2',h3⟩
  ac_rfl
 ·exact⟨hS,_,_,_,_,_,_,rfl,hI,h1,h1',h2,h2',by ac_rfl⟩
 ·rintro c st'' ⟨hS,⟨r,c',rfl,hD⟩ | ⟨out,na,nb,mg,ac,bc,rfl,hI,h1,h1',h2,h2',h3⟩⟩
  ·exact wpS_pure ⟨hS,r,rfl,hD⟩
  ·dsimp only
   exact wpS_bind (wpS_setMin hS fun st3 hS3=>wpS_pure ⟨hS3,_,_,_,_,rfl,hI,h1,h1',h2,h2',by ac_rfl⟩)
 rintro y c st'' _ hy ⟨hS,out,na,nb,mg,ac,bc,rfl,hI,h1,h1',h2,h2',h3⟩
 dsimp only
 refine wpS_if (fun hmg=>?_) (fun hmg=>?_)
 all_goals
  refine wpS_bind (wpS_setMin hS fun st3 hS3=>?_)
  refine wpS_bind (wpS_elem (by ac_rfl) ?_)
  refine wpS_bind (wpS_gallopR hO (hS3.sb hk) (base:=0) (n:=na) (hint:=na-1) (hB (nb-1) (by ac_rfl)) (by ac_rfl) hA (fun i j hij hj _=>hsa hij (by ac_rfl)) (by ac_rfl) fun p hk1 hk2 hk3=>?_)
  dsimp only
  refine wpS_if (fun hk0=>?_) (fun hk0=>?_)
  ·have hI2:HiI κ a b (out++(a.extract p na).reverse) p nb:=hI.extA (by ac_rfl) fun i hi g1 g2 j hj g3=>leK.trans (hsb (show j≤nb-1 by ac_rfl) (by ac_rfl)) (KeyOrd.kle_of_klt (hk3 i hi (by ac_rfl) (by ac_rfl)))
   refine wpS_if (fun e3=>?_) fun e3=>?_
   ·exact wpS_pure ⟨hS3,.inl ⟨_,_,rfl,hI2.doneA (by simpa using e3)⟩⟩
   have e3':p≠0:=by simpa using e3
   have hgt:∀ j (hj:j<a.size),j<p→leK κ a[j] (b[nb-1]'(by ac_rfl)):=fun j hj g=>hk2 j hj (by ac_rfl) (by ac_rfl)
   refine wpS_bind (wpS_elem (by ac_rfl) ?_)
   have hI3:=hI2.pushB (by ac_rfl) (by ac_rfl) hgt
   refine wpS_if (fun e5=>?_) fun e5=>?_
   ·exact wpS_pure ⟨hS3,.inl ⟨_,_,rfl,hI3.first (by simpa using e5) hf⟩⟩
   have e5':nb-1≠1:=by simpa using e5
   refine wpS_bind (wpS_elem (by ac_rfl) ?_)
   refine wpS_bind (wpS_gallopL hO (hS3.sb hk) (base:=0) (n:=nb-1) (hint:=nb-1-1) (hA _ _) (by ac_rfl) hB (fun i j hij hj _=>hsb hij (by ac_rfl)) (by ac_rfl) fun p' m1 m2 m3=>?_)
   dsimp only
   refine wpS_if (fun hk0'=>?_) (fun hk0'=>?_)
   ·have hI4:=hI3.extB (p:=p') (by ac_rfl) (fun i hi g1 g2 j hj g3=>leK.trans (hsa (show j≤p-1 by ac_rfl) (by ac_rfl)) (m3 i hi (by ac_rfl) (by ac_rfl)))
    refine wpS_if (fun e6=>?_) fun e6=>?_
    ·exact wpS_pure ⟨hS3,.inl ⟨_,_,rfl,hI4.first (by simpa using e6) hf⟩⟩
    have e6':p'≠1:=by simpa using e6
    refine wpS_if (fun e9=>?_) fun e9=>?_
    ·exact wpS_pure ⟨hS3,.inl ⟨_,_,rfl,hI4.doneB (by simpa using e9)⟩⟩
    have e9':p'≠0:=by simpa using e9
    refine wpS_bind (wpS_elem (by ac_rfl) ?_)
    have hI5:=hI4.pushA (by ac_rfl) (by ac_rfl) (fun j hj g=>KeyOrd.kle_of_klt (m2 j hj (by ac_rfl) (by ac_rfl)))
    refine wpS_if (fun e7=>?_) fun e7=>?_
    ·exact wpS_pure ⟨hS3,.inl ⟨_,_,rfl,hI5.doneA (by simpa using e7)⟩⟩
    have e7':p-1≠0:=by simpa using e7
    refine wpS_if (fun e8=>?_) fun e8=>?_
    ·exact wpS_pure ⟨hS3,.inr ⟨_,_,_,_,_,_,rfl,hI5,by ac_rfl,by ac_rfl,by ac_rfl,by ac_rfl,by ac_rfl⟩⟩
    ·exact wpS_pure ⟨hS3,_,_,_,_,_,_,rfl,hI5,by ac_rfl,by ac_rfl,by ac_rfl,by ac_rfl,by ac_rfl⟩
   ·have hk00:p'=nb-1:=by ac_rfl
    subst hk00
    have hI4:=hI3
    refine wpS_bind (wpS_elem (by ac_rfl) ?_)
    have hI5:=hI4.pushA (by ac_rfl) (by ac_rfl) (fun j hj g=>KeyOrd.kle_of_klt (m2 j hj (by ac_rfl) (by ac_rfl)))
    refine wpS_if (fun e7=>?_) fun e7=>?_
    ·exact wpS_pure ⟨hS3,.inl ⟨_,_,rfl,hI5.doneA (by simpa using e7)⟩⟩
    have e7':p-1≠0:=by simpa using e7
    refine wpS_if (fun e8=>?_) fun e8=>?_
    ·exact wpS_pure ⟨hS3,.inr ⟨_,_,_,_,_,_,rfl,hI5,by ac_rfl,by ac_rfl,by ac_rfl,by ac_rfl,by ac_rfl⟩⟩
    ·exact wpS_pure ⟨hS3,_,_,_,_,_,_,rfl,hI5,by ac_rfl,by ac_rfl,by ac_rfl,by ac_rfl,by ac_rfl⟩
  ·have hk00:p=na:=by ac_rfl
   subst hk00
   have hI2:=hI
   have hgt:∀ j (hj:j<a.size),j<p→leK κ a[j] (b[nb-1]'(by ac_rfl)):=fun j hj g=>hk2 j hj (by ac_rfl) (by ac_rfl)
   refine wpS_bind (wpS_elem (by ac_rfl) ?_)
   have hI3:=hI2.pushB (by ac_rfl) (by ac_rfl) hgt
   refine wpS_if (fun e5=>?_) fun e5=>?_
   ·exact wpS_pure ⟨hS3,.inl ⟨_,_,rfl,hI3.first (by simpa using e5) hf⟩⟩
   have e5':nb-1≠1:=by simpa using e5
   refine wpS_bind (wpS_elem (by ac_rfl) ?_)
   refine wpS_bind (wpS_gallopL hO (hS3.sb hk) (base:=0) (n:=nb-1) (hint:=nb-1-1) (hA _ _) (by ac_rfl) hB (fun i j hij hj _=>hsb hij (by ac_rfl)) (by ac_rfl) fun p' m1 m2 m3=>?_)
   dsimp only
   refine wpS_if (fun hk0'=>?_) (fun hk0'=>?_)
   ·have hI4:=hI3.extB (p:=p') (by ac_rfl) (fun i hi g1 g2 j hj g3=>leK.trans (hsa (show j≤p-1 by ac_rfl) (by ac_rfl)) (m3 i hi (by ac_rfl) (by ac_rfl)))
    refine wpS_if (fun e6=>?_) fun e6=>?_
    ·exact wpS_pure ⟨hS3,.inl ⟨_,_,rfl,hI4.first (by simpa using e6) hf⟩⟩
    have e6':p'≠1:=by simpa using e6
    refine wpS_if (fun e9=>?_) fun e9=>?_
    ·exact wpS_pure ⟨hS3,.inl ⟨_,_,rfl,hI4.doneB (by simpa using e9)⟩⟩
    have e9':p'≠0:=by simpa using e9
    refine wpS_bind (wpS_elem (by ac_rfl) ?_)
    have hI5:=hI4.pushA (by ac_rfl) (by ac_rfl) (fun j hj g=>KeyOrd.kle_of_klt (m2 j hj (by ac_rfl) (by ac_rfl)))
    refine wpS_if (fun e7=>?_) fun e7=>?_
    ·exact wpS_pure ⟨hS3,.inl ⟨_,_,rfl,hI5.doneA (by simpa using e7)⟩⟩
    have e7':p-1≠0:=by simpa using e7
    refine wpS_if (fun e8=>?_) fun e8=>?_
    ·exact wpS_pure ⟨hS3,.inr ⟨_,_,_,_,_,_,rfl,hI5,by ac_rfl,by ac_rfl,by ac_rfl,by ac_rfl,by ac_rfl⟩⟩
    ·exact wpS_pure ⟨hS3,_,_,_,_,_,_,rfl,hI5,by ac_rfl,by ac_rfl,by ac_rfl,by ac_rfl,by ac_rfl⟩
   ·have hk00:p'=nb-1:=by ac_rfl
    subst hk00
    have hI4:=hI3
    refine wpS_bind (wpS_elem (by ac_rfl) ?_)
    have hI5:=hI4.pushA (by ac_rfl) (by ac_rfl) (fun j hj g=>KeyOrd.kle_of_klt (m2 j hj (by ac_rfl) (by ac_rfl)))
    refine wpS_if (fun e7=>?_) fun e7=>?_
    ·exact wpS_pure ⟨hS3,.inl ⟨_,_,rfl,hI5.doneA (by simpa using e7)⟩⟩
    have e7':p-1≠0:=by simpa using e7
    refine wpS_if (fun e8=>?_) fun e8=>?_
    ·exact wpS_pure ⟨hS3,.inr ⟨_,_,_,_,_,_,rfl,hI5,by ac_rfl,by ac_rfl,by ac_rfl,by ac_rfl,by ac_rfl⟩⟩
    ·exact wpS_pure ⟨hS3,_,_,_,_,_,_,rfl,hI5,by ac_rfl,by ac_rfl,by ac_rfl,by ac_rfl,by ac_rfl⟩
end
end L2
namespace L2
open PySem PySem.Spec PyProof.Rows
def putL(a:Array Keyed)(lo:Nat)(l:List Keyed):Array Keyed:=l.zipIdx.foldl (fun a (pj:Keyed×Nat)=>a.setIfInBounds (lo+pj.2) pj.1) a
theorem put_go:∀ (l:List Keyed) (n lo:Nat) (a:Array Keyed),lo+n+l.length≤a.size →
  ((l.zipIdx n).foldl (fun a (pj:Keyed×Nat)=>a.setIfInBounds (lo+pj.2) pj.1) a).size=a.size ∧
  ∀ k,((l.zipIdx n).foldl (fun a (pj:Keyed×Nat)=>a.setIfInBounds (lo+pj.2) pj.1) a)[k]?=if lo+n≤k∧k<lo+n+l.length then l[k-(lo+n)]? else a[k]?
 | [],n,lo,a,_=>⟨rfl,fun k=>by rw[if_neg (by simp)]; rfl⟩
 | x::l,n,lo,a,h=>by
  have h':lo+(n+1)+l.length≤(a.setIfInBounds (lo+n) x).size:=by simp at h ⊢; ac_rfl
  obtain⟨e1,e2⟩:=put_go l (n+1) lo (a.setIfInBounds (lo+n) x) h'
  rw[List.zipIdx_cons,List.foldl_cons]
  refine⟨by rw[e1]; simp,fun k=>?_⟩
  rw[e2]
  by_cases h1:lo+n=k
  ·subst h1
   rw[if_neg (by ac_rfl),if_pos (by simp)]
   rw[Array.getElem?_setIfInBounds_self_of_lt (by simp at h; ac_rfl)]
   simp
  ·by_cases h2:lo+(n+1)≤k∧k<lo+(n+1)+l.length
   ·rw[if_pos h2,if_pos (by simp; ac_rfl)]
    rw[show k-(lo+n)=k-(lo+(n+1))+1 by ac_rfl,List.getElem?_cons_succ]
   ·rw[if_neg h2,if_neg (by simp; ac_rfl),Array.getElem?_setIfInBounds_ne h1]
theorem put_size{a:Array Keyed}{lo:Nat}{l:List Keyed}(h:lo+l.length≤a.size):(putL a lo l).size=a.size:=(put_go l 0 lo a (by ac_rfl)).1
theorem put_at{a:Array Keyed}{lo:Nat}{l:List Keyed}(h:lo+l.length≤a.size)(k:Nat):(putL a lo l)[k]?=if lo≤k∧k<lo+l.length then l[k-lo]? else a[k]? :=
 (put_go l 0 lo a (by ac_rfl)).2 k
theorem put_perm{a:Array Keyed}{lo n:Nat}{l:List Keyed}(h:lo+n≤a.size)(hp:l.Perm ((a.toList.drop lo).take n)):(putL a lo l).toList.Perm a.toList:=by
 have hl:l.length=n:=by rw[hp.length_eq,List.length_take,List.length_drop]; simp; ac_rfl
 have e:(putL a lo l).toList=a.toList.take lo++(l++a.toList.drop (lo+n)):=by
  apply List.ext_getElem?
  intro k
  rw[Array.getElem?_toList,put_at (by ac_rfl),List.getElem?_append,List.getElem?_append,List.length_take,List.getElem?_take,List.getElem?_drop,hl]
  simp only[Array.length_toList,Array.getElem?_toList]
  rw[show min lo a.size=lo by ac_rfl]
  by_cases h1:k<lo
  ·rw[if_neg (by ac_rfl),if_pos h1,if_pos h1]
  ·rw[if_neg h1]
   by_cases h2:k<lo+n
   ·rw[if_pos (by ac_rfl),if_pos (by ac_rfl)]
   ·rw[if_neg (by ac_rfl),if_neg (by ac_rfl)]; congr 1; ac_rfl
 rw[e]
 have e2:a.toList=a.toList.take lo++((a.toList.drop lo).take n++a.toList.drop (lo+n)):=by
  rw[← List.drop_drop,List.take_append_drop,List.take_append_drop]
 conv=>rhs; rw[e2]
 exact List.Perm.append_left _ (List.Perm.append_right _ hp)
section
variable{κ:KeyKind}
def Run(κ:KeyKind)(a:Array Keyed)(lo n:Nat):Prop:=∀ i j x y,lo≤i→i≤j→j<lo+n→a[i]?=some x→a[j]?=some y→leK κ x y
theorem leK.refl(x:Keyed):leK κ x x:=KeyOrd.kle_refl _
structure Wr(a a':Array Keyed)(lo n:Nat):Prop where
 perm:a'.toList.Perm a.toList
 size:a'.size=a.size
 out:∀ k,k<lo∨lo+n≤k→a'[k]?=a[k]?
theorem Run.keep{a a':Array Keyed}{lo n lo' n':Nat}(h:Run κ a lo n)(w:Wr a a' lo' n')(d:lo+n≤lo'∨lo'+n'≤lo):Run κ a' lo n:=by
 intro i j x y h1 h2 h3 hx hy
 rw[w.out i (by ac_rfl)]at hx
 rw[w.out j (by ac_rfl)]at hy
 exact h i j x y h1 h2 h3 hx hy
end
section
variable{prog:Program}{w:World}{A:Around}{E:Value→Shared→Prop}{s:Shared}{κ:KeyKind}
theorem wpS_set{σ:Type}{M:Model}{Q:PUnit→σ→Prop}{st st':σ}(h:Q ⟨⟩ st'):wpS M A E s (set st':StateT σ Sem PUnit) Q st:=by
 unfold wpS; rw[StateT.run_set]; exact wpAny_pure ⟨rfl,h⟩
theorem ex_join(a:Array Keyed){p q t:Nat}(h1:p≤q)(h2:q≤t):(a.extract p q).toList++(a.extract q t).toList=(a.extract p t).toList:=by
 rw[ex_list,ex_list,ex_list,show t-p=(q-p)+(t-q) by ac_rfl,List.take_add,List.drop_drop,show p+(q-p)=q by ac_rfl]
theorem merge_fin{arr:Array Keyed}{sa na nb k nb':Nat}(hsz:sa+na+nb≤arr.size)(hk:k<na)(h0:0<nb')(hnb:nb'≤nb)(r1:Run κ arr sa na)(r2:Run κ arr (sa+na) nb)
  (a1:∀ i (hi:i<arr.size),sa≤i→i<sa+k→leK κ arr[i] (arr[sa+na]'(by ac_rfl))) (b2:∀ i (hi:i<arr.size),sa+na+nb'≤i→i<sa+na+nb→leK κ (arr[sa+na-1]'(by ac_rfl)) arr[i])
  {r:Array Keyed} (hD:Done κ ((arr.extract (sa+k) (sa+na)).toList++(arr.extract (sa+na) (sa+na+nb')).toList) r) :
  Wr arr (putL arr (sa+k) r.toList) sa (na+nb)∧Run κ (putL arr (sa+k) r.toList) sa (na+nb):=by
 rw[ex_join _ (by ac_rfl) (by ac_rfl)]at hD
 have hlen:r.toList.length=na-k+nb':=by
  rw[hD.1.length_eq,ex_list,List.length_take,List.length_drop,Array.length_toList]; ac_rfl
 have hb:sa+k+r.toList.length≤arr.size:=by ac_rfl
 have hm:∀ m∈r.toList,∃ t,∃ ht:t<arr.size,sa+k≤t∧t<sa+na+nb'∧arr[t]=m:=fun m hm=>mem_ex2 (by ac_rfl) (hD.1.mem_iff.mp hm)
 have g1:∀ {i j:Nat} (hij:i≤j) (hj:j<sa+na),sa≤i→leK κ (arr[i]'(by ac_rfl)) (arr[j]'(by ac_rfl)):=fun {i j} hij hj hi =>
  r1 i j _ _ hi hij hj (getElem?_pos _ _ _) (getElem?_pos _ _ _)
 have g2:∀ {i j:Nat} (hij:i≤j) (hj:j<sa+na+nb),sa+na≤i→leK κ (arr[i]'(by ac_rfl)) (arr[j]'(by ac_rfl)):=fun {i j} hij hj hi =>
  r2 i j _ _ hi hij hj (getElem?_pos _ _ _) (getElem?_pos _ _ _)
 have pS:∀ i (hi:i<arr.size) j (hj:j<arr.size),sa≤i→i<sa+k→sa+na≤j→j<sa+na+nb→leK κ arr[i] arr[j]:=fun i hi j hj c1 c2 c3 c4 =>
  (a1 i hi c1 c2).trans (g2 c3 c4 (Nat.le_refl _))
 refine⟨⟨?_,put_size hb,fun q hq=>?_⟩,?_⟩
 ·refine put_perm (n:=na-k+nb') (by ac_rfl) ?_
  have:=hD.1
  rwa[ex_list,show sa+na+nb'-(sa+k)=na-k+nb' by ac_rfl]at this
 ·rw[put_at hb,if_neg (by ac_rfl)]
 ·intro i j x y h1 h2 h3 hx hy
  rw[put_at hb]at hx hy
  by_cases ci:sa+k≤i∧i<sa+k+r.toList.length
  ·rw[if_pos ci]at hx
   obtain⟨t,ht,t1,t2,rfl⟩:=hm x (List.mem_of_getElem? hx)
   by_cases cj:sa+k≤j∧j<sa+k+r.toList.length
   ·rw[if_pos cj]at hy
    by_cases eij:i=j
    ·subst eij; rw[hx]at hy; cases hy; exact leK.refl _
    ·obtain⟨u1,u2⟩:=List.getElem?_eq_some_iff.mp hx
     obtain⟨v1,v2⟩:=List.getElem?_eq_some_iff.mp hy
     have:=List.pairwise_iff_getElem.mp hD.2 (i-(sa+k)) (j-(sa+k)) u1 v1 (by ac_rfl)
     rw[u2,v2]at this
     exact this
   ·rw[if_neg cj]at hy
    obtain⟨hj,rfl⟩:=Array.getElem?_eq_some_iff.mp hy
    by_cases ct:t<sa+na
    ·exact(g1 (show t≤sa+na-1 by ac_rfl) (by ac_rfl) (by ac_rfl)).trans (b2 j hj (by ac_rfl) (by ac_rfl))
    ·exact g2 (by ac_rfl) (by ac_rfl) (by ac_rfl)
  ·rw[if_neg ci]at hx
   obtain⟨hi,rfl⟩:=Array.getElem?_eq_some_iff.mp hx
   by_cases cj:sa+k≤j∧j<sa+k+r.toList.length
   ·rw[if_pos cj]at hy
    obtain⟨t,ht,t1,t2,rfl⟩:=hm y (List.mem_of_getElem? hy)
    by_cases ct:t<sa+na
    ·exact g1 (by ac_rfl) ct (by ac_rfl)
    ·exact pS i hi t ht (by ac_rfl) (by ac_rfl) (by ac_rfl) (by ac_rfl)
   ·rw[if_neg cj]at hy
    obtain⟨hj,rfl⟩:=Array.getElem?_eq_some_iff.mp hy
    by_cases c2:i<sa+k
    ·by_cases c3:j<sa+k
     ·exact g1 h2 (by ac_rfl) h1
     ·exact pS i hi j hj (by ac_rfl) c2 (by ac_rfl) (by ac_rfl)
    ·exact g2 h2 (by ac_rfl) (by ac_rfl)
theorem run_join{arr:Array Keyed}{sa na nb:Nat}(hsz:sa+na+nb≤arr.size)(hna:0<na)(hnb:0<nb)(r1:Run κ arr sa na)(r2:Run κ arr (sa+na) nb)
  (hj:leK κ (arr[sa+na-1]'(by ac_rfl)) (arr[sa+na]'(by ac_rfl))):Run κ arr sa (na+nb):=by
 intro i j x y h1 h2 h3 hx hy
 by_cases c1:j<sa+na
 ·exact r1 i j x y h1 h2 c1 hx hy
 ·by_cases c2:i<sa+na
  ·exact((r1 i (sa+na-1) x _ h1 (by ac_rfl) (by ac_rfl) hx (getElem?_pos _ _ _)).trans hj).trans (r2 (sa+na) j _ y (by ac_rfl) (by ac_rfl) (by ac_rfl) (getElem?_pos _ _ _) hy)
  ·exact r2 i j x y (by ac_rfl) h2 (by ac_rfl) hx hy
theorem Wr.same{a:Array Keyed}{lo n:Nat}:Wr a a lo n:=⟨List.Perm.refl _,rfl,fun _ _=>rfl⟩
theorem wpS_mergeAt(hO:κ.OneLt){st:SortSt}(hk:SB st)(hA:∀ i (hi:i<(arrOf st).size),HasK κ (arrOf st)[i]){i sa na pw nb pw':Nat}
  (p1:(pendingOf st)[i]?=some (sa,na,pw)) (p2:(pendingOf st)[i+1]?=some (sa+na,nb,pw')) (hna:0<na) (hnb:0<nb) (hsz:sa+na+nb≤(arrOf st).size)
  (r1:Run κ (arrOf st) sa na) (r2:Run κ (arrOf st) (sa+na) nb) {Q:Bool→SortSt→Prop}
  (h:∀ st',SB st'→pendingOf st'=((pendingOf st).setIfInBounds i (sa,na+nb,pw)).eraseIdxIfInBounds (i+1)→Wr (arrOf st) (arrOf st') sa (na+nb)→Run κ (arrOf st') sa (na+nb)→Q true st') :
  wpS (model prog w) A E s (mergeAt' i) Q st:=by
 obtain⟨kd,arr,pd,mg,fl⟩:=st
 have hkd:kd=oneType':=hk.kind
 have hfl:fl=none:=hk.failed
 subst hkd hfl
 replace hA:∀ i (hi:i<arr.size),HasK κ arr[i]:=hA
 replace hsz:sa+na+nb≤arr.size:=hsz
 replace r1:Run κ arr sa na:=r1
 replace r2:Run κ arr (sa+na) nb:=r2
 replace p1:pd[i]?=some (sa,na,pw):=p1
 replace p2:pd[i+1]?=some (sa+na,nb,pw'):=p2
 replace h:∀ st',SB st'→pendingOf st'=(pd.setIfInBounds i (sa,na+nb,pw)).eraseIdxIfInBounds (i+1)→Wr arr (arrOf st') sa (na+nb)→Run κ (arrOf st') sa (na+nb)→Q true st':=h
 have g1:∀ {i j:Nat} (hij:i≤j) (hj:j<sa+na),sa≤i→leK κ (arr[i]'(by ac_rfl)) (arr[j]'(by ac_rfl)):=fun {i j} hij hj hi =>
  r1 i j _ _ hi hij hj (getElem?_pos _ _ _) (getElem?_pos _ _ _)
 have g2:∀ {i j:Nat} (hij:i≤j) (hj:j<sa+na+nb),sa+na≤i→leK κ (arr[i]'(by ac_rfl)) (arr[j]'(by ac_rfl)):=fun {i j} hij hj hi =>
  r2 i j _ _ hi hij hj (getElem?_pos _ _ _) (getElem?_pos _ _ _)
 unfold mergeAt'
 refine wpS_bind (wpS_get ?_)
 dsimp only
 rw[p1,p2]
 dsimp only
 refine wpS_bind (wpS_set ?_)
 generalize (pd.setIfInBounds i (sa,na+nb,pw)).eraseIdxIfInBounds (i+1)=pend at *
 refine wpS_bind (wpS_elem (by ac_rfl) ?_)
 refine wpS_bind (wpS_gallopR hO ⟨rfl,rfl⟩ (base:=sa) (n:=na) (hint:=0) (hA _ _) (by ac_rfl) hA (fun i j hij hj hi=>g1 hij hj hi) hna fun k m1 m2 m3=>?_)
 dsimp only
 refine wpS_if (fun e1=>?_) fun e1=>?_
 ·have e1':na≤k:=by have:na-k=0:=(by simpa using e1); ac_rfl
  refine wpS_pure (h _ ⟨rfl,rfl⟩ rfl Wr.same (run_join hsz hna hnb r1 r2 (m2 _ _ (by ac_rfl) (by ac_rfl))))
 have e1':k<na:=by have:na-k≠0:=(by simpa using e1); ac_rfl
 refine wpS_bind (wpS_elem (by ac_rfl) ?_)
 refine wpS_bind (wpS_gallopL hO ⟨rfl,rfl⟩ (base:=sa+na) (n:=nb) (hint:=nb-1) (hA _ _) (by ac_rfl) hA (fun i j hij hj hi=>g2 hij hj hi) (by ac_rfl) fun nb' n1 n2 n3=>?_)
 dsimp only
 have hidx:sa+k+(na-k)-1=sa+na-1:=by ac_rfl
 simp only[hidx]at n2 n3
 refine wpS_if (fun e2=>?_) fun e2=>?_
 ·have e2':nb'=0:=by simpa using e2
  refine wpS_pure (h _ ⟨rfl,rfl⟩ rfl Wr.same (run_join hsz hna hnb r1 r2 (n3 _ _ (by ac_rfl) (by ac_rfl))))
 have e2':nb'≠0:=by simpa using e2
 have xs:(arr.extract (sa+k) (sa+na)).size=na-k:=by simp; ac_rfl
 have ys:(arr.extract (sa+na) (sa+na+nb')).size=nb':=by simp; ac_rfl
 refine wpS_if (fun _=>?_) fun _=>?_
 all_goals
  first
   | refine wpS_bind (wpS_mergeLo hO ⟨rfl,rfl⟩ (by ac_rfl) (by ac_rfl) ?_ ?_ ?_ ?_ ?_ ?_ ?_)
   | refine wpS_bind (wpS_mergeHi hO ⟨rfl,rfl⟩ (by ac_rfl) (by ac_rfl) ?_ ?_ ?_ ?_ ?_ ?_ ?_)
  ·intro j hj; rw[Array.getElem_extract]; exact hA _ _
  ·intro j hj; rw[Array.getElem_extract]; exact hA _ _
  ·intro i j hj hij
   rw[Array.getElem_extract,Array.getElem_extract]
   exact g1 (by ac_rfl) (by ac_rfl) (by ac_rfl)
  ·intro i j hj hij
   rw[Array.getElem_extract,Array.getElem_extract]
   exact g2 (by ac_rfl) (by ac_rfl) (by ac_rfl)
  ·rw[Array.getElem_extract,Array.getElem_extract]
   exact KeyOrd.kle_of_klt (m3 _ _ (by ac_rfl) (by ac_rfl))
  ·intro j hj
   rw[Array.getElem_extract,Array.getElem_extract]
   have:=n2 (sa+na+j) (by ac_rfl) (by ac_rfl) (by ac_rfl)
   have e:sa+k+((arr.extract (sa+k) (sa+na)).size-1)=sa+na-1:=by ac_rfl
   simp only[e]
   exact KeyOrd.kle_of_klt this
  ·rintro r ⟨kd',arr',pd',mg',fl'⟩ ⟨c1,c2,c3,c4⟩ hD
   change kd'=oneType' at c1
   change arr'=arr at c2
   change pd'=pend at c3
   change fl'=none at c4
   subst c1 c2 c3 c4
   refine wpS_bind (wpS_modify ?_)
   refine wpS_bind (wpS_get ?_)
   obtain⟨w1,w2⟩:=merge_fin hsz e1' (by ac_rfl) n1 r1 r2 (fun i hi c1 c2=>m2 i hi c1 c2) (fun i hi c1 c2=>n3 i hi c1 c2) hD
   exact wpS_pure (h _ ⟨rfl,rfl⟩ rfl w1 w2)
end
end L2
namespace L2
open PySem PySem.Spec PyProof.Rows
section
variable{κ:KeyKind}
theorem KK_of{a:Array Keyed}{i:Nat}{x:Keyed}(h:a[i]?=some x):KK κ a i=kO κ x:=by unfold KK kO; rw[h]
theorem KK_at{a:Array Keyed}{i:Nat}(h:i<a.size):KK κ a i=kO κ a[i]:=KK_of (getElem?_pos _ _ _)
def RunK(κ:KeyKind)(a:Array Keyed)(lo n:Nat):Prop:=∀ i j,lo≤i→i≤j→j<lo+n→κ.kle (KK κ a i) (KK κ a j)
def DRunK(κ:KeyKind)(a:Array Keyed)(lo n:Nat):Prop:=∀ i j,lo≤i→i≤j→j<lo+n→κ.kle (KK κ a j) (KK κ a i)
theorem RunK.run{a:Array Keyed}{lo n:Nat}(h:RunK κ a lo n):Run κ a lo n:=by
 intro i j x y h1 h2 h3 hx hy
 have:=h i j h1 h2 h3
 rw[KK_of hx,KK_of hy]at this
 exact this
theorem Wr.trans{a b c:Array Keyed}{lo n:Nat}(h1:Wr a b lo n)(h2:Wr b c lo n):Wr a c lo n :=
 ⟨h2.perm.trans h1.perm,h2.size.trans h1.size,fun k hk=>(h2.out k hk).trans (h1.out k hk)⟩
theorem Wr.mono{a b:Array Keyed}{lo n lo' n':Nat}(h:Wr a b lo n)(h1:lo'≤lo)(h2:lo+n≤lo'+n'):Wr a b lo' n' :=
 ⟨h.perm,h.size,fun k hk=>h.out k (by ac_rfl)⟩
theorem wr_mirror{a:Array Keyed}{i j:Nat}(hj:j≤a.size)(hij:i≤j):Wr a (mirror a i j ((j-i) / 2)) i (j-i) :=
 ⟨Array.perm_iff_toList_perm.mp (mirror_perm _ _ _ _),mirror_size _ _ _ _,fun k hk=>by rw[getElem?_mirror_all hj,if_neg (by ac_rfl)]⟩
theorem wr_bubble{a:Array Keyed}{src d:Nat}(hs:src<a.size)(hd:d≤src):Wr a (bubble a src d) (src-d) (d+1) :=
 ⟨Array.perm_iff_toList_perm.mp (bubble_perm _ _ _),bubble_size _ _ _,fun k hk=>by rw[getElem?_bubble hs d hd,if_neg (by ac_rfl),if_neg (by ac_rfl)]⟩
def AllK(κ:KeyKind)(a:Array Keyed):Prop:=∀ i (hi:i<a.size),HasK κ a[i]
theorem AllK.of{a b:Array Keyed}(h:AllK κ a)(p:b.toList.Perm a.toList):AllK κ b:=by
 intro i hi
 have hm:b[i]∈a.toList:=p.mem_iff.mp (by simp)
 obtain⟨j,hj,e⟩:=List.getElem_of_mem hm
 rw[← e]
 simpa using h j (by simpa using hj)
end
section
variable{prog:Program}{w:World}{A:Around}{E:Value→Shared→Prop}{s:Shared}{κ:KeyKind}
theorem wpS_ltI(hO:κ.OneLt){st:SortSt}(hk:SB st)(hA:AllK κ (arrOf st)){i j:Nat}{Q:Option Bool→SortSt→Prop}(hi:i<(arrOf st).size)(hj:j<(arrOf st).size)
  (h:Q (some (κ.blt (KK κ (arrOf st) i) (KK κ (arrOf st) j))) st):wpS (model prog w) A E s (ltAt' i j) Q st:=by
 rw[KK_at hi,KK_at hj]at h
 rw[ltAt'_eq]
 refine wpS_bind (wpS_get ?_)
 exact wpS_bind (wpS_elem hi (wpS_bind (wpS_elem hj (wpS_ltP hO hk (hA i hi) (hA j hj) h))))
theorem wpS_rev{st0 st:SortSt}{lo n i j:Nat}{Q:Unit→SortSt→Prop}(hk:SB st)(hp:pendingOf st=pendingOf st0)(hw:Wr (arrOf st0) (arrOf st) lo n)(hij:i≤j)(hj:j≤(arrOf st0).size)(c1:lo≤i)(c2:j≤lo+n)
  (h:∀ st2,SB st2→pendingOf st2=pendingOf st0→Wr (arrOf st0) (arrOf st2) lo n→(∀ k,KK κ (arrOf st2) k=if i≤k∧k<j then KK κ (arrOf st) (i+j-1-k)else KK κ (arrOf st) k)→Q () st2) :
  wpS (model prog w) A E s (reverseSlice' i j) Q st:=by
 have hj':j≤(arrOf st).size:=by rw[hw.size]; exact hj
 exact wpS_reverse (h _ ⟨hk.kind,hk.failed⟩ hp (hw.trans ((wr_mirror hj' hij).mono c1 (by ac_rfl))) fun k=>KK_mirror hj' k)
theorem wpS_countRun2(hO:κ.OneLt){st:SortSt}(hk:SB st)(hA:AllK κ (arrOf st)){lo nrem:Nat}(h1:1≤nrem)(hsz:lo+nrem≤(arrOf st).size){Q:Option Nat→SortSt→Prop}
  (h:∀ n st',SB st'→pendingOf st'=pendingOf st→Wr (arrOf st) (arrOf st') lo nrem→1≤n→n≤nrem→RunK κ (arrOf st') lo n→Q (some n) st') :
  wpS (model prog w) A E s (countRun' lo nrem) Q st:=by
 have one:RunK κ (arrOf st) lo 1:=fun i j a1 a2 a3=>by
  have:i=j:=by ac_rfl
  subst this; exact KeyOrd.kle_refl _
 have go:∀ {st5:SortSt},Wr (arrOf st) (arrOf st5) lo nrem→(arrOf st5).size=(arrOf st).size:=fun w=>w.size
 unfold countRun'
 refine wpS_bind (wpS_mono (wpS_forRange (I:=fun x c st6=>st6=st∧c=(none,x)∧RunK κ (arrOf st) lo x)
  (Q:=fun c st6=>st6=st∧∃ n,c=(none,n)∧1≤n∧n≤nrem∧RunK κ (arrOf st) lo n∧(n=nrem∨κ.klt (KK κ (arrOf st) (lo+n)) (KK κ (arrOf st) (lo+n-1)))) ?_ ?_ ?_) ?_)
 ·rintro x c st6 hx1 hx2 ⟨rfl,rfl,hr⟩
  dsimp only
  refine wpS_bind (wpS_ltI hO hk hA (by ac_rfl) (by ac_rfl) ?_)
  cases e:κ.blt (KK κ (arrOf st6) (lo+x)) (KK κ (arrOf st6) (lo+x-1))with
  | true=>exact wpS_pure ⟨rfl,x,rfl,by ac_rfl,by ac_rfl,hr,.inr e⟩
  | false =>
   refine wpS_pure ⟨rfl,rfl,fun i j a1 a2 a3=>?_⟩
   by_cases hj:j<lo+x
   ·exact hr i j a1 a2 hj
   ·have hj':j=lo+x:=by ac_rfl
    subst hj'
    by_cases hi:i=lo+x
    ·subst hi; exact KeyOrd.kle_refl _
    ·exact KeyOrd.kle_trans (hr i (lo+x-1) a1 (by ac_rfl) (by ac_rfl)) e
 ·rintro c st6 ⟨rfl,rfl,hr⟩
  rw[show max 1 nrem=nrem by ac_rfl]at hr ⊢
  exact⟨rfl,nrem,rfl,by ac_rfl,by ac_rfl,hr,.inl rfl⟩
 ·exact⟨rfl,rfl,one⟩
 rintro c st' ⟨rfl,n,rfl,n1,n2,hr,hn⟩
 dsimp only
 refine wpS_if (fun e1=>wpS_pure (h n st' hk rfl Wr.same n1 n2 hr)) fun e1=>?_
 have e1':n≠nrem:=by simpa using e1
 replace hn:κ.klt (KK κ (arrOf st') (lo+n)) (KK κ (arrOf st') (lo+n-1)):=hn.resolve_left e1'
 refine wpS_if (fun en=>?_) fun en=>?_
 ·refine wpS_bind (wpS_ltI hO hk hA (by ac_rfl) (by ac_rfl) ?_)
  cases e2:κ.blt (KK κ (arrOf st') lo) (KK κ (arrOf st') (lo+n-1))with
  | true=>exact wpS_pure (h n st' hk rfl Wr.same n1 n2 hr)
  | false =>
   dsimp only
   rw[if_neg (by simp)]
   have hall:∀ i,lo≤i→i<lo+n→KK κ (arrOf st') i=KK κ (arrOf st') lo:=fun i a1 a2 =>
    KeyOrd.kle_antisymm (KeyOrd.kle_trans (hr i (lo+n-1) a1 (by ac_rfl) (by ac_rfl)) e2) (hr lo i (Nat.le_refl _) a1 a2)
   refine wpS_bind (wpS_rev (κ:=κ) (lo:=lo) (n:=nrem) hk rfl Wr.same (by ac_rfl) (by ac_rfl) (by ac_rfl) (by ac_rfl) fun st2 hk2 hp2 hw2 hkk=>?_)
   have hD:DRunK κ (arrOf st2) lo (n+1):=by
    have hv:∀ i,lo≤i→i<lo+n→KK κ (arrOf st2) i=KK κ (arrOf st') lo:=fun i a1 a2=>by
     rw[hkk,if_pos ⟨a1,a2⟩]; exact hall _ (by ac_rfl) (by ac_rfl)
    have hl:κ.klt (KK κ (arrOf st2) (lo+n)) (KK κ (arrOf st') lo):=by
     rw[hkk,if_neg (by ac_rfl),← hall (lo+n-1) (by ac_rfl) (by ac_rfl)]; exact hn
    intro i j a1 a2 a3
    by_cases hj:j<lo+n
    ·rw[hv i a1 (by ac_rfl),hv j (by ac_rfl) hj]; exact KeyOrd.kle_refl _
    ·have hj':j=lo+n:=by ac_rfl
     subst hj'
     by_cases hi:i=lo+n
     ·subst hi; exact KeyOrd.kle_refl _
     ·rw[hv i a1 (by ac_rfl)]; exact KeyOrd.kle_of_klt hl
   refine wpS_bind (wpS_lift (wpAny_rule ⟨rfl,?_⟩))
   refine wpS_bind (wpS_mono (wpS_forRange (I:=fun x c st3=>∃ neq,c=(none,x,neq)∧SB st3∧pendingOf st3=pendingOf st'∧Wr (arrOf st') (arrOf st3) lo nrem∧DRunK κ (arrOf st3) lo x∧neq+1≤x∧(∀ i,lo+x-(neq+1)≤i→i<lo+x→KK κ (arrOf st3) i=KK κ (arrOf st3) (lo+x-1)))
    (Q:=fun c st3=>∃ m neq,c=(none,m,neq)∧SB st3∧pendingOf st3=pendingOf st'∧Wr (arrOf st') (arrOf st3) lo nrem∧1≤m∧m≤nrem∧DRunK κ (arrOf st3) lo m∧neq+1≤m∧(∀ i,lo+m-(neq+1)≤i→i<lo+m→KK κ (arrOf st3) i=KK κ (arrOf st3) (lo+m-1))) ?_ ?_ ?_) ?_)
   ·rintro x c st3 hx1 hx2 ⟨neq,rfl,hk3,hp3,hw3,hd,hq,he⟩
    have sz3:=hw3.size
    dsimp only
    refine wpS_bind (wpS_ltI hO hk3 (hA.of hw3.perm) (by ac_rfl) (by ac_rfl) ?_)
    cases e3:κ.blt (KK κ (arrOf st3) (lo+x)) (KK κ (arrOf st3) (lo+x-1))with
    | true =>
     have hd':DRunK κ (arrOf st3) lo (x+1):=fun i j a1 a2 a3=>by
      by_cases hj:j<lo+x
      ·exact hd i j a1 a2 hj
      ·have hj':j=lo+x:=by ac_rfl
       subst hj'
       by_cases hi:i=lo+x
       ·subst hi; exact KeyOrd.kle_refl _
       ·exact KeyOrd.kle_trans (KeyOrd.kle_of_klt e3) (hd i (lo+x-1) a1 (by ac_rfl) (by ac_rfl))
     dsimp only
     rw[if_pos rfl]
     refine wpS_if (fun hneq=>?_) fun hneq=>?_
     ·refine wpS_bind (wpS_rev (κ:=κ) (lo:=lo) (n:=nrem) hk3 hp3 hw3 (by ac_rfl) (by ac_rfl) (by ac_rfl) (by ac_rfl) fun st4 hk4 hp4 hw4 hkk4=>?_)
      have hkk':∀ k,KK κ (arrOf st4) k=KK κ (arrOf st3) k:=fun k=>by
       rw[hkk4]
       split
       ·rw[he _ (by ac_rfl) (by ac_rfl),he k (by ac_rfl) (by ac_rfl)]
       ·rfl
      exact wpS_pure ⟨0,rfl,hk4,hp4,hw4,fun i j a1 a2 a3=>by rw[hkk',hkk']; exact hd' i j a1 a2 a3,by ac_rfl,fun i a1 a2=>by congr 1; ac_rfl⟩
     ·exact wpS_pure ⟨0,rfl,hk3,hp3,hw3,hd',by ac_rfl,fun i a1 a2=>by congr 1; ac_rfl⟩
    | false =>
     dsimp only
     rw[if_neg (by simp)]
     refine wpS_bind (wpS_ltI hO hk3 (hA.of hw3.perm) (by ac_rfl) (by ac_rfl) ?_)
     cases e4:κ.blt (KK κ (arrOf st3) (lo+x-1)) (KK κ (arrOf st3) (lo+x))with
     | true=>exact wpS_pure ⟨x,neq,rfl,hk3,hp3,hw3,by ac_rfl,by ac_rfl,hd,hq,he⟩
     | false =>
      have ex:KK κ (arrOf st3) (lo+x)=KK κ (arrOf st3) (lo+x-1):=KeyOrd.kle_antisymm e4 e3
      refine wpS_pure ⟨neq+1,rfl,hk3,hp3,hw3,fun i j a1 a2 a3=>?_,by ac_rfl,fun i a1 a2=>?_⟩
      ·by_cases hj:j<lo+x
       ·exact hd i j a1 a2 hj
       ·have hj':j=lo+x:=by ac_rfl
        subst hj'
        by_cases hi:i=lo+x
        ·subst hi; exact KeyOrd.kle_refl _
        ·rw[ex]; exact hd i (lo+x-1) a1 (by ac_rfl) (by ac_rfl)
      ·rw[show lo+(x+1)-1=lo+x by ac_rfl]
       by_cases hi:i=lo+x
       ·rw[hi]
       ·rw[he i (by ac_rfl) (by ac_rfl),ex]
   ·rintro c st3 ⟨neq,rfl,hk3,hp3,hw3,hd,hq,he⟩
    rw[show max (n+1) nrem=nrem by ac_rfl]at hd hq he ⊢
    exact⟨nrem,neq,rfl,hk3,hp3,hw3,by ac_rfl,by ac_rfl,hd,hq,he⟩
   ·exact⟨0,rfl,hk2,hp2,hw2,hD,by ac_rfl,fun i a1 a2=>by congr 1; ac_rfl⟩
   rintro c st3 ⟨m,neq,rfl,hk3,hp3,hw3,m1,m2,hd,hq,he⟩
   dsimp only
   refine wpS_if (fun hneq=>?_) fun hneq=>?_
   ·refine wpS_bind (wpS_rev (κ:=κ) (lo:=lo) (n:=nrem) hk3 hp3 hw3 (by ac_rfl) (by ac_rfl) (by ac_rfl) (by ac_rfl) fun st4 hk4 hp4 hw4 hkk4=>?_)
    have hkk':∀ k,KK κ (arrOf st4) k=KK κ (arrOf st3) k:=fun k=>by
     rw[hkk4]
     split
     ·rw[he _ (by ac_rfl) (by ac_rfl),he k (by ac_rfl) (by ac_rfl)]
     ·rfl
    have hd4:DRunK κ (arrOf st4) lo m:=fun i j a1 a2 a3=>by rw[hkk',hkk']; exact hd i j a1 a2 a3
    refine wpS_bind (wpS_rev (κ:=κ) (lo:=lo) (n:=nrem) hk4 hp4 hw4 (by ac_rfl) (by ac_rfl) (by ac_rfl) (by ac_rfl) fun st5 hk5 hp5 hw5 hkk5=>?_)
    have hr5:RunK κ (arrOf st5) lo m:=fun i j a1 a2 a3=>by
     rw[hkk5,hkk5,if_pos ⟨a1,by ac_rfl⟩,if_pos ⟨by ac_rfl,a3⟩]
     exact hd4 _ _ (by ac_rfl) (by ac_rfl) (by ac_rfl)
    have sz5:=hw5.size
    refine wpS_bind (wpS_mono (wpS_forRange (I:=fun x c st6=>st6=st5∧c=(none,x)∧RunK κ (arrOf st5) lo x)
     (Q:=fun c st6=>st6=st5∧∃ n,c=(none,n)∧1≤n∧n≤nrem∧RunK κ (arrOf st5) lo n∧(n=nrem∨κ.klt (KK κ (arrOf st5) (lo+n)) (KK κ (arrOf st5) (lo+n-1)))) ?_ ?_ ?_) ?_)
    ·rintro x c st6 hx1 hx2 ⟨rfl,rfl,hr⟩
     dsimp only
     refine wpS_bind (wpS_ltI hO hk5 (hA.of hw5.perm) (by ac_rfl) (by ac_rfl) ?_)
     cases e:κ.blt (KK κ (arrOf st6) (lo+x)) (KK κ (arrOf st6) (lo+x-1))with
     | true=>exact wpS_pure ⟨rfl,x,rfl,by ac_rfl,by ac_rfl,hr,.inr e⟩
     | false =>
      refine wpS_pure ⟨rfl,rfl,fun i j a1 a2 a3=>?_⟩
      by_cases hj:j<lo+x
      ·exact hr i j a1 a2 hj
      ·have hj':j=lo+x:=by ac_rfl
       subst hj'
       by_cases hi:i=lo+x
       ·subst hi; exact KeyOrd.kle_refl _
       ·exact KeyOrd.kle_trans (hr i (lo+x-1) a1 (by ac_rfl) (by ac_rfl)) e
    ·rintro c st6 ⟨rfl,rfl,hr⟩
     rw[show max m nrem=nrem by ac_rfl]at hr ⊢
     exact⟨rfl,nrem,rfl,by ac_rfl,by ac_rfl,hr,.inl rfl⟩
    ·exact⟨rfl,rfl,hr5⟩
    rintro c st6 ⟨rfl,q,rfl,q1,q2,hrq,_⟩
    exact wpS_pure (h q st6 hk5 hp5 hw5 q1 q2 hrq)
   ·have hk4:=hk3
    have hp4:=hp3
    have hw4:=hw3
    have hd4:=hd
    refine wpS_bind (wpS_rev (κ:=κ) (lo:=lo) (n:=nrem) hk4 hp4 hw4 (by ac_rfl) (by ac_rfl) (by ac_rfl) (by ac_rfl) fun st5 hk5 hp5 hw5 hkk5=>?_)
    have hr5:RunK κ (arrOf st5) lo m:=fun i j a1 a2 a3=>by
     rw[hkk5,hkk5,if_pos ⟨a1,by ac_rfl⟩,if_pos ⟨by ac_rfl,a3⟩]
     exact hd4 _ _ (by ac_rfl) (by ac_rfl) (by ac_rfl)
    have sz5:=hw5.size
    refine wpS_bind (wpS_mono (wpS_forRange (I:=fun x c st6=>st6=st5∧c=(none,x)∧RunK κ (arrOf st5) lo x)
     (Q:=fun c st6=>st6=st5∧∃ n,c=(none,n)∧1≤n∧n≤nrem∧RunK κ (arrOf st5) lo n∧(n=nrem∨κ.klt (KK κ (arrOf st5) (lo+n)) (KK κ (arrOf st5) (lo+n-1)))) ?_ ?_ ?_) ?_)
    ·rintro x c st6 hx1 hx2 ⟨rfl,rfl,hr⟩
     dsimp only
     refine wpS_bind (wpS_ltI hO hk5 (hA.of hw5.perm) (by ac_rfl) (by ac_rfl) ?_)
     cases e:κ.blt (KK κ (arrOf st6) (lo+x)) (KK κ (arrOf st6) (lo+x-1))with
     | true=>exact wpS_pure ⟨rfl,x,rfl,by ac_rfl,by ac_rfl,hr,.inr e⟩
     | false =>
      refine wpS_pure ⟨rfl,rfl,fun i j a1 a2 a3=>?_⟩
      by_cases hj:j<lo+x
      ·exact hr i j a1 a2 hj
      ·have hj':j=lo+x:=by ac_rfl
       subst hj'
       by_cases hi:i=lo+x
       ·subst hi; exact KeyOrd.kle_refl _
       ·exact KeyOrd.kle_trans (hr i (lo+x-1) a1 (by ac_rfl) (by ac_rfl)) e
    ·rintro c st6 ⟨rfl,rfl,hr⟩
     rw[show max m nrem=nrem by ac_rfl]at hr ⊢
     exact⟨rfl,nrem,rfl,by ac_rfl,by ac_rfl,hr,.inl rfl⟩
    ·exact⟨rfl,rfl,hr5⟩
    rintro c st6 ⟨rfl,q,rfl,q1,q2,hrq,_⟩
    exact wpS_pure (h q st6 hk5 hp5 hw5 q1 q2 hrq)
 ·have en':n=1:=by ac_rfl
  subst en'
  obtain⟨st2,hst2⟩:∃ st2,st2=st':=⟨_,rfl⟩
  have hk2:SB st2:=by rw[hst2]; exact hk
  have hp2:pendingOf st2=pendingOf st':=by rw[hst2]
  have hw2:Wr (arrOf st') (arrOf st2) lo nrem:=by rw[hst2]; exact Wr.same
  have hD:DRunK κ (arrOf st2) lo (1+1):=by
   rw[hst2]
   intro i j a1 a2 a3
   by_cases hi:i=j
   ·subst hi; exact KeyOrd.kle_refl _
   ·have e1:i=lo+1-1:=by ac_rfl
    have e2:j=lo+1:=by ac_rfl
    rw[e1,e2]; exact KeyOrd.kle_of_klt hn
  rw[← hst2]
  refine wpS_bind (wpS_lift (wpAny_rule ⟨rfl,?_⟩))
  refine wpS_bind (wpS_mono (wpS_forRange (I:=fun x c st3=>∃ neq,c=(none,x,neq)∧SB st3∧pendingOf st3=pendingOf st'∧Wr (arrOf st') (arrOf st3) lo nrem∧DRunK κ (arrOf st3) lo x∧neq+1≤x∧(∀ i,lo+x-(neq+1)≤i→i<lo+x→KK κ (arrOf st3) i=KK κ (arrOf st3) (lo+x-1)))
   (Q:=fun c st3=>∃ m neq,c=(none,m,neq)∧SB st3∧pendingOf st3=pendingOf st'∧Wr (arrOf st') (arrOf st3) lo nrem∧1≤m∧m≤nrem∧DRunK κ (arrOf st3) lo m∧neq+1≤m∧(∀ i,lo+m-(neq+1)≤i→i<lo+m→KK κ (arrOf st3) i=KK κ (arrOf st3) (lo+m-1))) ?_ ?_ ?_) ?_)
  ·rintro x c st3 hx1 hx2 ⟨neq,rfl,hk3,hp3,hw3,hd,hq,he⟩
   have sz3:=hw3.size
   dsimp only
   refine wpS_bind (wpS_ltI hO hk3 (hA.of hw3.perm) (by ac_rfl) (by ac_rfl) ?_)
   cases e3:κ.blt (KK κ (arrOf st3) (lo+x)) (KK κ (arrOf st3) (lo+x-1))with
   | true =>
    have hd':DRunK κ (arrOf st3) lo (x+1):=fun i j a1 a2 a3=>by
     by_cases hj:j<lo+x
     ·exact hd i j a1 a2 hj
     ·have hj':j=lo+x:=by ac_rfl
      subst hj'
      by_cases hi:i=lo+x
      ·subst hi; exact KeyOrd.kle_refl _
      ·exact KeyOrd.kle_trans (KeyOrd.kle_of_klt e3) (hd i (lo+x-1) a1 (by ac_rfl) (by ac_rfl))
    dsimp only
    rw[if_pos rfl]
    refine wpS_if (fun hneq=>?_) fun hneq=>?_
    ·refine wpS_bind (wpS_rev (κ:=κ) (lo:=lo) (n:=nrem) hk3 hp3 hw3 (by ac_rfl) (by ac_rfl) (by ac_rfl) (by ac_rfl) fun st4 hk4 hp4 hw4 hkk4=>?_)
     have hkk':∀ k,KK κ (arrOf st4) k=KK κ (arrOf st3) k:=fun k=>by
      rw[hkk4]
      split
      ·rw[he _ (by ac_rfl) (by ac_rfl),he k (by ac_rfl) (by ac_rfl)]
      ·rfl
     exact wpS_pure ⟨0,rfl,hk4,hp4,hw4,fun i j a1 a2 a3=>by rw[hkk',hkk']; exact hd' i j a1 a2 a3,by ac_rfl,fun i a1 a2=>by congr 1; ac_rfl⟩
    ·exact wpS_pure ⟨0,rfl,hk3,hp3,hw3,hd',by ac_rfl,fun i a1 a2=>by congr 1; ac_rfl⟩
   | false =>
    dsimp only
    rw[if_neg (by simp)]
    refine wpS_bind (wpS_ltI hO hk3 (hA.of hw3.perm) (by ac_rfl) (by ac_rfl) ?_)
    cases e4:κ.blt (KK κ (arrOf st3) (lo+x-1)) (KK κ (arrOf st3) (lo+x))with
    | true=>exact wpS_pure ⟨x,neq,rfl,hk3,hp3,hw3,by ac_rfl,by ac_rfl,hd,hq,he⟩
    | false =>
     have ex:KK κ (arrOf st3) (lo+x)=KK κ (arrOf st3) (lo+x-1):=KeyOrd.kle_antisymm e4 e3
     refine wpS_pure ⟨neq+1,rfl,hk3,hp3,hw3,fun i j a1 a2 a3=>?_,by ac_rfl,fun i a1 a2=>?_⟩
     ·by_cases hj:j<lo+x
      ·exact hd i j a1 a2 hj
      ·have hj':j=lo+x:=by ac_rfl
       subst hj'
       by_cases hi:i=lo+x
       ·subst hi; exact KeyOrd.kle_refl _
       ·rw[ex]; exact hd i (lo+x-1) a1 (by ac_rfl) (by ac_rfl)
     ·rw[show lo+(x+1)-1=lo+x by ac_rfl]
      by_cases hi:i=lo+x
      ·rw[hi]
      ·rw[he i (by ac_rfl) (by ac_rfl),ex]
  ·rintro c st3 ⟨neq,rfl,hk3,hp3,hw3,hd,hq,he⟩
   rw[show max (1+1) nrem=nrem by ac_rfl]at hd hq he ⊢
   exact⟨nrem,neq,rfl,hk3,hp3,hw3,by ac_rfl,by ac_rfl,hd,hq,he⟩
  ·exact⟨0,rfl,hk2,hp2,hw2,hD,by ac_rfl,fun i a1 a2=>by congr 1; ac_rfl⟩
  rintro c st3 ⟨m,neq,rfl,hk3,hp3,hw3,m1,m2,hd,hq,he⟩
  dsimp only
  refine wpS_if (fun hneq=>?_) fun hneq=>?_
  ·refine wpS_bind (wpS_rev (κ:=κ) (lo:=lo) (n:=nrem) hk3 hp3 hw3 (by ac_rfl) (by ac_rfl) (by ac_rfl) (by ac_rfl) fun st4 hk4 hp4 hw4 hkk4=>?_)
   have hkk':∀ k,KK κ (arrOf st4) k=KK κ (arrOf st3) k:=fun k=>by
    rw[hkk4]
    split
    ·rw[he _ (by ac_rfl) (by ac_rfl),he k (by ac_rfl) (by ac_rfl)]
    ·rfl
   have hd4:DRunK κ (arrOf st4) lo m:=fun i j a1 a2 a3=>by rw[hkk',hkk']; exact hd i j a1 a2 a3
   refine wpS_bind (wpS_rev (κ:=κ) (lo:=lo) (n:=nrem) hk4 hp4 hw4 (by ac_rfl) (by ac_rfl) (by ac_rfl) (by ac_rfl) fun st5 hk5 hp5 hw5 hkk5=>?_)
   have hr5:RunK κ (arrOf st5) lo m:=fun i j a1 a2 a3=>by
    rw[hkk5,hkk5,if_pos ⟨a1,by ac_rfl⟩,if_pos ⟨by ac_rfl,a3⟩]
    exact hd4 _ _ (by ac_rfl) (by ac_rfl) (by ac_rfl)
   have sz5:=hw5.size
   refine wpS_bind (wpS_mono (wpS_forRange (I:=fun x c st6=>st6=st5∧c=(none,x)∧RunK κ (arrOf st5) lo x)
    (Q:=fun c st6=>st6=st5∧∃ n,c=(none,n)∧1≤n∧n≤nrem∧RunK κ (arrOf st5) lo n∧(n=nrem∨κ.klt (KK κ (arrOf st5) (lo+n)) (KK κ (arrOf st5) (lo+n-1)))) ?_ ?_ ?_) ?_)
   ·rintro x c st6 hx1 hx2 ⟨rfl,rfl,hr⟩
    dsimp only
    refine wpS_bind (wpS_ltI hO hk5 (hA.of hw5.perm) (by ac_rfl) (by ac_rfl) ?_)
    cases e:κ.blt (KK κ (arrOf st6) (lo+x)) (KK κ (arrOf st6) (lo+x-1))with
    | true=>exact wpS_pure ⟨rfl,x,rfl,by ac_rfl,by ac_rfl,hr,.inr e⟩
    | false =>
     refine wpS_pure ⟨rfl,rfl,fun i j a1 a2 a3=>?_⟩
     by_cases hj:j<lo+x
     ·exact hr i j a1 a2 hj
     ·have hj':j=lo+x:=by ac_rfl
      subst hj'
      by_cases hi:i=lo+x
      ·subst hi; exact KeyOrd.kle_refl _
      ·exact KeyOrd.kle_trans (hr i (lo+x-1) a1 (by ac_rfl) (by ac_rfl)) e
   ·rintro c st6 ⟨rfl,rfl,hr⟩
    rw[show max m nrem=nrem by ac_rfl]at hr ⊢
    exact⟨rfl,nrem,rfl,by ac_rfl,by ac_rfl,hr,.inl rfl⟩
   ·exact⟨rfl,rfl,hr5⟩
   rintro c st6 ⟨rfl,q,rfl,q1,q2,hrq,_⟩
   exact wpS_pure (h q st6 hk5 hp5 hw5 q1 q2 hrq)
  ·have hk4:=hk3
   have hp4:=hp3
   have hw4:=hw3
   have hd4:=hd
   refine wpS_bind (wpS_rev (κ:=κ) (lo:=lo) (n:=nrem) hk4 hp4 hw4 (by ac_rfl) (by ac_rfl) (by ac_rfl) (by ac_rfl) fun st5 hk5 hp5 hw5 hkk5=>?_)
   have hr5:RunK κ (arrOf st5) lo m:=fun i j a1 a2 a3=>by
    rw[hkk5,hkk5,if_pos ⟨a1,by ac_rfl⟩,if_pos ⟨by ac_rfl,a3⟩]
    exact hd4 _ _ (by ac_rfl) (by ac_rfl) (by ac_rfl)
   have sz5:=hw5.size
   refine wpS_bind (wpS_mono (wpS_forRange (I:=fun x c st6=>st6=st5∧c=(none,x)∧RunK κ (arrOf st5) lo x)
    (Q:=fun c st6=>st6=st5∧∃ n,c=(none,n)∧1≤n∧n≤nrem∧RunK κ (arrOf st5) lo n∧(n=nrem∨κ.klt (KK κ (arrOf st5) (lo+n)) (KK κ (arrOf st5) (lo+n-1)))) ?_ ?_ ?_) ?_)
   ·rintro x c st6 hx1 hx2 ⟨rfl,rfl,hr⟩
    dsimp only
    refine wpS_bind (wpS_ltI hO hk5 (hA.of hw5.perm) (by ac_rfl) (by ac_rfl) ?_)
    cases e:κ.blt (KK κ (arrOf st6) (lo+x)) (KK κ (arrOf st6) (lo+x-1))with
    | true=>exact wpS_pure ⟨rfl,x,rfl,by ac_rfl,by ac_rfl,hr,.inr e⟩
    | false =>
     refine wpS_pure ⟨rfl,rfl,fun i j a1 a2 a3=>?_⟩
     by_cases hj:j<lo+x
     ·exact hr i j a1 a2 hj
     ·have hj':j=lo+x:=by ac_rfl
      subst hj'
      by_cases hi:i=lo+x
      ·subst hi; exact KeyOrd.kle_refl _
      ·exact KeyOrd.kle_trans (hr i (lo+x-1) a1 (by ac_rfl) (by ac_rfl)) e
   ·rintro c st6 ⟨rfl,rfl,hr⟩
    rw[show max m nrem=nrem by ac_rfl]at hr ⊢
    exact⟨rfl,nrem,rfl,by ac_rfl,by ac_rfl,hr,.inl rfl⟩
   ·exact⟨rfl,rfl,hr5⟩
   rintro c st6 ⟨rfl,q,rfl,q1,q2,hrq,_⟩
   exact wpS_pure (h q st6 hk5 hp5 hw5 q1 q2 hrq)
end
end L2
namespace L2
open PySem PySem.Spec PyProof.Rows
section
variable{prog:Program}{w:World}{A:Around}{E:Value→Shared→Prop}{s:Shared}{κ:KeyKind}
theorem wpS_move{st0 st:SortSt}{lo n src dst:Nat}{Q:Unit→SortSt→Prop}(hk:SB st)(hp:pendingOf st=pendingOf st0)(hw:Wr (arrOf st0) (arrOf st) lo n)(hij:dst≤src)(hj:src<(arrOf st0).size)(c1:lo≤dst)(c2:src<lo+n)
  (h:∀ st2,SB st2→pendingOf st2=pendingOf st0→Wr (arrOf st0) (arrOf st2) lo n→(∀ k,KK κ (arrOf st2) k=if k=dst then KK κ (arrOf st) src else if dst<k∧k≤src then KK κ (arrOf st) (k-1)else KK κ (arrOf st) k)→Q () st2) :
  wpS (model prog w) A E s (moveDown' src dst) Q st:=by
 have hj':src<(arrOf st).size:=by rw[hw.size]; exact hj
 rw[moveDown'_eq]
 refine wpS_modify (h _ ⟨hk.kind,hk.failed⟩ hp (hw.trans ((wr_bubble hj' (show src-dst≤src by ac_rfl)).mono (by ac_rfl) (by ac_rfl))) fun k=>?_)
 have:=KK_bubble (κ:=κ) hj' (show src-dst≤src by ac_rfl) k
 rw[show src-(src-dst)=dst by ac_rfl]at this
 exact this
theorem wpS_binarySort2(hO:κ.OneLt){st:SortSt}(hk:SB st)(hA:AllK κ (arrOf st)){lo n ok:Nat}(hok:ok≤n)(hsz:lo+n≤(arrOf st).size)(hr:RunK κ (arrOf st) lo ok){Q:Bool→SortSt→Prop}
  (h:∀ st',SB st'→pendingOf st'=pendingOf st→Wr (arrOf st) (arrOf st') lo n→RunK κ (arrOf st') lo n→Q true st') :
  wpS (model prog w) A E s (binarySort' lo n ok) Q st:=by
 unfold binarySort'
 refine wpS_bind (wpS_mono (wpS_forRange (I:=fun k c st1=>c=(none,())∧SB st1∧pendingOf st1=pendingOf st∧Wr (arrOf st) (arrOf st1) lo n∧RunK κ (arrOf st1) lo (min k n))
  (Q:=fun c st1=>c=(none,())∧SB st1∧pendingOf st1=pendingOf st∧Wr (arrOf st) (arrOf st1) lo n∧RunK κ (arrOf st1) lo n) ?_ ?_ ?_) ?_)
 ·rintro k c st1 hk1 hk2 ⟨rfl,hb1,hp1,hw1,hr1⟩
  have sz:=hw1.size
  rw[show min k n=k by ac_rfl]at hr1
  refine wpS_bind (wpS_mono (wpS_forRange (I:=fun x c st2=>st2=st1∧∃ l r,c=(none,l,r)∧l≤r∧r≤k∧r-l≤k-x ∧
    (∀ i,i<l→κ.kle (KK κ (arrOf st1) (lo+i)) (KK κ (arrOf st1) (lo+k)))∧(∀ i,r≤i→i<k→κ.klt (KK κ (arrOf st1) (lo+k)) (KK κ (arrOf st1) (lo+i))))
   (Q:=fun c st2=>st2=st1∧∃ l r,c=(none,l,r)∧l≤k ∧
    (∀ i,i<l→κ.kle (KK κ (arrOf st1) (lo+i)) (KK κ (arrOf st1) (lo+k)))∧(∀ i,l≤i→i<k→κ.klt (KK κ (arrOf st1) (lo+k)) (KK κ (arrOf st1) (lo+i)))) ?_ ?_ ?_) ?_)
  ·rintro x c st2 _ hx ⟨rfl,l,r,rfl,a1,a2,a3,a4,a5⟩
   dsimp only
   refine wpS_if (fun hge=>?_) fun hge=>?_
   ·have:l=r:=by ac_rfl
    subst this
    exact wpS_pure ⟨rfl,l,l,rfl,a2,a4,a5⟩
   ·refine wpS_bind (wpS_ltI hO hb1 (hA.of hw1.perm) (by ac_rfl) (by ac_rfl) ?_)
    cases e:κ.blt (KK κ (arrOf st2) (lo+k)) (KK κ (arrOf st2) (lo+(l+r) / 2))with
    | true=>exact wpS_pure ⟨rfl,l,(l+r) / 2,rfl,by ac_rfl,by ac_rfl,by ac_rfl,a4,fun i h1 h2=>KeyOrd.klt_of_klt_of_kle e (hr1 _ _ (by ac_rfl) (by ac_rfl) (by ac_rfl))⟩
    | false=>exact wpS_pure ⟨rfl,(l+r) / 2+1,r,rfl,by ac_rfl,by ac_rfl,by ac_rfl,fun i h1=>KeyOrd.kle_trans (hr1 (lo+i) (lo+(l+r) / 2) (by ac_rfl) (by ac_rfl) (by ac_rfl)) e,a5⟩
  ·rintro c st2 ⟨rfl,l,r,rfl,a1,a2,a3,a4,a5⟩
   have:l=r:=by ac_rfl
   subst this
   exact⟨rfl,l,l,rfl,a2,a4,a5⟩
  ·exact⟨rfl,0,k,rfl,by ac_rfl,by ac_rfl,by ac_rfl,fun i hi=>by ac_rfl,fun i h1 h2=>by ac_rfl⟩
  ·rintro c st2 ⟨rfl,l,r,rfl,a2,a4,a5⟩
   dsimp only
   refine wpS_bind (wpS_move (κ:=κ) (lo:=lo) (n:=n) hb1 hp1 hw1 (by ac_rfl) (by ac_rfl) (by ac_rfl) (by ac_rfl) fun st3 hb3 hp3 hw3 hkk=>wpS_pure ⟨rfl,hb3,hp3,hw3,?_⟩)
   rw[show min (k+1) n=k+1 by ac_rfl]
   intro i j c1 c2 c3
   rw[hkk,hkk]
   repeat' split
   all_goals first
    | (exfalso; ac_rfl)
    | exact KeyOrd.kle_refl _
    | (have:=a4 (i-lo) (by ac_rfl); rw[show lo+(i-lo)=i by ac_rfl]at this; exact this)
    | (have:=a5 (j-1-lo) (by ac_rfl) (by ac_rfl); rw[show lo+(j-1-lo)=j-1 by ac_rfl]at this; exact KeyOrd.kle_of_klt this)
    | exact hr1 _ _ (by ac_rfl) (by ac_rfl) (by ac_rfl)
 ·rintro c st1 ⟨rfl,hb1,hp1,hw1,hr1⟩
  rw[show min (max (max ok 1) n) n=n by ac_rfl]at hr1
  exact⟨rfl,hb1,hp1,hw1,hr1⟩
 ·refine⟨rfl,hk,rfl,Wr.same,fun i j c1 c2 c3=>?_⟩
  by_cases h1:ok=0
  ·have:i=j:=by ac_rfl
   subst this; exact KeyOrd.kle_refl _
  ·exact hr i j c1 c2 (by ac_rfl)
 ·rintro c st1 ⟨rfl,hb1,hp1,hw1,hr1⟩
  exact wpS_pure (h st1 hb1 hp1 hw1 hr1)
end
end L2
namespace L2
open PySem PySem.Spec PyProof.Rows
theorem ite_add{c:Prop}[Decidable c]{a b n:Nat}(h1:a+1<n)(h2:b+1<n):(if c then a else b)+1<n:=by
 split <;> assumption
def Chn:Nat→List (Nat×Nat)→Nat→Prop
 | f,[],t=>f=t
 | f,(a,n)::l,t=>a=f∧0<n∧Chn (f+n) l t
theorem Chn.app:∀ {l1:List (Nat×Nat)} {f t:Nat} {l2:List (Nat×Nat)},Chn f (l1++l2) t↔∃ m,Chn f l1 m∧Chn m l2 t
 | [],f,t,l2=>by simp[Chn]
 | (a,n)::l1,f,t,l2=>by
  simp only[List.cons_append,Chn,Chn.app (l1:=l1)]
  constructor
  ·rintro⟨h1,h2,m,h3,h4⟩; exact⟨m,⟨h1,h2,h3⟩,h4⟩
  ·rintro⟨m,⟨h1,h2,h3⟩,h4⟩; exact⟨h1,h2,m,h3,h4⟩
theorem Chn.le:∀ {l:List (Nat×Nat)} {f t:Nat},Chn f l t→f+l.length≤t∧∀ e∈l,f≤e.1∧e.1+e.2≤t
 | [],f,t,h=>⟨by cases h; simp,by simp⟩
 | (a,n)::l,f,t,⟨h1,h2,h3⟩=>by
  obtain⟨i1,i2⟩:=Chn.le h3
  refine⟨by simp; ac_rfl,fun e he=>?_⟩
  rcases List.mem_cons.mp he with rfl | he
  ·subst h1; exact⟨Nat.le_refl _,by simp; ac_rfl⟩
  ·have:=i2 e he; exact⟨by ac_rfl,this.2⟩
def PL(pd:Array (Nat×Nat×Nat)):List (Nat×Nat):=pd.toList.map fun e=>(e.1,e.2.1)
structure PdI(κ:KeyKind)(arr:Array Keyed)(pd:Array (Nat×Nat×Nat))(lo:Nat):Prop where
 ch:Chn 0 (PL pd) lo
 run:∀ e∈PL pd,Run κ arr e.1 e.2
theorem PL_len(pd:Array (Nat×Nat×Nat)):(PL pd).length=pd.size:=by simp[PL]
theorem PL_push(pd:Array (Nat×Nat×Nat))(e:Nat×Nat×Nat):PL (pd.push e)=PL pd++[(e.1,e.2.1)]:=by simp[PL]
theorem PL_modify(pd:Array (Nat×Nat×Nat))(k pw:Nat):PL (pd.modify k fun x=>(x.1,x.2.1,pw))=PL pd:=by
 apply List.ext_getElem?
 intro i
 simp only[PL,List.getElem?_map,Array.getElem?_toList,Array.getElem?_modify]
 split
 ·cases pd[i]? <;> rfl
 ·rfl
theorem PL_split{pd:Array (Nat×Nat×Nat)}{i:Nat}(h:i+1<pd.size):∃ l1 l2 sa na pa sb nb pb,pd[i]?=some (sa,na,pa)∧pd[i+1]?=some (sb,nb,pb)∧PL pd=l1++(sa,na)::(sb,nb)::l2 ∧
  PL ((pd.setIfInBounds i (sa,na+nb,pa)).eraseIdxIfInBounds (i+1))=l1++(sa,na+nb)::l2:=by
 obtain⟨l⟩:=pd
 simp only[List.size_toArray]at h
 have e:l=l.take i++l[i]::l[i+1]::l.drop (i+2):=by
  rw[← List.drop_eq_getElem_cons,← List.drop_eq_getElem_cons,List.take_append_drop]
 obtain⟨l1,x,y,l2,hl,e2⟩:∃ l1 x y l2,l1.length=i∧l=l1++x::y::l2:=⟨l.take i,l[i],l[i+1],l.drop (i+2),by simp; ac_rfl,e⟩
 subst hl e2
 obtain⟨sa,na,pa⟩:=x
 obtain⟨sb,nb,pb⟩:=y
 refine⟨l1.map fun e=>(e.1,e.2.1),l2.map fun e=>(e.1,e.2.1),sa,na,pa,sb,nb,pb,by simp,by simp[List.getElem?_append_right],by simp[PL],?_⟩
 have e3:((l1++(sa,na,pa)::(sb,nb,pb)::l2).toArray.setIfInBounds l1.length (sa,na+nb,pa)).eraseIdxIfInBounds (l1.length+1)=(l1++(sa,na+nb,pa)::l2).toArray:=by
  rw[List.setIfInBounds_toArray,List.set_append_right _ _ (Nat.le_refl _),List.eraseIdxIfInBounds_toArray]
  congr 1
  rw[List.eraseIdx_append_of_length_le (by ac_rfl)]
  simp
 rw[e3]
 simp[PL]
section
variable{prog:Program}{w:World}{A:Around}{E:Value→Shared→Prop}{s:Shared}{κ:KeyKind}
theorem PdI.keep{a a':Array Keyed}{pd:Array (Nat×Nat×Nat)}{lo n:Nat}(h:PdI κ a pd lo)(w:Wr a a' lo n):PdI κ a' pd lo :=
 ⟨h.ch,fun e he=>(h.run e he).keep w (.inl (h.ch.le.2 e he).2)⟩
theorem wpS_mergeStep(hO:κ.OneLt){st:SortSt}(hk:SB st)(hA:AllK κ (arrOf st)){i lo:Nat}(hP:PdI κ (arrOf st) (pendingOf st) lo)(hlo:lo≤(arrOf st).size)(hi:i+1<(pendingOf st).size){Q:Bool→SortSt→Prop}
  (h:∀ st',SB st'→Wr (arrOf st) (arrOf st') 0 lo→PdI κ (arrOf st') (pendingOf st') lo→(pendingOf st').size+1=(pendingOf st).size→Q true st') :
  wpS (model prog w) A E s (mergeAt' i) Q st:=by
 obtain⟨l1,l2,sa,na,pa,sb,nb,pb,e1,e2,e3,e4⟩:=PL_split hi
 have hc:=hP.ch
 rw[e3]at hc
 obtain⟨m,c1,c2,c3,c4,c5,c6⟩:=Chn.app.mp hc
 subst c2 c4
 have b1:=c1.le
 have b2:=c6.le
 have r1:Run κ (arrOf st) sa na:=hP.run (sa,na) (by rw[e3]; simp)
 have r2:Run κ (arrOf st) (sa+na) nb:=hP.run (sa+na,nb) (by rw[e3]; simp)
 refine wpS_mergeAt hO hk hA e1 e2 c3 c5 (by ac_rfl) r1 r2 fun st' hk' hp' hw hr=>h st' hk' (hw.mono (by ac_rfl) (by ac_rfl)) ⟨?_,?_⟩ ?_
 ·rw[hp',e4]
  exact Chn.app.mpr ⟨sa,c1,rfl,by ac_rfl,by rw[← Nat.add_assoc]; exact c6⟩
 ·rw[hp',e4]
  intro e he
  rcases List.mem_append.mp he with he | he
  ·exact(hP.run e (by rw[e3]; exact List.mem_append_left _ he)).keep hw (.inl (b1.2 e he).2)
  ·rcases List.mem_cons.mp he with rfl | he
   ·exact hr
   ·exact(hP.run e (by rw[e3]; simp[he])).keep hw (.inr (by have:=(b2.2 e he).1; ac_rfl))
 ·have q1:=PL_len (pendingOf st')
  have q2:=PL_len (pendingOf st)
  rw[hp',e4]at q1
  rw[e3]at q2
  rw[hp',← q1,← q2]; simp; ac_rfl
theorem wpS_sortRuns2(hO:κ.OneLt){st:SortSt}(hk:SB st)(hA:AllK κ (arrOf st))(hp:pendingOf st = #[]){Q:Unit→SortSt→Prop}
  (h:∀ st',SB st'→(arrOf st').toList.Perm (arrOf st).toList→Run κ (arrOf st') 0 (arrOf st).size→Q () st') :
  wpS (model prog w) A E s sortRuns' Q st:=by
 unfold sortRuns'
 refine wpS_bind (wpS_get ?_)
 dsimp only
 obtain⟨size,hsize⟩:∃ size,size=(arrOf st).size:=⟨_,rfl⟩
 have hsize':((sortPriv% PySem.Builtin.SortState.a) st).size=size:=hsize.symm
 simp only[hsize']
 refine wpS_bind (wpS_mono (wpS_forRange (I:=fun x c st1=>∃ lo,c=(none,lo)∧x≤lo∧lo≤size∧SB st1∧(arrOf st1).toList.Perm (arrOf st).toList∧(arrOf st1).size=size∧PdI κ (arrOf st1) (pendingOf st1) lo)
  (Q:=fun c st1=>c=(none,size)∧SB st1∧(arrOf st1).toList.Perm (arrOf st).toList∧(arrOf st1).size=size∧PdI κ (arrOf st1) (pendingOf st1) size) ?_ ?_ ?_) ?_)
 rotate_left
 ·rintro c st1 ⟨lo,rfl,b1,b2,hk1,hp1,hs1,hP⟩
  have:lo=size:=by ac_rfl
  subst this
  exact⟨rfl,hk1,hp1,hs1,hP⟩
 ·exact⟨0,rfl,by ac_rfl,by ac_rfl,hk,List.Perm.refl _,hsize.symm,by rw[hp]; exact⟨rfl,by simp[PL]⟩⟩
 ·rintro c st1 ⟨rfl,hk1,hp1,hs1,hP⟩
  dsimp only
  refine wpS_bind (wpS_mono (wpS_forRange (I:=fun x c st2=>c=(none,())∧SB st2∧(arrOf st2).toList.Perm (arrOf st).toList∧(arrOf st2).size=size∧PdI κ (arrOf st2) (pendingOf st2) size∧(pendingOf st2).size+x≤size+1)
   (Q:=fun c st2=>c=(none,())∧SB st2∧(arrOf st2).toList.Perm (arrOf st).toList∧(arrOf st2).size=size∧PdI κ (arrOf st2) (pendingOf st2) size∧(pendingOf st2).size≤1) ?_ ?_ ?_) ?_)
  ·rintro x c st2 _ hx ⟨rfl,hk2,hp2,hs2,hP2,hb⟩
   refine wpS_bind (wpS_get ?_)
   refine wpS_if (fun e1=>wpS_pure ⟨rfl,hk2,hp2,hs2,hP2,e1⟩) fun e1=>?_
   have e1':1<(pendingOf st2).size:=Nat.lt_of_not_le e1
   refine wpS_bind (wpS_mergeStep hO hk2 (hA.of hp2) hP2 (by ac_rfl) ?_ fun st3 hk3 hw3 hP3 hq=>?_)
   ·exact ite_add (show(pendingOf st2).size-2-1+1<(pendingOf st2).size by ac_rfl) (show(pendingOf st2).size-2+1<(pendingOf st2).size by ac_rfl)
   ·exact wpS_pure ⟨rfl,hk3,hw3.perm.trans hp2,hw3.size.trans hs2,hP3,by ac_rfl⟩
  ·rintro c st2 ⟨rfl,hk2,hp2,hs2,hP2,hb⟩
   exact⟨rfl,hk2,hp2,hs2,hP2,by ac_rfl⟩
  ·have:=hP.ch.le.1
   rw[PL_len]at this
   exact⟨rfl,hk1,hp1,hs1,hP,by ac_rfl⟩
  ·rintro c st2 ⟨rfl,hk2,hp2,hs2,hP2,hb⟩
   refine wpS_pure (h st2 hk2 hp2 ?_)
   rw[← hsize]
   have hc:=hP2.ch
   have hr:=hP2.run
   have hl:=PL_len (pendingOf st2)
   match hq:PL (pendingOf st2),hc,hr,hl with
   | [],hc,hr,hl =>
    cases hc
    intro i j x y a1 a2 a3; ac_rfl
   | [(a,n)],hc,hr,hl =>
    obtain⟨d1,d2,d3⟩:=hc
    cases d1
    have d3':0+n=size:=d3
    have:=hr (0,n) (by simp)
    rw[show size=n by ac_rfl]; exact this
   | _::_::_,hc,hr,hl=>simp at hl; ac_rfl
 rintro x c st1 _ hx ⟨lo,rfl,b1,b2,hk1,hp1,hs1,hP⟩
 dsimp only
 refine wpS_if (fun e1=>?_) fun e1=>?_
 ·have:lo=size:=by ac_rfl
  subst this
  exact wpS_pure ⟨rfl,hk1,hp1,hs1,hP⟩
 refine wpS_bind (wpS_countRun2 hO hk1 (hA.of hp1) (by ac_rfl) (by ac_rfl) fun found st2 hk2 hq2 hw2 f1 f2 hr2=>?_)
 dsimp only
 refine wpS_if (fun e2=>?_) fun e2=>?_
 ·refine wpS_bind (wpS_lift (wpAny_rule ⟨rfl,?_⟩))
  refine wpS_bind (wpS_binarySort2 hO hk2 ((hA.of hp1).of hw2.perm) (by ac_rfl) (by rw[hw2.size]; ac_rfl) hr2 fun st3 hk3 hq3 hw3 hr3=>?_)
  rw[if_neg (by simp)]
  have hw:Wr (arrOf st1) (arrOf st3) lo (size-lo):=hw2.trans (hw3.mono (by ac_rfl) (by ac_rfl))
  have hqq:pendingOf st3=pendingOf st1:=hq3.trans hq2
  generalize hn:min (size-lo) _=n at *
  have n1:0<n:=by ac_rfl
  have n2:lo+n≤size:=by ac_rfl
  clear hk2 hw2 hr2 hq2 hw3 hq3
  have hP3:PdI κ (arrOf st3) (pendingOf st3) lo:=by rw[hqq]; exact hP.keep hw
  have hp3:(arrOf st3).toList.Perm (arrOf st).toList:=hw.perm.trans hp1
  have hs3:(arrOf st3).size=size:=hw.size.trans hs1
  have hR:Run κ (arrOf st3) lo n:=hr3.run
  clear hw hqq
  refine wpS_bind (wpS_get ?_)
  obtain⟨kd,arr,pd,mg,fl⟩:=st3
  dsimp only
  cases hbk:pd.back? with
  | none =>
   dsimp only
   refine wpS_bind (wpS_modify (wpS_pure ⟨lo+n,rfl,by ac_rfl,n2,⟨hk3.kind,hk3.failed⟩,hp3,hs3,?_⟩))
   refine⟨?_,?_⟩
   ·show Chn 0 (PL (pd.push (lo,n,0))) _
    rw[PL_push]; exact Chn.app.mpr ⟨lo,hP3.ch,rfl,n1,rfl⟩
   ·show ∀ e∈PL (pd.push (lo,n,0)),_
    rw[PL_push]
    intro e he
    rcases List.mem_append.mp he with he | he
    ·exact hP3.run e he
    ·rw[List.mem_singleton.mp he]; exact hR
  | some bk =>
   obtain⟨s1,m1,q1⟩:=bk
   dsimp only
   refine wpS_bind (wpS_mono (wpS_forRange (I:=fun x c st4=>c=(none,())∧SB st4∧(arrOf st4).toList.Perm (arrOf st).toList∧(arrOf st4).size=size∧PdI κ (arrOf st4) (pendingOf st4) lo∧Run κ (arrOf st4) lo n)
    (Q:=fun c st4=>c=(none,())∧SB st4∧(arrOf st4).toList.Perm (arrOf st).toList∧(arrOf st4).size=size∧PdI κ (arrOf st4) (pendingOf st4) lo∧Run κ (arrOf st4) lo n) ?_ (fun _ _ hh=>hh) ?_) ?_)
   ·rintro y c st4 _ hy ⟨rfl,hk4,hp4,hs4,hP4,hR4⟩
    refine wpS_bind (wpS_get ?_)
    have hdone:∀ {st5:SortSt},st5=st4→((none,()):Option Unit×Unit)=(none,())∧SB st5∧(arrOf st5).toList.Perm (arrOf st).toList∧(arrOf st5).size=size∧PdI κ (arrOf st5) (pendingOf st5) lo∧Run κ (arrOf st5) lo n:=fun e=>by
     subst e; exact⟨rfl,hk4,hp4,hs4,hP4,hR4⟩
    by_cases hg:1<(pendingOf st4).size
    ·obtain⟨kd4,arr4,pd4,mg4,fl4⟩:=st4
     have hg':pd4.size > 1:=hg
     dsimp only
     rw[if_pos hg',getElem?_pos pd4 (pd4.size-2) (by ac_rfl)]
     obtain⟨u1,u2,u3⟩:=pd4[pd4.size-2]
     dsimp only
     refine wpS_if (fun _=>wpS_pure (hdone rfl)) fun _=>?_
     refine wpS_bind (wpS_mergeStep hO hk4 (hA.of hp4) hP4 (by ac_rfl) (show pd4.size-2+1<pd4.size by ac_rfl) fun st5 hk5 hw5 hP5 _=>?_)
     exact wpS_pure ⟨rfl,hk5,hw5.perm.trans hp4,hw5.size.trans hs4,hP5,hR4.keep hw5 (.inr (by ac_rfl))⟩
    ·obtain⟨kd4,arr4,pd4,mg4,fl4⟩:=st4
     have hg':¬ pd4.size > 1:=hg
     dsimp only
     rw[if_neg hg']
     exact wpS_pure (hdone rfl)
   ·exact⟨rfl,hk3,hp3,hs3,hP3,hR⟩
   rintro c st4 ⟨rfl,hk4,hp4,hs4,hP4,hR4⟩
   obtain⟨kd4,arr4,pd4,mg4,fl4⟩:=st4
   dsimp only
   refine wpS_bind (wpS_modify (wpS_bind (wpS_modify (wpS_pure ⟨lo+n,rfl,by ac_rfl,n2,⟨hk4.kind,hk4.failed⟩,hp4,hs4,?_⟩))))
   refine⟨?_,?_⟩
   ·show Chn 0 (PL ((pd4.modify (pd4.size-1) fun x=>(x.1,x.2.1,_)).push (lo,n,0))) _
    rw[PL_push,PL_modify]; exact Chn.app.mpr ⟨lo,hP4.ch,rfl,n1,rfl⟩
   ·show ∀ e∈PL ((pd4.modify (pd4.size-1) fun x=>(x.1,x.2.1,_)).push (lo,n,0)),_
    rw[PL_push,PL_modify]
    intro e he
    rcases List.mem_append.mp he with he | he
    ·exact hP4.run e he
    ·rw[List.mem_singleton.mp he]; exact hR4
 ·have hk3:=hk2
  have hr3:=hr2
  have hw:Wr (arrOf st1) (arrOf st2) lo (size-lo):=hw2
  have hqq:pendingOf st2=pendingOf st1:=hq2
  have n1:0<found:=by ac_rfl
  have n2:lo+found≤size:=by ac_rfl
  have hP3:PdI κ (arrOf st2) (pendingOf st2) lo:=by rw[hqq]; exact hP.keep hw
  have hp3:(arrOf st2).toList.Perm (arrOf st).toList:=hw.perm.trans hp1
  have hs3:(arrOf st2).size=size:=hw.size.trans hs1
  have hR:Run κ (arrOf st2) lo found:=hr3.run
  clear hw hqq
  refine wpS_bind (wpS_get ?_)
  obtain⟨kd,arr,pd,mg,fl⟩:=st2
  dsimp only
  cases hbk:pd.back? with
  | none =>
   dsimp only
   refine wpS_bind (wpS_modify (wpS_pure ⟨lo+found,rfl,by ac_rfl,n2,⟨hk3.kind,hk3.failed⟩,hp3,hs3,?_⟩))
   refine⟨?_,?_⟩
   ·show Chn 0 (PL (pd.push (lo,found,0))) _
    rw[PL_push]; exact Chn.app.mpr ⟨lo,hP3.ch,rfl,n1,rfl⟩
   ·show ∀ e∈PL (pd.push (lo,found,0)),_
    rw[PL_push]
    intro e he
    rcases List.mem_append.mp he with he | he
    ·exact hP3.run e he
    ·rw[List.mem_singleton.mp he]; exact hR
  | some bk =>
   obtain⟨s1,m1,q1⟩:=bk
   dsimp only
   refine wpS_bind (wpS_mono (wpS_forRange (I:=fun x c st4=>c=(none,())∧SB st4∧(arrOf st4).toList.Perm (arrOf st).toList∧(arrOf st4).size=size∧PdI κ (arrOf st4) (pendingOf st4) lo∧Run κ (arrOf st4) lo found)
    (Q:=fun c st4=>c=(none,())∧SB st4∧(arrOf st4).toList.Perm (arrOf st).toList∧(arrOf st4).size=size∧PdI κ (arrOf st4) (pendingOf st4) lo∧Run κ (arrOf st4) lo found) ?_ (fun _ _ hh=>hh) ?_) ?_)
   ·rintro y c st4 _ hy ⟨rfl,hk4,hp4,hs4,hP4,hR4⟩
    refine wpS_bind (wpS_get ?_)
    have hdone:∀ {st5:SortSt},st5=st4→((none,()):Option Unit×Unit)=(none,())∧SB st5∧(arrOf st5).toList.Perm (arrOf st).toList∧(arrOf st5).size=size∧PdI κ (arrOf st5) (pendingOf st5) lo∧Run κ (arrOf st5) lo found:=fun e=>by
     subst e; exact⟨rfl,hk4,hp4,hs4,hP4,hR4⟩
    by_cases hg:1<(pendingOf st4).size
    ·obtain⟨kd4,arr4,pd4,mg4,fl4⟩:=st4
     have hg':pd4.size > 1:=hg
     dsimp only
     rw[if_pos hg',getElem?_pos pd4 (pd4.size-2) (by ac_rfl)]
     obtain⟨u1,u2,u3⟩:=pd4[pd4.size-2]
     dsimp only
     refine wpS_if (fun _=>wpS_pure (hdone rfl)) fun _=>?_
     refine wpS_bind (wpS_mergeStep hO hk4 (hA.of hp4) hP4 (by ac_rfl) (show pd4.size-2+1<pd4.size by ac_rfl) fun st5 hk5 hw5 hP5 _=>?_)
     exact wpS_pure ⟨rfl,hk5,hw5.perm.trans hp4,hw5.size.trans hs4,hP5,hR4.keep hw5 (.inr (by ac_rfl))⟩
    ·obtain⟨kd4,arr4,pd4,mg4,fl4⟩:=st4
     have hg':¬ pd4.size > 1:=hg
     dsimp only
     rw[if_neg hg']
     exact wpS_pure (hdone rfl)
   ·exact⟨rfl,hk3,hp3,hs3,hP3,hR⟩
   rintro c st4 ⟨rfl,hk4,hp4,hs4,hP4,hR4⟩
   obtain⟨kd4,arr4,pd4,mg4,fl4⟩:=st4
   dsimp only
   refine wpS_bind (wpS_modify (wpS_bind (wpS_modify (wpS_pure ⟨lo+found,rfl,by ac_rfl,n2,⟨hk4.kind,hk4.failed⟩,hp4,hs4,?_⟩))))
   refine⟨?_,?_⟩
   ·show Chn 0 (PL ((pd4.modify (pd4.size-1) fun x=>(x.1,x.2.1,_)).push (lo,found,0))) _
    rw[PL_push,PL_modify]; exact Chn.app.mpr ⟨lo,hP4.ch,rfl,n1,rfl⟩
   ·show ∀ e∈PL ((pd4.modify (pd4.size-1) fun x=>(x.1,x.2.1,_)).push (lo,found,0)),_
    rw[PL_push,PL_modify]
    intro e he
    rcases List.mem_append.mp he with he | he
    ·exact hP4.run e he
    ·rw[List.mem_singleton.mp he]; exact hR4
end
end L2
namespace L2
open PySem PySem.Spec PyProof.Rows
theorem smallM{n:Nat}(h:n≤1000000):n<sizeLine:=Nat.lt_of_le_of_lt h (by decide)
theorem Run.sortedTo{κ:KeyKind}{a:Array Keyed}{n:Nat}(h:Run κ a 0 n)(hn:n≤a.size):SortedToK κ a n:=by
 intro i j hij hj
 have:=h i j _ _ (Nat.zero_le _) hij (by ac_rfl) (getElem?_pos a i (by ac_rfl)) (getElem?_pos a j (by ac_rfl))
 rw[KK_at (show i<a.size by ac_rfl),KK_at (show j<a.size by ac_rfl)]
 exact this
theorem KeysOf.all{κ:KeyKind}{a:Array Keyed}(h:KeysOf κ a):AllK κ a:=fun i hi=>h _ (by simp)
section
variable{P:Program}{w:World}{A:Around}{E:Value→Shared→Prop}{s:Shared}
theorem list_sort2{κ:KeyKind}(hO:κ.OneLt){a:Addr}{vs:List Value}{n:Nat}{F:Fin→Shared→Prop}(ho:s.heap.get? a=some (seqObj "list" vs.toArray n))
  (h0:KeysOf κ (pairsOf vs)) (hkk:∀ v₁ v₂ rest,vs=v₁::v₂::rest→keyKind' (v₁::v₂::rest).toArray=pure oneType') (hz:vs.length≤1000000)
  (h:∀ st':SortSt,(arrOf st').Perm (pairsOf vs)→SortedToK κ (arrOf st') (pairsOf vs).size→F (.done (.ret .none)) { s with heap:=sortedHeap s.heap a vs ((arrOf st').map (·.2)) }) :
  wpAny (model P w) A (Builtin.«list.sort» ⟨[.ref a],[]⟩) F E s:=by
 by_cases h64:vs.length<64
 ·exact list_sort_treeK hO ho h0 hkk h64 h
 obtain⟨v₁,v₂,rest,rfl⟩:∃ v₁ v₂ rest,vs=v₁::v₂::rest:=by
  match vs,h64 with
  | [],h64=>simp at h64
  | [_],h64=>simp at h64
  | v₁::v₂::rest,_=>exact⟨v₁,v₂,rest,rfl⟩
 rw[list_sort_plain]
 have ha:a<s.heap.objs.size:=Heap.lt_size ho
 have hl:(v₁::v₂::rest).length≤sizeLine:=Nat.le_of_lt (smallM hz)
 refine wpAny_bind (listItems_at ho rfl ?_)
 refine wpAny_bind (listUpdate_at ho rfl ?_)
 obtain⟨e1,ho1⟩:∃ e1,(s.heap.update a (Obj.mapSeq fun _=>#[])).get? a=some (seqObj "list" #[] e1):=⟨_,get?_update_seq ho (fun _=>#[])⟩
 refine wpAny_bind (seqEpoch_at ho1 rfl ?_)
 refine wpAny_bind (wpAny_newTuple ?_ (hsz:=by rw[List.toList_toArray]; exact hl))
 refine wpAny_bind (wpAny_newList ?_)
 refine wpAny_holding ?_
 have ho6:(((s.heap.update a (Obj.mapSeq fun _=>#[])).push (seqObj "tuple" (v₁::v₂::rest).toArray 0)).push (seqObj "list" #[] 0)).get? a=some (seqObj "list" #[] e1):=by
  rw[Heap.get?_push_ne _ _ _ (by rw[size_push',Heap.size_update]; exact Nat.ne_of_lt (Nat.lt_succ_of_lt ha)),Heap.get?_push_ne _ _ _ (by rw[Heap.size_update]; exact Nat.ne_of_lt ha)]
  exact ho1
 show wpAny (model P w) A _ F E { s with heap:=((s.heap.update a (Obj.mapSeq fun _=>#[])).push (seqObj "tuple" (v₁::v₂::rest).toArray 0)).push (seqObj "list" #[] 0) }
 dsimp only
 have h2:¬ (v₁::v₂::rest).toArray.size<2:=by simp
 rw[if_neg h2,if_neg h2,hkk _ _ _ rfl]
 refine wpAny_bind (wpAny_pure ?_)
 refine wpAny_bind (wpAny_mono (wpS_sortRuns2 (κ:=κ) hO (st:=SortSt.mk' oneType' ((v₁::v₂::rest).toArray.zip (v₁::v₂::rest).toArray) #[] 7 none)
  (Q:=fun _ st'=>SB st'∧(arrOf st').toList.Perm (pairsOf (v₁::v₂::rest)).toList∧Run κ (arrOf st') 0 (pairsOf (v₁::v₂::rest)).size)
  ⟨rfl,rfl⟩ (KeysOf.all h0) rfl fun st' a1 a2 a3=>⟨a1,a2,a3⟩) ?_ fun _ _ e=>e)
 rintro⟨⟨⟩,st'⟩ s' ⟨rfl,hb,hp,hs⟩
 have hp':(arrOf st').Perm (pairsOf (v₁::v₂::rest)):=Array.perm_iff_toList_perm.mpr hp
 dsimp only
 refine wpAny_bind (seqEpoch_at ho6 rfl ?_)
 refine wpAny_bind (listUpdate_at ho6 rfl ?_ (hsz2:=by refine Nat.le_trans (Nat.le_of_eq ((Array.size_map ..).trans (hp'.size_eq.trans (pairsOf_size _)))) (Nat.le_succ_of_le hl)))
 rw[show failedOf st'=none from hb.failed]
 simp only[bne_self_eq_false,Bool.false_eq_true,if_false]
 exact wpAny_pure (h st' hp' (hs.sortedTo (by rw[hp'.size_eq]; exact Nat.le_refl _)))
end
section
variable{P:Program}{w:World}{A:Around}{E:Value→Shared→Prop}{s:Shared}
theorem sorted_gen2{v:Value}{Q:Value→Shared→Prop}
  (hc:wpAny (model P w) A.in1 (collect v) (fun vs s1=>∃ ss:List Str,StrsAre vs ss∧vs.length≤1000000∧∀ (h':Heap) (out:Array Value) (ss':List Str) (e:Nat),(∀ b o,s1.heap.get? b=some o→h'.get? b=some o) →
   h'.get? s1.heap.objs.size=some (seqObj "list" out e)→StrsAre out.toList ss'→ss'.Perm ss→sortedS ss'=true→Q (.ref s1.heap.objs.size) { s1 with heap:=h' }) E s) :
  wpAny (model P w) A (call (.builtin "sorted") [v]) Q E s:=by
 refine Calls.call_function_entry kind_sorted plain_sorted entry_sorted (args_sorted1 _) ?_
 unfold Builtin.«sorted»
 refine wpAny_bind (m:=checkCount "sorted" 1 1 _) (wpAny_pure ?_)
 refine wpAny_bind (thn hc fun vs s1 ⟨ss,hS,h64,fin⟩=>?_)
 refine wpAny_bind (wpAny_newList ?_)
 have hoL:(s1.heap.push (seqObj "list" vs.toArray 0)).get? s1.heap.objs.size=some (seqObj "list" vs.toArray 0):=Heap.get?_push_size _ rfl
 refine wpAny_bind (wpAny_holding (wpAny_call_entry slot_list_sort ⟨_,hoL,rfl⟩ entry_list_sort (list_sort2 strKind_oneLt hoL hS.keysOf (fun a b c e=>keyKind_strs (by rw[← e]; exact hS)) h64 fun st' hp hs=>⟨_,rfl,?_⟩) (args_list_sort _)))
 obtain⟨ss',a1,a2,a3⟩:=sorted_out_str hS hp hs
 obtain⟨e,he⟩:=sortedHeap_at (out:=(arrOf st').map (·.2)) hoL
 refine wpAny_pure ⟨_,rfl,fin _ _ ss' e (fun b o hb=>?_) he a1 a2 a3⟩
 have hlt:b<s1.heap.objs.size:=Heap.lt_size hb
 rw[sortedHeap_old (Nat.ne_of_lt hlt) (by rw[size_push']; exact Nat.lt_succ_of_lt hlt)]
 exact Heap.get?_push_of_some _ hb
end
section
variable{X:Cx}
theorem Inv.sorted2{pins:List (Addr×Obj)}{σ:St}{H:Hp}{s1:Shared}{ls:List Tx}{ss ss':List Str}{h':Heap}{out:Array Value}{e:Nat}(I:Inv X pins σ H s1)(hl:ss=ls.map tS)(h64:ls.length≤1000000)
  (k:∀ b o,s1.heap.get? b=some o→h'.get? b=some o) (ho:h'.get? s1.heap.objs.size=some (seqObj "list" out e)) (a1:StrsAre out.toList ss') (a2:ss'.Perm ss) (a3:sortedS ss'=true) :
  Inv X pins σ (upd H s1.heap.objs.size (.lst (tVs (sortT ls)))) { s1 with heap:=h' }:=by
 have e1:ss'.map (fun z=>z.cps.toList)=sortT ls:=by
  refine eq_sortT ?_ (sortedS_T a3)
  have:=a2.map fun z=>z.cps.toList
  rw[hl,List.map_map]at this
  have e2:(ls.map ((fun z:Str=>z.cps.toList) ∘ tS))=ls:=by
   simp[Function.comp_def,tS_cps]
  rw[e2]at this
  exact this
 have hv:Vals (tVs (sortT ls)) out.toList:=by rw[← e1]; exact strs_vals a1
 refine I.laid (t':=s1.toks) k (Nat.le_refl _) ⟨?_,out.toList,e,hv,?_⟩
 ·rw[tVs_len,sortT_len]
  exact Nat.le_of_lt (smallM (by ac_rfl))
 ·rw[Array.toArray_toList]; exact ho
theorem call_sortedQ2:CallR X (.builtin "sorted") (fun xs H Q=>∃ (p:Addr) (ls:List Tx),xs=[.ref p]∧(SqL X.K H p (tVs ls)∨SqT X.K H p (tVs ls))∧ls.length≤1000000∧∀ l,H l=none→Q (.ref l) (upd H l (.lst (tVs (sortT ls))))):=by
 intro pins s σ H xs us Q I r h
 obtain⟨p,ls,rfl,hq,h64,q⟩:=h
 obtain⟨u,rfl,ru⟩:=vals1 r
 cases ru
 have core:∀ (T:String) (o:Obj) (its:List Value) (n:Nat),(T = "list"∨T = "tuple")→s.heap.get? p=some o→o.cls = .type T→o.data = .seq its.toArray n→Vals (tVs ls) its →
   wpAny (model X.prog X.w) X.A (call (.builtin "sorted") [Value.ref p]) (EP X pins σ Q) X.xe s:=fun T o its n hT ho hc hd rv=>by
  have hl:=rv.length
  rw[tVs_len]at hl
  have h1000:=smallM (n:=its.length) (by ac_rfl)
  refine sorted_gen2 (wpAny_collect_seq p hT ho hc hd (fun h1 k1=>?_) (by rw[List.size_toArray]; ac_rfl))
  have I1:=I.kept (t':=s.toks) k1
  refine⟨_,vals_strs rv,by rw[List.toList_toArray]; ac_rfl,fun h' out ss' e k ho a1 a2 a3=>?_⟩
  exact⟨.ref _,_,Inv.sorted2 I1 rfl h64 k ho a1 a2 a3,rfl,q _ I1.fresh⟩
 rcases hq with hq | hq
 ·obtain⟨its,rv,pl,hz⟩:=I.list hq
  obtain⟨o,e,hc,n,hd⟩:=pl.isList
  exact core "list" o its n (.inl rfl) e hc hd rv
 ·obtain⟨its,rv,⟨o,e,hc,n,hd⟩,hz⟩:=I.tuple hq
  exact core "tuple" o its n (.inr rfl) e hc hd rv
end
end L2
namespace Pu
open PySem PySem.Spec PyProof.Rows L2
section
variable{X:Cx}{K:PySem.W.Frag}
def sortP2:List PV→Option PO
 | [.lst xs]=>(txs xs).bind fun ls=>if ls.length≤1000000 then some (.lst (txP (sortT ls)))else none
 | [.tup xs]=>(txs xs).bind fun ls=>if ls.length≤1000000 then some (.lst (txP (sortT ls)))else none
 | _=>none
theorem pln_sorted2:PLn K (fun xs H Q=>∃ (p:Addr) (ls:List Tx),xs=[.ref p]∧(SqL K H p (tVs ls)∨SqT K H p (tVs ls))∧ls.length≤1000000∧∀ l,H l=none→Q (.ref l) (upd H l (.lst (tVs (sortT ls))))) sortP2:=fun F H xs vs Q po hF rs e q=>by
 have fin:∀ {ys:List PV} {us:List V} {a:Addr},((txs ys).bind fun ls=>if ls.length≤1000000 then some (PO.lst (txP (sortT ls)))else none)=some po→Reps K H F ys us→(SqL K H a us∨SqT K H a us) →
   ∃ (p:Addr) (ls:List Tx),[V.ref a]=[.ref p]∧(SqL K H p (tVs ls)∨SqT K H p (tVs ls))∧ls.length≤1000000∧∀ l,H l=none→Q (.ref l) (upd H l (.lst (tVs (sortT ls)))):=fun {ys us a} e ra hs=>by
  cases q1:txs ys with
  | none=>rw[q1]at e; cases e
  | some ls =>
   rw[q1]at e
   simp only[Option.bind_some]at e
   split at e
   ·rename_i h64
    cases e
    rw[txs_eq q1]at ra
    obtain⟨rfl,hm⟩:=strs_rep.mp ra
    refine⟨a,ls,rfl,hs,h64,fun l hl=>q l F _ _ (Al.new0 hl) (own_new hl (strs_rep.mpr ⟨rfl,fun x hx=>hm x ((sortT_perm ls).mem_iff.mp hx)⟩)) (own_new_fr hl hF trivial)⟩
   ·cases e
 unfold sortP2 at e
 split at e
 ·obtain⟨v,rfl,a,us,rfl,ha,_,ra⟩:=reps1 rs
  exact fin e ra (.inl (.inl ha))
 ·obtain⟨v,rfl,a,us,rfl,ha,ra⟩:=reps1 rs
  exact fin e ra (.inr (SqT.of ha))
 ·cases e
end
end Pu
namespace L2
open PySem PySem.Spec PyProof.Rows
section
variable{P:Program}{w:World}{A:Around}{E:Value→Shared→Prop}{s:Shared}
theorem SetS.ty{a:Addr}{ks:List Str}(S:SetS P w s.heap a ks):s.TypeIs (.ref a) "set":=by
 obtain⟨es,ep,t,ss,ho,_⟩:=S.ex
 exact⟨_,ho,rfl⟩
end
end L2
namespace Sh
open PySem L2 Pu
set_option genInjectivity false in
structure Ad where
 SlitError:Addr
 NoText:Addr
 NoWidth:Addr
 NoView:Addr
 NoWindow:Addr
 Never:Addr
 Full:Addr
 Nothing:Addr
 Unlike:Addr
 NoPlace:Addr
 NoLetters:Addr
 BadText:Addr
 Seeker:Addr
 Slit:Addr
def clsL(a:Ad):List Addr:=[a.NoText,a.NoWidth,a.NoView,a.NoWindow,a.Never,a.Full,a.Nothing,a.Unlike,a.NoPlace,a.NoLetters,a.BadText]
def caughtE(a:Ad)(c:Value):Bool:=match c with
 | .ref x=>(clsL a).contains x
 | _=>false
def tabE(a:Ad)(c:Value)(D:V):Option Bool:=match c,D with
 | .ref x,.ref d=>if(clsL a).contains x && (clsL a).contains d then some (x == d)else none
 | .ref x,.ty T=>if(clsL a).contains x && T == "ValueError" then some true else none
 | _,_=>none
def d_has_only(a:Ad):PEnv→R Flw:=dRet (dL allP (dCons (dF (dComp [1] (dItems (dV 0)) (dYes) (d2 (inP false) (dV 0) (dV 1)))) (dNil)))
def g_has_only(a:Ad):PEnv→R Slot:=grd 2 [] (fnD 0 (d_has_only a))
def d_is_whole_number(a:Ad):PEnv→R Flw:=dRet (dAndV (dL isiP (dCons (dV 0) (dCons (dC (.raw (.ty "int"))) (dNil)))) (dNotV (dL isiP (dCons (dV 0) (dCons (dC (.raw (.ty "bool"))) (dNil))))))
def g_is_whole_number(a:Ad):PEnv→R Slot:=grd 1 [] (fnD 0 (d_is_whole_number a))
def d_is_width(a:Ad):PEnv→R Flw:=dRet (dAndV (dRE (dCall (g_is_whole_number a) (gV (dV 0) (gNil)))) (dChain (cmpI fun i j=>decide (i≤j)) (cmpI fun i j=>decide (i≤j)) (dC (.int 1)) (dV 0) (dC (.int 4))))
def g_is_width(a:Ad):PEnv→R Slot:=grd 1 [] (fnD 0 (d_is_width a))
def d_is_window(a:Ad):PEnv→R Flw:=dRet (dAndV (dL isiP (dCons (dV 0) (dCons (dC (.raw (.ty "str"))) (dNil)))) (dAndV (d2 (eqT false) (dL lenP (dCons (dV 0) (dNil))) (dV 1)) (dRE (dCall (g_has_only a) (gV (dV 0) (gV (dV 2) (gNil)))))))
def g_is_window(a:Ad):PEnv→R Slot:=grd 3 [] (fnD 0 (d_is_window a))
def d_are_windows(a:Ad):PEnv→R Flw:=dSeq (dIf (dOr (dNot (dB (dL isiP (dCons (dV 0) (dCons (dC (.raw (.ty "tuple"))) (dNil)))))) (dNot (dB (dChain (cmpI fun i j=>decide (i≤j)) (cmpI fun i j=>decide (i≤j)) (dC (.int 1)) (dL lenP (dCons (dV 0) (dNil))) (dC (.int 9)))))) (dRet (dC (.bl false))) (dNext))
 (dSeq (dIf (dNot (dB (dL allP (dCons (dF (dComp [1,2] (dItems (dV 0)) (dYes) (dRE (dCall (g_is_window a) (gV (dV 0) (gV (dV 1) (gV (dV 2) (gNil)))))))) (dNil))))) (dRet (dC (.bl false))) (dNext))
 (dRet (d2 (eqT false) (dF (dL listP (dCons (dV 0) (dNil)))) (dF (dL sortP2 (dCons (dV 0) (dNil)))))))
def g_are_windows(a:Ad):PEnv→R Slot:=grd 3 [] (fnD 0 (d_are_windows a))
def d_is_view_with(a:Ad):PEnv→R Flw:=dSeq (dIf (dOr (dNot (dB (dL isiP (dCons (dV 0) (dCons (dC (.raw (.ty "tuple"))) (dNil)))))) (dB (d2 (eqT true) (dL lenP (dCons (dV 0) (dNil))) (dC (.int 2))))) (dRet (dC (.bl false))) (dNext))
 (dRet (dAndV (dRE (dCall (g_is_width a) (gV (d2 ixP (dV 0) (dC (.int 0))) (gNil)))) (dRE (dCall (g_are_windows a) (gV (d2 ixP (dV 0) (dC (.int 1))) (gV (d2 ixP (dV 0) (dC (.int 0))) (gV (dV 1) (gNil))))))))
def g_is_view_with(a:Ad):PEnv→R Slot:=grd 2 [] (fnD 0 (d_is_view_with a))
def d_is_view(a:Ad):PEnv→R Flw:=dRetR (dCall (g_is_view_with a) (gV (dV 0) (gV (dC (.str [97,98,99])) (gNil))))
def g_is_view(a:Ad):PEnv→R Slot:=grd 1 [] (fnD 0 (d_is_view a))
def d_check_view(a:Ad):PEnv→R Flw:=dIf (dNot (dB (dRE (dCall (g_is_view a) (gV (dV 0) (gNil)))))) (dRaise (.ref a.NoView) (fun ε=>noE ((dC (.str [97,32,118,105,101,119,32,105,115,32,97,32,116,117,112,108,101,32,111,102,32,97,32,119,105,100,116,104,32,97,110,100,32,97,32,114,105,115,105,110,103,32,116,117,112,108,101,32,111,102,32,49,32,116,111,32,57,32,119,105,110,100,111,119,115])) ε))) (dNext)
def g_check_view(a:Ad):PEnv→R Slot:=grd 1 [] (fnD 0 (d_check_view a))
def d_counted(a:Ad):PEnv→R Flw:=dSeq (dOwn 1 (dDNew))
 (dSeq (fun ε=>noEr (dFor 2 (dItems (dV 0)) (dDPut 1 (dV 2) (d2 addP (dDGet2 1 (dV 2) (dC (.int 0))) (dC (.int 1)))) ε))
 (dRetM 1))
def g_counted(a:Ad):PEnv→R Slot:=grd 1 [] (fnD 2 (d_counted a))
def d_add_endings(a:Ad)(rc:PEnv→R Slot):PEnv→R Flw:=dSeq (dIf (dNot (dB (dAnyV 2))) (dSeq (dApp 3 (dV 0))
 (dStop (.ret (.val .non)))) (dNext))
 (dSeq (dSet 4 (dSl slP (dV 0) (dPart (d2 addP (d2 subP (dL lenP (dCons (dV 0) (dNil))) (dV 1)) (dC (.int 1)))) (dNo)))
 (fun ε=>noEr (dFor 5 (dItems (dC (.str [97,98,99]))) (dSeq (dSet 6 (d2 addP (dV 4) (dV 5)))
 (dIf (dB (d2 (cmpI fun i j=>decide (j<i)) (dDGet2 2 (dV 6) (dC (.int 0))) (dC (.int 0)))) (dSeq (dDPut 2 (dV 6) (d2 subP (dDGet 2 (dV 6)) (dC (.int 1))))
 (dSeq (dDropR (dCall (rc) (gV (d2 addP (dV 0) (dV 5)) (gV (dV 1) (gO 2 (gO 3 (gNil)))))))
 (dDPut 2 (dV 6) (d2 addP (dDGet 2 (dV 6)) (dC (.int 1)))))) (dNext))) ε)))
def g_add_endings(a:Ad):Nat→PEnv→R Slot
 | 0=>grd 4 [2,3] (fnD 3 dNever)
 | k+1=>grd 4 [2,3] (fnD 3 (d_add_endings a (g_add_endings a k)))
def d_texts(a:Ad):PEnv→R Flw:=dSeq (dDropR (dCall (g_check_view a) (gV (dV 0) (gNil))))
 (dSeq (dSet 1 (d2 ixP (dV 0) (dC (.int 0))))
 (dSeq (dOwn 2 (dL lstP (dNil)))
 (dSeq (fun ε=>noEr (dFor 3 (dItems (dF (dL sortSetP (dCons (dF (dComp [] (dItems (d2 ixP (dV 0) (dC (.int 1)))) (dYes) (dSl slP (dV 0) (dNo) (dPart (d1 negP (dC (.int 1))))))) (dNil))))) (dDropR (dCallN (g_add_endings a 12) (gNV (dV 3) (gNV (dV 1) (gN (dRN (dCall (g_counted a) (gV (d2 ixP (dV 0) (dC (.int 1))) (gNil)))) (gO 2 (gNil))))))) ε))
 (dRetM 2))))
def g_texts(a:Ad):PEnv→R Slot:=grd 1 [] (fnD 3 (d_texts a))
def d_law_cell_at(a:Ad):PEnv→R Flw:=dSeq (dIf (dB (d2 (cmpI fun i j=>decide (i<j)) (dV 1) (dL lenP (dCons (dV 0) (dNil))))) (dRet (d2 ixP (dV 0) (dV 1))) (dNext))
 (dSeq (dIf (dB (d2 (eqT false) (dV 0) (dF (dL lstP (dNil))))) (dRet (dC (.int 0))) (dNext))
 (dRet (d2 addP (d2 mulP (d2 ixP (dV 0) (d2 modP (dV 1) (dL lenP (dCons (dV 0) (dNil))))) (dC (.int 31))) (dV 1))))
def g_law_cell_at(a:Ad):PEnv→R Slot:=grd 2 [] (fnD 0 (d_law_cell_at a))
def d_law_mixed(a:Ad):PEnv→R Flw:=dSeq (dSet 3 (d2 modP (d2 addP (d2 addP (d2 mulP (dRE (dCall (g_law_cell_at a) (gV (dV 0) (gV (dV 1) (gNil))))) (dC (.int 1103515245))) (d2 mulP (dC (.int 7919)) (dV 1))) (dC (.int 12345))) (dC (.int 2147483647))))
 (dRet (d2 modP (d2 modP (d2 modP (d2 powP (dV 3) (dC (.int 5))) (dC (.int 2147483647))) (dC (.int 999983))) (dV 2)))
def g_law_mixed(a:Ad):PEnv→R Slot:=grd 3 [] (fnD 1 (d_law_mixed a))
def d_law_draw(a:Ad):PEnv→R Flw:=dSeq (dApp 1 (dC (.int 0)))
 (dRetR (dCall (g_law_mixed a) (gV (dV 0) (gV (dOwn1 (fun xs=>immO (lenP xs)) 1) (gV (dV 2) (gNil))))))
def g_law_draw(a:Ad):PEnv→R Slot:=grd 3 [1] (fnD 0 (d_law_draw a))
def d_law_pick(a:Ad):PEnv→R Flw:=dRet (d2 ixP (dV 2) (dRE (dCall (g_law_draw a) (gV (dV 0) (gO 1 (gV (dL lenP (dCons (dV 2) (dNil))) (gNil)))))))
def g_law_pick(a:Ad):PEnv→R Slot:=grd 3 [1] (fnD 0 (d_law_pick a))
def d_law_text(a:Ad):PEnv→R Flw:=dSeq (dSet 4 (dRE (dCall (g_law_pick a) (gV (dV 0) (gO 1 (gV (dF (dL lstP (dCons (dC (.int 1)) (dCons (dC (.int 2)) (dCons (dC (.int 2)) (dCons (dC (.int 3)) (dCons (dC (.int 3)) (dCons (dC (.int 3)) (dNil))))))))) (gNil)))))))
 (dSeq (dSet 5 (dC (.str [])))
 (dSeq (fun ε=>noEr (dFor 6 (dL range1 (dCons (d2 addP (dV 2) (dRE (dCall (g_law_draw a) (gV (dV 0) (gO 1 (gV (d2 addP (d2 subP (dV 3) (dV 2)) (dC (.int 1))) (gNil))))))) (dNil))) (dSet 5 (d2 addP (dV 5) (d2 ixP (dC (.str [97,98,99])) (dRE (dCall (g_law_draw a) (gV (dV 0) (gO 1 (gV (dV 4) (gNil))))))))) ε))
 (dRet (dV 5))))
def g_law_text(a:Ad):PEnv→R Slot:=grd 4 [1] (fnD 3 (d_law_text a))
def d_law_seen(a:Ad):PEnv→R Flw:=dRet (dL tupleP (dCons (dF (dL sortP2 (dCons (dF (dComp [0,1] (dL range1 (dCons (dL lenP (dCons (dV 0) (dNil))) (dNil))) (dB (d2 (cmpI fun i j=>decide (i≤j)) (d2 addP (dV 0) (dV 2)) (dL lenP (dCons (dV 1) (dNil))))) (dSl slP (dV 1) (dPart (dV 0)) (dPart (d2 addP (dV 0) (dV 2)))))) (dNil)))) (dNil)))
def g_law_seen(a:Ad):PEnv→R Slot:=grd 2 [] (fnD 0 (d_law_seen a))
def d_law_view(a:Ad):PEnv→R Flw:=dSeq (dSet 4 (dIf (dB (d2 (eqT true) (dV 2) (dC (.int 2)))) (d2 addP (dC (.int 2)) (dRE (dCall (g_law_draw a) (gV (dV 0) (gO 1 (gV (dC (.int 3)) (gNil))))))) (d2 addP (dC (.int 1)) (dRE (dCall (g_law_draw a) (gV (dV 0) (gO 1 (gV (dC (.int 4)) (gNil)))))))))
 (dSeq (dOwn 5 (dL listP (dCons (dRE (dCall (g_law_seen a) (gV (dRE (dCall (g_law_text a) (gV (dV 0) (gO 1 (gV (dV 4) (gV (d2 subP (d2 addP (dV 4) (dV 3)) (dC (.int 1))) (gNil))))))) (gV (dV 4) (gNil))))) (dNil))))
 (dSeq (fun ε=>noEr (dFor 6 (dL range1 (dCons (d2 modP (dV 2) (dC (.int 3))) (dNil))) (dPutIx 5 (dRE (dCall (g_law_draw a) (gV (dV 0) (gO 1 (gV (dOwn1 (fun xs=>immO (lenP xs)) 5) (gNil)))))) (dRE (dCall (g_law_text a) (gV (dV 0) (gO 1 (gV (dV 4) (gV (dV 4) (gNil)))))))) ε))
 (dRet (dL tupP (dCons (dV 4) (dCons (dL tupleP (dCons (dF (dOwn1 (fun xs=>immN (sortP2 xs)) 5)) (dNil))) (dNil)))))))
def g_law_view(a:Ad):PEnv→R Slot:=grd 4 [1] (fnD 3 (d_law_view a))
def d_law_odd(a:Ad):PEnv→R Flw:=dSeq (dSet 2 (dF (dL lstP (dCons (dC .non) (dCons (dC (.int 5)) (dCons (dC (.str [50,58,32,97,98])) (dCons (dF (dL lstP (dCons (dC (.int 1)) (dCons (dL tupP (dCons (dC (.str [97])) (dNil))) (dNil))))) (dCons (dL tupP (dCons (dC (.int 1)) (dCons (dL tupP (dNil)) (dNil)))) (dCons (dL tupP (dCons (dC (.int 2)) (dCons (dL tupP (dCons (dC (.str [97])) (dNil))) (dNil)))) (dCons (dL tupP (dCons (dC (.int 0)) (dCons (dL tupP (dCons (dC (.str [])) (dNil))) (dNil)))) (dCons (dL tupP (dCons (dC (.int 5)) (dCons (dL tupP (dCons (dC (.str [97,97,97,97,97])) (dNil))) (dNil)))) (dCons (dL tupP (dCons (dC (.bl true)) (dCons (dL tupP (dCons (dC (.str [97])) (dNil))) (dNil)))) (dNil)))))))))))))
 (dSeq (dSet 2 (d2 addP (dV 2) (dF (dL lstP (dCons (dL tupP (dCons (dC (.int 1)) (dCons (dL tupP (dCons (dC (.str [98])) (dCons (dC (.str [97])) (dNil)))) (dNil)))) (dCons (dL tupP (dCons (dC (.int 1)) (dCons (d2 mulPT (dL tupP (dCons (dC (.str [97])) (dNil))) (dC (.int 10))) (dNil)))) (dCons (dL tupP (dCons (dC (.int 1)) (dCons (dL tupP (dCons (dC (.str [100])) (dNil))) (dNil)))) (dCons (dL tupP (dCons (dC (.int 1)) (dCons (dL tupP (dCons (dC (.str [65])) (dNil))) (dNil)))) (dCons (dL tupP (dCons (dC (.int 1)) (dCons (dF (dL lstP (dCons (dC (.str [97])) (dNil)))) (dNil)))) (dCons (dL tupP (dCons (dC (.int 1)) (dCons (dL tupP (dCons (dC (.int 1)) (dNil))) (dNil)))) (dNil)))))))))))
 (dSeq (dSet 2 (d2 addP (dV 2) (dF (dL lstP (dCons (dL tupP (dCons (dC (.int 1)) (dNil))) (dCons (dL tupP (dCons (dC (.int 1)) (dCons (dL tupP (dCons (dC (.str [97])) (dNil))) (dCons (dC (.int 1)) (dNil))))) (dCons (dL tupP (dCons (dC (.str [49])) (dCons (dL tupP (dCons (dC (.str [97])) (dNil))) (dNil)))) (dNil))))))))
 (dRetR (dCall (g_law_pick a) (gV (dV 0) (gO 1 (gV (dV 2) (gNil))))))))
def g_law_odd(a:Ad):PEnv→R Slot:=grd 2 [1] (fnD 1 (d_law_odd a))
def d_law_which(a:Ad):PEnv→R Flw:=dSeq (dOwn 1 (dL lstP (dCons (dL (isiQ (tabE a)) (dCons (dV 0) (dCons (dC (.raw (.ref a.NoText))) (dNil)))) (dCons (dL (isiQ (tabE a)) (dCons (dV 0) (dCons (dC (.raw (.ref a.NoWidth))) (dNil)))) (dCons (dL (isiQ (tabE a)) (dCons (dV 0) (dCons (dC (.raw (.ref a.NoView))) (dNil)))) (dCons (dL (isiQ (tabE a)) (dCons (dV 0) (dCons (dC (.raw (.ref a.NoWindow))) (dNil)))) (dNil)))))))
 (dSeq (dExt 1 (dF (dL lstP (dCons (dL (isiQ (tabE a)) (dCons (dV 0) (dCons (dC (.raw (.ref a.Never))) (dNil)))) (dCons (dL (isiQ (tabE a)) (dCons (dV 0) (dCons (dC (.raw (.ref a.Full))) (dNil)))) (dCons (dL (isiQ (tabE a)) (dCons (dV 0) (dCons (dC (.raw (.ref a.Nothing))) (dNil)))) (dCons (dL (isiQ (tabE a)) (dCons (dV 0) (dCons (dC (.raw (.ref a.Unlike))) (dNil)))) (dNil))))))))
 (dSeq (dExt 1 (dF (dL lstP (dCons (dL (isiQ (tabE a)) (dCons (dV 0) (dCons (dC (.raw (.ref a.NoPlace))) (dNil)))) (dCons (dL (isiQ (tabE a)) (dCons (dV 0) (dCons (dC (.raw (.ref a.NoLetters))) (dNil)))) (dCons (dL (isiQ (tabE a)) (dCons (dV 0) (dCons (dC (.raw (.ref a.BadText))) (dNil)))) (dNil)))))))
 (dSeq (dIf (dOr (dB (d2 (eqT true) (dOwnM cntP 1 (dC (.bl true))) (dC (.int 1)))) (dNot (dB (dL (isiQ (tabE a)) (dCons (dV 0) (dCons (dC (.raw (.ty "ValueError"))) (dNil))))))) (dRet (dL tupP (dCons (dC (.str [114,101,102,117,115,101,100])) (dCons (d1 negP (dC (.int 1))) (dNil))))) (dNext))
 (dRet (dL tupP (dCons (dC (.str [114,101,102,117,115,101,100])) (dCons (dOwnM idxP 1 (dC (.bl true))) (dNil))))))))
def g_law_which(a:Ad):PEnv→R Slot:=grd 1 [] (fnD 1 (d_law_which a))
def d_law_under(a:Ad):PEnv→R Flw:=dSeq (dSet 3 (dRE (dCall (g_law_seen a) (gV (dV 0) (gV (dV 1) (gNil))))))
 (dRet (dL allP (dCons (dF (dComp [3,2] (dItems (dV 3)) (dYes) (d2 (cmpI fun i j=>decide (i≤j)) (dMtT cntP (dV 1) (dV 0)) (dMtT cntP (dV 2) (dV 0))))) (dNil))))
def g_law_under(a:Ad):PEnv→R Slot:=grd 3 [] (fnD 1 (d_law_under a))
def d_law_all(a:Ad):PEnv→R Flw:=dSeq (dSet2 1 2 (dV 0))
 (dSeq (dSet 3 (dF (dL lstP (dCons (dC (.str [])) (dNil)))))
 (dSeq (fun ε=>noEr (dFor 4 (dL range1 (dCons (d2 subP (d2 addP (dL lenP (dCons (dV 2) (dNil))) (dV 1)) (dC (.int 1))) (dNil))) (dSeq (dOwn 5 (dL lstP (dNil)))
 (dSeq (dFor 6 (dItems (dV 3)) (dExt 5 (dF (dComp [6,1,2] (dItems (dC (.str [97,98,99]))) (dB (dRE (dCall (g_law_under a) (gV (d2 addP (dV 1) (dV 0)) (gV (dV 2) (gV (dV 3) (gNil))))))) (d2 addP (dV 1) (dV 0))))))
 (dSet 3 (dM 5)))) ε))
 (dRetN (dComp [1,2] (dItems (dV 3)) (dB (d2 (eqT false) (dRE (dCall (g_law_seen a) (gV (dV 0) (gV (dV 1) (gNil))))) (dV 2))) (dV 0)))))
def g_law_all(a:Ad):PEnv→R Slot:=grd 1 [] (fnD 6 (d_law_all a))
def d_wall(a:Ad):PEnv→R Flw:=fun ε=>noEr (whileD (dB (dC (.bl true))) (dNext) 1000 ε)
def d_with_letter(a:Ad):PEnv→R Flw:=dRet (dL tupleP (dCons (dF (dComp [1,2] (dItems (dV 0)) (dB (d2 (eqT false) (d2 ixP (dV 0) (dV 1)) (dV 2))) (dV 0))) (dNil)))
end Sh
namespace Pu
open PySem PySem.Spec PyProof.Rows L2
def putFP(f:Str)(v:PV):List (Str×PV)→List (Str×PV)
 | []=>[(f,v)]
 | (g,x)::r=>if g=f then(g,v)::r else(g,x)::putFP f v r
section
variable{K:PySem.W.Frag}{H:Hp}{F:Addr→Prop}
theorem FReps.look{f:Str}{pv:PV}{fs:List (Str×PV)}{ws:List (Str×V)}(h:FReps K H F fs ws)(e:fs.lookup f=some pv):∃ v,ws.lookup f=some v∧Rep K H F pv v:=by
 unfold FReps at h
 induction h with
 | nil=>cases e
 | @cons p q ps qs r _ ih =>
  obtain⟨pn,pv'⟩:=p
  obtain⟨qn,qv⟩:=q
  obtain⟨r1,r2⟩:=r
  simp only at r1 r2
  subst r1
  rw[List.lookup_cons]at e ⊢
  cases hb:f == pn with
  | true=>rw[hb]at e; cases e; exact⟨qv,rfl,r2⟩
  | false=>rw[hb]at e; exact ih e
theorem FReps.miss{f:Str}{fs:List (Str×PV)}{ws:List (Str×V)}(h:FReps K H F fs ws)(e:fs.lookup f=none):ws.lookup f=none:=by
 unfold FReps at h
 induction h with
 | nil=>rfl
 | @cons p q ps qs r _ ih =>
  obtain⟨pn,pv'⟩:=p
  obtain⟨qn,qv⟩:=q
  obtain⟨r1,r2⟩:=r
  simp only at r1 r2
  subst r1
  rw[List.lookup_cons]at e ⊢
  cases hb:f == pn with
  | true=>rw[hb]at e; cases e
  | false=>rw[hb]at e; exact ih e
theorem FReps.len{fs:List (Str×PV)}{ws:List (Str×V)}(h:FReps K H F fs ws):ws.length=fs.length:=by
 unfold FReps at h
 induction h with
 | nil=>rfl
 | cons _ _ ih=>simp[ih]
theorem FReps.put{f:Str}{y:PV}{v:V}{fs:List (Str×PV)}{ws:List (Str×V)}(h:FReps K H F fs ws)(r:Rep K H F y v):FReps K H F (putFP f y fs) (putF f v ws):=by
 unfold FReps at h ⊢
 induction h with
 | nil=>exact .cons ⟨rfl,r⟩ .nil
 | @cons p q ps qs r' t ih =>
  obtain⟨pn,pv'⟩:=p
  obtain⟨qn,qv⟩:=q
  obtain⟨r1,r2⟩:=r'
  simp only at r1 r2
  subst r1
  unfold putFP putF
  split
  ·exact .cons ⟨rfl,r⟩ t
  ·exact .cons ⟨rfl,r2⟩ ih
end
def ownI(ε:PEnv)(C:Addr)(i:Nat):Option (List (Str×PV)):=match ε[i]? with
 | some (.own (.ins D fs))=>if D=C then some fs else none
 | _=>none
theorem ownI_eq{ε:PEnv}{C:Addr}{i:Nat}{fs:List (Str×PV)}(h:ownI ε C i=some fs):ε[i]?=some (.own (.ins C fs)):=by
 unfold ownI at h
 split at h
 ·rename_i D fs' e
  split at h
  ·rename_i hD; subst hD; cases h; exact e
  ·cases h
 ·cases h
section
variable{X:Cx}{E:XK}{pin:List Nat}{e value:Expr}{f x:Str}{C:Addr}{p pos pos':Pos}{dv:PEnv→R PV}
def dFld(C:Addr)(i:Nat)(f:Str):PEnv→R PV:=fun ε=>(lift (ownI ε C i) ε).bind fun fs ε=>lift (fs.lookup f) ε
theorem de_fld(i:Nat)(c:Cls X.K C)(n:NoAttr X.K C f)(hN:X.N[i]?=some x:=by rfl)(hv:Vis X.env.scope x:=by first | exact Or.inl rfl | exact Or.inr (Or.inl rfl) | exact Or.inr (Or.inr rfl))(hd:(x == ("__debug__" : Str))=false:=by decide)
  (hcd:(x == ("__classdict__" : Str))=false:=by decide) (hb:attributeBase (.Name x p) f X.env (eval (.Name x p) X.env)=eval (.Name x p) X.env:=by rfl):DE X E (.Attribute (.Name x p) f pos) (dFld C i f):=fun F S ε σ H Q rl h=>by
 unfold dFld at h
 cases e0:ownI ε C i with
 | none=>rw[e0]at h; exact h.elim
 | some fs =>
  rw[e0]at h
  simp only[lift_some,R.bind_ok]at h
  obtain⟨a,ea,⟨dx,ws,ha,hf⟩,_⟩:=rl.own i _ (ownI_eq e0)
  cases e1:fs.lookup f with
  | none=>rw[e1]at h; exact h.elim
  | some pv =>
   rw[e1]at h
   obtain⟨v,l,rv⟩:=hf.look e1
   exact wp_e (pe_fld (pe_var hN hv hd hcd) hb) ⟨.ref a,ea,a,C,dx,ws,v,rfl,ha,c,n,l,h F S H rl (Grow.refl ..) v rv⟩
def dSetFld(C:Addr)(i:Nat)(f:Str)(dv:PEnv→R PV):PEnv→R Flw:=fun ε=>(dv ε).bind fun y ε1=>(lift (ownI ε1 C i) ε1).bind fun fs ε1=>if fs.length<1000 then .ok .next (ε1.set i (.own (.ins C (putFP f y fs))))else .no
theorem ds_setFld(i:Nat)(c:Cls X.K C)(n:NoAttr X.K C f)(hval:DE X E value dv)(hN:X.N[i]?=some x:=by rfl)(hv:Vis X.env.scope x:=by first | exact Or.inl rfl | exact Or.inr (Or.inl rfl) | exact Or.inr (Or.inr rfl))(hd:(x == ("__debug__" : Str))=false:=by decide)
  (hcd:(x == ("__classdict__" : Str))=false:=by decide) (hs:swapsWith value (some (.Attribute (.Name x p) f pos')) pos.line X.env=pure false:=by rfl):DS X E pin (.Assign [.Attribute (.Name x p) f pos'] value pos) (dSetFld C i f dv):=fun F S ε σ H D rl h=>by
 refine wp_s (ps_fld (pe_var hN hv hd hcd) pe_wp hs) (hval F S ε σ H _ rl (h.bindE.imp fun y ε1 F1 S1 H1 r1 g1 q v rv=>?_))
 cases e0:ownI ε1 C i with
 | none=>rw[e0]at q; exact q.elim
 | some fs =>
  rw[e0]at q
  simp only[lift_some,R.bind_ok]at q
  obtain⟨a,ea,⟨dx,ws,ha,hf⟩,_⟩:=r1.own i _ (ownI_eq e0)
  split at q
  ·rename_i hl
   have hf2:=hf.put (f:=f) rv
   obtain⟨r3,g3⟩:=r1.updO (po':=.ins C (putFP f y fs)) (o':=.ins C dx (putF f v ws)) (ownI_eq e0) rfl ea trivial fun H' m1 m2 hH' Sa hSa=>⟨⟨_,_,hH',hf2.mono m1⟩,hSa⟩
   exact⟨.ref a,ea,a,C,dx,ws,rfl,ha,c,n,by rw[hf.len]; exact hl,q F1 S1 σ _ r3 g3 (PinOk.refl _ _)⟩
  ·exact q.elim
end
end Pu
namespace Pu
open PySem PySem.Spec PyProof.Rows L2
section
variable{X:Cx}{CX:CXT}{k:Nat}{f C:Addr}{fd:FuncData}{ps:List Str}{sp:Sp}{E:XK}{pins:List (Addr×Obj)}{σ:St}{H:Hp}{s:Shared}{Q:VK}{us:List Value}{vs:List V}
theorem run_fnX(F:FnOk X.prog X.w X.K X.mg X.base CX k f fd ps sp)(hr:Room k X.A)(hb:Binds X.K fd ps [])(I:Inv X pins σ H s)(r:Vals vs us)(h:sp vs H Q E) :
  wpAny (model X.prog X.w) X.A (call (.ref f) us) (EP X pins σ Q) (fun e s'=>∃ s1 H1,Inv X pins σ H1 s1∧CX X.stack H1 s1 E e s') s:=by
 have hl:us.length=ps.length:=by rw[← r.length]; exact F.len _ _ _ _ h
 refine wpAny_call (codeAny_mono (F.run X.A X.stack s H ⟨us,[]⟩ us vs Q E hr I.env0 (by have:=hb s us I.kIn (by rw[List.append_nil]; exact hl); rwa[List.append_nil]at this) r h) fun rr s' hq=>?_)
 cases rr with
 | error er=>exact⟨s,H,I,hq⟩
 | ok fl =>
  cases fl with
  | ret u=>exact I.after hq
  | next=>exact False.elim hq
  | brk=>exact False.elim hq
  | cont=>exact False.elim hq
theorem run_makeX(M:Mk X.K C f)(F:FnOk X.prog X.w X.K X.mg X.base CX k f fd ps sp)(hr:Room (k+1) X.A)(hb:Binds X.K fd ps [])(I:Inv X pins σ H s)(r:Vals vs us)
  (h:∀ x dx,H x=none→H dx=none→dx≠x→sp (.ref x::vs) (upd (upd H dx (.own x)) x (.ins C dx [])) (fun v H2=>v = .non∧Q (.ref x) H2) E) :
  wpAny (model X.prog X.w) X.A (call (.ref C) us) (EP X pins σ Q) (fun e s'=>∃ s1 H1,Inv X pins σ H1 s1∧CX X.stack H1 s1 E e s') s:=by
 have hq:=h (s.heap.objs.size+1) s.heap.objs.size (I.hok.fresh (Nat.le_succ _)) (I.hok.fresh (Nat.le_refl _)) (Nat.ne_of_lt (Nat.lt_succ_self _))
 have I2:=Inv.made (C:=C) I
 have r2:Vals (V.ref (s.heap.objs.size+1)::vs) (Value.ref (s.heap.objs.size+1)::us):=.cons rfl r
 have hl:(Value.ref (s.heap.objs.size+1)::us++[]).length=ps.length:=by
  have e:=r2.length
  rw[F.len _ _ _ _ hq]at e
  rw[List.append_nil]
  exact e.symm
 refine wpAny_call (make_map (f:=f) I.kIn M.makes M.init (beq_iff_eq.mp M.fn) (codeAny_mono (F.run _ X.stack _ _ ⟨Value.ref (s.heap.objs.size+1)::us,[]⟩ (Value.ref (s.heap.objs.size+1)::us) _ _ E (hr.make C us [])
  (I2.env0.make C us []) (by have:=hb _ (Value.ref (s.heap.objs.size+1)::us) I2.kIn hl; rwa[List.append_nil]at this) r2 hq) fun r s' hq'=>?_))
 cases r with
 | error e=>exact⟨_,_,I2,hq'⟩
 | ok fl =>
  cases fl with
  | ret u =>
   obtain⟨v,H',I3,rv,ev,q3⟩:=I2.after hq'
   subst ev
   exact⟨rv,⟨V.ref (s.heap.objs.size+1),H',I3,rfl,q3⟩⟩
  | next=>exact False.elim hq'
  | brk=>exact False.elim hq'
  | cont=>exact False.elim hq'
end
def callP(ε:PEnv)(as:List ASlot)(g:PEnv→R Slot):R Slot:=(lift (if(owns as).Nodup then argS ε as else none) ε).bind fun ss ε=>putR ε as (g ss)
section
variable{K:PySem.W.Frag}{E:XK}{F:Addr→Prop}{S:Nat→Addr→Prop}{ε:PEnv}{σ:St}{H:Hp}{as:List ASlot}{vs:List V}{g:PEnv→R Slot}
theorem callP_sp{D:Slot→PEnv→(Addr→Prop)→(Nat→Addr→Prop)→Hp→Prop}(r:Rel K F S ε σ H)(av:ArgsOk K σ F H as vs)(h:Ok K E σ F S H (callP ε as g) D) :
  spG K g vs H (fun v H'=>∃ sl ε' F' S' Sr,Rel K F' S' ε' σ H'∧Grow (U S) (U S') F F' H H'∧RepS K H' F' sl v Sr∧(∀ b,Sr b→H b=none∧¬ F' b∧¬ U S' b∧∃ o,H' b=some o∧notImm o)∧D sl ε' F' S' H') E:=by
 unfold callP at h
 have q:=Ok.bind h
 by_cases nd:(owns as).Nodup
 ·rw[if_pos nd]at q
  cases es:argS ε as with
  | none=>rw[es]at q; exact q.elim
  | some ss =>
   rw[es]at q
   have q:=q F S H r (Grow.refl ..)
   dsimp only at q
   refine⟨F,calS as S,ss,r.cal av es nd,?_⟩
   cases eg:g ss with
   | no=>rw[eg]at q; exact q.elim
   | er cv ss' =>
    rw[eg]at q
    intro y F' S' H' r' g'
    unfold putR at q
    dsimp only at q
    by_cases kp:keptO as ss'=true
    ·rw[if_pos kp]at q
     obtain⟨S2,r2,g2,_⟩:=r.called av es nd r' g' (fun _ z=>z) (keptO_get kp)
     exact q y F' S2 H' r2 g2
    ·rw[if_neg kp]at q; exact q.elim
   | ok sl ss' =>
    rw[eg]at q
    intro v F' S' H' Sr r' g' rv lo fr
    unfold putR at q
    dsimp only at q
    by_cases kp:keptO as ss'=true
    ·rw[if_pos kp]at q
     obtain⟨S2,r2,g2,u2⟩:=r.called av es nd r' g' (fun _ z=>.inl z) (keptO_get kp)
     refine⟨sl,_,F',S2,Sr,r2,g2,rv,fun b z=>⟨fr b z,(lo b z).1,fun w=>?_,(lo b z).2.2⟩,q F' S2 H' r2 g2⟩
     rcases u2 b w with w | ⟨i,w⟩
     ·exact(lo b z).2.1 w
     ·obtain⟨_,_,o,y1,_⟩:=r.foot i b w
      rw[fr b z]at y1; cases y1
    ·rw[if_neg kp]at q; exact q.elim
 ·rw[if_neg nd]at q; exact q.elim
theorem spG_mono{Q Q':VK}(h:spG K g vs H Q E)(hq:∀ v H',Q v H'→Q' v H'):spG K g vs H Q' E:=by
 obtain⟨F,S,ss,rl,ok⟩:=h
 refine⟨F,S,ss,rl,?_⟩
 cases eg:g ss with
 | no=>rw[eg]at ok; exact ok
 | er c ss'=>rw[eg]at ok; exact ok
 | ok sl ss'=>rw[eg]at ok; exact fun v F' S' H' Sr r' g' rv lo fr=>hq v H' (ok v F' S' H' Sr r' g' rv lo fr)
theorem ArgsOk.al{F':Addr→Prop}{H':Hp}(al:Al F F' H H'):∀ {as:List ASlot} {vs:List V},ArgsOk K σ F H as vs→ArgsOk K σ F' H' as vs
 | [],_,h=>h
 | .inl _::_,_,⟨v,r,e,h1,h2⟩=>⟨v,r,e,al.rep h1,ArgsOk.al al h2⟩
 | .inr _::_,_,⟨v,r,e,h1,h2⟩=>⟨v,r,e,h1,ArgsOk.al al h2⟩
theorem pop_ok{r:R Slot}{D:Slot→PEnv→(Addr→Prop)→(Nat→Addr→Prop)→Hp→Prop}{F0:Addr→Prop}{S0:Nat→Addr→Prop}{H0:Hp}{n:Nat}{Sa:Addr→Prop}{u:Option V}(h:Ok K E σ F0 S0 H0 (popR r) D)(g0:Grow (U S0) (U S) F0 F H0 H)(fr:∀ b,Sa b→H0 b=none)(hn:σ.length=n) :
  Ok K E (σ++[u]) F (fun j b=>S j b∨(j=n∧Sa b)) H r (fun sl ε' F' S' H'=>D sl ε'.dropLast F' (fun j b=>S' j b∧j<n) H'):=by
 have cut:∀ {ε':PEnv} {F':Addr→Prop} {S':Nat→Addr→Prop} {H':Hp},Rel K F' S' ε' (σ++[u]) H'→Rel K F' (fun j b=>S' j b∧j<n) ε'.dropLast σ H':=fun {ε' F' S' H'} r'=>by
  obtain⟨l,sl,el,ll⟩:=split_last (n:=n) (ε:=ε') (by rw[r'.len]; simp[hn])
  subst el
  have:=r'.pop
  rw[ll]at this
  rw[List.dropLast_concat]; exact this
 cases r with
 | no=>exact h
 | er c ε'=>exact fun y F' S' H' r' g'=>h y F' _ H' (cut r') (Grow.pushed (K:=K) g' g0 fr)
 | ok sl ε'=>exact fun F' S' H' r' g'=>h F' _ H' (cut r') (Grow.pushed (K:=K) g' g0 fr)
end
section
variable{X:Cx}{e:Expr}{es:List Expr}{dg:PEnv→R (List ASlot)}{x m:Str}{C fi fm:Addr}{ki km:Nat}{fdi fdm:FuncData}{psi psm:List Str}{gi gm:PEnv→R Slot}{p pos pos2 apos:Pos}
def dMM(C:Addr)(m:Str)(gi gm:PEnv→R Slot)(dg:PEnv→R (List ASlot)):PEnv→R Slot:=fun ε=>(noE (dg ε)).bind fun as ε1 =>
 popR ((callP (ε1++[.own (.ins C [])]) (.inr ε1.length::as) gi).bind fun s ε2=>match s with
  | .val .non=>(lift (ownI ε2 C ε1.length) ε2).bind fun fs ε2=>match fs.lookup m with
   | none=>callP ε2 [.inr ε1.length] gm
   | some _=>.no
  | _=>.no)
theorem dx_makeMeth{pl:Sem Bool}(c:Cls X.K C)(M:Mk X.K C fi)(Fi:FnOk X.prog X.w X.K X.mg X.base (CXE X.prog X.w) ki fi fdi psi (spG X.K gi))(hri:Room (ki+1) X.A)(hbi:Binds X.K fdi psi [])
  (hmt:Meth X.K C m fm) (Fm:FnOk X.prog X.w X.K X.mg X.base (CXE X.prog X.w) km fm fdm psm (spG X.K gm)) (hrm:Room km X.A) (hbm:Binds X.K fdm psm []) (hm:X.mg x=some (.ref C)) (ha:DG X.nox E0 (e::es) dg) (hg:Gl X x:=by rfl)
  (hd:(x == ("__debug__" : Str))=false:=by decide) (h1:starEach (e::es) X.env=(false,eval e X.env)::starEach es X.env:=by rfl) (h2:(backTo pos (starEach es X.env)).any (·.1)=false:=by rfl)
  (ht:eval (.Call (.Attribute (.Call (.Name x p) (e::es) [] pos) m apos) [] [] pos2) X.env=(do
   let ov ← eval (.Call (.Name x p) (e::es) [] pos) X.env
   standAt apos.atName
   let (f,first) ← holding [ov] (getMethod ov m pl)
   callWith pos2 f first (backTo pos2 (starEach [] X.env)) (backToKw pos2 (keywordEach [] X.env))):=by rfl) :
  DX X (.Call (.Attribute (.Call (.Name x p) (e::es) [] pos) m apos) [] [] pos2) (dMM C m gi gm dg):=fun F S ε σ H Q XE rl h pins s I=>by
 have q0:Ok X.K E0 σ F S H (dg ε) (fun as ε1 F1 S1 H1=>Ok X.K (fun c _ H'=>XE c H') σ F1 S1 H1 (popR ((callP (ε1++[.own (.ins C [])]) (.inr ε1.length::as) gi).bind fun s ε2=>match s with
  | .val .non=>(lift (ownI ε2 C ε1.length) ε2).bind fun fs ε2=>match fs.lookup m with
   | none=>callP ε2 [.inr ε1.length] gm
   | some _=>.no
  | _=>.no)) (fun s _ F' S' H'=>∀ v Sr,RepS X.K H' F' s v Sr→(∀ b,Sr b→H b=none∧¬ F' b∧¬ U S' b∧∃ o,H' b=some o∧notImm o)→Q v H')):=by
  unfold dMM at h
  cases e0:dg ε with
  | no=>rw[e0]at h; exact h.elim
  | er c ε'=>rw[e0]at h; exact h.elim
  | ok as ε1=>rw[e0]at h; exact fun F1 S1 H1 r1 g1=>Ok.from h g1
 have wa:=(ha F S ε σ H (fun vs H1=>∃ F1 S1 ε1 as,Rel X.K F1 S1 ε1 σ H1∧ArgsOk X.K σ F1 H1 as vs∧(∀ b,H1 b=none→H b=none)∧Ok X.K (fun c _ H'=>XE c H') σ F1 S1 H1 (popR ((callP (ε1++[.own (.ins C [])]) (.inr ε1.length::as) gi).bind fun s ε2=>match s with
  | .val .non=>(lift (ownI ε2 C ε1.length) ε2).bind fun fs ε2=>match fs.lookup m with
   | none=>callP ε2 [.inr ε1.length] gm
   | some _=>.no
  | _=>.no)) (fun s _ F' S' H'=>∀ v Sr,RepS X.K H' F' s v Sr→(∀ b,Sr b→H b=none∧¬ F' b∧¬ U S' b∧∃ o,H' b=some o∧notImm o)→Q v H')) rl
  (q0.imp fun as ε1 F1 S1 H1 r1 g1 q vs av=>⟨F1,S1,ε1,as,r1,av,fun b z=>fresh_back g1 z,q⟩)).run pos pins s (I.wish _)
 refine PySem.W.methodCall_KW (pl:=pl) (thn (Q:=EP X pins σ fun v H2=>∃ xx n F0 F2 S2 ε2 fs,v = .ref xx∧σ.length=n∧Rel X.K F2 S2 ε2 (σ++[some (.ref xx)]) H2∧ownI ε2 C n=some fs∧fs.lookup m=none∧(∀ b,H2 b=none→H b=none) ∧
   Ok X.K (fun c _ H'=>XE c H') (σ++[some (.ref xx)]) F2 S2 H2 (callP ε2 [.inr n] gm) (fun sl ε' F' S' H'=>∀ v Sr,RepS X.K H' F' sl v Sr→(∀ b,Sr b→H b=none∧¬ F' b∧¬ U (fun j b=>S' j b∧j<n) b∧∃ o,H' b=some o∧notImm o)→Q v H')∧F0=F) ?_ fun u s1 ⟨v,H2,I2,rv,xx,n,F0,F2,S2,ε2,fs,ev,hn,r2,eo,hl,fb,q,_⟩=>?_) ht
 ·-- the instance is made
  refine wpAny_Call_Name_kw (ld_glob I hg hm ?_ hd)
  refine PySem.W.callWith_K (h₀:=X.base) I.ok.mod.kin M.kp (wpAny_mono wa (fun us s1 ⟨vs,H1,I1,r,F1,S1,ε1,as,r1,av,fb,q⟩=>⟨I1.unwish.kIn,?_⟩) fun _ _ z=>z.elim) h1 h2
  have I1:=I1.unwish
  refine run_makeX M Fi hri hbi I1 r fun xx dx hx hdx hne=>?_
  have al:Al F1 F1 H1 (L2.upd (L2.upd H1 dx (.own xx)) xx (.ins C dx [])):=(Al.new0 hdx).trans (Al.new0 (by rw[upd_ne (Ne.symm hne)]; exact hx))
  have nF:¬ F1 xx:=fun z=>by obtain⟨o,q⟩:=r1.ex xx z; rw[hx]at q; cases q
  have nS:¬ U S1 xx:=fun⟨j,z⟩=>by obtain⟨_,_,o,q,_⟩:=r1.foot j xx z; rw[hx]at q; cases q
  have ow:Own X.K (L2.upd (L2.upd H1 dx (.own xx)) xx (.ins C dx [])) F1 (.ins C []) xx (fun b=>b=xx):=⟨⟨dx,[],upd_same,.nil⟩,fun b=>Iff.rfl⟩
  have rp:=(r1.al al).push ow fun b z=>by subst z; exact⟨nF,nS,_,upd_same,trivial⟩
  have hn:σ.length=ε1.length:=r1.len.symm
  have qp:=pop_ok (u:=some (.ref xx)) (n:=ε1.length) (Sa:=fun b=>b=xx) q al.grow (fun b z=>by subst z; exact hx) hn
  have av2:ArgsOk X.K (σ++[some (.ref xx)]) F1 (L2.upd (L2.upd H1 dx (.own xx)) xx (.ins C dx [])) (.inr ε1.length::as) (.ref xx::vs):=by
   refine⟨.ref xx,vs,rfl,?_,ArgsOk.app _ ?_⟩
   ·rw[r1.len,List.getElem?_append_right (Nat.le_refl _),Nat.sub_self]; rfl
   ·exact ArgsOk.al al av
  have sp:=callP_sp rp av2 (Ok.bind qp)
  refine spG_mono sp fun v H2 ⟨sl,ε2,F2,S2,Sr,r2,g2,rv,fr,q2⟩=>?_
  cases sl with
  | none=>exact q2.elim
  | own po=>exact q2.elim
  | val pv =>
   cases pv with
   | non =>
    refine⟨rv.1,xx,ε1.length,F,F2,S2,ε2,?_⟩
    dsimp only at q2
    cases eo:ownI ε2 C ε1.length with
    | none=>rw[eo]at q2; exact q2.elim
    | some fs =>
     rw[eo]at q2
     simp only[lift_some,R.bind_ok]at q2
     cases el:fs.lookup m with
     | some z=>rw[el]at q2; exact q2.elim
     | none =>
      rw[el]at q2
      exact⟨fs,rfl,hn,r2,rfl,el,fun b z=>fb b (al.same.free (fresh_back g2 z)),q2.imp fun sl ε' F' S' H' r' g' hq v Sr rs lo=>hq v Sr rs fun b z=>lo b z,rfl⟩
   | _=>exact q2.elim
 ·-- the method
  subst ev
  obtain rfl:u=Value.ref xx:=rv
  obtain⟨a,ea,⟨dx,ws,hH,hf⟩,_⟩:=r2.own n _ (ownI_eq eo)
  have exa:a=xx:=by
   rw[← hn,List.getElem?_append_right (Nat.le_refl _),Nat.sub_self]at ea
   simpa using ea.symm
  subst exa
  refine getmeth_ok I2 hH c hmt (hf.miss hl) ?_
  have av:ArgsOk X.K (σ++[some (.ref a)]) F2 H2 [.inr n] [.ref a]:=⟨.ref a,[],rfl,ea,rfl⟩
  have sp:=callP_sp r2 av q
  refine PySem.W.callWith_K0 (first:=[.ref a]) I2.kIn hmt.kp (run_fnX (us:=[.ref a]) (vs:=[.ref a]) Fm hrm hbm I2 (.cons rfl .nil) (spG_mono sp fun v H' ⟨sl,ε',F',S',Sr,r',g',rs,fr,hq⟩=>?_))
  exact hq v Sr rs fun b z=>⟨fb b (fr b z).1,(fr b z).2.1,fun⟨j,w,_⟩=>(fr b z).2.2.1 ⟨j,w⟩,(fr b z).2.2.2⟩
end
end Pu
namespace Pu
open PySem PySem.Spec PyProof.Rows L2
section
variable{X:Cx}
theorem signs_vals{y:Tx}{acc:Array Value}(hacc:ItemsOf (SignAt (tS y)) acc (tS y).cps.size):Vals (y.map sg) acc.toList:=by
 have hl:(tS y).cps.size=y.length:=by simp[tS]
 obtain⟨h1,h2⟩:=hacc
 rw[hl]at h1
 have h3:∀ j v,acc.toList[j]?=some v→SignAt (tS y) j v:=fun j v e=>h2 j v (by simpa using e)
 have h4:acc.toList.length=y.length:=by simpa using h1
 generalize acc.toList=L at h3 h4
 have key:∀ (y':Tx) (L:List Value),L.length=y'.length→(∀ (j:Nat) (v:Value),L[j]?=some v→∃ t,∀ c,y'[j]?=some c→v=Value.str (tS [c]) t)→Vals (y'.map sg) L:=by
  intro y'
  induction y' with
  | nil=>intro L h1 _; have:L=[]:=List.eq_nil_of_length_eq_zero h1; subst this; exact .nil
  | cons c y' ih =>
   intro L h1 h2
   cases L with
   | nil=>cases h1
   | cons v L =>
    obtain⟨t,e⟩:=h2 0 v rfl
    have e:=e c rfl
    subst e
    exact .cons ⟨t,rfl⟩ (ih L (by simpa using h1) fun j v e=>by
     obtain⟨t,z⟩:=h2 (j+1) v (by simpa using e)
     exact⟨t,fun c hc=>z c (by simpa using hc)⟩)
 refine key y L h4 fun j v e=>?_
 obtain⟨c,u,z1,z2⟩:=h3 j v e
 refine⟨u,fun c' hc'=>?_⟩
 have e5:y[j]?=some c:=by simpa[tS]using z1
 rw[e5]at hc'
 cases hc'
 exact z2
theorem call_tuple_strT(hc:X.calm=true):CallR X (.type "tuple") (fun xs H Q=>∃ y:Tx,xs=[tV y]∧y.length≤maxS∧∀ l,H l=none→Q (.ref l) (upd H l (.tup (y.map sg)))):=by
 intro pins s σ H xs us Q I r h
 obtain⟨y,rfl,hz,q⟩:=h
 obtain⟨u,rfl,t,rfl⟩:=vals1 r
 have hl:(tS y).cps.size=y.length:=by simp[tS]
 refine PySem.call_tuple_str (I.ok.hd hc) (tS y) t (fun h' tk acc hk hacc=>?_) (by rw[hl]; exact Nat.le_trans hz maxS_le)
 have I1:Inv X pins σ H { s with heap:=h',toks:=tk }:=I.kept (t':=tk) hk
 have hv:=signs_vals hacc
 have I2:Inv X pins σ (upd H h'.objs.size (.tup (y.map sg))) { s with heap:=h'.push { cls:=.type "tuple",data:=.seq acc },toks:=tk } :=
  I1.laid (t':=tk) (fun b o e=>Heap.get?_push_of_some _ e) (Nat.le_refl _) (show ObjOk X.prog X.w _ _ _ (.tup (y.map sg))from⟨by rw[List.length_map]; exact Nat.le_trans hz maxS_le,acc.toList,hv,by
   have:=IsTupD.new h' acc.toList.toArray
   simpa using this⟩)
 exact⟨.ref h'.objs.size,_,I2,rfl,q _ (I1.hok.fresh (Nat.le_refl _))⟩
theorem call_sorted_strT(hc:X.calm=true):CallR X (.builtin "sorted") (fun xs H Q=>∃ y:Tx,xs=[tV y]∧y.length≤100000∧∀ l,H l=none→Q (.ref l) (upd H l (.lst (tVs (sortT (y.map fun c=>[c])))))):=by
 intro pins s σ H xs us Q I r h
 obtain⟨y,rfl,hz,q⟩:=h
 obtain⟨u,rfl,t,rfl⟩:=vals1 r
 have hl:(tS y).cps.size=y.length:=by simp[tS]
 refine sorted_gen2 (wpAny_collect_str (show X.A.in1.handled=none from I.ok.hd hc) (tS y) t (fun s' acc hk hg hd hos hacc=>?_) (by rw[hl]; exact Nat.le_of_lt (smallM (by ac_rfl))))
 obtain⟨h',g',d',tk,os'⟩:=s'
 simp only at hg hd hos
 subst hg hd hos
 have I1:Inv X pins σ H { s with heap:=h',toks:=tk }:=I.kept (t':=tk) hk
 have hv:=signs_vals hacc
 have hv2:Vals (tVs (y.map fun c=>[c])) acc.toList:=by
  have:tVs (y.map fun c=>[c])=y.map sg:=by unfold tVs; rw[List.map_map]; rfl
  rw[this]; exact hv
 have hlen:=hv.length
 rw[List.length_map]at hlen
 refine⟨_,vals_strs hv2,by ac_rfl,fun h2 out ss' e k ho a1 a2 a3=>?_⟩
 exact⟨.ref _,_,Inv.sorted2 I1 rfl (by rw[List.length_map]; ac_rfl) k ho a1 a2 a3,rfl,q _ I1.fresh⟩
end
def tupleSP:List PV→Option PV
 | [.str y]=>some (.tup (y.map fun c=>.str [c]))
 | _=>none
theorem pl_tupleS{K:PySem.W.Frag}:PL K (fun xs H Q=>∃ y:Tx,xs=[tV y]∧y.length≤maxS∧∀ l,H l=none→Q (.ref l) (upd H l (.tup (y.map sg)))) tupleSP:=fun F H xs vs Q pv rs e q=>by
 unfold tupleSP at e
 split at e
 ·cases e
  obtain⟨v,rfl,rfl,hz⟩:=reps1 rs
  exact⟨_,rfl,hz,fun l hl=>q _ F _ (Al.new0 hl) ⟨l,_,rfl,upd_same,sgs_rep _⟩⟩
 ·cases e
def sortSP:List PV→Option PO
 | [.str y]=>if y.length≤100000 then some (.lst (txP (sortT (y.map fun c=>[c]))))else none
 | _=>none
theorem pln_sortS{K:PySem.W.Frag}:PLn K (fun xs H Q=>∃ y:Tx,xs=[tV y]∧y.length≤100000∧∀ l,H l=none→Q (.ref l) (upd H l (.lst (tVs (sortT (y.map fun c=>[c])))))) sortSP:=fun F H xs vs Q po hF rs e q=>by
 unfold sortSP at e
 split at e
 ·split at e
  ·rename_i hz
   cases e
   obtain⟨v,rfl,rfl,_⟩:=reps1 rs
   refine⟨_,rfl,hz,fun l hl=>q l F _ _ (Al.new0 hl) (own_new hl (strs_rep.mpr ⟨rfl,fun x hx=>?_⟩)) (own_new_fr hl hF trivial)⟩
   have hx:=(sortT_perm _).mem_iff.mp hx
   obtain⟨c,_,rfl⟩:=List.mem_map.mp hx
   show [c].length≤maxS
   unfold maxS; simp
  ·cases e
 ·cases e
section
variable{X:Cx}{E:XK}{pin:List Nat}{pos:Pos}
def dForE(di:PEnv→R (List PV)):PEnv→R Flw:=fun ε=>(di ε).bind fun xs ε1=>match xs with
 | []=>.ok .next ε1
 | _=>.no
theorem ds_forE{tg iter:Expr}{body:List Stmt}{di:PEnv→R (List PV)}(hpo:PassesOwn (model X.prog X.w) X.A X.env X.xe)(hc:X.calm=true)(hi:DI X E tg iter di)
  (hs:∀ x,foldedSetIterable iter X.env x=pure x:=by intro _; rfl):DS X E pin (.For tg iter body [] pos) (dForE di):=fun F S ε σ H D rl h=>by
 refine wp_s (ps_for (g:=fun _ _ _ _=>False) hpo hc pi_wp (fun _ _ _ _ _ _ _ _ _ f=>f.elim) pss_wp hs) (hi F S ε σ H _ rl (h.bindE.imp fun xs ε1 F1 S1 H1 r1 g1 h1 J vs RR rs hz hw keep=>?_))
 cases xs with
 | cons x xs=>exact h1.elim
 | nil =>
  have hv:vs=[]:=List.eq_nil_of_length_eq_zero rs.len
  subst hv
  refine⟨fun i m σ' H'=>i=0∧σ'=σ∧H'=H1,⟨0,rfl,rfl,rfl⟩,?_⟩
  rintro i m σ' H' ⟨rfl,rfl,rfl⟩
  exact .inl ⟨(hw H' (keep S1 F1 H' (Grow.refl ..)) 0).2 rfl,h1 F1 S1 σ' H' r1 (Grow.refl ..) (PinOk.refl _ _)⟩
end
structure MkX(CX:CXT)(P:Program)(w:World)(K:PySem.W.Frag)(mg:Str→Option Value)(base:Heap)(C:Addr)(k:Nat)(ps:List Str)(sp:Sp):Prop where
 ex:∃ f fd,Mk K C f∧FnOk P w K mg base CX k f fd ps sp∧Binds K fd ps []
structure MtX(CX:CXT)(P:Program)(w:World)(K:PySem.W.Frag)(mg:Str→Option Value)(base:Heap)(C:Addr)(m:Str)(k:Nat)(ps:List Str)(sp:Sp):Prop where
 ex:∃ f fd,Meth K C m f∧FnOk P w K mg base CX k f fd ps sp∧Binds K fd ps []
def MkD(K:PySem.W.Frag)(C:Addr)(qual:Str)(st:Stmt):Prop:=∃ f fd,Mk K C f∧Fun K "__init__" qual st f fd
def MtD(K:PySem.W.Frag)(C:Addr)(m qual:Str)(st:Stmt):Prop:=∃ f fd,Meth K C m f∧Fun K m qual st f fd
theorem mkd_mk{K:PySem.W.Frag}{C:Addr}{qual:Str}{st:Stmt}{f:Addr}{oc kV dc pm cd ct:Value}{od an:Option Addr}{sl:Array (Option Value)}(m:PySem.W.makesIn K C=true)(i:PySem.W.findIn K (.ref C) "__init__" = some (some (.ref f)))(n:PySem.W.isFn K (.ref f)=true)(p:PySem.W.keepIn K (.ref C)=true)
  (l:K.lookup f=some ⟨oc,od,.func (PySem.W.fnOf "__init__" qual (defArgs st) (defBody st) (defScope st) .none kV dc pm an cd ct),sl⟩) (c:PySem.W.codeIn K cd qual=true) (k:PySem.W.keepIn K (.ref f)=true):MkD K C qual st:=⟨f,_,⟨m,i,n,p⟩,fun_mk l c k⟩
theorem mtd_mk{K:PySem.W.Frag}{C:Addr}{m qual:Str}{st:Stmt}{f:Addr}{oc kV dc pm cd ct:Value}{od an:Option Addr}{sl:Array (Option Value)}(i:PySem.W.findIn K (.ref C) m=some (some (.ref f)))(n:PySem.W.isFn K (.ref f)=true)
  (l:K.lookup f=some ⟨oc,od,.func (PySem.W.fnOf m qual (defArgs st) (defBody st) (defScope st) .none kV dc pm an cd ct),sl⟩) (c:PySem.W.codeIn K cd qual=true) (k:PySem.W.keepIn K (.ref f)=true):MtD K C m qual st:=⟨f,_,⟨i,n,k⟩,fun_mk l c k⟩
section
variable{CX:CXT}{P:Program}{w:World}{K:PySem.W.Frag}{mg:Str→Option Value}{base:Heap}{C:Addr}{m qual:Str}{st:Stmt}{N ps:List Str}{k n:Nat}{d:PEnv→R Flw}{pin:List Nat}
theorem mk_gen(D:MkD K C qual st)(Sc:FnScope N ps (defScope st))(hn:N.length=ps.length+n)
  (hb:∀ (kV doc pm:Value) (an:Option Addr) (cdv ct:Value) (us:List Value),us.length=ps.length→bindArgs (PySem.W.fnOf "__init__" qual (defArgs st) (defBody st) (defScope st) .none kV doc pm an cdv ct) ⟨us,[]⟩=pure (ps.zip us))
  (hbody:∀ (f:Addr) (cdv:Value) (A:Around) (outer:List Env) (s:Shared) (H:Hp) (E:XK),Room k (A.deeper (envOfC qual (defScope st) s.heap.objs.size f cdv))→DSs (cxOf CX P w K mg base N qual (defScope st) f cdv A outer s H E) E pin (defBody st) d) :
  MkX CX P w K mg base C (k+1) ps (spG K (grd ps.length pin (fnD n d))):=by
 obtain⟨f,fd,M,Fn⟩:=D
 exact⟨f,fd,M,fn_gen Fn Sc hn hb hbody,Fn.binds hb⟩
theorem mt_gen(D:MtD K C m qual st)(Sc:FnScope N ps (defScope st))(hn:N.length=ps.length+n)
  (hb:∀ (kV doc pm:Value) (an:Option Addr) (cdv ct:Value) (us:List Value),us.length=ps.length→bindArgs (PySem.W.fnOf m qual (defArgs st) (defBody st) (defScope st) .none kV doc pm an cdv ct) ⟨us,[]⟩=pure (ps.zip us))
  (hbody:∀ (f:Addr) (cdv:Value) (A:Around) (outer:List Env) (s:Shared) (H:Hp) (E:XK),Room k (A.deeper (envOfC qual (defScope st) s.heap.objs.size f cdv))→DSs (cxOf CX P w K mg base N qual (defScope st) f cdv A outer s H E) E pin (defBody st) d) :
  MtX CX P w K mg base C m (k+1) ps (spG K (grd ps.length pin (fnD n d))):=by
 obtain⟨f,fd,M,Fn⟩:=D
 exact⟨f,fd,M,fn_gen Fn Sc hn hb hbody,Fn.binds hb⟩
end
section
variable{X:Cx}{e:Expr}{es:List Expr}{dg:PEnv→R (List ASlot)}{x m:Str}{C:Addr}{ki km:Nat}{psi psm:List Str}{gi gm:PEnv→R Slot}{p pos pos2 apos:Pos}
theorem dx_mm{pl:Sem Bool}(c:Cls X.K C)(hi:MkX (CXE X.prog X.w) X.prog X.w X.K X.mg X.base C ki psi (spG X.K gi))(hri:Room (ki+1) X.A)
  (hmt:MtX (CXE X.prog X.w) X.prog X.w X.K X.mg X.base C m km psm (spG X.K gm)) (hrm:Room km X.A) (hm:X.mg x=some (.ref C)) (ha:DG X.nox E0 (e::es) dg) (hg:Gl X x:=by rfl)
  (hd:(x == ("__debug__" : Str))=false:=by decide) (h1:starEach (e::es) X.env=(false,eval e X.env)::starEach es X.env:=by rfl) (h2:(backTo pos (starEach es X.env)).any (·.1)=false:=by rfl)
  (ht:eval (.Call (.Attribute (.Call (.Name x p) (e::es) [] pos) m apos) [] [] pos2) X.env=(do
   let ov ← eval (.Call (.Name x p) (e::es) [] pos) X.env
   standAt apos.atName
   let (f,first) ← holding [ov] (getMethod ov m pl)
   callWith pos2 f first (backTo pos2 (starEach [] X.env)) (backToKw pos2 (keywordEach [] X.env))):=by rfl) :
  DX X (.Call (.Attribute (.Call (.Name x p) (e::es) [] pos) m apos) [] [] pos2) (dMM C m gi gm dg):=by
 obtain⟨fi,fdi,M,Fi,hbi⟩:=hi.ex
 obtain⟨fm,fdm,Mm,Fm,hbm⟩:=hmt.ex
 exact dx_makeMeth (pl:=pl) c M Fi hri hbi Mm Fm hrm hbm hm ha hg hd h1 h2 ht
end
end Pu
local macro_rules | `(tactic| simp! [$xs,*]) => `(tactic| simp [Pu.dSeq, Pu.dIf, Pu.dB, Pu.d2, Pu.d1, Pu.dV, Pu.dC, Pu.dL, Pu.dF, Pu.dCons, Pu.dNil, Pu.dRet, Pu.dRetR, Pu.dSet, Pu.dOwn, Pu.dCall, Pu.gV, Pu.gO, Pu.gNil, Pu.putR, Pu.keptO, Pu.owns, Pu.argS, Pu.putS, Pu.R.bind, Pu.lift, Pu.grd, Pu.ownsIn, Pu.fnD, Pu.back, Pu.flatO, Pu.isB, Pu.isI, Pu.frzO, Pu.frzS, Pu.newS, Pu.dRE, Pu.dRN, Pu.lstP, Pu.tupP, Pu.dNext, Pu.dStop, Pu.dDropR, Pu.dDrop, Pu.dNot, Pu.dNotV, Pu.dAnd, Pu.dOr, Pu.dAndV, Pu.dOrV, Pu.dChain, Pu.cmpI, Pu.ownL, Pu.dApp, Pu.dOwn1, Pu.immO, Pu.imm, Pu.immN, Pu.imms, List.replicate, List.length, $xs,*])
namespace K34
open PySem PySem.Spec PyProof.Rows L2 Pu Sh
def top(i:Nat):Stmt:=PySem.Challenge.pw_slitview_k34_seekers_refused.main.body.getD i (.Pass ⟨0,0,0,0⟩)
def inCls(s:Stmt)(j:Nat):Stmt:=match s with
 | .ClassDef _ _ _ b _ _ _ _ _ _ _=>b.getD j (.Pass ⟨0,0,0,0⟩)
 | _=>.Pass ⟨0,0,0,0⟩
noncomputable abbrev s_wall:Stmt:=top 0
noncomputable abbrev s_has_only:Stmt:=top 18
noncomputable abbrev s_is_whole_number:Stmt:=top 19
noncomputable abbrev s_is_width:Stmt:=top 20
noncomputable abbrev s_is_window:Stmt:=top 21
noncomputable abbrev s_are_windows:Stmt:=top 22
noncomputable abbrev s_is_view_with:Stmt:=top 23
noncomputable abbrev s_is_view:Stmt:=top 24
noncomputable abbrev s_check_view:Stmt:=top 25
noncomputable abbrev s_counted:Stmt:=top 27
noncomputable abbrev s_add_endings:Stmt:=top 28
noncomputable abbrev s_texts:Stmt:=top 29
noncomputable abbrev s_with_letter:Stmt:=top 32
noncomputable abbrev s_law_cell_at:Stmt:=top 35
noncomputable abbrev s_law_mixed:Stmt:=top 36
noncomputable abbrev s_law_draw:Stmt:=top 37
noncomputable abbrev s_law_pick:Stmt:=top 38
noncomputable abbrev s_law_odd:Stmt:=top 39
noncomputable abbrev s_law_text:Stmt:=top 40
noncomputable abbrev s_law_seen:Stmt:=top 41
noncomputable abbrev s_law_view:Stmt:=top 42
noncomputable abbrev s_law_under:Stmt:=top 43
noncomputable abbrev s_law_all:Stmt:=top 44
noncomputable abbrev s_law_which:Stmt:=top 45
noncomputable abbrev s_Seeker_left:Stmt:=inCls (top 33) 1
noncomputable abbrev s_Seeker_init:Stmt:=inCls (top 33) 0
noncomputable abbrev s_law_ask:Stmt:=top 46
noncomputable abbrev s_law:Stmt:=top 47
structure Facts(K:PySem.W.Frag)(mg:Str→Option Value)(base:Heap)(a:Ad):Prop where
 d_wall:Def K mg "_wall" s_wall
 d_has_only:Def K mg "has_only" s_has_only
 d_is_whole_number:Def K mg "is_whole_number" s_is_whole_number
 d_is_width:Def K mg "is_width" s_is_width
 d_is_window:Def K mg "is_window" s_is_window
 d_are_windows:Def K mg "are_windows" s_are_windows
 d_is_view_with:Def K mg "is_view_with" s_is_view_with
 d_is_view:Def K mg "is_view" s_is_view
 d_check_view:Def K mg "check_view" s_check_view
 d_counted:Def K mg "counted" s_counted
 d_add_endings:Def K mg "add_endings" s_add_endings
 d_texts:Def K mg "texts" s_texts
 d_with_letter:Def K mg "with_letter" s_with_letter
 d_law_cell_at:Def K mg "_law_cell_at" s_law_cell_at
 d_law_mixed:Def K mg "_law_mixed" s_law_mixed
 d_law_draw:Def K mg "_law_draw" s_law_draw
 d_law_pick:Def K mg "_law_pick" s_law_pick
 d_law_odd:Def K mg "_law_odd" s_law_odd
 d_law_text:Def K mg "_law_text" s_law_text
 d_law_seen:Def K mg "_law_seen" s_law_seen
 d_law_view:Def K mg "_law_view" s_law_view
 d_law_under:Def K mg "_law_under" s_law_under
 d_law_all:Def K mg "_law_all" s_law_all
 d_law_which:Def K mg "_law_which" s_law_which
 t_Seeker_left:MtD K a.Seeker "left" "Seeker.left" s_Seeker_left
 i_Seeker_init:MkD K a.Seeker "Seeker.__init__" s_Seeker_init
 d_law_ask:Def K mg "_law_ask" s_law_ask
 d_law:Def K mg "law" s_law
 k_Seeker:Cls K a.Seeker
 na_Seeker_having:NoAttr K a.Seeker "having"
 na_Seeker_answers:NoAttr K a.Seeker "answers"
 m_ValueError:mg "ValueError" = none
 m_all:mg "all" = none
 m_any:mg "any" = none
 m_bool:mg "bool" = none
 m_int:mg "int" = none
 m_isinstance:mg "isinstance" = none
 m_len:mg "len" = none
 m_list:mg "list" = none
 m_range:mg "range" = none
 m_set:mg "set" = none
 m_sorted:mg "sorted" = none
 m_str:mg "str" = none
 m_tuple:mg "tuple" = none
 v_LETTERS:∃ t,mg "LETTERS" = some (.str (tS [97,98,99]) t)
 v_MOST_TEXTS:∃ t,mg "MOST_TEXTS" = some (.int 16 t)
 v_MOST_WINDOWS:∃ t,mg "MOST_WINDOWS" = some (.int 9 t)
 v_WIDEST:∃ t,mg "WIDEST" = some (.int 4 t)
 c_SlitError:mg "SlitError" = some (.ref a.SlitError)
 c_NoText:mg "NoText" = some (.ref a.NoText)
 c_NoWidth:mg "NoWidth" = some (.ref a.NoWidth)
 c_NoView:mg "NoView" = some (.ref a.NoView)
 c_NoWindow:mg "NoWindow" = some (.ref a.NoWindow)
 c_Never:mg "Never" = some (.ref a.Never)
 c_Full:mg "Full" = some (.ref a.Full)
 c_Nothing:mg "Nothing" = some (.ref a.Nothing)
 c_Unlike:mg "Unlike" = some (.ref a.Unlike)
 c_NoPlace:mg "NoPlace" = some (.ref a.NoPlace)
 c_NoLetters:mg "NoLetters" = some (.ref a.NoLetters)
 c_BadText:mg "BadText" = some (.ref a.BadText)
 c_Seeker:mg "Seeker" = some (.ref a.Seeker)
 o_NoView:OwnCls "NoView" a.NoView [.type "ValueError",.type "Exception",.type "BaseException",.type "object"] "ValueError.__new__" mg base
 o_Never:OwnCls "Never" a.Never [.type "ValueError",.type "Exception",.type "BaseException",.type "object"] "ValueError.__new__" mg base
 o_Full:OwnCls "Full" a.Full [.type "ValueError",.type "Exception",.type "BaseException",.type "object"] "ValueError.__new__" mg base
 err_SlitError:ErrC base a.SlitError
 und:∀ c,caughtE a c=true→Under base a.SlitError c
 tab:TabOk K (tabE a)
section
variable{P:Program}{w:World}{K:PySem.W.Frag}{mg:Str→Option Value}{base:Heap}{a:Ad}
theorem sc_has_only:FnScope ["text","signs"] ["text","signs"] (defScope s_has_only):=⟨rfl,rfl,rfl,by decide +kernel,rfl,by decide +kernel,by decide +kernel⟩
theorem c_has_only(G:Facts K mg base a):CalX (CXE P w) P w K mg base "has_only" 1 ["text","signs"] (spG K (g_has_only a)) :=
 cal_gen (k:=0) (pin:=[]) G.d_has_only sc_has_only rfl (fun _ _ _ _ _ _ us hl=>Pu.argB2 (fun _ _=>rfl) us hl) (fun f cdv A outer s H E hr=>by exact
  (dss_one (ds_ret (de_callB (call_allB rfl) pl_all G.m_all bt_all (da_c (dn_comp (cap:=[1]) (N':=["sign","signs"]) (BlkOk.of ["text","signs"] (defScope s_has_only) rfl rfl (by decide +kernel)) rfl (di_seq (de_var 0)) (fun C s₀ H₀ ex pn=>by exact df_nil) (fun C s₀ H₀ ex pn=>by exact(de_cmp op_inA p2_in (de_var 0) (de_var 1) rfl))).de da_nil)))))
theorem sc_is_whole_number:FnScope ["thing"] ["thing"] (defScope s_is_whole_number):=⟨rfl,rfl,rfl,by decide +kernel,rfl,by decide +kernel,by decide +kernel⟩
theorem c_is_whole_number(G:Facts K mg base a):CalX (CXE P w) P w K mg base "is_whole_number" 1 ["thing"] (spG K (g_is_whole_number a)) :=
 cal_gen (k:=0) (pin:=[]) G.d_is_whole_number sc_is_whole_number rfl (fun _ _ _ _ _ _ us hl=>Pu.argB1 (fun _=>rfl) us hl) (fun f cdv A outer s H E hr=>by exact
  (dss_one (ds_ret (de_and (de_callB call_isi pl_isi G.m_isinstance bt_isinstance (da_c (de_var 0) (da_c (de_bty G.m_int bt_int) da_nil))) (de_one (de_not (de_callB call_isi pl_isi G.m_isinstance bt_isinstance (da_c (de_var 0) (da_c (de_bty G.m_bool bt_bool) da_nil)))))))))
theorem sc_is_width:FnScope ["thing"] ["thing"] (defScope s_is_width):=⟨rfl,rfl,rfl,by decide +kernel,rfl,by decide +kernel,by decide +kernel⟩
theorem c_is_width(G:Facts K mg base a):CalX (CXE P w) P w K mg base "is_width" 2 ["thing"] (spG K (g_is_width a)) :=
 cal_gen (k:=1) (pin:=[]) G.d_is_width sc_is_width rfl (fun _ _ _ _ _ _ us hl=>Pu.argB1 (fun _=>rfl) us hl) (fun f cdv A outer s H E hr=>by exact
  (dss_one (ds_ret (de_and ((dr_call (c_is_whole_number G) (hr.mono (by decide)) passE (dg_w (de_var 0) dg_nil))).de (de_one (de_chain op_le op_le p2_cmpI p2_cmpI de_int (de_var 0) (de_gint G.v_WIDEST)))))))
theorem sc_is_window:FnScope ["thing","width","signs"] ["thing","width","signs"] (defScope s_is_window):=⟨rfl,rfl,rfl,by decide +kernel,rfl,by decide +kernel,by decide +kernel⟩
theorem c_is_window(G:Facts K mg base a):CalX (CXE P w) P w K mg base "is_window" 2 ["thing","width","signs"] (spG K (g_is_window a)) :=
 cal_gen (k:=1) (pin:=[]) G.d_is_window sc_is_window rfl (fun _ _ _ _ _ _ us hl=>Pu.argB3 (fun _ _ _=>rfl) us hl) (fun f cdv A outer s H E hr=>by exact
  (dss_one (ds_ret (de_and (de_callB call_isi pl_isi G.m_isinstance bt_isinstance (da_c (de_var 0) (da_c (de_bty G.m_str bt_str) da_nil))) (de_and (de_cmp (op_eqA hr.units) p2_eq (de_callB call_len pl_len G.m_len bt_len (da_c (de_var 0) da_nil)) (de_var 1) rfl) (de_one ((dr_call (c_has_only G) (hr.mono (by decide)) passE (dg_w (de_var 0) (dg_w (de_var 2) dg_nil)))).de))))))
theorem sc_are_windows:FnScope ["thing","width","signs"] ["thing","width","signs"] (defScope s_are_windows):=⟨rfl,rfl,rfl,by decide +kernel,rfl,by decide +kernel,by decide +kernel⟩
theorem c_are_windows(G:Facts K mg base a):CalX (CXE P w) P w K mg base "are_windows" 3 ["thing","width","signs"] (spG K (g_are_windows a)) :=
 cal_gen (k:=2) (pin:=[]) G.d_are_windows sc_are_windows rfl (fun _ _ _ _ _ _ us hl=>Pu.argB3 (fun _ _ _=>rfl) us hl) (fun f cdv A outer s H E hr=>by exact
  (dss_cons (ds_if ((dw_or (dt_not (dt_val (de_callB call_isi pl_isi G.m_isinstance bt_isinstance (da_c (de_var 0) (da_c (de_bty G.m_tuple bt_tuple) da_nil))))) (dw_or1 (dt_not (dt_chain op_le op_le p2_cmpI p2_cmpI de_int (de_callB call_len pl_len G.m_len bt_len (da_c (de_var 0) da_nil)) (de_gint G.v_MOST_WINDOWS)))))).dt (dss_one (ds_ret de_bl)) dss_nil)
  (dss_cons (ds_if (dt_not (dt_val (de_callB (call_allB rfl) pl_all G.m_all bt_all (da_c (dn_comp (cap:=[1,2]) (N':=["window","width","signs"]) (BlkOk.of ["thing","width","signs"] (defScope s_are_windows) rfl rfl (by decide +kernel)) rfl (di_seq (de_var 0)) (fun C s₀ H₀ ex pn=>by exact df_nil) (fun C s₀ H₀ ex pn=>by exact((dr_call (c_is_window G) (hr.mono (by decide)) passE0 (dg_w (de_var 0) (dg_w (de_var 1) (dg_w (de_var 2) dg_nil))))).de)).de da_nil)))) (dss_one (ds_ret de_bl)) dss_nil)
  (dss_one (ds_ret (de_cmp (op_eqA hr.units) p2_eq (dn_callT call_list_of pln_list G.m_list bt_list (da_c (de_var 0) da_nil)).de (dn_callB call_sortedQ2 pln_sorted2 G.m_sorted bt_sorted (da_c (de_var 0) da_nil)).de rfl))))))
theorem sc_is_view_with:FnScope ["thing","signs"] ["thing","signs"] (defScope s_is_view_with):=⟨rfl,rfl,rfl,by decide +kernel,rfl,by decide +kernel,by decide +kernel⟩
theorem c_is_view_with(G:Facts K mg base a):CalX (CXE P w) P w K mg base "is_view_with" 4 ["thing","signs"] (spG K (g_is_view_with a)) :=
 cal_gen (k:=3) (pin:=[]) G.d_is_view_with sc_is_view_with rfl (fun _ _ _ _ _ _ us hl=>Pu.argB2 (fun _ _=>rfl) us hl) (fun f cdv A outer s H E hr=>by exact
  (dss_cons (ds_if ((dw_or (dt_not (dt_val (de_callB call_isi pl_isi G.m_isinstance bt_isinstance (da_c (de_var 0) (da_c (de_bty G.m_tuple bt_tuple) da_nil))))) (dw_or1 (dt_cmp (op_neA hr.units) p2_ne (de_callB call_len pl_len G.m_len bt_len (da_c (de_var 0) da_nil)) de_int rfl)))).dt (dss_one (ds_ret de_bl)) dss_nil)
  (dss_one (ds_ret (de_and ((dr_call (c_is_width G) (hr.mono (by decide)) passE (dg_w (de_ix ix_seq p2_ix (de_var 0) de_int) dg_nil))).de (de_one ((dr_call (c_are_windows G) (hr.mono (by decide)) passE (dg_w (de_ix ix_seq p2_ix (de_var 0) de_int) (dg_w (de_ix ix_seq p2_ix (de_var 0) de_int) (dg_w (de_var 1) dg_nil))))).de))))))
theorem sc_is_view:FnScope ["thing"] ["thing"] (defScope s_is_view):=⟨rfl,rfl,rfl,by decide +kernel,rfl,by decide +kernel,by decide +kernel⟩
theorem c_is_view(G:Facts K mg base a):CalX (CXE P w) P w K mg base "is_view" 5 ["thing"] (spG K (g_is_view a)) :=
 cal_gen (k:=4) (pin:=[]) G.d_is_view sc_is_view rfl (fun _ _ _ _ _ _ us hl=>Pu.argB1 (fun _=>rfl) us hl) (fun f cdv A outer s H E hr=>by exact
  (dss_one (ds_retR (dr_call (c_is_view_with G) (hr.mono (by decide)) passE (dg_w (de_var 0) (dg_w (de_gstr G.v_LETTERS) dg_nil))))))
theorem sc_check_view:FnScope ["thing"] ["thing"] (defScope s_check_view):=⟨rfl,rfl,rfl,by decide +kernel,rfl,by decide +kernel,by decide +kernel⟩
theorem c_check_view(G:Facts K mg base a):CalX (CXE P w) P w K mg base "check_view" 6 ["thing"] (spG K (g_check_view a)) :=
 cal_gen (k:=5) (pin:=[]) G.d_check_view sc_check_view rfl (fun _ _ _ _ _ _ us hl=>Pu.argB1 (fun _=>rfl) us hl) (fun f cdv A outer s H E hr=>by exact
  (dss_one (ds_if (dt_not (dt_val ((dr_call (c_is_view G) (hr.mono (by decide)) passE (dg_w (de_var 0) dg_nil))).de)) (dss_one (ds_raise raisesE rfl G.o_NoView PySem.F.excBase_ValueError (de_str [97,32,118,105,101,119,32,105,115,32,97,32,116,117,112,108,101,32,111,102,32,97,32,119,105,100,116,104,32,97,110,100,32,97,32,114,105,115,105,110,103,32,116,117,112,108,101,32,111,102,32,49,32,116,111,32,57,32,119,105,110,100,111,119,115]))) dss_nil)))
theorem sc_counted:FnScope ["windows","counts","window"] ["windows"] (defScope s_counted):=⟨rfl,rfl,rfl,by decide +kernel,rfl,by decide +kernel,by decide +kernel⟩
theorem c_counted(G:Facts K mg base a):CalX (CXE P w) P w K mg base "counted" 1 ["windows"] (spG K (g_counted a)) :=
 cal_gen (k:=0) (pin:=[]) G.d_counted sc_counted rfl (fun _ _ _ _ _ _ us hl=>Pu.argB1 (fun _=>rfl) us hl) (fun f cdv A outer s H E hr=>by exact
  (dss_cons (ds_own 1 sc_counted.nd (dn_dnew))
  (dss_cons (ds_nox (ds_for 2 PassesOwn.never rfl sc_counted.nd (di_seq (de_var 0)) (dss_one (ds_dput 1 hr.units (de_var 2) (de_op op_addQ p2_add (de_dget2 1 hr.units (de_var 2) de_int) de_int)))))
  (dss_one (ds_retMove 1)))))
theorem sc_add_endings:FnScope ["text","width","left","found","head","letter","window"] ["text","width","left","found"] (defScope s_add_endings):=⟨rfl,rfl,rfl,by decide +kernel,rfl,by decide +kernel,by decide +kernel⟩
theorem c_add_endings(G:Facts K mg base a)(m:Nat):CalX (CXE P w) P w K mg base "add_endings" (1+m) ["text","width","left","found"] (spG K (g_add_endings a m)):=by
 induction m with
 | zero=>exact cal_gen (k:=0) (pin:=[2,3]) G.d_add_endings sc_add_endings rfl (fun _ _ _ _ _ _ us hl=>Pu.argB4 (fun _ _ _ _=>rfl) us hl) (fun f cdv A outer s H E hr=>dss_never)
 | succ m ih=>exact cal_gen (k:=1+m) (pin:=[2,3]) G.d_add_endings sc_add_endings rfl (fun _ _ _ _ _ _ us hl=>Pu.argB4 (fun _ _ _ _=>rfl) us hl) (fun f cdv A outer s H E hr=>by exact
  (dss_cons (ds_if (dt_not (dt_val (de_anyV 2 rfl G.m_any))) (dss_cons (ds_append 3 (de_var 0))
  (dss_one ds_retN)) dss_nil)
  (dss_cons (ds_set 4 sc_add_endings.nd (de_slice sl_A psl_A (de_var 0) (do_some (de_op op_addQ p2_add (de_op op_sub p2_sub (de_callB call_len pl_len G.m_len bt_len (da_c (de_var 0) da_nil)) (de_var 1)) de_int)) do_none))
  (dss_one (ds_nox (ds_for 5 PassesOwn.never rfl sc_add_endings.nd (di_seq (de_gstr G.v_LETTERS)) (dss_cons (ds_set 6 sc_add_endings.nd (de_op op_addQ p2_add (de_var 4) (de_var 5)))
  (dss_one (ds_if (dt_cmp op_gt p2_cmpI (de_dget2 2 hr.units (de_var 6) de_int) de_int rfl) (dss_cons (ds_dput 2 hr.units (de_var 6) (de_op op_sub p2_sub (de_dget 2 hr.units (de_var 6)) de_int))
  (dss_cons (ds_exprR (dr_call ih (hr.mono (by ac_rfl)) passE0 (dg_w (de_op op_addQ p2_add (de_var 0) (de_var 5)) (dg_w (de_var 1) (dg_o 2 (dg_o 3 dg_nil))))))
  (dss_one (ds_dput 2 hr.units (de_var 6) (de_op op_addQ p2_add (de_dget 2 hr.units (de_var 6)) de_int))))) dss_nil)))))))))
theorem sc_texts:FnScope ["view","width","found","head"] ["view"] (defScope s_texts):=⟨rfl,rfl,rfl,by decide +kernel,rfl,by decide +kernel,by decide +kernel⟩
theorem c_texts(G:Facts K mg base a):CalX (CXE P w) P w K mg base "texts" 14 ["view"] (spG K (g_texts a)) :=
 cal_gen (k:=13) (pin:=[]) G.d_texts sc_texts rfl (fun _ _ _ _ _ _ us hl=>Pu.argB1 (fun _=>rfl) us hl) (fun f cdv A outer s H E hr=>by exact
  (dss_cons (ds_exprR (dr_call (c_check_view G) (hr.mono (by decide)) passE (dg_w (de_var 0) dg_nil)))
  (dss_cons (ds_set 1 sc_texts.nd (de_ix ix_seq p2_ix (de_var 0) de_int))
  (dss_cons (ds_own 2 sc_texts.nd (dn_lst da_nil))
  (dss_cons (ds_nox (ds_for 3 PassesOwn.never rfl sc_texts.nd (di_seq (dn_sortSet rfl (da_c (dn_comp (cap:=[]) (N':=["window"]) (BlkOk.of ["view","width","found","head"] (defScope s_texts) rfl rfl (by decide +kernel)) rfl (di_seq (de_ix ix_seq p2_ix (de_var 0) de_int)) (fun C s₀ H₀ ex pn=>by exact df_nil) (fun C s₀ H₀ ex pn=>by exact(de_slice sl_A psl_A (de_var 0) do_none (do_some (de_un un_neg p1_neg de_int))))).de da_nil) G.m_sorted G.m_set).de) (dss_one (ds_exprR (dr_callN (c_add_endings G 12) (hr.mono (by decide)) passE0 (dgn_v (de_var 3) (dgn_v (de_var 1) (dgn_new (((dr_call (c_counted G) (hr.mono (by decide)) passE0 (dg_w (de_ix ix_seq p2_ix (de_var 0) de_int) dg_nil))).dn) (dg_o 2 dg_nil)))))))))
  (dss_one (ds_retMove 2)))))))
theorem sc_law_cell_at:FnScope ["_law_script","_law_k"] ["_law_script","_law_k"] (defScope s_law_cell_at):=⟨rfl,rfl,rfl,by decide +kernel,rfl,by decide +kernel,by decide +kernel⟩
theorem c_law_cell_at(G:Facts K mg base a):CalX (CXE P w) P w K mg base "_law_cell_at" 1 ["_law_script","_law_k"] (spG K (g_law_cell_at a)) :=
 cal_gen (k:=0) (pin:=[]) G.d_law_cell_at sc_law_cell_at rfl (fun _ _ _ _ _ _ us hl=>Pu.argB2 (fun _ _=>rfl) us hl) (fun f cdv A outer s H E hr=>by exact
  (dss_cons (ds_if (dt_cmp op_lt p2_cmpI (de_var 1) (de_callB call_len pl_len G.m_len bt_len (da_c (de_var 0) da_nil)) rfl) (dss_one (ds_ret (de_ix ix_seq p2_ix (de_var 0) (de_var 1)))) dss_nil)
  (dss_cons (ds_if (dt_cmp (op_eqA hr.units) p2_eq (de_var 0) (de_lst da_nil) rfl) (dss_one (ds_ret de_int)) dss_nil)
  (dss_one (ds_ret (de_op op_addQ p2_add (de_op op_mulQ p2_mul (de_ix ix_seq p2_ix (de_var 0) (de_op op_mod p2_mod (de_var 1) (de_callB call_len pl_len G.m_len bt_len (da_c (de_var 0) da_nil)))) de_int) (de_var 1)))))))
theorem sc_law_mixed:FnScope ["_law_script","_law_k","_law_many","_law_drawn"] ["_law_script","_law_k","_law_many"] (defScope s_law_mixed):=⟨rfl,rfl,rfl,by decide +kernel,rfl,by decide +kernel,by decide +kernel⟩
theorem c_law_mixed(G:Facts K mg base a):CalX (CXE P w) P w K mg base "_law_mixed" 2 ["_law_script","_law_k","_law_many"] (spG K (g_law_mixed a)) :=
 cal_gen (k:=1) (pin:=[]) G.d_law_mixed sc_law_mixed rfl (fun _ _ _ _ _ _ us hl=>Pu.argB3 (fun _ _ _=>rfl) us hl) (fun f cdv A outer s H E hr=>by exact
  (dss_cons (ds_set 3 sc_law_mixed.nd (de_op op_mod p2_mod (de_op op_addQ p2_add (de_op op_addQ p2_add (de_op op_mulQ p2_mul ((dr_call (c_law_cell_at G) (hr.mono (by decide)) passE (dg_w (de_var 0) (dg_w (de_var 1) dg_nil)))).de de_int) (de_op op_mulQ p2_mul de_int (de_var 1))) de_int) de_int))
  (dss_one (ds_ret (de_op op_mod p2_mod (de_op op_mod p2_mod (de_op op_mod p2_mod (de_op op_pow p2_pow (de_var 3) de_int) de_int) de_int) (de_var 2))))))
theorem sc_law_draw:FnScope ["_law_script","_law_town","_law_many"] ["_law_script","_law_town","_law_many"] (defScope s_law_draw):=⟨rfl,rfl,rfl,by decide +kernel,rfl,by decide +kernel,by decide +kernel⟩
theorem c_law_draw(G:Facts K mg base a):CalX (CXE P w) P w K mg base "_law_draw" 3 ["_law_script","_law_town","_law_many"] (spG K (g_law_draw a)) :=
 cal_gen (k:=2) (pin:=[1]) G.d_law_draw sc_law_draw rfl (fun _ _ _ _ _ _ us hl=>Pu.argB3 (fun _ _ _=>rfl) us hl) (fun f cdv A outer s H E hr=>by exact
  (dss_cons (ds_append 1 de_int)
  (dss_one (ds_retR (dr_call (c_law_mixed G) (hr.mono (by decide)) passE (dg_w (de_var 0) (dg_w (de_own1B 1 call_len pl_len G.m_len bt_len) (dg_w (de_var 2) dg_nil))))))))
theorem sc_law_pick:FnScope ["_law_script","_law_town","_law_some"] ["_law_script","_law_town","_law_some"] (defScope s_law_pick):=⟨rfl,rfl,rfl,by decide +kernel,rfl,by decide +kernel,by decide +kernel⟩
theorem c_law_pick(G:Facts K mg base a):CalX (CXE P w) P w K mg base "_law_pick" 4 ["_law_script","_law_town","_law_some"] (spG K (g_law_pick a)) :=
 cal_gen (k:=3) (pin:=[1]) G.d_law_pick sc_law_pick rfl (fun _ _ _ _ _ _ us hl=>Pu.argB3 (fun _ _ _=>rfl) us hl) (fun f cdv A outer s H E hr=>by exact
  (dss_one (ds_ret (de_ix ix_seq p2_ix (de_var 2) ((dr_call (c_law_draw G) (hr.mono (by decide)) passE (dg_w (de_var 0) (dg_o 1 (dg_w (de_callB call_len pl_len G.m_len bt_len (da_c (de_var 2) da_nil)) dg_nil))))).de))))
theorem sc_law_odd:FnScope ["_law_script","_law_town","_law_some"] ["_law_script","_law_town"] (defScope s_law_odd):=⟨rfl,rfl,rfl,by decide +kernel,rfl,by decide +kernel,by decide +kernel⟩
theorem c_law_odd(G:Facts K mg base a):CalX (CXE P w) P w K mg base "_law_odd" 5 ["_law_script","_law_town"] (spG K (g_law_odd a)) :=
 cal_gen (k:=4) (pin:=[1]) G.d_law_odd sc_law_odd rfl (fun _ _ _ _ _ _ us hl=>Pu.argB2 (fun _ _=>rfl) us hl) (fun f cdv A outer s H E hr=>by exact
  (dss_cons (ds_set 2 sc_law_odd.nd (de_lst (da_c de_non (da_c de_int (da_c (de_str [50,58,32,97,98]) (da_c (de_lst (da_c de_int (da_c (de_tup (da_c (de_str [97]) da_nil)) da_nil))) (da_c (de_tup (da_c de_int (da_c (de_tup da_nil) da_nil))) (da_c (de_tup (da_c de_int (da_c (de_tup (da_c (de_str [97]) da_nil)) da_nil))) (da_c (de_tup (da_c de_int (da_c (de_tup (da_c (de_str []) da_nil)) da_nil))) (da_c (de_tup (da_c de_int (da_c (de_tup (da_c (de_str [97,97,97,97,97]) da_nil)) da_nil))) (da_c (de_tup (da_c de_bl (da_c (de_tup (da_c (de_str [97]) da_nil)) da_nil))) da_nil)))))))))))
  (dss_cons (ds_set 2 sc_law_odd.nd (de_op op_addQ p2_add (de_var 2) (de_lst (da_c (de_tup (da_c de_int (da_c (de_tup (da_c (de_str [98]) (da_c (de_str [97]) da_nil))) da_nil))) (da_c (de_tup (da_c de_int (da_c (de_op op_repT p2_repT (de_tup (da_c (de_str [97]) da_nil)) de_int) da_nil))) (da_c (de_tup (da_c de_int (da_c (de_tup (da_c (de_str [100]) da_nil)) da_nil))) (da_c (de_tup (da_c de_int (da_c (de_tup (da_c (de_str [65]) da_nil)) da_nil))) (da_c (de_tup (da_c de_int (da_c (de_lst (da_c (de_str [97]) da_nil)) da_nil))) (da_c (de_tup (da_c de_int (da_c (de_tup (da_c de_int da_nil)) da_nil))) da_nil)))))))))
  (dss_cons (ds_set 2 sc_law_odd.nd (de_op op_addQ p2_add (de_var 2) (de_lst (da_c (de_tup (da_c de_int da_nil)) (da_c (de_tup (da_c de_int (da_c (de_tup (da_c (de_str [97]) da_nil)) (da_c de_int da_nil)))) (da_c (de_tup (da_c (de_str [49]) (da_c (de_tup (da_c (de_str [97]) da_nil)) da_nil))) da_nil))))))
  (dss_one (ds_retR (dr_call (c_law_pick G) (hr.mono (by decide)) passE (dg_w (de_var 0) (dg_o 1 (dg_w (de_var 2) dg_nil))))))))))
theorem sc_law_text:FnScope ["_law_script","_law_town","_law_low","_law_most","_law_few","_law_made","_law_k"] ["_law_script","_law_town","_law_low","_law_most"] (defScope s_law_text):=⟨rfl,rfl,rfl,by decide +kernel,rfl,by decide +kernel,by decide +kernel⟩
theorem c_law_text(G:Facts K mg base a):CalX (CXE P w) P w K mg base "_law_text" 5 ["_law_script","_law_town","_law_low","_law_most"] (spG K (g_law_text a)) :=
 cal_gen (k:=4) (pin:=[1]) G.d_law_text sc_law_text rfl (fun _ _ _ _ _ _ us hl=>Pu.argB4 (fun _ _ _ _=>rfl) us hl) (fun f cdv A outer s H E hr=>by exact
  (dss_cons (ds_set 4 sc_law_text.nd ((dr_call (c_law_pick G) (hr.mono (by decide)) passE (dg_w (de_var 0) (dg_o 1 (dg_w (de_lst (da_c de_int (da_c de_int (da_c de_int (da_c de_int (da_c de_int (da_c de_int da_nil))))))) dg_nil))))).de)
  (dss_cons (ds_set 5 sc_law_text.nd (de_str []))
  (dss_cons (ds_nox (ds_for 6 PassesOwn.never rfl sc_law_text.nd (di_range1 G.m_range (da_c (de_op op_addQ p2_add (de_var 2) ((dr_call (c_law_draw G) (hr.mono (by decide)) passE0 (dg_w (de_var 0) (dg_o 1 (dg_w (de_op op_addQ p2_add (de_op op_sub p2_sub (de_var 3) (de_var 2)) de_int) dg_nil))))).de) da_nil)) (dss_one (ds_set 5 sc_law_text.nd (de_op op_addQ p2_add (de_var 5) (de_ix ix_seq p2_ix (de_str [97,98,99]) ((dr_call (c_law_draw G) (hr.mono (by decide)) passE0 (dg_w (de_var 0) (dg_o 1 (dg_w (de_var 4) dg_nil))))).de))))))
  (dss_one (ds_ret (de_var 5)))))))
theorem sc_law_seen:FnScope ["_law_text_here","_law_width"] ["_law_text_here","_law_width"] (defScope s_law_seen):=⟨rfl,rfl,rfl,by decide +kernel,rfl,by decide +kernel,by decide +kernel⟩
theorem c_law_seen(G:Facts K mg base a):CalX (CXE P w) P w K mg base "_law_seen" 1 ["_law_text_here","_law_width"] (spG K (g_law_seen a)) :=
 cal_gen (k:=0) (pin:=[]) G.d_law_seen sc_law_seen rfl (fun _ _ _ _ _ _ us hl=>Pu.argB2 (fun _ _=>rfl) us hl) (fun f cdv A outer s H E hr=>by exact
  (dss_one (ds_ret (de_callT call_tuple_of pl_tuple G.m_tuple bt_tuple (da_c (dn_callB call_sortedQ2 pln_sorted2 G.m_sorted bt_sorted (da_c (dn_comp (cap:=[0,1]) (N':=["_law_at","_law_text_here","_law_width"]) (BlkOk.of ["_law_text_here","_law_width"] (defScope s_law_seen) rfl rfl (by decide +kernel)) rfl (di_range1 G.m_range (da_c (de_callB call_len pl_len G.m_len bt_len (da_c (de_var 0) da_nil)) da_nil)) (fun C s₀ H₀ ex pn=>by exact df_one (dt_cmp op_le p2_cmpI (de_op op_addQ p2_add (de_var 0) (de_var 2)) (de_callB call_len pl_len G.m_len bt_len (da_c (de_var 1) da_nil)) rfl)) (fun C s₀ H₀ ex pn=>by exact(de_slice sl_A psl_A (de_var 1) (do_some (de_var 0)) (do_some (de_op op_addQ p2_add (de_var 0) (de_var 2)))))).de da_nil)).de da_nil)))))
theorem sc_law_view:FnScope ["_law_script","_law_town","_law_spoil","_law_most","_law_width","_law_windows","_law_k"] ["_law_script","_law_town","_law_spoil","_law_most"] (defScope s_law_view):=⟨rfl,rfl,rfl,by decide +kernel,rfl,by decide +kernel,by decide +kernel⟩
theorem c_law_view(G:Facts K mg base a):CalX (CXE P w) P w K mg base "_law_view" 6 ["_law_script","_law_town","_law_spoil","_law_most"] (spG K (g_law_view a)) :=
 cal_gen (k:=5) (pin:=[1]) G.d_law_view sc_law_view rfl (fun _ _ _ _ _ _ us hl=>Pu.argB4 (fun _ _ _ _=>rfl) us hl) (fun f cdv A outer s H E hr=>by exact
  (dss_cons (ds_set 4 sc_law_view.nd (de_ifx (dt_cmp (op_neA hr.units) p2_ne (de_var 2) de_int rfl) (de_op op_addQ p2_add de_int ((dr_call (c_law_draw G) (hr.mono (by decide)) passE (dg_w (de_var 0) (dg_o 1 (dg_w de_int dg_nil))))).de) (de_op op_addQ p2_add de_int ((dr_call (c_law_draw G) (hr.mono (by decide)) passE (dg_w (de_var 0) (dg_o 1 (dg_w de_int dg_nil))))).de)))
  (dss_cons (ds_own 5 sc_law_view.nd (dn_callT call_list_of pln_list G.m_list bt_list (da_c ((dr_call (c_law_seen G) (hr.mono (by decide)) passE (dg_w ((dr_call (c_law_text G) (hr.mono (by decide)) passE (dg_w (de_var 0) (dg_o 1 (dg_w (de_var 4) (dg_w (de_op op_sub p2_sub (de_op op_addQ p2_add (de_var 4) (de_var 3)) de_int) dg_nil)))))).de (dg_w (de_var 4) dg_nil)))).de da_nil)))
  (dss_cons (ds_nox (ds_for 6 PassesOwn.never rfl sc_law_view.nd (di_range1 G.m_range (da_c (de_op op_mod p2_mod (de_var 2) de_int) da_nil)) (dss_one (ds_putIx 5 ((dr_call (c_law_draw G) (hr.mono (by decide)) passE0 (dg_w (de_var 0) (dg_o 1 (dg_w (de_own1B 5 call_len pl_len G.m_len bt_len) dg_nil))))).de ((dr_call (c_law_text G) (hr.mono (by decide)) passE0 (dg_w (de_var 0) (dg_o 1 (dg_w (de_var 4) (dg_w (de_var 4) dg_nil)))))).de))))
  (dss_one (ds_ret (de_tup (da_c (de_var 4) (da_c (de_callT call_tuple_of pl_tuple G.m_tuple bt_tuple (da_c (dn_own1B 5 call_sortedQ2 pln_sorted2 G.m_sorted bt_sorted).de da_nil)) da_nil)))))))))
theorem sc_law_under:FnScope ["_law_text_here","_law_width","_law_windows","_law_made"] ["_law_text_here","_law_width","_law_windows"] (defScope s_law_under):=⟨rfl,rfl,rfl,by decide +kernel,rfl,by decide +kernel,by decide +kernel⟩
theorem c_law_under(G:Facts K mg base a):CalX (CXE P w) P w K mg base "_law_under" 2 ["_law_text_here","_law_width","_law_windows"] (spG K (g_law_under a)) :=
 cal_gen (k:=1) (pin:=[]) G.d_law_under sc_law_under rfl (fun _ _ _ _ _ _ us hl=>Pu.argB3 (fun _ _ _=>rfl) us hl) (fun f cdv A outer s H E hr=>by exact
  (dss_cons (ds_set 3 sc_law_under.nd ((dr_call (c_law_seen G) (hr.mono (by decide)) passE (dg_w (de_var 0) (dg_w (de_var 1) dg_nil)))).de)
  (dss_one (ds_ret (de_callB (call_allB rfl) pl_all G.m_all bt_all (da_c (dn_comp (cap:=[3,2]) (N':=["_law_window","_law_made","_law_windows"]) (BlkOk.of ["_law_text_here","_law_width","_law_windows","_law_made"] (defScope s_law_under) rfl rfl (by decide +kernel)) rfl (di_seq (de_var 3)) (fun C s₀ H₀ ex pn=>by exact df_nil) (fun C s₀ H₀ ex pn=>by exact(de_cmp op_le p2_cmpI (de_countT (de_var 1) (de_var 0)) (de_countT (de_var 2) (de_var 0)) rfl))).de da_nil))))))
theorem sc_law_all:FnScope ["_law_asked","_law_width","_law_windows","_law_rows","_law_k","_law_longer","_law_line"] ["_law_asked"] (defScope s_law_all):=⟨rfl,rfl,rfl,by decide +kernel,rfl,by decide +kernel,by decide +kernel⟩
theorem c_law_all(G:Facts K mg base a):CalX (CXE P w) P w K mg base "_law_all" 3 ["_law_asked"] (spG K (g_law_all a)) :=
 cal_gen (k:=2) (pin:=[]) G.d_law_all sc_law_all rfl (fun _ _ _ _ _ _ us hl=>Pu.argB1 (fun _=>rfl) us hl) (fun f cdv A outer s H E hr=>by exact
  (dss_cons (ds_set2 1 2 rfl sc_law_all.nd (de_var 0))
  (dss_cons (ds_set 3 sc_law_all.nd (de_lst (da_c (de_str []) da_nil)))
  (dss_cons (ds_nox (ds_for 4 PassesOwn.never rfl sc_law_all.nd (di_range1 G.m_range (da_c (de_op op_sub p2_sub (de_op op_addQ p2_add (de_callB call_len pl_len G.m_len bt_len (da_c (de_var 2) da_nil)) (de_var 1)) de_int) da_nil)) (dss_cons (ds_own 5 sc_law_all.nd (dn_lst da_nil))
  (dss_cons (ds_for 6 PassesOwn.never rfl sc_law_all.nd (di_seq (de_var 3)) (dss_one (ds_extend 5 (dn_comp (cap:=[6,1,2]) (N':=["_law_letter","_law_line","_law_width","_law_windows"]) (BlkOk.of ["_law_asked","_law_width","_law_windows","_law_rows","_law_k","_law_longer","_law_line"] (defScope s_law_all) rfl rfl (by decide +kernel)) rfl (di_seq (de_str [97,98,99])) (fun C s₀ H₀ ex pn=>by exact df_one (dt_val ((dr_call (c_law_under G) (hr.mono (by decide)) passE0 (dg_w (de_op op_addQ p2_add (de_var 1) (de_var 0)) (dg_w (de_var 2) (dg_w (de_var 3) dg_nil))))).de)) (fun C s₀ H₀ ex pn=>by exact(de_op op_addQ p2_add (de_var 1) (de_var 0)))).de)))
  (dss_one (ds_set 3 sc_law_all.nd (de_move 5)))))))
  (dss_one (ds_retNew (dn_comp (cap:=[1,2]) (N':=["_law_line","_law_width","_law_windows"]) (BlkOk.of ["_law_asked","_law_width","_law_windows","_law_rows","_law_k","_law_longer","_law_line"] (defScope s_law_all) rfl rfl (by decide +kernel)) rfl (di_seq (de_var 3)) (fun C s₀ H₀ ex pn=>by exact df_one (dt_cmp (op_eqA hr.units) p2_eq ((dr_call (c_law_seen G) (hr.mono (by decide)) passE0 (dg_w (de_var 0) (dg_w (de_var 1) dg_nil)))).de (de_var 2) rfl)) (fun C s₀ H₀ ex pn=>by exact(de_var 0)))))))))
theorem sc_law_which:FnScope ["_law_e","_law_own"] ["_law_e"] (defScope s_law_which):=⟨rfl,rfl,rfl,by decide +kernel,rfl,by decide +kernel,by decide +kernel⟩
theorem c_law_which(G:Facts K mg base a):CalU P w K mg base "_law_which" 1 ["_law_e"] (spG K (g_law_which a)) :=
 calU_gen (k:=0) (pin:=[]) G.d_law_which sc_law_which rfl (fun _ _ _ _ _ _ us hl=>Pu.argB1 (fun _=>rfl) us hl) (fun f cdv A outer s H hr=>by exact
  (dss_cons (ds_own 1 sc_law_which.nd (dn_lst (da_c (de_callB call_isiA (pl_isiA G.tab) G.m_isinstance bt_isinstance (da_c (de_var 0) (da_c (de_gref G.c_NoText) da_nil))) (da_c (de_callB call_isiA (pl_isiA G.tab) G.m_isinstance bt_isinstance (da_c (de_var 0) (da_c (de_gref G.c_NoWidth) da_nil))) (da_c (de_callB call_isiA (pl_isiA G.tab) G.m_isinstance bt_isinstance (da_c (de_var 0) (da_c (de_gref G.c_NoView) da_nil))) (da_c (de_callB call_isiA (pl_isiA G.tab) G.m_isinstance bt_isinstance (da_c (de_var 0) (da_c (de_gref G.c_NoWindow) da_nil))) da_nil))))))
  (dss_cons (ds_extend 1 (de_lst (da_c (de_callB call_isiA (pl_isiA G.tab) G.m_isinstance bt_isinstance (da_c (de_var 0) (da_c (de_gref G.c_Never) da_nil))) (da_c (de_callB call_isiA (pl_isiA G.tab) G.m_isinstance bt_isinstance (da_c (de_var 0) (da_c (de_gref G.c_Full) da_nil))) (da_c (de_callB call_isiA (pl_isiA G.tab) G.m_isinstance bt_isinstance (da_c (de_var 0) (da_c (de_gref G.c_Nothing) da_nil))) (da_c (de_callB call_isiA (pl_isiA G.tab) G.m_isinstance bt_isinstance (da_c (de_var 0) (da_c (de_gref G.c_Unlike) da_nil))) da_nil))))))
  (dss_cons (ds_extend 1 (de_lst (da_c (de_callB call_isiA (pl_isiA G.tab) G.m_isinstance bt_isinstance (da_c (de_var 0) (da_c (de_gref G.c_NoPlace) da_nil))) (da_c (de_callB call_isiA (pl_isiA G.tab) G.m_isinstance bt_isinstance (da_c (de_var 0) (da_c (de_gref G.c_NoLetters) da_nil))) (da_c (de_callB call_isiA (pl_isiA G.tab) G.m_isinstance bt_isinstance (da_c (de_var 0) (da_c (de_gref G.c_BadText) da_nil))) da_nil)))))
  (dss_cons (ds_if ((dw_or (dt_cmp (op_neA hr.units) p2_ne (de_ownCount 1 de_bl) de_int rfl) (dw_or1 (dt_not (dt_val (de_callB call_isiA (pl_isiA G.tab) G.m_isinstance bt_isinstance (da_c (de_var 0) (da_c (de_bty G.m_ValueError bt_ValueError) da_nil)))))))).dt (dss_one (ds_ret (de_tup (da_c (de_str [114,101,102,117,115,101,100]) (da_c (de_un un_neg p1_neg de_int) da_nil))))) dss_nil)
  (dss_one (ds_ret (de_tup (da_c (de_str [114,101,102,117,115,101,100]) (da_c (de_ownIndex 1 de_bl) da_nil))))))))))
def d_Seeker_left(a:Ad):PEnv→R Flw:=dSeq (dSet 1 (dFld a.Seeker 0 "having"))
 (dSeq (dForE (dItems (dFld a.Seeker 0 "answers")))
 (dRet (dF (dL listP (dCons (dV 1) (dNil))))))
def g_Seeker_left(a:Ad):PEnv→R Slot:=grd 1 [0] (fnD 3 (d_Seeker_left a))
theorem sc_Seeker_left:FnScope ["self","found","place","letter"] ["self"] (defScope s_Seeker_left):=⟨rfl,rfl,rfl,by decide +kernel,rfl,by decide +kernel,by decide +kernel⟩
theorem c_Seeker_left(G:Facts K mg base a):MtX (CXE P w) P w K mg base a.Seeker "left" 1 ["self"] (spG K (g_Seeker_left a)) :=
 mt_gen (k:=0) (pin:=[0]) G.t_Seeker_left sc_Seeker_left rfl (fun _ _ _ _ _ _ us hl=>Pu.argB1 (fun _=>rfl) us hl) (fun f cdv A outer s H E hr=>by exact
  (dss_cons (ds_set 1 sc_Seeker_left.nd (de_fld 0 G.k_Seeker G.na_Seeker_having))
  (dss_cons (ds_forE PassesOwn.leaving rfl (di_seq (de_fld 0 G.k_Seeker G.na_Seeker_answers)))
  (dss_one (ds_ret (dn_callT call_list_of pln_list G.m_list bt_list (da_c (de_var 1) da_nil)).de)))))
def d_Seeker_init(a:Ad):PEnv→R Flw:=dSeq (dSet 2 (dRE (dCall (g_texts a) (gV (dV 1) (gNil)))))
 (dSeq (dIf (dB (d2 (eqT false) (dL lenP (dCons (dV 2) (dNil))) (dC (.int 0)))) (dRaise (.ref a.Never) (fun ε=>noE ((dC (.str [110,111,32,116,101,120,116,32,104,97,115,32,116,104,105,115,32,118,105,101,119])) ε))) (dNext))
 (dSeq (dIf (dB (d2 (cmpI fun i j=>decide (j<i)) (dL lenP (dCons (dV 2) (dNil))) (dC (.int 16)))) (dRaise (.ref a.Full) (fun ε=>noE ((dC (.str [97,32,115,101,101,107,101,114,32,116,97,107,101,115,32,97,32,118,105,101,119,32,116,104,97,116,32,117,112,32,116,111,32,49,54,32,116,101,120,116,115,32,104,97,118,101])) ε))) (dNext))
 (dSeq (dSetFld a.Seeker 0 "having" (dL tupleP (dCons (dV 2) (dNil))))
 (dSetFld a.Seeker 0 "answers" (dF (dL lstP (dNil)))))))
def g_Seeker_init(a:Ad):PEnv→R Slot:=grd 2 [0] (fnD 1 (d_Seeker_init a))
theorem sc_Seeker_init:FnScope ["self","view","having"] ["self","view"] (defScope s_Seeker_init):=⟨rfl,rfl,rfl,by decide +kernel,rfl,by decide +kernel,by decide +kernel⟩
theorem c_Seeker_init(G:Facts K mg base a):MkX (CXE P w) P w K mg base a.Seeker 15 ["self","view"] (spG K (g_Seeker_init a)) :=
 mk_gen (k:=14) (pin:=[0]) G.i_Seeker_init sc_Seeker_init rfl (fun _ _ _ _ _ _ us hl=>Pu.argB2 (fun _ _=>rfl) us hl) (fun f cdv A outer s H E hr=>by exact
  (dss_cons (ds_set 2 sc_Seeker_init.nd ((dr_call (c_texts G) (hr.mono (by decide)) passE (dg_w (de_var 1) dg_nil))).de)
  (dss_cons (ds_if (dt_cmp (op_eqA hr.units) p2_eq (de_callB call_len pl_len G.m_len bt_len (da_c (de_var 2) da_nil)) de_int rfl) (dss_one (ds_raise raisesE rfl G.o_Never PySem.F.excBase_ValueError (de_str [110,111,32,116,101,120,116,32,104,97,115,32,116,104,105,115,32,118,105,101,119]))) dss_nil)
  (dss_cons (ds_if (dt_cmp op_gt p2_cmpI (de_callB call_len pl_len G.m_len bt_len (da_c (de_var 2) da_nil)) (de_gint G.v_MOST_TEXTS) rfl) (dss_one (ds_raise raisesE rfl G.o_Full PySem.F.excBase_ValueError (de_str [97,32,115,101,101,107,101,114,32,116,97,107,101,115,32,97,32,118,105,101,119,32,116,104,97,116,32,117,112,32,116,111,32,49,54,32,116,101,120,116,115,32,104,97,118,101]))) dss_nil)
  (dss_cons (ds_setFld 0 G.k_Seeker G.na_Seeker_having (de_callT call_tuple_of pl_tuple G.m_tuple bt_tuple (da_c (de_var 2) da_nil)))
  (dss_one (ds_setFld 0 G.k_Seeker G.na_Seeker_answers (de_lst da_nil))))))))
def d_law_ask(a:Ad):PEnv→R Flw:=dTry 1 (caughtE a) (dMM a.Seeker "left" (g_Seeker_init a) (g_Seeker_left a) (gV (dV 0) (gNil))) (dRetR (fun ε=>noE (dCall (g_law_which a) (gV (dV 1) (gNil)) ε)))
def g_law_ask(a:Ad):PEnv→R Slot:=grd 1 [] (fnD 1 (d_law_ask a))
theorem sc_law_ask:FnScope ["_law_thing","_law_e"] ["_law_thing"] (defScope s_law_ask):=⟨rfl,rfl,rfl,by decide +kernel,rfl,by decide +kernel,by decide +kernel⟩
theorem c_law_ask(G:Facts K mg base a):CalX (CXE P w) P w K mg base "_law_ask" 17 ["_law_thing"] (spG K (g_law_ask a)) :=
 cal_gen (k:=16) (pin:=[]) G.d_law_ask sc_law_ask rfl (fun _ _ _ _ _ _ us hl=>Pu.argB1 (fun _=>rfl) us hl) (fun f cdv A outer s H E hr=>by
  have hrh:=fun ad=>Room.hand (v:=some (.ref ad)) hr
  exact
  (dss_one (ds_tryRet 1 sc_law_ask.nd (dx_mm G.k_Seeker (c_Seeker_init G) (hr.mono (by decide)) (c_Seeker_left G) (hr.mono (by decide)) G.c_Seeker (dg_w (de_var 0) dg_nil)) G.c_SlitError G.err_SlitError G.und (fun ad=>by exact(dss_one (ds_retR (dr_callU (c_law_which G) ((hrh ad).mono (by decide)) (dg_w (de_var 1) dg_nil))))))))
def d_law(a:Ad):PEnv→R Flw:=dSeq (dOwn 1 (dL lstP (dNil)))
 (dSeq (dSet 2 (dRE (dCall (g_law_draw a) (gV (dV 0) (gO 1 (gV (dC (.int 4)) (gNil)))))))
 (dSeq (dIf (dOr (dB (d2 (eqT true) (dRE (dCall (g_law_ask a) (gV (dRE (dCall (g_law_odd a) (gV (dV 0) (gO 1 (gNil))))) (gNil)))) (dL tupP (dCons (dC (.str [114,101,102,117,115,101,100])) (dCons (dC (.int 2)) (dNil)))))) (dB (d2 (eqT true) (dRE (dCall (g_law_ask a) (gV (dL tupP (dCons (dC (.int 1)) (dCons (dL tupP (dCons (dC (.str [46])) (dNil))) (dNil)))) (gNil)))) (dL tupP (dCons (dC (.str [114,101,102,117,115,101,100])) (dCons (dC (.int 2)) (dNil))))))) (dRet (dC (.bl false))) (dNext))
 (dSeq (dSet 3 (dRE (dCall (g_law_view a) (gV (dV 0) (gO 1 (gV (d2 modP (dV 2) (dC (.int 3))) (gV (dC (.int 7)) (gNil))))))))
 (dSeq (dIf (dB (d2 (eqT false) (dV 2) (dC (.int 3)))) (dSeq (dSet 4 (d2 addP (dC (.int 1)) (dRE (dCall (g_law_draw a) (gV (dV 0) (gO 1 (gV (dC (.int 3)) (gNil))))))))
 (dSet 3 (dL tupP (dCons (dC (.int 1)) (dCons (dL tupleP (dCons (dF (dL sortSP (dCons (d2 addP (d2 mulP (dC (.str [97])) (dV 4)) (d2 mulP (dC (.str [98])) (d2 addP (dC (.int 1)) (dRE (dCall (g_law_draw a) (gV (dV 0) (gO 1 (gV (dC (.int 4)) (gNil))))))))) (dNil)))) (dNil))) (dNil)))))) (dNext))
 (dSeq (dSet 5 (dRE (dCall (g_law_all a) (gV (dV 3) (gNil)))))
 (dSeq (dSet 6 (dIf (dB (d2 (eqT true) (dV 5) (dF (dL lstP (dNil))))) (dV 5) (dL tupP (dCons (dC (.str [114,101,102,117,115,101,100])) (dCons (dC (.int 4)) (dNil))))))
 (dSeq (dSet 6 (dIf (dB (d2 (cmpI fun i j=>decide (i≤j)) (dL lenP (dCons (dV 5) (dNil))) (dC (.int 16)))) (dV 6) (dL tupP (dCons (dC (.str [114,101,102,117,115,101,100])) (dCons (dC (.int 5)) (dNil))))))
 (dSeq (dIf (dOr (dB (d2 (eqT true) (dRE (dCall (g_law_ask a) (gV (dL tupP (dCons (dC (.int 1)) (dCons (dL tupleSP (dCons (dC (.str [97,97,97,98,98,98])) (dNil))) (dNil)))) (gNil)))) (dL tupP (dCons (dC (.str [114,101,102,117,115,101,100])) (dCons (dC (.int 5)) (dNil)))))) (dB (d2 (eqT true) (dL lenP (dCons (dRE (dCall (g_law_ask a) (gV (dL tupP (dCons (dC (.int 1)) (dCons (dL tupleSP (dCons (dC (.str [97,97,97,97,98,98])) (dNil))) (dNil)))) (gNil)))) (dNil))) (dC (.int 15))))) (dRet (dC (.bl false))) (dNext))
 (dRet (d2 (eqT false) (dRE (dCall (g_law_ask a) (gV (dV 3) (gNil)))) (dV 6)))))))))))
def g_law(a:Ad):PEnv→R Slot:=grd 1 [] (fnD 6 (d_law a))
theorem sc_law:FnScope ["_law_script","_law_town","_law_spoil","_law_asked","_law_many","_law_lines","_law_due"] ["_law_script"] (defScope s_law):=⟨rfl,rfl,rfl,by decide +kernel,rfl,by decide +kernel,by decide +kernel⟩
theorem f_law(G:Facts K mg base a){f:Addr}{fd:FuncData}(Fn:Fun K "law" "law" s_law f fd):FnOk P w K mg base (CXE P w) 18 f fd ["_law_script"] (spG K (g_law a)) :=
 fn_gen (k:=17) (pin:=[]) Fn sc_law rfl (fun _ _ _ _ _ _ us hl=>Pu.argB1 (fun _=>rfl) us hl) (fun f cdv A outer s H E hr=>by exact
  (dss_cons (ds_own 1 sc_law.nd (dn_lst da_nil))
  (dss_cons (ds_set 2 sc_law.nd ((dr_call (c_law_draw G) (hr.mono (by decide)) passE (dg_w (de_var 0) (dg_o 1 (dg_w de_int dg_nil))))).de)
  (dss_cons (ds_if ((dw_or (dt_cmp (op_neA hr.units) p2_ne ((dr_call (c_law_ask G) (hr.mono (by decide)) passE (dg_w ((dr_call (c_law_odd G) (hr.mono (by decide)) passE (dg_w (de_var 0) (dg_o 1 dg_nil)))).de dg_nil))).de (de_tup (da_c (de_str [114,101,102,117,115,101,100]) (da_c de_int da_nil))) rfl) (dw_or1 (dt_cmp (op_neA hr.units) p2_ne ((dr_call (c_law_ask G) (hr.mono (by decide)) passE (dg_w (de_tup (da_c de_int (da_c (de_tup (da_c (de_str [46]) da_nil)) da_nil))) dg_nil))).de (de_tup (da_c (de_str [114,101,102,117,115,101,100]) (da_c de_int da_nil))) rfl)))).dt (dss_one (ds_ret de_bl)) dss_nil)
  (dss_cons (ds_set 3 sc_law.nd ((dr_call (c_law_view G) (hr.mono (by decide)) passE (dg_w (de_var 0) (dg_o 1 (dg_w (de_op op_mod p2_mod (de_var 2) de_int) (dg_w de_int dg_nil)))))).de)
  (dss_cons (ds_if (dt_cmp (op_eqA hr.units) p2_eq (de_var 2) de_int rfl) (dss_cons (ds_set 4 sc_law.nd (de_op op_addQ p2_add de_int ((dr_call (c_law_draw G) (hr.mono (by decide)) passE (dg_w (de_var 0) (dg_o 1 (dg_w de_int dg_nil))))).de))
  (dss_one (ds_set 3 sc_law.nd (de_tup (da_c de_int (da_c (de_callT call_tuple_of pl_tuple G.m_tuple bt_tuple (da_c (dn_callB (call_sorted_strT rfl) pln_sortS G.m_sorted bt_sorted (da_c (de_op op_addQ p2_add (de_op op_mulQ p2_mul (de_str [97]) (de_var 4)) (de_op op_mulQ p2_mul (de_str [98]) (de_op op_addQ p2_add de_int ((dr_call (c_law_draw G) (hr.mono (by decide)) passE (dg_w (de_var 0) (dg_o 1 (dg_w de_int dg_nil))))).de))) da_nil)).de da_nil)) da_nil)))))) dss_nil)
  (dss_cons (ds_set 5 sc_law.nd ((dr_call (c_law_all G) (hr.mono (by decide)) passE (dg_w (de_var 3) dg_nil))).de)
  (dss_cons (ds_set 6 sc_law.nd (de_ifx (dt_cmp (op_neA hr.units) p2_ne (de_var 5) (de_lst da_nil) rfl) (de_var 5) (de_tup (da_c (de_str [114,101,102,117,115,101,100]) (da_c de_int da_nil)))))
  (dss_cons (ds_set 6 sc_law.nd (de_ifx (dt_cmp op_le p2_cmpI (de_callB call_len pl_len G.m_len bt_len (da_c (de_var 5) da_nil)) de_int rfl) (de_var 6) (de_tup (da_c (de_str [114,101,102,117,115,101,100]) (da_c de_int da_nil)))))
  (dss_cons (ds_if ((dw_or (dt_cmp (op_neA hr.units) p2_ne ((dr_call (c_law_ask G) (hr.mono (by decide)) passE (dg_w (de_tup (da_c de_int (da_c (de_callT (call_tuple_strT rfl) pl_tupleS G.m_tuple bt_tuple (da_c (de_str [97,97,97,98,98,98]) da_nil)) da_nil))) dg_nil))).de (de_tup (da_c (de_str [114,101,102,117,115,101,100]) (da_c de_int da_nil))) rfl) (dw_or1 (dt_cmp (op_neA hr.units) p2_ne (de_callB call_len pl_len G.m_len bt_len (da_c ((dr_call (c_law_ask G) (hr.mono (by decide)) passE (dg_w (de_tup (da_c de_int (da_c (de_callT (call_tuple_strT rfl) pl_tupleS G.m_tuple bt_tuple (da_c (de_str [97,97,97,97,98,98]) da_nil)) da_nil))) dg_nil))).de da_nil)) de_int rfl)))).dt (dss_one (ds_ret de_bl)) dss_nil)
  (dss_one (ds_ret (de_cmp (op_eqA hr.units) p2_eq ((dr_call (c_law_ask G) (hr.mono (by decide)) passE (dg_w (de_var 3) dg_nil))).de (de_var 6) rfl)))))))))))))
end
end K34
namespace Mx
open PySem L2 Pu
def abcs:Tx:=[97,98,99]
def allT:Nat→List Tx
 | 0=>[[]]
 | k+1=>abcs.flatMap fun c=>(allT k).map (c::·)
theorem allT_mem:∀ (k:Nat) (x:Tx),x∈allT k↔x.length=k∧∀ c∈x,c∈abcs
 | 0,x=>by
  simp only[allT,List.mem_singleton]
  constructor
  ·rintro rfl; simp
  ·rintro⟨h,_⟩; exact List.length_eq_zero_iff.mp h
 | k+1,x=>by
  simp only[allT,List.mem_flatMap,List.mem_map]
  constructor
  ·rintro⟨c,hc,y,hy,rfl⟩
   obtain⟨h1,h2⟩:=(allT_mem k y).mp hy
   refine⟨by simp[h1],fun d hd=>?_⟩
   rcases List.mem_cons.mp hd with rfl | hd
   ·exact hc
   ·exact h2 d hd
  ·rintro⟨h1,h2⟩
   cases x with
   | nil=>cases h1
   | cons c y=>exact⟨c,h2 c (by simp),y,(allT_mem k y).mpr ⟨Nat.succ.inj h1,fun d hd=>h2 d (by simp[hd])⟩,rfl⟩
theorem allT_len:∀ k:Nat,(allT k).length=3 ^ k
 | 0=>rfl
 | k+1=>by
  simp only[allT,abcs,List.flatMap_cons,List.flatMap_nil,List.length_append,List.length_map,allT_len k,List.length_nil,Nat.pow_succ]
  ac_rfl
theorem allT_add(i j:Nat):allT (i+j)=(allT i).flatMap fun h=>(allT j).map (h++·):=by
 induction i with
 | zero=>simp[allT]
 | succ i ih =>
  rw[show i+1+j=(i+j)+1 by ac_rfl]
  simp only[allT,ih,List.flatMap_assoc,List.map_flatMap,List.flatMap_map,List.map_map,Function.comp_def,List.cons_append]
theorem allT_snoc(k:Nat):allT (k+1)=(allT k).flatMap fun h=>abcs.map fun c=>h++[c]:=by
 rw[allT_add k 1]
 congr 1
theorem allT_lt:∀ k:Nat,(allT k).Pairwise (fun a b=>a<b)
 | 0=>by simp[allT]
 | k+1=>by
  simp only[allT]
  rw[List.pairwise_flatMap]
  refine⟨fun c _=>?_,?_⟩
  ·rw[List.pairwise_map]
   exact(allT_lt k).imp fun h=>List.cons_lt_cons_iff.mpr (.inr ⟨rfl,h⟩)
  ·have:abcs.Pairwise (fun a b=>a<b):=by decide
   refine this.imp fun h=>?_
   intro x hx y hy
   obtain⟨x',_,rfl⟩:=List.mem_map.mp hx
   obtain⟨y',_,rfl⟩:=List.mem_map.mp hy
   exact List.cons_lt_cons_iff.mpr (.inl h)
theorem leT_lt{a b:Tx}(h:a<b):leT a b=true:=by
 simp only[leT,decide_eq_true_eq]
 exact List.le_of_lt h
theorem allT_rises(k:Nat):(allT k).Pairwise (fun a b=>leT a b=true):=(allT_lt k).imp leT_lt
theorem allT_nodup(k:Nat):(allT k).Nodup:=(allT_lt k).imp fun h z=>by subst z; exact List.lt_irrefl _ h
def wins(z:Tx)(w:Nat):List Tx:=((List.range z.length).filter fun i=>decide (i+w≤z.length)).map fun i=>(z.drop i).take w
theorem range_filter(w L:Nat):∀ m:Nat,(List.range m).filter (fun i=>decide (i+w≤L))=List.range (min m (L+1-w))
 | 0=>by simp
 | m+1=>by
  rw[List.range_succ,List.filter_append,range_filter w L m]
  by_cases h:m+w≤L
  ·rw[show min m (L+1-w)=m by ac_rfl,show min (m+1) (L+1-w)=m+1 by ac_rfl,List.range_succ]
   simp[h]
  ·rw[show min (m+1) (L+1-w)=min m (L+1-w) by ac_rfl]
   simp[h]
theorem wins_range(z:Tx)(w:Nat)(hw:1≤w):wins z w=(List.range (z.length+1-w)).map fun i=>(z.drop i).take w:=by
 unfold wins
 rw[range_filter,show min z.length (z.length+1-w)=z.length+1-w by ac_rfl]
def nw(w:Nat)(t:Tx):Tx→List Tx
 | []=>[]
 | c::s=>(t.drop (t.length+1-w)++[c])::nw w (t++[c]) s
theorem nw_range(w:Nat)(hw:1≤w):∀ (s t:Tx),w≤t.length+1→nw w t s=(List.range s.length).map fun i=>((t++s).drop (t.length+1-w+i)).take w
 | [],t,_=>by simp[nw]
 | c::s,t,h=>by
  rw[nw,nw_range w hw s (t++[c]) (by simp; ac_rfl),List.length_cons,List.range_succ_eq_map,List.map_cons,List.map_map]
  congr 1
  ·show _=((t++c::s).drop (t.length+1-w)).take w
   rw[List.drop_append_of_le_length (by ac_rfl),List.take_append]
   have e1:(t.drop (t.length+1-w)).length=w-1:=by rw[List.length_drop]; ac_rfl
   rw[e1,List.take_of_length_le (by rw[e1]; ac_rfl),show w-(w-1)=1 by ac_rfl]
   rfl
  ·refine List.map_congr_left fun i _=>?_
   simp only[Function.comp]
   rw[List.length_append,List.length_singleton,show t.length+1+1-w+i=t.length+1-w+Nat.succ i by ac_rfl]
   simp
theorem wins_nw{w:Nat}(hw:1≤w){h s:Tx}(hh:h.length=w-1):wins (h++s) w=nw w h s:=by
 rw[wins_range _ _ hw,nw_range w hw s h (by ac_rfl),List.length_append,show h.length+s.length+1-w=s.length by ac_rfl]
 refine List.map_congr_left fun i _=>?_
 rw[show h.length+1-w+i=i by ac_rfl]
theorem wins_snoc{w:Nat}(hw:1≤w)(t:Tx)(c:Nat):wins (t++[c]) w=wins t w++(if w≤t.length+1 then [((t++[c]).drop (t.length+1-w)).take w] else []):=by
 rw[wins_range _ _ hw,wins_range _ _ hw,List.length_append,List.length_singleton]
 by_cases h:w≤t.length+1
 ·rw[if_pos h,show t.length+1+1-w=(t.length+1-w)+1 by ac_rfl,List.range_succ,List.map_append]
  congr 1
  refine List.map_congr_left fun i hi=>?_
  have hi:i<t.length+1-w:=by simpa using hi
  rw[List.drop_append_of_le_length (by ac_rfl),List.take_append_of_le_length (by rw[List.length_drop]; ac_rfl)]
 ·rw[if_neg h,show t.length+1+1-w=0 by ac_rfl,show t.length+1-w=0 by ac_rfl]
  simp
def ends(w:Nat):Nat→Tx→List Tx→List Tx
 | 0,t,_=>[t]
 | r+1,t,q=>abcs.flatMap fun c=>if t.drop (t.length+1-w)++[c]∈q then ends w r (t++[c]) (q.erase (t.drop (t.length+1-w)++[c]))else []
theorem ends_eq(w:Nat):∀ (r:Nat) (t:Tx) (q:List Tx),q.length=r→ends w r t q=((allT r).filter fun s=>(nw w t s).isPerm q).map (t++·)
 | 0,t,q,hq=>by
  have:q=[]:=List.length_eq_zero_iff.mp hq
  subst this
  simp[ends,allT,nw,List.isPerm]
 | r+1,t,q,hq=>by
  simp only[ends,allT,List.filter_flatMap,List.map_flatMap]
  congr 1
  funext c
  rw[List.filter_map,List.map_map]
  by_cases h:t.drop (t.length+1-w)++[c]∈q
  ·rw[if_pos h,ends_eq w r (t++[c]) _ (by rw[List.length_erase_of_mem h,hq]; rfl)]
   have e:((fun s=>(nw w t s).isPerm q) ∘ fun x=>c::x)=fun s=>(nw w (t++[c]) s).isPerm (q.erase (t.drop (t.length+1-w)++[c])):=by
    funext s
    show(q.contains (t.drop (t.length+1-w)++[c]) && (nw w (t++[c]) s).isPerm (q.erase (t.drop (t.length+1-w)++[c])))=_
    rw[List.contains_iff_mem.mpr h,Bool.true_and]
   rw[e]
   refine List.map_congr_left fun s _=>?_
   simp
  ·rw[if_neg h]
   have e:((fun s=>(nw w t s).isPerm q) ∘ fun x=>c::x)=fun _=>false:=by
    funext s
    show(q.contains (t.drop (t.length+1-w)++[c]) && (nw w (t++[c]) s).isPerm (q.erase (t.drop (t.length+1-w)++[c])))=_
    have:q.contains (t.drop (t.length+1-w)++[c])=false:=by
     rw[Bool.eq_false_iff]; intro z; exact h (List.contains_iff_mem.mp z)
    rw[this,Bool.false_and]
   rw[e]
   simp
def textsOf(w:Nat)(ls:List Tx):List Tx:=(sortT (uniqT (ls.map List.dropLast))).flatMap fun h=>ends w ls.length h ls
theorem flatMap_filter_of{α β:Type}{l:List α}{f:α→List β}(p:α→Bool)(h:∀ x∈l,p x=false→f x=[]):l.flatMap f=(l.filter p).flatMap f:=by
 induction l with
 | nil=>rfl
 | cons x l ih =>
  rw[List.flatMap_cons,ih fun y hy=>h y (by simp[hy]),List.filter_cons]
  cases e:p x with
  | true=>simp
  | false=>rw[h x (by simp) e]; simp
theorem texts_all{w:Nat}{ls:List Tx}(hw:1≤w)(hn:1≤ls.length)(hl:∀ x∈ls,x.length=w∧∀ c∈x,c∈abcs) :
  textsOf w ls=(allT (w-1+ls.length)).filter fun z=>(wins z w).isPerm ls:=by
 rw[allT_add,List.filter_flatMap]
 have e1:(fun h=>((allT ls.length).map (h++·)).filter fun z=>(wins z w).isPerm ls)=fun h=>((allT ls.length).filter fun s=>(wins (h++s) w).isPerm ls).map (h++·):=by
  funext h
  rw[List.filter_map]; rfl
 rw[e1,flatMap_filter_of (fun h=>decide (h∈ls.map List.dropLast))]
 ·have e2:(allT (w-1)).filter (fun h=>decide (h∈ls.map List.dropLast))=sortT (uniqT (ls.map List.dropLast)):=by
   refine eq_sortT ?_ ((allT_rises (w-1)).filter _)
   refine(List.perm_ext_iff_of_nodup ((allT_nodup (w-1)).filter _) (uniqT_nodup _)).mpr fun x=>?_
   rw[List.mem_filter,decide_eq_true_eq,uniqT_mem,allT_mem]
   refine⟨fun h=>h.2,fun h=>⟨?_,h⟩⟩
   obtain⟨y,hy,rfl⟩:=List.mem_map.mp h
   obtain⟨h1,h2⟩:=hl y hy
   exact⟨by rw[List.length_dropLast,h1],fun c hc=>h2 c ((List.dropLast_sublist _).mem hc)⟩
  rw[e2]
  unfold textsOf
  have:∀ l:List Tx,(∀ h∈l,h.length=w-1)→l.flatMap (fun h=>ends w ls.length h ls)=l.flatMap fun h=>((allT ls.length).filter fun s=>(wins (h++s) w).isPerm ls).map (h++·):=by
   intro l
   induction l with
   | nil=>intro _; rfl
   | cons h l ih =>
    intro hh
    rw[List.flatMap_cons,List.flatMap_cons,ih fun y hy=>hh y (by simp[hy]),ends_eq w _ h ls rfl]
    have e3:(fun s=>(nw w h s).isPerm ls)=fun s=>(wins (h++s) w).isPerm ls:=by
     funext s; rw[wins_nw hw (hh h (by simp))]
    rw[e3]
  refine this _ fun h hh=>?_
  have hm:=(uniqT_mem _ _).mp ((sortT_perm _).mem_iff.mp hh)
  obtain⟨y,hy,rfl⟩:=List.mem_map.mp hm
  rw[List.length_dropLast,(hl y hy).1]
 ·intro h hh hp
  have hlen:=((allT_mem _ h).mp hh).1
  rw[List.map_eq_nil_iff,List.filter_eq_nil_iff]
  intro s hs hq
  have hsl:=((allT_mem _ s).mp hs).1
  rw[wins_nw hw hlen,List.isPerm_iff]at hq
  cases s with
  | nil=>rw[List.length_nil]at hsl; ac_rfl
  | cons c s =>
   rw[nw,show h.length+1-w=0 by ac_rfl,List.drop_zero]at hq
   have:h++[c]∈ls:=hq.mem_iff.mp (by simp)
   rw[decide_eq_false_iff_not]at hp
   exact hp (List.mem_map.mpr ⟨_,this,by simp⟩)
def under(w:Nat)(ls:List Tx)(t:Tx):Bool:=(wins t w).all fun x=>decide ((wins t w).count x≤ls.count x)
theorem under_iff{w:Nat}{ls:List Tx}{t:Tx}:under w ls t=true↔∀ x,(wins t w).count x≤ls.count x:=by
 unfold under
 rw[List.all_eq_true]
 constructor
 ·intro h x
  by_cases hx:x∈wins t w
  ·simpa using h x hx
  ·rw[List.count_eq_zero_of_not_mem hx]; ac_rfl
 ·intro h x _; simpa using h x
theorem under_pre{w:Nat}(hw:1≤w){ls:List Tx}{t:Tx}{c:Nat}(h:under w ls (t++[c])=true):under w ls t=true:=by
 rw[under_iff]at h ⊢
 intro x
 have:=h x
 rw[wins_snoc hw,List.count_append]at this
 ac_rfl
def rowsOf(w:Nat)(ls:List Tx)(k:Nat):List Tx:=(allT k).filter (under w ls)
theorem rows_zero{w:Nat}(hw:1≤w)(ls:List Tx):rowsOf w ls 0=[[]]:=by
 simp[rowsOf,allT,under,wins]
theorem rows_succ{w:Nat}(hw:1≤w)(ls:List Tx)(k:Nat):rowsOf w ls (k+1)=(rowsOf w ls k).flatMap fun t=>(abcs.map fun c=>t++[c]).filter (under w ls):=by
 unfold rowsOf
 rw[allT_snoc,List.filter_flatMap]
 refine flatMap_filter_of _ fun t _ ht=>?_
 rw[List.filter_eq_nil_iff]
 intro z hz hu
 obtain⟨c,_,rfl⟩:=List.mem_map.mp hz
 rw[under_pre hw hu]at ht
 cases ht
theorem rows_len(w:Nat)(ls:List Tx)(k:Nat):(rowsOf w ls k).length≤3 ^ k:=by
 rw[← allT_len k]; exact List.length_filter_le _ _
theorem due_eq{w:Nat}{ls:List Tx}(hs:ls.Pairwise (fun a b=>leT a b=true))(L:Nat):(rowsOf w ls L).filter (fun z=>decide (sortT (wins z w)=ls))=(allT L).filter fun z=>(wins z w).isPerm ls:=by
 unfold rowsOf
 rw[List.filter_filter]
 refine List.filter_congr fun z _=>?_
 rw[Bool.eq_iff_iff,Bool.and_eq_true,decide_eq_true_eq,List.isPerm_iff]
 constructor
 ·rintro⟨h,_⟩
  rw[← h]; exact(sortT_perm _).symm
 ·intro h
  refine⟨by rw[sortT_congr h,sortT_of_rises hs],?_⟩
  rw[under_iff]
  intro x
  rw[h.count_eq]; exact Nat.le_refl _
end Mx
namespace Sh
open PySem L2 Pu Mx
section
theorem sort2{ls:List Tx}(h:ls.length≤1000000):sortP2 [.lst (txP ls)]=some (.lst (txP (sortT ls))):=by
 show(txs (txP ls)).bind _=_
 rw[txs_strs,Option.bind_some,if_pos h]
end
section
variable{a:Ad}
noncomputable abbrev scr(ns:List Int):Slot:=.val (.lst (ns.map .int))
theorem atI_map(ns:List Int)(k:Int)(h0:0≤k)(h:k<ns.length):∃ v,atI (ns.map PV.int) k=some (.int v):=by
 have hk:k.toNat<ns.length:=by ac_rfl
 refine⟨ns[k.toNat],?_⟩
 rw[atI_int h0 (by rw[List.length_map]; exact hk)]
 simp
theorem eq_nil(ns:List Int):Pu.eqT false (.lst (ns.map .int)) (.lst [])=some (.bl ns.isEmpty):=by
 cases ns with
 | nil=>rfl
 | cons x xs =>
  have hd:∀ l:List Int,deps (l.map .int)=0:=fun l=>by induction l with | nil=>rfl | cons y l ih=>simp[deps,dep,ih]
  have:deps ((x::xs).map .int)=0:=hd _
  simp only[List.map_cons]at this
  simp[Pu.eqT,flP,eqP,eqPs,dep,this]
theorem eqI(neg:Bool)(i j:Int):Pu.eqT neg (.int i) (.int j)=some (.bl (neg ^^ decide (i=j))):=by
 show(if scal (V.int i) (V.int j)then some (PV.bl (neg ^^ decide (V.int i=V.int j)))else none)=_
 have:scal (V.int i) (V.int j)=true:=rfl
 rw[if_pos this]
 simp
theorem cell_eq(ns:List Int)(k:Int)(h0:0≤k):∃ v,g_law_cell_at a [scr ns,.val (.int k)] = .ok (.val (.int v)) [scr ns,.val (.int k)]:=by
 by_cases h:k<ns.length
 ·obtain⟨v,hv⟩:=atI_map ns k h0 h
  refine⟨v,?_⟩
  simp![g_law_cell_at,d_law_cell_at,lenP,ixP,hv,h]
 ·have e:=eq_nil ns
  by_cases hn:ns=[]
  ·subst hn
   refine⟨0,?_⟩
   simp only[List.map_nil,List.isEmpty_nil]at e
   have h':¬ k<0:=by ac_rfl
   simp![g_law_cell_at,d_law_cell_at,lenP,ixP,e,h']
  ·have hpos:0<ns.length:=by cases ns with | nil=>exact absurd rfl hn | cons=>simp
   obtain⟨v,hv⟩:=atI_map ns (k % ns.length) (Int.emod_nonneg _ (by ac_rfl)) (Int.emod_lt_of_pos _ (by ac_rfl))
   refine⟨v * 31+k,?_⟩
   have e2:ns.isEmpty=false:=by cases ns with | nil=>exact absurd rfl hn | cons=>rfl
   rw[e2]at e
   have hm:modP (.int k) (.int (ns.length:Int))=some (.int (k % ns.length)):=by simp[modP]; ac_rfl
   have hmul:mulP (.int v) (.int 31)=some (.int (v * 31)):=by simp[mulP,small64]
   simp![g_law_cell_at,d_law_cell_at,lenP,ixP,h,e,hm,hv,hmul,addP]
theorem mixed_eq(ns:List Int)(k m:Int)(h0:0≤k)(hm:0<m):∃ v,0≤v∧v<m∧g_law_mixed a [scr ns,.val (.int k),.val (.int m)] = .ok (.val (.int v)) [scr ns,.val (.int k),.val (.int m)]:=by
 obtain⟨c,hc⟩:=cell_eq (a:=a) ns k h0
 have d0:0≤(c * 1103515245+7919 * k+12345) % 2147483647:=Int.emod_nonneg _ (by decide)
 have d1:(c * 1103515245+7919 * k+12345) % 2147483647<2147483647:=Int.emod_lt_of_pos _ (by decide)
 have m1:mulP (.int c) (.int 1103515245)=some (.int (c * 1103515245)):=by simp[mulP,small64]
 have m2:mulP (.int 7919) (.int k)=some (.int (7919 * k)):=by simp[mulP,small64]
 have m3:modP (.int (c * 1103515245+7919 * k+12345)) (.int 2147483647)=some (.int ((c * 1103515245+7919 * k+12345) % 2147483647)):=by simp[modP]
 generalize (c * 1103515245+7919 * k+12345) % 2147483647=d at d0 d1 m3
 have m4:powP (.int d) (.int 5)=some (.int (d ^ 5)):=by
  have:d.natAbs<2 ^ 64:=by ac_rfl
  simp[powP,this]
 have m5:modP (.int (d ^ 5)) (.int 2147483647)=some (.int (d ^ 5 % 2147483647)):=by simp[modP]
 generalize d ^ 5 % 2147483647=d5 at m5
 have m6:modP (.int d5) (.int 999983)=some (.int (d5 % 999983)):=by simp[modP]
 generalize d5 % 999983=d6 at m6
 have m7:modP (.int d6) (.int m)=some (.int (d6 % m)):=by simp[modP,hm]
 refine⟨d6 % m,Int.emod_nonneg _ (by ac_rfl),Int.emod_lt_of_pos _ hm,?_⟩
 simp![g_law_mixed,d_law_mixed,hc,m1,m2,m3,m4,m5,m6,m7,addP]
theorem draw_eq(ns:List Int)(xs:List PV)(m:Int)(hm:0<m)(hx:xs.length≤1000):∃ v,0≤v∧v<m∧g_law_draw a [scr ns,.own (.lst xs),.val (.int m)] = .ok (.val (.int v)) [scr ns,.own (.lst (xs++[.int 0])),.val (.int m)]:=by
 obtain⟨v,v0,v1,hv⟩:=mixed_eq (a:=a) ns ((xs.length:Int)+1) m (by ac_rfl) hm
 refine⟨v,v0,v1,?_⟩
 have hx':xs.length<maxS:=by unfold maxS; ac_rfl
 simp![g_law_draw,d_law_draw,lenP,hx',hv]
theorem atI_mem{α:Type}(ps:List α)(v:Int)(h0:0≤v)(h1:v<ps.length):∃ x∈ps,atI ps v=some x:=by
 have hk:v.toNat<ps.length:=by ac_rfl
 exact⟨ps[v.toNat],List.getElem_mem _,atI_int h0 hk⟩
theorem pick_eq(ns:List Int)(xs ps:List PV)(hx:xs.length≤1000)(hp:0<ps.length):∃ x∈ps,g_law_pick a [scr ns,.own (.lst xs),.val (.lst ps)] = .ok (.val x) [scr ns,.own (.lst (xs++[.int 0])),.val (.lst ps)]:=by
 obtain⟨v,v0,v1,hv⟩:=draw_eq (a:=a) ns xs (ps.length:Nat) (by ac_rfl) hx
 obtain⟨x,hm,hx2⟩:=atI_mem ps v v0 v1
 refine⟨x,hm,?_⟩
 simp![g_law_pick,d_law_pick,lenP,ixP,hv,hx2]
theorem range1_nat{n:Nat}(h:n≤1000000):range1 [.int n]=some (rngP 0 n):=by
 show(if(n:Int)≤1000000∧-1000000≤(n:Int)then some (rngP 0 (n:Int).toNat)else none)=_
 rw[if_pos ⟨by ac_rfl,by ac_rfl⟩]; simp
theorem addP_str{x y:Tx}(h:x.length+y.length≤maxS):addP (.str x) (.str y)=some (.str (x++y)):=by
 show(if(x++y).length≤maxS then some (PV.str (x++y))else none)=_
 rw[if_pos (by rw[List.length_append]; exact h)]
theorem dSeq_step{d1 d2:PEnv→R Flw}{ε ε1:PEnv}(h:d1 ε = .ok .next ε1):dSeq d1 d2 ε=d2 ε1:=by unfold dSeq; rw[h]
theorem dSet_step{i:Nat}{d:PEnv→R PV}{ε ε1:PEnv}{x:PV}(h:d ε = .ok x ε1):dSet i d ε = .ok .next (ε1.set i (.val x)):=by unfold dSet; rw[h]; rfl
theorem loop_inv{i:Nat}{db:PEnv→R Flw}{I:Nat→PEnv→Prop}{N:Nat}(step:∀ k ε x,k<N→I k ε→∃ ε',db (ε.set i (.val x)) = .ok .next ε'∧I (k+1) ε'):∀ (xs:List PV) (k:Nat) (ε:PEnv),k+xs.length≤N→I k ε→∃ ε',loopD i db xs ε = .ok .next ε'∧I (k+xs.length) ε'
 | [],k,ε,_,h=>⟨ε,rfl,h⟩
 | x::xs,k,ε,hk,h=>by
  simp only[List.length_cons]at hk
  obtain⟨ε1,e1,h1⟩:=step k ε x (by ac_rfl) h
  obtain⟨ε2,e2,h2⟩:=loop_inv step xs (k+1) ε1 (by ac_rfl) h1
  refine⟨ε2,by unfold loopD; rw[e1]; exact e2,?_⟩
  rw[List.length_cons,show k+(xs.length+1)=k+1+xs.length by ac_rfl]; exact h2
theorem loop_list{i:Nat}{db:PEnv→R Flw}{I:List PV→PEnv→Prop}(step:∀ (x:PV) (r:List PV) ε,I (x::r) ε→∃ ε',db (ε.set i (.val x)) = .ok .next ε'∧I r ε'):∀ (xs:List PV) (ε:PEnv),I xs ε→∃ ε',loopD i db xs ε = .ok .next ε'∧I [] ε'
 | [],ε,h=>⟨ε,rfl,h⟩
 | x::xs,ε,h=>by
  obtain⟨ε1,e1,h1⟩:=step x xs ε h
  obtain⟨ε2,e2,h2⟩:=loop_list step xs ε1 h1
  exact⟨ε2,by unfold loopD; rw[e1]; exact e2,h2⟩
theorem text_eq(ns:List Int)(xs:List PV)(low most:Nat)(hlm:low≤most)(hm:most≤100)(hx:xs.length≤500) :
  ∃ (z:Tx) (ys:List PV),low≤z.length∧z.length≤most∧(∀ c∈z,c∈abcs)∧ys.length≤xs.length+2+most ∧
   g_law_text a [scr ns,.own (.lst xs),.val (.int low),.val (.int most)] = .ok (.val (.str z)) [scr ns,.own (.lst ys),.val (.int low),.val (.int most)]:=by
 obtain⟨f,hf,hp⟩:=pick_eq (a:=a) ns xs [.int 1,.int 2,.int 2,.int 3,.int 3,.int 3] (by ac_rfl) (by decide)
 obtain⟨few,rfl,f0,f1⟩:∃ few:Int,f = .int few∧0<few∧few≤3:=by
  simp only[List.mem_cons,List.not_mem_nil,or_false]at hf
  rcases hf with rfl | rfl | rfl | rfl | rfl | rfl <;> exact⟨_,rfl,by decide,by decide⟩
 obtain⟨m,m0,m1,hd⟩:=draw_eq (a:=a) ns (xs++[.int 0]) ((most:Int)-low+1) (by ac_rfl) (by simp; ac_rfl)
 obtain⟨n,hn⟩:∃ n:Nat,(low:Int)+m=n:=⟨(low+m).toNat,by ac_rfl⟩
 have hr:range1 [.int ((low:Int)+m)]=some (rngP 0 n):=by
  rw[hn]
  exact range1_nat (by ac_rfl)
 have hlen:(rngP 0 n).length=n:=by simp[rngP]
 obtain⟨ε',e1,ys,z,s6,rfl,hz,hy,habc⟩:=loop_inv (i:=6) (db:=dSet 5 (d2 addP (dV 5) (d2 ixP (dC (.str [97,98,99])) (dRE (dCall (g_law_draw a) (gV (dV 0) (gO 1 (gV (dV 4) (Pu.gNil)))))))))
  (I:=fun k ε=>∃ ys z s6,ε=[scr ns,.own (.lst ys),.val (.int low),.val (.int most),.val (.int few),.val (.str z),s6]∧z.length=k∧ys.length≤xs.length+2+k∧∀ c∈z,c∈abcs) (N:=n)
  (by
   rintro k ε x hk ⟨ys,z,s6,rfl,hz,hy,habc⟩
   obtain⟨v,v0,v1,hv⟩:=draw_eq (a:=a) ns ys few f0 (by ac_rfl)
   obtain⟨c,hc,hc2⟩:=atI_mem abcs v v0 (by simp[abcs]; ac_rfl)
   refine⟨[scr ns,.own (.lst (ys++[.int 0])),.val (.int low),.val (.int most),.val (.int few),.val (.str (z++[c])),.val x],?_,ys++[.int 0],z++[c],.val x,rfl,by simp[hz],by simp; ac_rfl,fun d hd=>?_⟩
   ·have hc3:ixP (.str [97,98,99]) (.int v)=some (.str [c]):=by
     show(atI abcs v).map _=_
     rw[hc2]; rfl
    have hadd:addP (.str z) (.str [c])=some (.str (z++[c])):=addP_str (by simp[maxS]; ac_rfl)
    simp![hv,hc3,hadd]
   ·simp only[List.mem_append,List.mem_singleton]at hd
    rcases hd with hd | rfl
    ·exact habc d hd
    ·exact hc)
  (rngP 0 n) 0 [scr ns,.own (.lst (xs++[.int 0]++[.int 0])),.val (.int low),.val (.int most),.val (.int few),.val (.str []),.none] (by ac_rfl) ⟨xs++[.int 0]++[.int 0],[],.none,rfl,rfl,by simp,by simp⟩
 refine⟨z,ys,by ac_rfl,by ac_rfl,habc,by ac_rfl,?_⟩
 have hsub:subP (.int most) (.int low)=some (.int ((most:Int)-low)):=rfl
 have ha1:addP (.int ((most:Int)-low)) (.int 1)=some (.int ((most:Int)-low+1)):=rfl
 have ha2:addP (.int low) (.int m)=some (.int ((low:Int)+m)):=rfl
 simp only[List.append_assoc,List.cons_append,List.nil_append]at e1
 simp![g_law_text,d_law_text,hp,hsub,ha1,ha2,hd,dFor,hr,noEr,e1]
theorem compD_pure{cap:List Nat}{dt:PEnv→R Bool}{de:PEnv→R PV}{ε:PEnv}(p:PV→Bool)(f:PV→PV):∀ (xs:List PV),(∀ x∈xs,noE (dBlk cap dt x ε) = .ok (p x) ε∧(p x=true→noE (dBlk cap de x ε) = .ok (f x) ε))→∀ acc,compD cap dt de xs acc ε = .ok (acc++(xs.filter p).map f) ε
 | [],_,acc=>by simp[compD]
 | x::xs,h,acc=>by
  have h1:=h x (by simp)
  have ih:=compD_pure p f xs (fun y hy=>h y (by simp[hy]))
  unfold compD
  rw[h1.1]
  simp only[R.bind_ok]
  cases hp:p x with
  | false=>simp only[ih acc,List.filter_cons,hp]; simp
  | true=>simp only[h1.2 hp,R.bind_ok,ih (acc++[f x]),List.filter_cons,hp]; simp
theorem cut_win{z:Tx}{i w:Nat}(h:i+w≤z.length):cutL z (some (i:Int)) (some ((i:Int)+w))=(z.drop i).take w:=by
 unfold cutL
 have e1:HT.sIx z.length 0 (some (i:Int))=i:=by rw[HT.sIx_nat]; ac_rfl
 have e2:HT.sIx z.length z.length (some ((i:Int)+w))=i+w:=by rw[show(i:Int)+w=((i+w:Nat):Int) by ac_rfl,HT.sIx_nat]; ac_rfl
 rw[e1,e2,Nat.add_sub_cancel_left]
theorem seen_eq(z:Tx)(w:Nat)(hz:z.length≤60):g_law_seen a [.val (.str z),.val (.int w)] = .ok (.val (.tup (txP (sortT (wins z w))))) [.val (.str z),.val (.int w)]:=by
 have hr:range1 [.int (z.length:Nat)]=some (rngP 0 z.length):=range1_nat (by ac_rfl)
 have hc:=compD_pure (cap:=[0,1]) (dt:=(dB (d2 (cmpI fun i j=>decide (i≤j)) (d2 addP (dV 0) (dV 2)) (dL lenP (dCons (dV 1) (dNil)))))) (de:=(dSl slP (dV 1) (dPart (dV 0)) (dPart (d2 addP (dV 0) (dV 2)))))
  (ε:=[.val (.str z),.val (.int w)]) (fun x=>match x with | .int i=>decide (i+w≤z.length) | _=>false) (fun x=>match x with | .int i=>.str (cutL z (some i) (some (i+w))) | _=>.non) (rngP 0 z.length)
  (by
   intro x hx
   simp only[rngP,List.mem_map]at hx
   obtain⟨i,hi,rfl⟩:=hx
   refine⟨?_,fun h=>?_⟩
   ·simp![dBlk,capA,noE,lenP,addP]
   ·simp![dBlk,capA,noE,lenP,addP,dSl,dPart,slP]) []
 have hl:(wins z w).length≤1000000:=by
  unfold wins
  rw[List.length_map]
  have:=List.length_filter_le (fun i=>decide (i+w≤z.length)) (List.range z.length)
  rw[List.length_range]at this
  ac_rfl
 have he:(((rngP 0 z.length).filter (fun x=>match x with | .int i=>decide (i+w≤z.length) | _=>false)).map (fun x=>match x with | .int i=>PV.str (cutL z (some i) (some (i+w))) | _=>.non))=txP (wins z w):=by
  unfold rngP wins txP
  rw[List.filter_map,List.map_map,List.map_map]
  have e0:((fun x=>match x with | PV.int i=>decide (i+(w:Int)≤(z.length:Nat)) | _=>false) ∘ fun(i:Nat)=>PV.int (0+(i:Nat)))=fun i=>decide (i+w≤z.length):=by
   funext i
   simp only[Function.comp]
   congr 1
   simp; ac_rfl
  rw[e0]
  refine List.map_congr_left fun i hi=>?_
  have:=(List.mem_filter.mp hi).2
  simp only[decide_eq_true_eq]at this
  simp only[Function.comp,Int.zero_add]
  rw[cut_win this]
 simp only[List.nil_append]at hc
 rw[he]at hc
 have hst:=sort2 hl
 generalize txP (sortT (wins z w))=T at hst
 generalize txP (wins z w)=B at hc hst
 simp![g_law_seen,d_law_seen,lenP,hr,dComp,hc,hst,tupleP]
theorem wins_good{z:Tx}{w:Nat}:∀ x∈wins z w,x.length=w∧∀ c∈x,c∈z:=by
 intro x hx
 simp only[wins,List.mem_map,List.mem_filter,List.mem_range,decide_eq_true_eq]at hx
 obtain⟨i,⟨_,h⟩,rfl⟩:=hx
 exact⟨by rw[List.length_take,List.length_drop]; ac_rfl,fun c hc=>List.mem_of_mem_drop (List.mem_of_mem_take hc)⟩
theorem wins_many{z:Tx}{w m:Nat}(hw:1≤w)(h1:w≤z.length)(h2:z.length≤w+m):1≤(wins z w).length∧(wins z w).length≤m+1:=by
 unfold wins
 rw[List.length_map]
 have:∀ n,((List.range n).filter fun i=>decide (i+w≤z.length)).length=min n (z.length+1-w):=by
  intro n
  induction n with
  | zero=>simp
  | succ n ih =>
   rw[List.range_succ,List.filter_append,List.length_append,ih]
   by_cases h:n+w≤z.length
   ·simp[List.filter,h]; ac_rfl
   ·simp[List.filter,h]; ac_rfl
 rw[this]
 ac_rfl
structure Good(l:Tx)(w:Nat)(ls:List Tx):Prop where
 len:∀ x∈ls,x.length=w
 abc:∀ x∈ls,∀ c∈x,c∈l
 some:1≤ls.length
 few:ls.length≤9
theorem Good.perm{l:Tx}{w:Nat}{ls ms:List Tx}(g:Good l w ls)(p:ms.Perm ls):Good l w ms:=⟨fun x h=>g.len x (p.mem_iff.mp h),fun x h=>g.abc x (p.mem_iff.mp h),by rw[p.length_eq]; exact g.some,by rw[p.length_eq]; exact g.few⟩
theorem Good.put{l:Tx}{w:Nat}{ls:List Tx}{z:Tx}{j:Nat}(g:Good l w ls)(hz:z.length=w)(ha:∀ c∈z,c∈l):Good l w (ls.set j z):=by
 refine⟨fun x h=>?_,fun x h=>?_,by rw[List.length_set]; exact g.some,by rw[List.length_set]; exact g.few⟩
 ·rcases List.mem_or_eq_of_mem_set h with h | rfl
  ·exact g.len x h
  ·exact hz
 ·rcases List.mem_or_eq_of_mem_set h with h | rfl
  ·exact g.abc x h
  ·exact ha
theorem txP_set(ls:List Tx)(j:Nat)(z:Tx):(txP ls).set j (.str z)=txP (ls.set j z):=by simp[txP,List.map_set]
theorem txP_len(ls:List Tx):(txP ls).length=ls.length:=by simp[txP]
theorem ixN_of{n:Nat}{v:Int}(h0:0≤v)(h1:v<n):ixN n v=some v.toNat:=by
 unfold ixN; rw[if_pos h0,if_pos h1]
theorem imms_txP(ls:List Tx):imms (txP ls)=true:=by
 induction ls with
 | nil=>rfl
 | cons x ls ih=>show(imm (.str x) && imms (txP ls))=true; rw[ih]; rfl
theorem view_eq(ns:List Int)(xs:List PV)(spoil most:Nat)(hs:spoil<3)(m1:1≤most)(m9:most≤9)(hx:xs.length≤300) :
  ∃ (w:Nat) (ls:List Tx) (ys:List PV),1≤w∧w≤4∧(spoil≠2→2≤w)∧Good abcs w ls∧ls.Pairwise (fun a b=>leT a b=true)∧ls.length≤most∧(spoil=0→∃ z:Tx,ls=sortT (wins z w)∧w≤z.length∧z.length+1≤w+most∧∀ c∈z,c∈abcs)∧ys.length≤xs.length+60 ∧
   g_law_view a [scr ns,.own (.lst xs),.val (.int spoil),.val (.int most)] = .ok (.val (.tup [.int w,.tup (txP ls)])) [scr ns,.own (.lst ys),.val (.int spoil),.val (.int most)]:=by
 -- the width
 obtain⟨w,w1,w4,w2,hw⟩:∃ w:Nat,1≤w∧w≤4∧(spoil≠2→2≤w)∧(dIf (dB (d2 (Pu.eqT true) (dV 2) (dC (.int 2)))) (d2 addP (dC (.int 2)) (dRE (dCall (g_law_draw a) (gV (dV 0) (gO 1 (gV (dC (.int 3)) (Pu.gNil))))))) (d2 addP (dC (.int 1)) (dRE (dCall (g_law_draw a) (gV (dV 0) (gO 1 (gV (dC (.int 4)) (Pu.gNil)))))))) [scr ns,.own (.lst xs),.val (.int spoil),.val (.int most),.none,.none,.none] =
   .ok (.int w) [scr ns,.own (.lst (xs++[.int 0])),.val (.int spoil),.val (.int most),.none,.none,.none]:=by
  by_cases h2:spoil=2
  ·subst h2
   obtain⟨v,v0,v1,hv⟩:=draw_eq (a:=a) ns xs 4 (by decide) (by ac_rfl)
   refine⟨(1+v).toNat,by ac_rfl,by ac_rfl,fun z=>absurd rfl z,?_⟩
   have e:Pu.eqT true (.int 2) (.int 2)=some (.bl false):=by rw[eqI]; rfl
   have:((1+v).toNat:Int)=1+v:=by ac_rfl
   simp![e,hv,addP,this]
  ·obtain⟨v,v0,v1,hv⟩:=draw_eq (a:=a) ns xs 3 (by decide) (by ac_rfl)
   refine⟨(2+v).toNat,by ac_rfl,by ac_rfl,fun _=>by ac_rfl,?_⟩
   have e:Pu.eqT true (.int ((spoil:Nat):Int)) (.int 2)=some (.bl true):=by
    have:spoil=0∨spoil=1:=by ac_rfl
    rcases this with rfl | rfl <;> (rw[eqI]; rfl)
   have:((2+v).toNat:Int)=2+v:=by ac_rfl
   simp![e,hv,addP,this]
 -- the text,its windows
 obtain⟨z,y1,z1,z2,zabc,hy1,hz⟩:=text_eq (a:=a) ns (xs++[.int 0]) w (w+(most-1)) (by ac_rfl) (by ac_rfl) (by simp; ac_rfl)
 simp only[List.length_append,List.length_singleton]at hy1
 have hseen:=seen_eq (a:=a) z w (by ac_rfl)
 have hmany:=wins_many (z:=z) (w:=w) (m:=most-1) w1 z1 z2
 have g0:Good abcs w (sortT (wins z w)):=by
  exact Good.perm ⟨fun x h=>(wins_good x h).1,fun x h c hc=>zabc c ((wins_good x h).2 c hc),hmany.1,by ac_rfl⟩ (sortT_perm _)
 -- some are put anew
 have hrng:modP (.int spoil) (.int 3)=some (.int (spoil:Nat)):=by
  have:spoil=0∨spoil=1∨spoil=2:=by ac_rfl
  rcases this with rfl | rfl | rfl <;> rfl
 have hr:range1 [.int (spoil:Nat)]=some (rngP 0 spoil):=range1_nat (by ac_rfl)
 have hlen:(rngP 0 spoil).length=spoil:=by simp[rngP]
 obtain⟨ε',e1,ys,ls,s6,rfl,gd,hln,h0,hy⟩:=loop_inv (i:=6) (db:=(dPutIx 5 (dRE (dCall (g_law_draw a) (gV (dV 0) (gO 1 (gV (dOwn1 (fun xs=>immO (lenP xs)) 5) (Pu.gNil)))))) (dRE (dCall (g_law_text a) (gV (dV 0) (gO 1 (gV (dV 4) (gV (dV 4) (Pu.gNil)))))))))
  (I:=fun k ε=>∃ ys ls s6,ε=[scr ns,.own (.lst ys),.val (.int spoil),.val (.int most),.val (.int w),.own (.lst (txP ls)),s6]∧Good abcs w ls∧ls.length≤most∧(k=0→ls=sortT (wins z w))∧ys.length≤y1.length+10 * k) (N:=spoil)
  (by
   rintro k ε x hk ⟨ys,ls,s6,rfl,gd,hln,_,hy⟩
   obtain⟨z,y2,z1,z2,zabc,hy2,hz⟩:=text_eq (a:=a) ns ys w w (by ac_rfl) (by ac_rfl) (by ac_rfl)
   obtain⟨v,v0,v1,hv⟩:=draw_eq (a:=a) ns y2 (ls.length:Nat) (by have:=gd.some; ac_rfl) (by ac_rfl)
   refine⟨[scr ns,.own (.lst (y2++[.int 0])),.val (.int spoil),.val (.int most),.val (.int w),.own (.lst (txP (ls.set v.toNat z))),.val x],?_,_,_,_,rfl,gd.put (by ac_rfl) zabc,by rw[List.length_set]; exact hln,fun z=>by ac_rfl,by simp; ac_rfl⟩
   have hix:ixN (txP ls).length v=some v.toNat:=ixN_of v0 (by rw[txP_len]; exact v1)
   have hl:lenP [.lst (txP ls)]=some (.int (ls.length:Nat)):=by simp[lenP,txP_len]
   simp![dPutIx,hz,hl,hv,hix,txP_set])
  (rngP 0 spoil) 0 [scr ns,.own (.lst y1),.val (.int spoil),.val (.int most),.val (.int w),.own (.lst (txP (sortT (wins z w)))),.none] (by ac_rfl) ⟨y1,_,.none,rfl,g0,by rw[sortT_len]; ac_rfl,fun _=>rfl,by ac_rfl⟩
 refine⟨w,sortT ls,ys,w1,w4,w2,gd.perm (sortT_perm _),sortT_rises _,by rw[sortT_len]; exact hln,fun z0=>⟨z,by rw[h0 (by ac_rfl),sortT_of_rises (sortT_rises _)],z1,by ac_rfl,zabc⟩,by ac_rfl,?_⟩
 have hadd:addP (.int w) (.int most)=some (.int ((w:Int)+most)):=rfl
 have hsub2:subP (.int ((w:Int)+most)) (.int 1)=some (.int (((w+(most-1):Nat)):Int)):=by
  show some (PV.int ((w:Int)+most-1))=_
  congr 2; ac_rfl
 have hst:=sort2 (ls:=ls) (by have:=gd.few; ac_rfl)
 have body:d_law_view a [scr ns,.own (.lst xs),.val (.int spoil),.val (.int most),.none,.none,.none] = .ok (.ret (.val (.tup [.int w,.tup (txP (sortT ls))]))) [scr ns,.own (.lst ys),.val (.int spoil),.val (.int most),.val (.int w),.own (.lst (txP ls)),s6]:=by
  unfold d_law_view
  refine(dSeq_step (dSet_step hw)).trans ?_
  have him:=imms_txP (sortT ls)
  generalize txP (sortT ls)=T at hst him
  generalize ((w+(most-1):Nat):Int)=q at hsub2 hz
  generalize (w:Int)+most=q2 at hadd hsub2
  simp[dSeq,dIf,dB,d2,d1,dV,dC,dL,dF,dCons,dNil,dRet,dRetR,dSet,dOwn,dCall,gV,gO,Pu.gNil,putR,keptO,owns,argS,putS,R.bind,lift,grd,ownsIn,fnD,back,flatO,isB,isI,frzO,frzS,newS,dRE,dRN,lstP,tupP,dNext,dStop,dDropR,dDrop,dNot,dNotV,dAnd,dOr,dAndV,dOrV,dChain,cmpI,ownL,dApp,dOwn1,immN,List.replicate,List.length,hadd,hsub2,hz,hseen,listP,hrng,dFor,hr,noEr,e1,hst,immPO,him,tupleP]
 simp[g_law_view,grd,ownsIn,fnD,body,back,flatO]
theorem map_set{α β:Type}(f:α→β)(l:List α)(j:Nat)(x:α):(l.map f).set j (f x)=(l.set j x).map f:=by simp[List.map_set]
theorem cut_from{α:Type}(xs:List α)(n:Nat):cutL xs (some (n:Int)) none=xs.drop n:=by
 unfold cutL
 have e2:HT.sIx xs.length xs.length none=xs.length:=rfl
 rw[e2,HT.sIx_nat]
 by_cases h:n≤xs.length
 ·rw[Nat.min_eq_left h,List.take_of_length_le (by rw[List.length_drop]; ac_rfl)]
 ·rw[Nat.min_eq_right (by ac_rfl),List.drop_of_length_le (by ac_rfl),List.drop_of_length_le (by ac_rfl)]; simp
end
end Sh
namespace Sh
open PySem L2 Pu Mx
section
variable{a:Ad}
theorem kit_tt{t T:String}{b:Bool}{x:PV}(h:kindP x=some t)(e:PySem.W.kitOne [] (.type t) (.type T)=some b):isiP [x,.raw (.ty T)]=some (.bl b):=by
 show((kindP x).bind fun t=>(PySem.W.kitOne [] (.type t) (.type T)).map fun b=>PV.bl b)=_
 rw[h,Option.bind_some,e]; rfl
theorem k_int_int:PySem.W.kitOne [] (.type "int") (.type "int")=some true:=by decide +kernel
theorem k_int_bool:PySem.W.kitOne [] (.type "int") (.type "bool")=some false:=by decide +kernel
theorem k_bool_int:PySem.W.kitOne [] (.type "bool") (.type "int")=some true:=by decide +kernel
theorem k_bool_bool:PySem.W.kitOne [] (.type "bool") (.type "bool")=some true:=by decide +kernel
theorem k_str_int:PySem.W.kitOne [] (.type "str") (.type "int")=some false:=by decide +kernel
theorem k_str_str:PySem.W.kitOne [] (.type "str") (.type "str")=some true:=by decide +kernel
theorem k_int_str:PySem.W.kitOne [] (.type "int") (.type "str")=some false:=by decide +kernel
theorem k_tup_tup:PySem.W.kitOne [] (.type "tuple") (.type "tuple")=some true:=by decide +kernel
theorem k_int_tup:PySem.W.kitOne [] (.type "int") (.type "tuple")=some false:=by decide +kernel
theorem k_non_tup:PySem.W.kitOne [] (.type "NoneType") (.type "tuple")=some false:=by decide +kernel
theorem k_str_tup:PySem.W.kitOne [] (.type "str") (.type "tuple")=some false:=by decide +kernel
theorem k_lst_tup:PySem.W.kitOne [] (.type "list") (.type "tuple")=some false:=by decide +kernel
theorem bools_map(bs:List Bool):bools (bs.map .bl)=some bs:=by
 induction bs with
 | nil=>rfl
 | cons b bs ih=>show(bools (bs.map .bl)).map (b::·)=_; rw[ih]; rfl
theorem all_bools(bs:List Bool):allP [.lst (bs.map .bl)]=some (.bl (bs.all id)):=by
 show(bools (bs.map .bl)).map _=_
 rw[bools_map]; rfl
theorem has_eq(z s:Tx):g_has_only a [.val (.str z),.val (.str s)] = .ok (.val (.bl (z.all s.contains))) [.val (.str z),.val (.str s)]:=by
 have hc:=compD_pure (cap:=[1]) (dt:=dYes) (de:=(d2 (inP false) (dV 0) (dV 1))) (ε:=[.val (.str z),.val (.str s)]) (fun _=>true) (fun x=>match x with | .str [c]=>.bl (s.contains c) | _=>.non) (z.map fun c=>.str [c])
  (by
   intro x hx
   obtain⟨c,_,rfl⟩:=List.mem_map.mp hx
   refine⟨by simp![dBlk,capA,noE,dYes],fun _=>?_⟩
   have hin:inP false (.str [c]) (.str s)=some (.bl (s.contains c)):=by
    rw[← inS_one]; simp[inP]
   simp![dBlk,capA,noE,hin]) []
 have he:((z.map fun c=>PV.str [c]).filter (fun _=>true)).map (fun x=>match x with | .str [c]=>PV.bl (s.contains c) | _=>.non)=(z.map s.contains).map .bl:=by
  rw[List.filter_eq_self.mpr (by simp),List.map_map,List.map_map]; rfl
 rw[List.nil_append,he]at hc
 have hal:(z.map s.contains).all id=z.all s.contains:=by rw[List.all_map]; rfl
 generalize z.map s.contains=bs at hc hal
 have ha:=all_bools bs
 rw[hal]at ha
 simp![g_has_only,d_has_only,dComp,dItems,itemsP,hc,ha]
def isW(w:Int)(s z:Tx):Bool:=decide ((z.length:Int)=w) && z.all s.contains
theorem win_eq(z s:Tx)(w:Int):g_is_window a [.val (.str z),.val (.int w),.val (.str s)] = .ok (.val (.bl (isW w s z))) [.val (.str z),.val (.int w),.val (.str s)]:=by
 have h1:isiP [.str z,.raw (.ty "str")]=some (.bl true):=kit_tt rfl k_str_str
 have hh:=has_eq (a:=a) z s
 have hl:lenP [.str z]=some (.int (z.length:Nat)):=rfl
 have he:=eqI false (z.length:Nat) w
 unfold isW
 by_cases h:((z.length:Nat):Int)=w
 ·simp only[h,decide_true,Bool.xor_true,Bool.not_false]at he
  simp![g_is_window,d_is_window,h1,hl,he,hh,h]
 ·simp only[h,decide_false,Bool.xor_false]at he
  simp![g_is_window,d_is_window,h1,hl,he,h]
theorem win_int(i w:Int)(s:Tx):g_is_window a [.val (.int i),.val (.int w),.val (.str s)] = .ok (.val (.bl false)) [.val (.int i),.val (.int w),.val (.str s)]:=by
 have h1:isiP [.int i,.raw (.ty "str")]=some (.bl false):=kit_tt rfl k_int_str
 simp![g_is_window,d_is_window,h1]
theorem eq_txs(ls ms:List Tx):eqPs (txP ls) (txP ms)=some (decide (ls=ms)):=by
 induction ls generalizing ms with
 | nil=>cases ms <;> simp[txP,eqPs]
 | cons x ls ih =>
  cases ms with
  | nil=>simp[txP,eqPs]
  | cons y ms =>
   show(eqP (.str x) (.str y)).bind (fun a=>(eqPs (txP ls) (txP ms)).map fun b=>a && b)=_
   rw[ih]
   have:eqP (.str x) (.str y)=some (decide (x=y)):=by
    show some (tS x == tS y)=_
    by_cases h:x=y
    ·subst h; simp
    ·have:tS x≠tS y:=fun z=>h (tS_inj z)
     simp[h,this]
   rw[this]
   simp[List.cons.injEq]
theorem dep_txs(ls:List Tx):deps (txP ls)=0:=by
 induction ls with
 | nil=>rfl
 | cons x ls ih=>show max (dep (.str x)) (deps (txP ls))=0; rw[ih]; rfl
theorem eqT_lst(neg:Bool)(ls ms:List Tx):Pu.eqT neg (.lst (txP ls)) (.lst (txP ms))=some (.bl (neg ^^ decide (ls=ms))):=by
 show(if dep (.lst (txP ls))≤8 then(eqPs (txP ls) (txP ms)).map (fun k=>PV.bl (neg ^^ k))else none)=_
 rw[if_pos (by show deps (txP ls)+1≤8; rw[dep_txs]; decide),eq_txs]; rfl
theorem are_eq(ls:List Tx)(w:Int)(s:Tx)(h1:1≤ls.length)(h9:ls.length≤9) :
  g_are_windows a [.val (.tup (txP ls)),.val (.int w),.val (.str s)] = .ok (.val (.bl (ls.all (isW w s) && decide (ls=sortT ls)))) [.val (.tup (txP ls)),.val (.int w),.val (.str s)]:=by
 have k1:isiP [.tup (txP ls),.raw (.ty "tuple")]=some (.bl true):=kit_tt rfl k_tup_tup
 have hl:lenP [.tup (txP ls)]=some (.int (ls.length:Nat)):=by simp[lenP,txP_len]
 have c1:(1:Int)≤(ls.length:Nat):=by ac_rfl
 have c2:((ls.length:Nat):Int)≤9:=by ac_rfl
 have hc:=compD_pure (cap:=[1,2]) (dt:=dYes) (de:=(dRE (dCall (g_is_window a) (gV (dV 0) (gV (dV 1) (gV (dV 2) (Pu.gNil))))))) (ε:=[.val (.tup (txP ls)),.val (.int w),.val (.str s)]) (fun _=>true) (fun x=>match x with | .str z=>.bl (isW w s z) | _=>.non) (txP ls)
  (by
   intro x hx
   obtain⟨z,_,rfl⟩:=List.mem_map.mp hx
   refine⟨by simp![dBlk,capA,noE,dYes],fun _=>?_⟩
   have hw:=win_eq (a:=a) z s w
   simp![dBlk,capA,noE,hw]) []
 have he:((txP ls).filter (fun _=>true)).map (fun x=>match x with | .str z=>PV.bl (isW w s z) | _=>.non)=(ls.map (isW w s)).map .bl:=by
  rw[List.filter_eq_self.mpr (by simp)]
  unfold txP
  rw[List.map_map,List.map_map]; rfl
 rw[List.nil_append,he]at hc
 have hal:(ls.map (isW w s)).all id=ls.all (isW w s):=by rw[List.all_map]; rfl
 generalize ls.map (isW w s)=bs at hc hal
 have ha:=all_bools bs
 have h64:ls.length≤1000000:=by ac_rfl
 have heq:=eqT_lst false ls (sortT ls)
 cases hb:ls.all (isW w s)with
 | false =>
  rw[hal,hb]at ha
  simp![g_are_windows,d_are_windows,k1,hl,c1,c2,dComp,dItems,itemsP,hc,ha]
 | true =>
  rw[hal,hb]at ha
  simp only[Bool.false_xor]at heq
  simp![g_are_windows,d_are_windows,k1,hl,c1,c2,dComp,dItems,itemsP,hc,ha,listP,sortP2,txs_strs,h64,heq]
theorem are_many(ls:List Tx)(w:Int)(s:Tx)(h9:ls.length=0∨9<ls.length):g_are_windows a [.val (.tup (txP ls)),.val (.int w),.val (.str s)] = .ok (.val (.bl false)) [.val (.tup (txP ls)),.val (.int w),.val (.str s)]:=by
 have k1:isiP [.tup (txP ls),.raw (.ty "tuple")]=some (.bl true):=kit_tt rfl k_tup_tup
 have hl:lenP [.tup (txP ls)]=some (.int (ls.length:Nat)):=by simp[lenP,txP_len]
 by_cases c1:(1:Int)≤(ls.length:Nat)
 ·have c2:¬ ((ls.length:Nat):Int)≤9:=by ac_rfl
  simp![g_are_windows,d_are_windows,k1,hl,c1,c2]
 ·simp![g_are_windows,d_are_windows,k1,hl,c1]
theorem whole_int(i:Int):g_is_whole_number a [.val (.int i)] = .ok (.val (.bl true)) [.val (.int i)]:=by
 have h1:isiP [.int i,.raw (.ty "int")]=some (.bl true):=kit_tt rfl k_int_int
 have h2:isiP [.int i,.raw (.ty "bool")]=some (.bl false):=kit_tt rfl k_int_bool
 simp![g_is_whole_number,d_is_whole_number,h1,h2]
theorem whole_bl(b:Bool):g_is_whole_number a [.val (.bl b)] = .ok (.val (.bl false)) [.val (.bl b)]:=by
 have h1:isiP [.bl b,.raw (.ty "int")]=some (.bl true):=kit_tt rfl k_bool_int
 have h2:isiP [.bl b,.raw (.ty "bool")]=some (.bl true):=kit_tt rfl k_bool_bool
 simp![g_is_whole_number,d_is_whole_number,h1,h2]
theorem whole_str(x:Tx):g_is_whole_number a [.val (.str x)] = .ok (.val (.bl false)) [.val (.str x)]:=by
 have h1:isiP [.str x,.raw (.ty "int")]=some (.bl false):=kit_tt rfl k_str_int
 simp![g_is_whole_number,d_is_whole_number,h1]
theorem width_int(i:Int):g_is_width a [.val (.int i)] = .ok (.val (.bl (decide (1≤i∧i≤4)))) [.val (.int i)]:=by
 have h:=whole_int (a:=a) i
 by_cases c1:1≤i
 ·by_cases c2:i≤4
  ·simp![g_is_width,d_is_width,h,c1,c2]
  ·simp![g_is_width,d_is_width,h,c1,c2]
 ·simp![g_is_width,d_is_width,h,c1]
theorem width_no{x:PV}(h:g_is_whole_number a [.val x] = .ok (.val (.bl false)) [.val x]):g_is_width a [.val x] = .ok (.val (.bl false)) [.val x]:=by
 simp![g_is_width,d_is_width,h]
def vwS(s:Tx)(w:Int)(ls:List Tx):Bool:=decide (1≤w∧w≤4) && (decide (1≤ls.length∧ls.length≤9) && (ls.all (isW w s) && decide (ls=sortT ls)))
theorem view_with(s:Tx)(w:Int)(ls:List Tx):g_is_view_with a [.val (.tup [.int w,.tup (txP ls)]),.val (.str s)] = .ok (.val (.bl (vwS s w ls))) [.val (.tup [.int w,.tup (txP ls)]),.val (.str s)]:=by
 have k1:isiP [.tup [.int w,.tup (txP ls)],.raw (.ty "tuple")]=some (.bl true):=kit_tt rfl k_tup_tup
 have hl:lenP [.tup [.int w,.tup (txP ls)]]=some (.int 2):=rfl
 have e2:=eqI true 2 2
 simp only[decide_true,Bool.true_xor,Bool.not_true]at e2
 have i0:ixP (.tup [.int w,.tup (txP ls)]) (.int 0)=some (.int w):=rfl
 have i1:ixP (.tup [.int w,.tup (txP ls)]) (.int 1)=some (.tup (txP ls)):=rfl
 have hw:=width_int (a:=a) w
 unfold vwS
 by_cases c:1≤w∧w≤4
 ·rw[decide_eq_true c]at hw ⊢
  by_cases c2:1≤ls.length∧ls.length≤9
  ·have hh:=are_eq (a:=a) ls w s c2.1 c2.2
   rw[decide_eq_true c2]
   simp![g_is_view_with,d_is_view_with,k1,hl,e2,i0,i1,hw,hh]
  ·have hh:=are_many (a:=a) ls w s (by ac_rfl)
   rw[decide_eq_false c2]
   simp![g_is_view_with,d_is_view_with,k1,hl,e2,i0,i1,hw,hh]
 ·rw[decide_eq_false c]at hw ⊢
  simp![g_is_view_with,d_is_view_with,k1,hl,e2,i0,i1,hw]
noncomputable abbrev vw(w:Int)(ls:List Tx):Bool:=vwS abcs w ls
theorem isv_eq(w:Int)(ls:List Tx):g_is_view a [.val (.tup [.int w,.tup (txP ls)])] = .ok (.val (.bl (vw w ls))) [.val (.tup [.int w,.tup (txP ls)])]:=by
 have hv:=view_with (a:=a) abcs w ls
 simp only[abcs]at hv
 simp![g_is_view,d_is_view,hv]
 rfl
theorem check_yes{w:Int}{ls:List Tx}(h:vw w ls=true):g_check_view a [.val (.tup [.int w,.tup (txP ls)])] = .ok (.val .non) [.val (.tup [.int w,.tup (txP ls)])]:=by
 have hv:=isv_eq (a:=a) w ls
 rw[h]at hv
 simp![g_check_view,d_check_view,hv]
theorem Good.vw{w:Nat}{ls:List Tx}(g:Good abcs w ls)(w1:1≤w)(w4:w≤4)(hs:ls.Pairwise (fun a b=>leT a b=true)):vw w ls=true:=by
 have e1:ls.all (isW w abcs)=true:=by
  rw[List.all_eq_true]
  intro x hx
  unfold isW
  rw[g.len x hx,decide_eq_true rfl,Bool.true_and,List.all_eq_true]
  intro c hc
  simpa using g.abc x hx c hc
 have e2:decide (ls=sortT ls)=true:=decide_eq_true (sortT_of_rises hs).symm
 show vwS abcs w ls=true
 unfold vwS
 rw[e1,e2,decide_eq_true (show 1≤(w:Int)∧(w:Int)≤4 by ac_rfl),decide_eq_true (show 1≤ls.length∧ls.length≤9 from⟨g.some,g.few⟩)]
 rfl
theorem isv_no{x:PV}(h:g_is_view_with a [.val x,.val (.str abcs)] = .ok (.val (.bl false)) [.val x,.val (.str abcs)]):g_is_view a [.val x] = .ok (.val (.bl false)) [.val x]:=by
 simp only[abcs]at h
 simp![g_is_view,d_is_view,h]
theorem check_no{x:PV}(h:g_is_view a [.val x] = .ok (.val (.bl false)) [.val x]):g_check_view a [.val x] = .er (.ref a.NoView) [.val x]:=by
 simp![g_check_view,d_check_view,h,dRaise,noE]
theorem with_no(s:Tx){x:PV}{t:String}(h:kindP x=some t)(e:PySem.W.kitOne [] (.type t) (.type "tuple")=some false):g_is_view_with a [.val x,.val (.str s)] = .ok (.val (.bl false)) [.val x,.val (.str s)]:=by
 have k1:=kit_tt (T:="tuple") h e
 simp![g_is_view_with,d_is_view_with,k1]
theorem with_len(s:Tx){xs:List PV}(h:xs.length≠2):g_is_view_with a [.val (.tup xs),.val (.str s)] = .ok (.val (.bl false)) [.val (.tup xs),.val (.str s)]:=by
 have k1:isiP [.tup xs,.raw (.ty "tuple")]=some (.bl true):=kit_tt rfl k_tup_tup
 have hl:lenP [.tup xs]=some (.int (xs.length:Nat)):=rfl
 have ee:=eqI true (xs.length:Nat) 2
 have:¬ ((xs.length:Nat):Int)=2:=by ac_rfl
 simp only[this,decide_false,Bool.true_xor,Bool.not_false]at ee
 simp![g_is_view_with,d_is_view_with,k1,hl,ee]
theorem with_width(s:Tx){x y:PV}(h:g_is_width a [.val x] = .ok (.val (.bl false)) [.val x]):g_is_view_with a [.val (.tup [x,y]),.val (.str s)] = .ok (.val (.bl false)) [.val (.tup [x,y]),.val (.str s)]:=by
 have k1:isiP [.tup [x,y],.raw (.ty "tuple")]=some (.bl true):=kit_tt rfl k_tup_tup
 have hl:lenP [.tup [x,y]]=some (.int 2):=rfl
 have e2:=eqI true 2 2
 simp only[decide_true,Bool.true_xor,Bool.not_true]at e2
 have i0:ixP (.tup [x,y]) (.int 0)=some x:=rfl
 simp![g_is_view_with,d_is_view_with,k1,hl,e2,i0,h]
theorem with_win(s:Tx){w:Int}{y:PV}(hw:1≤w∧w≤4)(h:g_are_windows a [.val y,.val (.int w),.val (.str s)] = .ok (.val (.bl false)) [.val y,.val (.int w),.val (.str s)]):g_is_view_with a [.val (.tup [.int w,y]),.val (.str s)] = .ok (.val (.bl false)) [.val (.tup [.int w,y]),.val (.str s)]:=by
 have k1:isiP [.tup [.int w,y],.raw (.ty "tuple")]=some (.bl true):=kit_tt rfl k_tup_tup
 have hl:lenP [.tup [.int w,y]]=some (.int 2):=rfl
 have e2:=eqI true 2 2
 simp only[decide_true,Bool.true_xor,Bool.not_true]at e2
 have i0:ixP (.tup [.int w,y]) (.int 0)=some (.int w):=rfl
 have i1:ixP (.tup [.int w,y]) (.int 1)=some y:=rfl
 have hwi:=width_int (a:=a) w
 rw[decide_eq_true hw]at hwi
 simp![g_is_view_with,d_is_view_with,k1,hl,e2,i0,i1,hwi,h]
theorem are_lst(s:Tx)(xs:List PV)(w:Int):g_are_windows a [.val (.lst xs),.val (.int w),.val (.str s)] = .ok (.val (.bl false)) [.val (.lst xs),.val (.int w),.val (.str s)]:=by
 have k1:isiP [.lst xs,.raw (.ty "tuple")]=some (.bl false):=kit_tt rfl k_lst_tup
 simp![g_are_windows,d_are_windows,k1]
theorem are_int(s:Tx)(i w:Int):g_are_windows a [.val (.tup [.int i]),.val (.int w),.val (.str s)] = .ok (.val (.bl false)) [.val (.tup [.int i]),.val (.int w),.val (.str s)]:=by
 have k1:isiP [.tup [.int i],.raw (.ty "tuple")]=some (.bl true):=kit_tt rfl k_tup_tup
 have hl:lenP [.tup [.int i]]=some (.int 1):=rfl
 have hw:=win_int (a:=a) i w s
 have hal:allP [.lst [.bl false]]=some (.bl false):=rfl
 simp![g_are_windows,d_are_windows,k1,hl,dComp,dItems,itemsP,compD,dBlk,capA,noE,dYes,hw,hal]
theorem tw_no(s:Tx){w:Int}{ls:List Tx}(h:vwS s w ls=false):g_is_view_with a [.val (.tup [.int w,.tup (txP ls)]),.val (.str s)] = .ok (.val (.bl false)) [.val (.tup [.int w,.tup (txP ls)]),.val (.str s)]:=by
 have:=view_with (a:=a) s w ls
 rwa[h]at this
def oddL:List PV:=[.non,.int 5,.str [50,58,32,97,98],.lst [.int 1,.tup [.str [97]]],.tup [.int 1,.tup []],.tup [.int 2,.tup [.str [97]]],.tup [.int 0,.tup [.str []]],.tup [.int 5,.tup [.str [97,97,97,97,97]]],.tup [.bl true,.tup [.str [97]]],
 .tup [.int 1,.tup [.str [98],.str [97]]],.tup [.int 1,.tup (List.replicate 10 (.str [97]))],.tup [.int 1,.tup [.str [100]]],.tup [.int 1,.tup [.str [65]]],.tup [.int 1,.lst [.str [97]]],.tup [.int 1,.tup [.int 1]],.tup [.int 1],.tup [.int 1,.tup [.str [97]],.int 1],.tup [.str [49],.tup [.str [97]]]]
theorem odd_with(s:Tx)(h1:¬ 100∈s)(h2:¬ 65∈s):∀ x∈oddL,g_is_view_with a [.val x,.val (.str s)] = .ok (.val (.bl false)) [.val x,.val (.str s)]:=by
 intro x hx
 simp only[oddL,List.mem_cons,List.not_mem_nil,or_false]at hx
 rcases hx with rfl | rfl | rfl | rfl | rfl | rfl | rfl | rfl | rfl | rfl | rfl | rfl | rfl | rfl | rfl | rfl | rfl | rfl
 ·exact with_no s rfl k_non_tup
 ·exact with_no s rfl k_int_tup
 ·exact with_no s rfl k_str_tup
 ·exact with_no s rfl k_lst_tup
 ·exact tw_no s (w:=1) (ls:=[]) (by simp[vwS])
 ·exact tw_no s (w:=2) (ls:=[[97]]) (by simp[vwS,isW])
 ·exact tw_no s (w:=0) (ls:=[[]]) (by simp[vwS])
 ·exact tw_no s (w:=5) (ls:=[[97,97,97,97,97]]) (by simp[vwS])
 ·exact with_width s (width_no (whole_bl true))
 ·refine tw_no s (w:=1) (ls:=[[98],[97]]) ?_
  have:¬ [[98],[97]]=sortT [[98],[97]]:=fun h=>by
   have r:=sortT_rises [[98],[97]]
   rw[← h]at r
   simp[leT]at r
   exact absurd r (by decide)
  simp[vwS,this]
 ·exact tw_no s (w:=1) (ls:=List.replicate 10 [97]) (by simp[vwS])
 ·exact tw_no s (w:=1) (ls:=[[100]]) (by simp[vwS,isW,h1,h2])
 ·exact tw_no s (w:=1) (ls:=[[65]]) (by simp[vwS,isW,h1,h2])
 ·exact with_win s (by decide) (are_lst s _ _)
 ·exact with_win s (by decide) (are_int s _ _)
 ·exact with_len s (by decide)
 ·exact with_len s (by decide)
 ·exact with_width s (width_no (whole_str _))
theorem odd_no:∀ x∈oddL,g_is_view a [.val x] = .ok (.val (.bl false)) [.val x]:=fun x hx=>isv_no (odd_with abcs (by decide) (by decide) x hx)
theorem odd_eq(ns:List Int)(xs:List PV)(hx:xs.length≤900):∃ x∈oddL,∃ ys,ys.length≤xs.length+1∧g_law_odd a [scr ns,.own (.lst xs)] = .ok (.val x) [scr ns,.own (.lst ys)]:=by
 obtain⟨x,hm,hp⟩:=pick_eq (a:=a) ns xs oddL (by ac_rfl) (by decide)
 refine⟨x,hm,xs++[.int 0],by simp,?_⟩
 have hr:mulPT (.tup [.str [97]]) (.int 10)=some (.tup (List.replicate 10 (.str [97]))):=by
  show(if([PV.str [97]]≠[]∧(2:Int)≤10∧(10:Int)≤1000∧[PV.str [97]].length≤1000)then some (PV.tup (List.replicate (10:Int).toNat [PV.str [97]]).flatten)else none)=_
  rw[if_pos ⟨by simp,by decide,by decide,by decide⟩]; rfl
 simp only[oddL]at hp
 simp[g_law_odd,d_law_odd,dSeq,dIf,dB,d2,d1,dV,dC,dL,dF,dCons,dNil,dRet,dRetR,dSet,dOwn,dCall,gV,gO,Pu.gNil,putR,keptO,owns,argS,putS,R.bind,lift,grd,ownsIn,fnD,back,flatO,isB,isI,frzO,frzS,newS,dRE,dRN,lstP,tupP,dNext,dStop,dDropR,dDrop,dNot,dNotV,dAnd,dOr,dAndV,dOrV,dChain,cmpI,ownL,dApp,dOwn1,immN,List.replicate,List.length,addP,maxS,hr]
 simp at hp
 simp[dSeq,dIf,dB,d2,d1,dV,dC,dL,dF,dCons,dNil,dRet,dRetR,dSet,dOwn,dCall,gV,gO,Pu.gNil,putR,keptO,owns,argS,putS,R.bind,lift,grd,ownsIn,fnD,back,flatO,isB,isI,frzO,frzS,newS,dRE,dRN,lstP,tupP,dNext,dStop,dDropR,dDrop,dNot,dNotV,dAnd,dOr,dAndV,dOrV,dChain,cmpI,ownL,dApp,dOwn1,immN,List.replicate,List.length,hp]
end
end Sh
namespace Sh
open PySem L2 Pu Mx
def getM(m:List (Tx×Int))(x:Tx):Option Int:=(m.find? fun p=>decide (p.1=x)).map (·.2)
def putM(m:List (Tx×Int))(x:Tx)(n:Int):List (Tx×Int):=if(m.any fun p=>decide (p.1=x))=true then m.map (fun p=>if p.1=x then(p.1,n)else p)else m++[(x,n)]
def dk(m:List (Tx×Int)):List (Key×PV):=m.map fun p=>(Sum.inr (tS p.1),PV.int p.2)
theorem key_inj(x y:Tx):((Sum.inr (tS x):Key)=Sum.inr (tS y))=(x=y):=propext ⟨fun h=>tS_inj (Sum.inr.inj h),fun h=>by rw[h]⟩
theorem val_dk(m:List (Tx×Int))(x:Tx):valP (dk m) (Sum.inr (tS x))=(getM m x).map .int:=by
 induction m with
 | nil=>rfl
 | cons p m ih =>
  show((List.find? _ ((Sum.inr (tS p.1),PV.int p.2)::dk m)).map (·.2))=_
  unfold getM
  rw[List.find?_cons,List.find?_cons]
  simp only[key_inj]
  by_cases h:p.1=x
  ·simp[h]
  ·simp only[h,decide_false]; exact ih
theorem any_dk(m:List (Tx×Int))(x:Tx):((dk m).any fun kv=>decide (kv.1=(Sum.inr (tS x):Key)))=m.any fun p=>decide (p.1=x):=by
 unfold dk
 rw[List.any_map]
 congr 1
 funext p
 simp only[Function.comp,key_inj]
theorem put_dk(m:List (Tx×Int))(x:Tx)(n:Int):putP (dk m) (Sum.inr (tS x)) (.int n)=dk (putM m x n):=by
 unfold putP putM
 rw[any_dk]
 split
 ·unfold dk
  rw[List.map_map,List.map_map]
  refine List.map_congr_left fun p _=>?_
  simp only[Function.comp,key_inj]
  split <;> rfl
 ·unfold dk; simp
theorem anyP_dk(m:List (Tx×Int)):anyP (dk m)=some (m.any fun p=>decide (p.2≠0)):=by
 induction m with
 | nil=>rfl
 | cons p m ih =>
  show(anyP (dk m)).map _=_
  rw[ih]; simp
theorem getM_none{m:List (Tx×Int)}{x:Tx}(h:(m.any fun p=>decide (p.1=x))=false):getM m x=none:=by
 unfold getM
 rw[Option.map_eq_none_iff,List.find?_eq_none]
 intro p hp
 have:=List.any_eq_false.mp h p hp
 simpa using this
theorem getM_app{m:List (Tx×Int)}{x y:Tx}{n:Int}(h:(m.any fun p=>decide (p.1=x))=false):getM (m++[(x,n)]) y=if y=x then some n else getM m y:=by
 have hn:=getM_none h
 unfold getM at hn ⊢
 rw[List.find?_append]
 by_cases e:y=x
 ·subst e
  rw[Option.map_eq_none_iff]at hn
  simp[hn]
 ·rw[if_neg e]
  have:¬ x=y:=fun z=>e z.symm
  cases hf:m.find? (fun p=>decide (p.1=y))with
  | none=>simp[this]
  | some p=>simp
theorem getM_map{m:List (Tx×Int)}{x y:Tx}{n:Int}:getM (m.map fun p=>if p.1=x then(p.1,n)else p) y=(getM m y).map fun z=>if y=x then n else z:=by
 induction m with
 | nil=>rfl
 | cons p m ih =>
  unfold getM at ih ⊢
  rw[List.map_cons,List.find?_cons,List.find?_cons]
  by_cases h:p.1=x
  ·rw[if_pos h]
   by_cases e:p.1=y
   ·simp[e,show y=x from e.symm.trans h]
   ·simp only[e,decide_false]; exact ih
  ·rw[if_neg h]
   by_cases e:p.1=y
   ·simp[e,show ¬ y=x from fun z=>h (e.trans z)]
   ·simp only[e,decide_false]; exact ih
theorem getM_some{m:List (Tx×Int)}{x:Tx}(h:(m.any fun p=>decide (p.1=x))=true):∃ n,getM m x=some n:=by
 unfold getM
 cases hf:m.find? (fun p=>decide (p.1=x))with
 | none =>
  rw[List.find?_eq_none]at hf
  obtain⟨p,hp,hq⟩:=List.any_eq_true.mp h
  exact absurd hq (hf p hp)
 | some p=>exact⟨_,rfl⟩
theorem getM_put(m:List (Tx×Int))(x y:Tx)(n:Int):getM (putM m x n) y=if y=x then some n else getM m y:=by
 unfold putM
 by_cases h:(m.any fun p=>decide (p.1=x))=true
 ·rw[if_pos h,getM_map]
  by_cases e:y=x
  ·subst e
   obtain⟨k,hk⟩:=getM_some h
   rw[hk]; simp
  ·simp[e]
 ·rw[if_neg h,getM_app (Bool.eq_false_iff.mpr h)]
structure MOf(m:List (Tx×Int))(q:List Tx):Prop where
 nd:(m.map (·.1)).Nodup
 get:∀ x,(getM m x).getD 0=(q.count x:Nat)
theorem MOf.mem{m:List (Tx×Int)}{q:List Tx}(h:MOf m q){p:Tx×Int}(hp:p∈m):getM m p.1=some p.2:=by
 have nd:=h.nd
 clear h
 induction m with
 | nil=>cases hp
 | cons r m ih =>
  unfold getM
  rw[List.find?_cons]
  rcases List.mem_cons.mp hp with rfl | hp
  ·simp
  ·rw[List.map_cons,List.nodup_cons]at nd
   have:¬ r.1=p.1:=fun z=>nd.1 (List.mem_map.mpr ⟨p,hp,z.symm⟩)
   simp only[this,decide_false]
   exact ih hp nd.2
theorem putM_keys{m:List (Tx×Int)}{x:Tx}{n:Int}:(putM m x n).map (·.1)=if(m.any fun p=>decide (p.1=x))=true then m.map (·.1)else m.map (·.1)++[x]:=by
 unfold putM
 split
 ·rw[List.map_map]
  refine List.map_congr_left fun p _=>?_
  simp only[Function.comp]
  split <;> rfl
 ·simp
theorem putM_nodup{m:List (Tx×Int)}{x:Tx}{n:Int}(h:(m.map (·.1)).Nodup):((putM m x n).map (·.1)).Nodup:=by
 rw[putM_keys]
 split
 ·exact h
 ·rename_i hn
  rw[List.nodup_append]
  refine⟨h,by simp,fun a ha b hb=>?_⟩
  rw[List.mem_singleton]at hb
  subst hb
  rintro rfl
  obtain⟨p,hp,rfl⟩:=List.mem_map.mp ha
  exact hn (List.any_eq_true.mpr ⟨p,hp,by simp⟩)
theorem MOf.any{m:List (Tx×Int)}{q:List Tx}(h:MOf m q):(m.any fun p=>decide (p.2≠0)) = !q.isEmpty:=by
 cases q with
 | nil =>
  rw[List.isEmpty_nil,Bool.not_true,List.any_eq_false]
  intro p hp
  have h1:=h.get p.1
  rw[h.mem hp]at h1
  simpa using h1
 | cons x q =>
  rw[List.isEmpty_cons,Bool.not_false,List.any_eq_true]
  have h1:=h.get x
  rw[List.count_cons_self]at h1
  cases e:m.find? (fun p=>decide (p.1=x))with
  | none=>unfold getM at h1; rw[e]at h1; simp at h1; ac_rfl
  | some p =>
   unfold getM at h1
   rw[e]at h1
   refine⟨p,List.mem_of_find?_eq_some e,?_⟩
   simp at h1
   simp; ac_rfl
theorem MOf.dec{m:List (Tx×Int)}{q:List Tx}(h:MOf m q){x:Tx}(hx:x∈q):∃ n,getM m x=some n∧0<n∧MOf (putM m x (n-1)) (q.erase x)∧getM (putM m x (n-1)) x=some (n-1)∧putM (putM m x (n-1)) x (n-1+1)=m:=by
 have h1:=h.get x
 have hc:0<q.count x:=List.count_pos_iff.mpr hx
 cases e:getM m x with
 | none=>rw[e]at h1; simp at h1; ac_rfl
 | some n =>
  rw[e]at h1
  simp only[Option.getD_some]at h1
  refine⟨n,rfl,by ac_rfl,⟨putM_nodup h.nd,fun y=>?_⟩,by rw[getM_put,if_pos rfl],?_⟩
  ·rw[getM_put]
   by_cases c:y=x
   ·subst c
    rw[if_pos rfl,List.count_erase_self]
    simp only[Option.getD_some]; ac_rfl
   ·rw[if_neg c,List.count_erase_of_ne (Ne.symm (Ne.symm c))]; exact h.get y
  ·have ha:(m.any fun p=>decide (p.1=x))=true:=by
    cases z:(m.any fun p=>decide (p.1=x))with
    | true=>rfl
    | false=>rw[getM_none z]at e; cases e
   have hb:((putM m x (n-1)).any fun p=>decide (p.1=x))=true:=by
    unfold putM
    rw[if_pos ha]
    obtain⟨p,hp,hq⟩:=List.any_eq_true.mp ha
    refine List.any_eq_true.mpr ⟨_,List.mem_map.mpr ⟨p,hp,rfl⟩,?_⟩
    rw[decide_eq_true_eq]at hq
    rw[if_pos hq]; simpa using hq
   have e1:putM (putM m x (n-1)) x (n-1+1)=(m.map fun p=>if p.1=x then(p.1,n-1)else p).map fun p=>if p.1=x then(p.1,n-1+1)else p:=by
    show(if((putM m x (n-1)).any fun p=>decide (p.1=x))=true then _ else _)=_
    rw[if_pos hb]
    unfold putM
    rw[if_pos ha]
   rw[e1,List.map_map]
   have:∀ p∈m,((fun p:Tx×Int=>if p.1=x then(p.1,n-1+1)else p) ∘ fun p:Tx×Int=>if p.1=x then(p.1,n-1)else p) p=p:=by
    intro p hp
    simp only[Function.comp]
    by_cases c:p.1=x
    ·rw[if_pos c,if_pos c]
     have h2:=h.mem hp
     rw[c,e]at h2
     cases h2
     rw[show p.2-1+1=p.2 by ac_rfl]
    ·rw[if_neg c,if_neg c]
   rw[List.map_congr_left this,List.map_id'']
   intro p; rfl
theorem MOf.zero{m:List (Tx×Int)}{q:List Tx}(h:MOf m q){x:Tx}(hx:x∉q):(getM m x).getD 0=0:=by
 rw[h.get,List.count_eq_zero_of_not_mem hx]; rfl
section
variable{a:Ad}
theorem counted_eq(ls:List Tx)(hl:ls.length≤100):∃ m,MOf m ls∧m.length≤ls.length∧g_counted a [.val (.tup (txP ls))] = .ok (.own (.dK (dk m))) [.val (.tup (txP ls))]:=by
 obtain⟨ε',e1,m,s2,l,rfl,hm,hml,hl2⟩:=loop_list (i:=2) (db:=(dDPut 1 (dV 2) (d2 addP (dDGet2 1 (dV 2) (dC (.int 0))) (dC (.int 1)))))
  (I:=fun r ε=>∃ (m:List (Tx×Int)) (s2:Slot) (l:List Tx),ε=[.val (.tup (txP ls)),.own (.dK (dk m)),s2]∧MOf m l∧m.length≤l.length∧∃ q,ls=l++q∧r=txP q)
  (by
   rintro x r ε ⟨m,s2,l,rfl,hm,hml,q,hq,hr⟩
   cases q with
   | nil=>cases hr
   | cons y q =>
    have hr':x::r = .str y::txP q:=hr
    simp only[List.cons.injEq]at hr'
    obtain⟨rfl,rfl⟩:=hr'
    have hlen:m.length<maxS:=by
     have:=congrArg List.length hq
     simp at this
     unfold maxS; ac_rfl
    refine⟨[.val (.tup (txP ls)),.own (.dK (dk (putM m y ((getM m y).getD 0+1)))),.val (.str y)],?_,putM m y ((getM m y).getD 0+1),_,l++[y],rfl,⟨putM_nodup hm.nd,fun z=>?_⟩,?_,q,by rw[hq]; simp,rfl⟩
    ·have hv:=val_dk m y
     have hp:=put_dk m y ((getM m y).getD 0+1)
     have hd:(dk m).length<maxS:=by unfold dk; rw[List.length_map]; exact hlen
     have hg:((getM m y).map PV.int).getD (.int 0) = .int ((getM m y).getD 0):=by cases getM m y <;> rfl
     generalize dk m=D at hv hp hd
     simp![dDPut,dDGet2,ownD,keyP,hv,hg,addP,hd,hp]
    ·rw[getM_put]
     by_cases c:z=y
     ·subst c
      rw[if_pos rfl,List.count_append,List.count_singleton_self]
      have:=hm.get z
      simp only[Option.getD_some]; ac_rfl
     ·rw[if_neg c,List.count_append,hm.get z]
      have:[y].count z=0:=List.count_eq_zero_of_not_mem (by simpa using c)
      rw[this]; rfl
    ·have:(putM m y ((getM m y).getD 0+1)).length≤m.length+1:=by
      unfold putM; split <;> simp
     rw[List.length_append,List.length_singleton]; ac_rfl)
  (txP ls) [.val (.tup (txP ls)),.own (.dK (dk [])),.none] ⟨[],.none,[],rfl,⟨by simp,fun x=>by simp[getM]⟩,by simp,ls,by simp,rfl⟩
 obtain⟨q,hq,hq2⟩:=hl2
 have:q=[]:=by cases q with | nil=>rfl | cons=>cases hq2
 subst this
 rw[List.append_nil]at hq
 subst hq
 refine⟨m,hm,hml,?_⟩
 have e0:dk []=[]:=rfl
 rw[e0]at e1
 simp![g_counted,d_counted,dDNew,dFor,dItems,itemsP,noEr,e1,dRetM]
end
end Sh
namespace Sh
open PySem L2 Pu Mx
section
variable{a:Ad}
theorem cut_head{t:Tx}{w:Nat}(hw:w≤t.length+1)(h1:1≤w):slP (.str t) (some ((t.length:Int)-w+1)) none=some (.str (t.drop (t.length+1-w))):=by
 show some (PV.str (cutL t _ none))=_
 rw[show((t.length:Int)-w+1)=((t.length+1-w:Nat):Int) by ac_rfl,cut_from]
def chP(c:Nat):PV:=.str [c]
theorem add_eq(w:Nat)(w1:1≤w):∀ (r fuel:Nat) (t:Tx) (m:List (Tx×Int)) (q:List Tx) (found:List Tx),r<fuel→q.length=r→MOf m q→w≤t.length+1→t.length+r≤1000→m.length≤1000→found.length+(ends w r t q).length≤maxS →
  g_add_endings a fuel [.val (.str t),.val (.int w),.own (.dK (dk m)),.own (.lst (txP found))] = .ok (.val .non) [.val (.str t),.val (.int w),.own (.dK (dk m)),.own (.lst (txP (found++ends w r t q)))]
 | 0,0,_,_,_,_,h,_,_,_,_,_,_=>absurd h (by ac_rfl)
 | r+1,0,_,_,_,_,h,_,_,_,_,_,_=>absurd h (by ac_rfl)
 | 0,fuel+1,t,m,q,found,_,hq,hm,hw,ht,hml,hs=>by
  have hq0:q=[]:=List.length_eq_zero_iff.mp hq
  subst hq0
  have ha:=anyP_dk m
  rw[hm.any]at ha
  simp only[List.isEmpty_nil,Bool.not_true]at ha
  have hl:(txP found).length<maxS:=by
   rw[txP_len]
   simp only[ends,List.length_singleton]at hs; ac_rfl
  have e:txP (found++ends w 0 t [])=txP found++[.str t]:=by simp[txP,ends]
  rw[e]
  generalize dk m=D at ha
  generalize txP found=L at hl
  simp![g_add_endings,d_add_endings,dAnyV,ownD,ha,hl]
 | r+1,fuel+1,t,m,q,found,hf,hq,hm,hw,ht,hml,hs=>by
  have hne:q.isEmpty=false:=by cases q with | nil=>cases hq | cons=>rfl
  have ha:=anyP_dk m
  rw[hm.any,hne]at ha
  simp only[Bool.not_false]at ha
  have hcut:=cut_head (t:=t) hw w1
  have hlt:lenP [.str t]=some (.int (t.length:Nat)):=rfl
  have hsub:subP (.int (t.length:Nat)) (.int w)=some (.int ((t.length:Int)-w)):=rfl
  have hadd:addP (.int ((t.length:Int)-w)) (.int 1)=some (.int ((t.length:Int)-w+1)):=rfl
  let H:=t.drop (t.length+1-w)
  let f:=fun c=>if H++[c]∈q then ends w r (t++[c]) (q.erase (H++[c]))else []
  have hE:ends w (r+1) t q=abcs.flatMap f:=rfl
  have hH:H.length≤1000:=by simp only[H,List.length_drop]; ac_rfl
  obtain⟨ε',e1,s5,s6,p,rest,hp,hr0,rfl⟩:=loop_list (i:=5) (db:=(dSeq (dSet 6 (d2 addP (dV 4) (dV 5)))
 (dIf (dB (d2 (cmpI fun i j=>decide (j<i)) (dDGet2 2 (dV 6) (dC (.int 0))) (dC (.int 0)))) (dSeq (dDPut 2 (dV 6) (d2 subP (dDGet 2 (dV 6)) (dC (.int 1))))
 (dSeq (dDropR (dCall (g_add_endings a fuel) (gV (d2 addP (dV 0) (dV 5)) (gV (dV 1) (gO 2 (gO 3 (Pu.gNil)))))))
 (dDPut 2 (dV 6) (d2 addP (dDGet 2 (dV 6)) (dC (.int 1)))))) (dNext))))
   (I:=fun r' ε=>∃ (s5 s6:Slot) (p rest:Tx),abcs=p++rest∧r'=rest.map chP∧ε=[.val (.str t),.val (.int w),.own (.dK (dk m)),.own (.lst (txP (found++p.flatMap f))),.val (.str H),s5,s6])
   (by
    rintro x r' ε ⟨s5,s6,p,rest,hp,hr',rfl⟩
    cases rest with
    | nil=>cases hr'
    | cons c rest =>
     have hr'':x::r'=chP c::rest.map chP:=hr'
     simp only[List.cons.injEq]at hr''
     obtain⟨rfl,rfl⟩:=hr''
     have hx1:addP (.str H) (.str [c])=some (.str (H++[c])):=addP_str (by simp[maxS]; ac_rfl)
     have hx2:addP (.str t) (.str [c])=some (.str (t++[c])):=addP_str (by simp[maxS]; ac_rfl)
     have hbound:found.length+(p.flatMap f).length+(f c).length≤maxS:=by
      rw[hE,hp,List.flatMap_append,List.flatMap_cons,List.length_append,List.length_append]at hs; ac_rfl
     have hfl:txP (found++(p++[c]).flatMap f)=txP ((found++p.flatMap f)++f c):=by simp
     by_cases hc:H++[c]∈q
     ·obtain⟨n,g1,g2,g3,g4,g5⟩:=hm.dec hc
      have hfc:f c=ends w r (t++[c]) (q.erase (H++[c])):=if_pos hc
      have ih:=add_eq w w1 r fuel (t++[c]) (putM m (H++[c]) (n-1)) (q.erase (H++[c])) (found++p.flatMap f) (by ac_rfl) (by rw[List.length_erase_of_mem hc,hq]; rfl) g3 (by simp; ac_rfl) (by simp; ac_rfl)
       (by
        have:(putM m (H++[c]) (n-1)).length=m.length:=by
         have:=congrArg List.length (putM_keys (m:=m) (x:=H++[c]) (n:=n-1))
         have ha:(m.any fun p=>decide (p.1=H++[c]))=true:=by
          cases z:(m.any fun p=>decide (p.1=H++[c]))with
          | true=>rfl
          | false=>rw[getM_none z]at g1; cases g1
         rw[if_pos ha]at this
         simpa using this
        ac_rfl)
       (by rw[← hfc,List.length_append]; exact hbound)
      rw[← hfc]at ih
      have hv1:=val_dk m (H++[c])
      rw[g1]at hv1
      have hp1:=put_dk m (H++[c]) (n-1)
      have hv2:=val_dk (putM m (H++[c]) (n-1)) (H++[c])
      rw[g4]at hv2
      have hp2:=put_dk (putM m (H++[c]) (n-1)) (H++[c]) (n-1+1)
      rw[g5,show n-1+1=n by ac_rfl]at hp2
      have hd1:(dk m).length<maxS:=by unfold dk; rw[List.length_map]; unfold maxS; ac_rfl
      have hd2:(dk (putM m (H++[c]) (n-1))).length<maxS:=by
       unfold dk
       rw[List.length_map]
       have:(putM m (H++[c]) (n-1)).length≤m.length+1:=by unfold putM; split <;> simp
       unfold maxS; ac_rfl
      have gt:(0:Int)<n:=g2
      refine⟨[.val (.str t),.val (.int w),.own (.dK (dk m)),.own (.lst (txP (found++(p++[c]).flatMap f))),.val (.str H),.val (.str [c]),.val (.str (H++[c]))],?_,_,_,p++[c],rest,by rw[hp]; simp,rfl,rfl⟩
      rw[hfl]
      have s1:subP (.int n) (.int 1)=some (.int (n-1)):=rfl
      have s2:addP (.int (n-1)) (.int 1)=some (.int n):=by
       show some (PV.int (n-1+1))=_
       congr 2; ac_rfl
      simp only[Option.map_some]at hv1 hv2
      generalize dk m=D at hv1 hp1 hp2 hd1
      generalize dk (putM m (H++[c]) (n-1))=D2 at hv2 hp1 hp2 ih hd2
      generalize txP (found++p.flatMap f)=L at ih
      generalize txP ((found++p.flatMap f)++f c)=L2 at ih
      clear_value H f
      simp![chP,hx1,dDGet2,dDGet,dDPut,ownD,keyP,hv1,gt,s1,hd1,hp1,hx2,ih,hv2,s2,hd2,hp2]
     ·have hfc:f c=[]:=if_neg hc
      have hz:=hm.zero hc
      have hv1:=val_dk m (H++[c])
      have hg:((getM m (H++[c])).map PV.int).getD (.int 0) = .int 0:=by
       cases e:getM m (H++[c])with
       | none=>rfl
       | some k=>rw[e]at hz; simp at hz; subst hz; rfl
      refine⟨[.val (.str t),.val (.int w),.own (.dK (dk m)),.own (.lst (txP (found++(p++[c]).flatMap f))),.val (.str H),.val (.str [c]),.val (.str (H++[c]))],?_,_,_,p++[c],rest,by rw[hp]; simp,rfl,rfl⟩
      rw[hfl,hfc,List.append_nil]
      generalize dk m=D at hv1
      generalize txP (found++p.flatMap f)=L
      clear_value H f
      simp![chP,hx1,dDGet2,ownD,keyP,hv1,hg])
   (abcs.map chP) [.val (.str t),.val (.int w),.own (.dK (dk m)),.own (.lst (txP (found++([]:Tx).flatMap f))),.val (.str H),.none,.none] ⟨.none,.none,[],abcs,by simp,rfl,rfl⟩
  have hr1:rest=[]:=by cases rest with | nil=>rfl | cons=>cases hr0
  subst hr1
  rw[List.append_nil]at hp
  rw[hE]
  rw[← hp]at e1
  simp only[List.flatMap_nil,List.append_nil]at e1
  have hits:itemsP (.str [97,98,99])=some (abcs.map chP):=rfl
  have hcut':slP (.str t) (some ((t.length:Int)-w+1)) none=some (.str H):=hcut
  generalize dk m=D at ha e1
  generalize txP found=L at e1
  generalize txP (found++abcs.flatMap f)=L2 at e1
  clear_value H f
  simp![g_add_endings,d_add_endings,dAnyV,ownD,ha,dSl,dPart,dNo,hlt,hsub,hadd,hcut',noEr,dFor,dItems,hits,e1]
end
end Sh
namespace Sh
open PySem L2 Pu Mx
section
variable{a:Ad}
noncomputable abbrev vwP(w:Nat)(ls:List Tx):PV:=.tup [.int w,.tup (txP ls)]
theorem cut_last{α:Type}(xs:List α):cutL xs none (some (-1))=xs.dropLast:=by
 unfold cutL
 rw[show HT.sIx xs.length 0 none=0 from rfl,List.drop_zero,Nat.sub_zero,List.dropLast_eq_take]
 congr 1
 show(HT.sIx xs.length xs.length (some (-1)))=_
 show(if(-1:Int)<0 then((-1:Int)+(xs.length:Int)).toNat else min (-1:Int).toNat xs.length)=_
 rw[if_pos (by decide)]
 ac_rfl
theorem texts_len{w:Nat}{ls:List Tx}(g:Good abcs w ls)(w1:1≤w)(w4:w≤4):(textsOf w ls).length≤531441:=by
 rw[texts_all w1 g.some fun x hx=>⟨g.len x hx,g.abc x hx⟩]
 refine Nat.le_trans (List.length_filter_le _ _) ?_
 rw[allT_len]
 exact Nat.le_trans (Nat.pow_le_pow_right (by decide) (show w-1+ls.length≤12 by have:=g.few; ac_rfl)) (by decide)
theorem heads_comp(V:PV)(ls:List Tx)(w:Nat)(s2 s3:Slot):compD [] dYes (dSl slP (dV 0) dNo (dPart (d1 negP (dC (.int 1))))) (txP ls) [] [.val V,.val (.int w),s2,s3] = .ok (txP (ls.map List.dropLast)) [.val V,.val (.int w),s2,s3]:=by
 have hc:=compD_pure (cap:=[]) (dt:=dYes) (de:=(dSl slP (dV 0) dNo (dPart (d1 negP (dC (.int 1)))))) (ε:=[.val V,.val (.int w),s2,s3]) (fun _=>true) (fun x=>match x with | .str z=>.str z.dropLast | _=>.non) (txP ls)
  (by
   intro x hx
   obtain⟨z,_,rfl⟩:=List.mem_map.mp hx
   refine⟨by simp![dBlk,capA,noE,dYes],fun _=>?_⟩
   have hs:slP (.str z) none (some (-1))=some (.str z.dropLast):=by
    show some (PV.str (cutL z none (some (-1))))=_
    rw[cut_last]
   have hn:negP (.int 1)=some (.int (-1)):=rfl
   simp![dBlk,capA,noE,dSl,dNo,dPart,hn,hs]) []
 rw[hc,List.nil_append,List.filter_eq_self.mpr (by simp)]
 unfold txP
 rw[List.map_map,List.map_map]; rfl
theorem texts_eq{w:Nat}{ls:List Tx}(g:Good abcs w ls)(w1:1≤w)(w4:w≤4)(hs:ls.Pairwise (fun a b=>leT a b=true)) :
  g_texts a [.val (vwP w ls)] = .ok (.own (.lst (txP (textsOf w ls)))) [.val (vwP w ls)]:=by
 have hck:=check_yes (a:=a) (g.vw w1 w4 hs)
 have i0:ixP (vwP w ls) (.int 0)=some (.int w):=rfl
 have i1:ixP (vwP w ls) (.int 1)=some (.tup (txP ls)):=rfl
 obtain⟨m,hm,hml0,hcm⟩:=counted_eq (a:=a) ls (by have:=g.few; ac_rfl)
 have hml:m.length≤1000:=by have:=g.few; ac_rfl
 let hd:=sortT (uniqT (ls.map List.dropLast))
 have hdl:∀ h∈hd,h.length=w-1:=fun h hh=>by
  have hm:=(uniqT_mem _ _).mp ((sortT_perm _).mem_iff.mp hh)
  obtain⟨y,hy,rfl⟩:=List.mem_map.mp hm
  rw[List.length_dropLast,g.len y hy]
 let f:=fun h=>ends w ls.length h ls
 have hT:textsOf w ls=hd.flatMap f:=rfl
 have hTl:=texts_len g w1 w4
 obtain⟨ε',e1,s3,p,rest,hp,hr0,rfl⟩:=loop_list (i:=3) (db:=(dDropR (dCallN (g_add_endings a 12) (gNV (dV 3) (gNV (dV 1) (gN (dRN (dCall (g_counted a) (gV (d2 ixP (dV 0) (dC (.int 1))) (Pu.gNil)))) (gO 2 (Pu.gNil))))))))
  (I:=fun r ε=>∃ (s3:Slot) (p rest:List Tx),hd=p++rest∧r=txP rest∧ε=[.val (vwP w ls),.val (.int w),.own (.lst (txP (p.flatMap f))),s3])
  (by
   rintro x r ε ⟨s3,p,rest,hp,hr,rfl⟩
   cases rest with
   | nil=>cases hr
   | cons h rest =>
    have hr':x::r = .str h::txP rest:=hr
    simp only[List.cons.injEq]at hr'
    obtain⟨rfl,rfl⟩:=hr'
    have hh:h.length=w-1:=hdl h (by rw[hp]; simp)
    have ha:=add_eq (a:=a) w w1 ls.length 12 h m ls (p.flatMap f) (by have:=g.few; ac_rfl) rfl hm (by ac_rfl) (by have:=g.few; ac_rfl) hml (by
     rw[hT,hp,List.flatMap_append,List.flatMap_cons,List.length_append,List.length_append]at hTl
     show(p.flatMap f).length+(f h).length≤maxS
     unfold maxS; ac_rfl)
    refine⟨[.val (vwP w ls),.val (.int w),.own (.lst (txP ((p++[h]).flatMap f))),.val (.str h)],?_,_,p++[h],rest,by rw[hp]; simp,rfl,rfl⟩
    have e2:(p++[h]).flatMap f=p.flatMap f++ends w ls.length h ls:=by simp[f]
    rw[e2]
    generalize txP (p.flatMap f)=L at ha
    generalize txP (p.flatMap f++ends w ls.length h ls)=L2 at ha
    generalize dk m=D at ha hcm
    simp only[vwP]at i1 ⊢
    generalize txP ls=T at hcm i1
    clear_value f hd
    simp![dCallN,gNV,gN,popR,i1,hcm,ha])
  (txP hd) [.val (vwP w ls),.val (.int w),.own (.lst (txP (([]:List Tx).flatMap f))),.none] ⟨.none,[],hd,by simp,rfl,rfl⟩
 have hr1:rest=[]:=by cases rest with | nil=>rfl | cons=>cases hr0
 subst hr1
 rw[List.append_nil]at hp
 rw[← hp,← hT]at e1
 simp only[List.flatMap_nil]at e1
 have hco:=heads_comp (vwP w ls) ls w (.own (.lst [])) .none
 have hss:sortSetP [.lst (txP (ls.map List.dropLast))]=some (.lst (txP hd)):=by
  show(txs (txP _)).bind _=_
  rw[txs_strs,Option.bind_some,if_pos]
  have h1:=g.some
  have h2:=g.few
  refine⟨fun z=>?_,Nat.lt_of_le_of_lt (uniqT_len _) (by rw[List.length_map]; ac_rfl)⟩
  rw[List.map_eq_nil_iff]at z
  rw[z]at h1; cases h1
 have e0:txP ([]:List Tx)=[]:=rfl
 rw[e0]at e1
 generalize txP (textsOf w ls)=L at e1
 generalize txP hd=D at e1 hss
 generalize txP (ls.map List.dropLast)=D0 at hco hss
 simp only[vwP]at hck i0 i1 hco e1 ⊢
 generalize hTT:txP ls=T at hck i0 i1 hco e1
 clear_value f hd
 simp![g_texts,d_texts,hck,i0,i1,noEr,dFor,dItems,itemsP,dComp,hco,hss,e1,dRetM]
theorem flPs_txP(ls:List Tx):flPs (txP ls)=some (tVs ls):=by
 induction ls with
 | nil=>rfl
 | cons x ls ih=>show(flP (.str x)).bind (fun v=>(flPs (txP ls)).map (v::·))=_; rw[ih]; rfl
theorem cnt_txP(ls:List Tx)(x:Tx):cntP (txP ls) (.str x)=some (.int (ls.count x:Nat)):=by
 show(flP (.str x)).bind (fun v=>(flPs (txP ls)).map fun ws=>PV.int (ws.countP fun z=>eqV z v))=_
 rw[flPs_txP,← countP_tVs]; rfl
theorem under_eq(w:Nat)(ls:List Tx)(t:Tx)(ht:t.length≤60):g_law_under a [.val (.str t),.val (.int w),.val (.tup (txP ls))] = .ok (.val (.bl (under w ls t))) [.val (.str t),.val (.int w),.val (.tup (txP ls))]:=by
 have hseen:=seen_eq (a:=a) t w ht
 let M:=sortT (wins t w)
 have hc:=compD_pure (cap:=[3,2]) (dt:=dYes) (de:=(d2 (cmpI fun i j=>decide (i≤j)) (dMtT cntP (dV 1) (dV 0)) (dMtT cntP (dV 2) (dV 0)))) (ε:=[.val (.str t),.val (.int w),.val (.tup (txP ls)),.val (.tup (txP M))]) (fun _=>true) (fun x=>match x with | .str z=>.bl (decide (M.count z≤ls.count z)) | _=>.non) (txP M)
  (by
   intro x hx
   obtain⟨z,_,rfl⟩:=List.mem_map.mp hx
   refine⟨by simp![dBlk,capA,noE,dYes],fun _=>?_⟩
   have h1:=cnt_txP M z
   have h2:=cnt_txP ls z
   generalize txP M=A at h1
   generalize txP ls=B at h2
   simp![dBlk,capA,noE,dMtT,h1,h2]) []
 have he:((txP M).filter (fun _=>true)).map (fun x=>match x with | .str z=>PV.bl (decide (M.count z≤ls.count z)) | _=>.non)=(M.map fun z=>decide (M.count z≤ls.count z)).map .bl:=by
  rw[List.filter_eq_self.mpr (by simp)]
  unfold txP
  rw[List.map_map,List.map_map]; rfl
 rw[List.nil_append,he]at hc
 have hal:(M.map fun z=>decide (M.count z≤ls.count z)).all id=under w ls t:=by
  rw[List.all_map]
  unfold under
  have hp:=sortT_perm (wins t w)
  rw[Bool.eq_iff_iff,List.all_eq_true,List.all_eq_true]
  constructor
  ·intro h x hx
   have:=h x (hp.mem_iff.mpr hx)
   simp only[Function.comp,id,M,hp.count_eq]at this
   exact this
  ·intro h x hx
   have:=h x (hp.mem_iff.mp hx)
   simp only[Function.comp,id,M,hp.count_eq]
   exact this
 generalize (M.map fun z=>decide (M.count z≤ls.count z))=bs at hc hal
 have ha:=all_bools bs
 rw[hal]at ha
 change g_law_seen a _=R.ok (Slot.val (.tup (txP M))) _ at hseen
 generalize txP M=MM at hseen hc
 clear_value M
 simp![g_law_under,d_law_under,hseen,dComp,dItems,itemsP,hc,ha]
end
end Sh
namespace Sh
open PySem L2 Pu Mx
section
variable{a:Ad}
theorem eqT_tup(neg:Bool)(ls ms:List Tx):Pu.eqT neg (.tup (txP ls)) (.tup (txP ms))=some (.bl (neg ^^ decide (ls=ms))):=by
 show(if dep (.tup (txP ls))≤8 then(eqPs (txP ls) (txP ms)).map (fun k=>PV.bl (neg ^^ k))else none)=_
 rw[if_pos (by show deps (txP ls)+1≤8; rw[dep_txs]; decide),eq_txs]; rfl
def nextT(w:Nat)(ls:List Tx)(t:Tx):List Tx:=(abcs.map fun c=>t++[c]).filter (under w ls)
theorem row_all(w:Nat)(ls:List Tx)(V s3 s4 s6:Slot)(rows:List Tx)(ht:∀ t∈rows,t.length≤50)(hb:(rows.flatMap (nextT w ls)).length≤999999) :
  ∃ s6',loopD 6 (dExt 5 (dF (dComp [6,1,2] (dItems (dC (.str [97,98,99]))) (dB (dRE (dCall (g_law_under a) (gV (d2 addP (dV 1) (dV 0)) (gV (dV 2) (gV (dV 3) (Pu.gNil))))))) (d2 addP (dV 1) (dV 0))))) (txP rows) [V,.val (.int w),.val (.tup (txP ls)),s3,s4,.own (.lst []),s6] =
   .ok .next [V,.val (.int w),.val (.tup (txP ls)),s3,s4,.own (.lst (txP (rows.flatMap (nextT w ls)))),s6']:=by
 let f:=nextT w ls
 obtain⟨ε',e1,s6',p,rest,hp,hr0,rfl⟩:=loop_list (i:=6) (db:=(dExt 5 (dF (dComp [6,1,2] (dItems (dC (.str [97,98,99]))) (dB (dRE (dCall (g_law_under a) (gV (d2 addP (dV 1) (dV 0)) (gV (dV 2) (gV (dV 3) (Pu.gNil))))))) (d2 addP (dV 1) (dV 0))))))
  (I:=fun r ε=>∃ (s6':Slot) (p rest:List Tx),rows=p++rest∧r=txP rest∧ε=[V,.val (.int w),.val (.tup (txP ls)),s3,s4,.own (.lst (txP (p.flatMap f))),s6'])
  (by
   rintro x r ε ⟨s6',p,rest,hp,hr,rfl⟩
   cases rest with
   | nil=>cases hr
   | cons t rest =>
    have hr':x::r = .str t::txP rest:=hr
    simp only[List.cons.injEq]at hr'
    obtain⟨rfl,rfl⟩:=hr'
    have htl:=ht t (by rw[hp]; simp)
    have hc:=compD_pure (cap:=[6,1,2]) (dt:=(dB (dRE (dCall (g_law_under a) (gV (d2 addP (dV 1) (dV 0)) (gV (dV 2) (gV (dV 3) (Pu.gNil)))))))) (de:=(d2 addP (dV 1) (dV 0))) (ε:=[V,.val (.int w),.val (.tup (txP ls)),s3,s4,.own (.lst (txP (p.flatMap f))),.val (.str t)])
     (fun x=>match x with | .str [c]=>under w ls (t++[c]) | _=>false) (fun x=>match x with | .str [c]=>.str (t++[c]) | _=>.non) (abcs.map chP)
     (by
      intro x hx
      obtain⟨c,_,rfl⟩:=List.mem_map.mp hx
      have hw:=under_eq (a:=a) w ls (t++[c]) (by simp; ac_rfl)
      have ha:addP (.str t) (.str [c])=some (.str (t++[c])):=addP_str (by simp[maxS]; ac_rfl)
      simp only[chP]
      generalize txP (p.flatMap f)=L
      generalize under w ls (t++[c])=b at hw
      generalize t++[c]=tc at hw ha
      generalize txP ls=B at hw
      refine⟨?_,fun _=>?_⟩
      ·simp![dBlk,capA,noE,ha,hw]
      ·simp![dBlk,capA,noE,ha]) []
    have he:((abcs.map chP).filter (fun x=>match x with | .str [c]=>under w ls (t++[c]) | _=>false)).map (fun x=>match x with | .str [c]=>PV.str (t++[c]) | _=>.non)=txP (f t):=by
     simp only[f,nextT]
     rw[List.filter_map,List.map_map,List.filter_map]
     unfold txP
     rw[List.map_map]
     rfl
    rw[List.nil_append,he]at hc
    have hits:itemsP (.str [97,98,99])=some (abcs.map chP):=rfl
    have hbd:(txP (p.flatMap f)).length+(txP (f t)).length≤maxS:=by
     rw[txP_len,txP_len]
     have h2:(p.flatMap f).length+(f t).length≤(rows.flatMap (nextT w ls)).length:=by
      rw[hp,List.flatMap_append,List.flatMap_cons,List.length_append,List.length_append]
      simp only[f]; ac_rfl
     unfold maxS; ac_rfl
    refine⟨[V,.val (.int w),.val (.tup (txP ls)),s3,s4,.own (.lst (txP ((p++[t]).flatMap f))),.val (.str t)],?_,.val (.str t),p++[t],rest,by rw[hp]; simp,rfl,rfl⟩
    have e2:txP ((p++[t]).flatMap f)=txP (p.flatMap f)++txP (f t):=by simp[txP]
    rw[e2]
    generalize txP (f t)=Y at hc hbd
    generalize txP (p.flatMap f)=L at hc hbd
    generalize txP ls=B at hc
    generalize abcs.map chP=A3 at hc hits
    clear_value f
    simp![dExt,dComp,dItems,hits,hc,hbd])
  (txP rows) [V,.val (.int w),.val (.tup (txP ls)),s3,s4,.own (.lst (txP (([]:List Tx).flatMap f))),s6] ⟨s6,[],rows,by simp,rfl,rfl⟩
 have hr1:rest=[]:=by cases rest with | nil=>rfl | cons=>cases hr0
 subst hr1
 rw[List.append_nil]at hp
 rw[← hp]at e1
 exact⟨s6',e1⟩
theorem pow12{k:Nat}(h:k≤12):3 ^ k≤531441:=Nat.le_trans (Nat.pow_le_pow_right (by decide) h) (by decide)
theorem all_eq{w:Nat}{ls:List Tx}(g:Good abcs w ls)(w1:1≤w)(w4:w≤4)(hs:ls.Pairwise (fun a b=>leT a b=true)) :
  g_law_all a [.val (vwP w ls)] = .ok (.own (.lst (txP (textsOf w ls)))) [.val (vwP w ls)]:=by
 have hL:textsOf w ls=(rowsOf w ls (ls.length+w-1)).filter (fun z=>decide (sortT (wins z w)=ls)):=by
  rw[due_eq hs,texts_all w1 g.some fun x hx=>⟨g.len x hx,g.abc x hx⟩]
  congr 2
  ac_rfl
 obtain⟨L,hLe⟩:∃ L:Nat,ls.length+w-1=L:=⟨_,rfl⟩
 rw[hLe]at hL
 have hL12:L≤12:=by have:=g.few; ac_rfl
 have hlen:lenP [.tup (txP ls)]=some (.int (ls.length:Nat)):=by simp[lenP,txP_len]
 have ha1:addP (.int (ls.length:Nat)) (.int w)=some (.int ((ls.length:Int)+w)):=rfl
 have ha2:subP (.int ((ls.length:Int)+w)) (.int 1)=some (.int (L:Nat)):=by
  show some (PV.int ((ls.length:Int)+w-1))=_
  congr 2; ac_rfl
 have hr:range1 [.int (L:Nat)]=some (rngP 0 L):=range1_nat (by ac_rfl)
 have hlr:(rngP 0 L).length=L:=by simp[rngP]
 obtain⟨ε',e1,s4,s5,s6,rfl⟩:=loop_inv (i:=4) (db:=(dSeq (dOwn 5 (dL lstP (dNil)))
 (dSeq (dFor 6 (dItems (dV 3)) (dExt 5 (dF (dComp [6,1,2] (dItems (dC (.str [97,98,99]))) (dB (dRE (dCall (g_law_under a) (gV (d2 addP (dV 1) (dV 0)) (gV (dV 2) (gV (dV 3) (Pu.gNil))))))) (d2 addP (dV 1) (dV 0))))))
 (dSet 3 (dM 5)))))
  (I:=fun k ε=>∃ (s4 s5 s6:Slot),ε=[.val (vwP w ls),.val (.int w),.val (.tup (txP ls)),.val (.lst (txP (rowsOf w ls k))),s4,s5,s6]) (N:=L)
  (by
   rintro k ε x hk ⟨s4,s5,s6,rfl⟩
   have hrow:∀ t∈rowsOf w ls k,t.length≤50:=fun t ht=>by
    have:=((allT_mem k t).mp (List.mem_filter.mp ht).1).1
    ac_rfl
   have e:(rowsOf w ls k).flatMap (nextT w ls)=rowsOf w ls (k+1):=(rows_succ w1 ls k).symm
   have hbd:((rowsOf w ls k).flatMap (nextT w ls)).length≤999999:=by
    rw[e]
    have h1:=rows_len w ls (k+1)
    have h2:=pow12 (show k+1≤12 by ac_rfl)
    ac_rfl
   obtain⟨s6',h1⟩:=row_all (a:=a) w ls (.val (vwP w ls)) (.val (.lst (txP (rowsOf w ls k)))) (.val x) s6 (rowsOf w ls k) hrow hbd
   rw[e]at h1
   refine⟨_,?_,.val x,.val (.lst (txP (rowsOf w ls (k+1)))),s6',rfl⟩
   generalize txP (rowsOf w ls (k+1))=R1 at h1
   generalize hR0:txP (rowsOf w ls k)=R0 at h1
   simp only[vwP]at h1 ⊢
   have hfor:∀ (d:PEnv→R Flw) (xs:List PV) (ε:PEnv),ε[3]?=some (.val (.lst xs))→dFor 6 (dItems (dV 3)) d ε=loopD 6 d xs ε:=fun d xs ε h=>by
    unfold dFor dItems dV
    rw[h]; rfl
   refine(dSeq_step (ε1:=[.val (.tup [.int w,.tup (txP ls)]),.val (.int w),.val (.tup (txP ls)),.val (.lst R0),.val x,.own (.lst []),s6]) (by simp![])).trans ?_
   refine(dSeq_step ((hfor _ R0 _ rfl).trans h1)).trans ?_
   simp[dSet,dM,R.bind])
  (rngP 0 L) 0 [.val (vwP w ls),.val (.int w),.val (.tup (txP ls)),.val (.lst (txP (rowsOf w ls 0))),.none,.none,.none] (by ac_rfl) ⟨.none,.none,.none,rfl⟩
 rw[hlr,Nat.zero_add,rows_zero w1]at e1
 -- the last look
 have hc:=compD_pure (cap:=[1,2]) (dt:=(dB (d2 (Pu.eqT false) (dRE (dCall (g_law_seen a) (gV (dV 0) (gV (dV 1) (Pu.gNil))))) (dV 2)))) (de:=dV 0) (ε:=[.val (vwP w ls),.val (.int w),.val (.tup (txP ls)),.val (.lst (txP (rowsOf w ls L))),s4,s5,s6])
  (fun x=>match x with | .str z=>decide (sortT (wins z w)=ls) | _=>false) (fun x=>x) (txP (rowsOf w ls L))
  (by
   intro x hx
   obtain⟨z,hz,rfl⟩:=List.mem_map.mp hx
   have hzl:z.length≤60:=by
    have:=((allT_mem L z).mp (List.mem_filter.mp hz).1).1
    ac_rfl
   have hseen:=seen_eq (a:=a) z w hzl
   have he:=eqT_tup false (sortT (wins z w)) ls
   simp only[Bool.false_xor]at he
   generalize txP (sortT (wins z w))=M at hseen he
   generalize hD:decide (sortT (wins z w)=ls)=D at he
   generalize txP (rowsOf w ls L)=RR
   simp only[vwP]
   refine⟨?_,fun _=>?_⟩
   ·simp only[hD]
    generalize txP ls=B at he
    simp![dBlk,capA,noE,hseen,he]
   ·generalize txP ls=B
    simp![dBlk,capA,noE]) []
 have he:((txP (rowsOf w ls L)).filter (fun x=>match x with | .str z=>decide (sortT (wins z w)=ls) | _=>false)).map (fun x=>x)=txP (textsOf w ls):=by
  rw[List.map_id',hL]
  unfold txP
  rw[List.filter_map]; rfl
 rw[List.nil_append,he]at hc
 have e0:txP [[]]=[.str []]:=rfl
 rw[e0]at e1
 generalize txP (textsOf w ls)=T at hc
 generalize txP (rowsOf w ls L)=RR at hc e1
 simp only[vwP]at hc e1 ⊢
 generalize txP ls=B at hc e1 hlen
 simp![g_law_all,d_law_all,dSet2,hlen,ha1,ha2,noEr,dFor,hr,e1,dRetN,dComp,dItems,itemsP,hc]
end
end Sh
namespace Mx
open PySem L2 Pu
theorem textsOf_abc{w:Nat}{ls:List Tx}(hw:1≤w)(hn:1≤ls.length)(hl:∀ x∈ls,x.length=w∧∀ c∈x,c∈abcs){z:Tx}(h:z∈textsOf w ls):z.length=w-1+ls.length∧∀ c∈z,c∈abcs:=by
 rw[texts_all hw hn hl,List.mem_filter,allT_mem]at h
 exact h.1
end Mx
namespace Sh
open PySem L2 Pu Mx
structure Vd where
 w:Nat
 ls:List Tx
structure GV(v:Vd):Prop where
 w1:1≤v.w
 w4:v.w≤4
 good:Good abcs v.w v.ls
 rises:v.ls.Pairwise (fun a b=>leT a b=true)
 few:(textsOf v.w v.ls).length≤1000
def tx(v:Vd):List Tx:=textsOf v.w v.ls
theorem GV.wn{v:Vd}(g:GV v):∀ x∈v.ls,x.length=v.w∧∀ c∈x,c∈abcs:=fun x hx=>⟨g.good.len x hx,g.good.abc x hx⟩
theorem GV.abc{v:Vd}(g:GV v){z:Tx}(h:z∈tx v):z.length≤12∧∀ c∈z,c∈abcs:=by
 obtain⟨h1,h2⟩:=textsOf_abc g.w1 g.good.some g.wn h
 exact⟨by have:=g.w4; have:=g.good.few; ac_rfl,h2⟩
section
variable{a:Ad}
theorem texts_no{x:PV}(h:g_is_view a [.val x] = .ok (.val (.bl false)) [.val x]):g_texts a [.val x] = .er (.ref a.NoView) [.val x]:=by
 have hc:=check_no h
 simp![g_texts,d_texts,hc]
end
end Sh
namespace K34
open PySem L2 Pu Mx Sh
section
variable{a:Ad}
def rf(n:Int):PV:=.tup [.str [114,101,102,117,115,101,100],.int n]
def Wh(a:Ad):Prop:=[g_law_which a [.val (.exc (.ref a.NoView))],g_law_which a [.val (.exc (.ref a.Never))],g_law_which a [.val (.exc (.ref a.Full))]] =
 [.ok (.val (rf 2)) [.val (.exc (.ref a.NoView))],.ok (.val (rf 4)) [.val (.exc (.ref a.Never))],.ok (.val (rf 5)) [.val (.exc (.ref a.Full))]]
theorem wh_mk (h:[g_law_which a [.val (.exc (.ref a.NoView))],g_law_which a [.val (.exc (.ref a.Never))],g_law_which a [.val (.exc (.ref a.Full))]] =
 [.ok (.val (rf 2)) [.val (.exc (.ref a.NoView))],.ok (.val (rf 4)) [.val (.exc (.ref a.Never))],.ok (.val (rf 5)) [.val (.exc (.ref a.Full))]]):Wh a:=h
theorem wh_at(h:Wh a):g_law_which a [.val (.exc (.ref a.NoView))] = .ok (.val (rf 2)) [.val (.exc (.ref a.NoView))]∧g_law_which a [.val (.exc (.ref a.Never))] = .ok (.val (rf 4)) [.val (.exc (.ref a.Never))]∧g_law_which a [.val (.exc (.ref a.Full))] = .ok (.val (rf 5)) [.val (.exc (.ref a.Full))]:=by
 unfold Wh at h
 simp only[List.cons.injEq,and_true]at h
 exact h
def flds(ts:List PV):List (Str×PV):=[(Str.ofString "having",.tup ts),(Str.ofString "answers",.lst [])]
theorem look_h(ts:List PV):(flds ts).lookup (Str.ofString "having")=some (.tup ts):=rfl
theorem look_a(ts:List PV):(flds ts).lookup (Str.ofString "answers")=some (.lst []):=rfl
theorem look_l(ts:List PV):(flds ts).lookup (Str.ofString "left")=none:=rfl
theorem put_h(t:PV):putFP (Str.ofString "having") t []=[(Str.ofString "having",t)]:=rfl
theorem put_a(ts:List PV):putFP (Str.ofString "answers") (.lst []) [(Str.ofString "having",.tup ts)]=flds ts:=rfl
theorem left_eq(ts:List PV):g_Seeker_left a [.own (.ins a.Seeker (flds ts))] = .ok (.val (.lst ts)) [.own (.ins a.Seeker (flds ts))]:=by
 have h1:=look_h ts
 have h2:=look_a ts
 have h3:itemsP (.lst [])=some []:=rfl
 have h4:listP [.tup ts]=some (.lst ts):=rfl
 generalize flds ts=fs at h1 h2
 simp![g_Seeker_left,d_Seeker_left,dFld,ownI,h1,dForE,dItems,h2,h3,h4]
theorem init_er{V:PV}{c:Value}(ht:g_texts a [.val V] = .er c [.val V]):g_Seeker_init a [.own (.ins a.Seeker []),.val V] = .er c [.own (.ins a.Seeker []),.val V]:=by
 simp![g_Seeker_init,d_Seeker_init,ht]
theorem init_no{V:PV}(ht:g_texts a [.val V] = .ok (.own (.lst [])) [.val V]):g_Seeker_init a [.own (.ins a.Seeker []),.val V] = .er (.ref a.Never) [.own (.ins a.Seeker []),.val V]:=by
 have hl:lenP [.lst []]=some (.int 0):=rfl
 have he:Pu.eqT false (.int 0) (.int 0)=some (.bl true):=rfl
 simp![g_Seeker_init,d_Seeker_init,ht,hl,he,dRaise,noE]
theorem init_full{V:PV}{ts:List PV}(ht:g_texts a [.val V] = .ok (.own (.lst ts)) [.val V])(h:16<ts.length):g_Seeker_init a [.own (.ins a.Seeker []),.val V] = .er (.ref a.Full) [.own (.ins a.Seeker []),.val V]:=by
 have hl:lenP [.lst ts]=some (.int (ts.length:Nat)):=rfl
 obtain⟨n,hn⟩:∃ n:Int,((ts.length:Nat):Int)=n:=⟨_,rfl⟩
 rw[hn]at hl
 have he:=eqI false n 0
 have h0:¬ n=0:=by ac_rfl
 have h1:(16:Int)<n:=by ac_rfl
 simp only[h0,decide_false,Bool.false_xor]at he
 simp![g_Seeker_init,d_Seeker_init,ht,hl,he,h1,dRaise,noE]
theorem init_ok{V:PV}{ts:List PV}(ht:g_texts a [.val V] = .ok (.own (.lst ts)) [.val V])(h0:ts≠[])(h:ts.length≤16):g_Seeker_init a [.own (.ins a.Seeker []),.val V] = .ok (.val .non) [.own (.ins a.Seeker (flds ts)),.val V]:=by
 have hl:lenP [.lst ts]=some (.int (ts.length:Nat)):=rfl
 obtain⟨n,hn⟩:∃ n:Int,((ts.length:Nat):Int)=n:=⟨_,rfl⟩
 rw[hn]at hl
 have he:=eqI false n 0
 have h0:¬ n=0:=by
  intro z
  have:ts.length=0:=by ac_rfl
  exact h0 (List.eq_nil_of_length_eq_zero this)
 have h1:¬ (16:Int)<n:=by ac_rfl
 simp only[h0,decide_false,Bool.false_xor]at he
 have htu:tupleP [.lst ts]=some (.tup ts):=rfl
 have p1:=put_h (.tup ts)
 have p2:=put_a ts
 generalize flds ts=fs at p2
 simp![g_Seeker_init,d_Seeker_init,ht,hl,he,h1,dSetFld,ownI,htu,p1,p2]
theorem ask_er(wh:Wh a){V:PV}{c:Addr}{n:Int}(hw:g_law_which a [.val (.exc (.ref c))] = .ok (.val (rf n)) [.val (.exc (.ref c))])(hc:caughtE a (.ref c)=true)(hi:g_Seeker_init a [.own (.ins a.Seeker []),.val V] = .er (.ref c) [.own (.ins a.Seeker []),.val V]) :
  g_law_ask a [.val V] = .ok (.val (rf n)) [.val V]:=by
 generalize rf n=RF at hw
 simp![g_law_ask,d_law_ask,dTry,dMM,callP,popR,noE,hi,hc,hw]
theorem ask_ok{V:PV}{ts:List PV}(hi:g_Seeker_init a [.own (.ins a.Seeker []),.val V] = .ok (.val .non) [.own (.ins a.Seeker (flds ts)),.val V]):g_law_ask a [.val V] = .ok (.val (.lst ts)) [.val V]:=by
 have hl:=left_eq (a:=a) ts
 have hk:=look_l ts
 generalize flds ts=fs at hi hl hk
 simp![g_law_ask,d_law_ask,dTry,dMM,callP,popR,noE,hi,ownI,hk,hl]
theorem ask_odd(wh:Wh a){x:PV}(hx:g_is_view a [.val x] = .ok (.val (.bl false)) [.val x]):g_law_ask a [.val x] = .ok (.val (rf 2)) [.val x] :=
 ask_er wh (wh_at wh).1 (by simp[caughtE,clsL]) (init_er (texts_no hx))
def dueP(T:List Tx):PV:=if T=[] then rf 4 else if T.length≤16 then .lst (txP T)else rf 5
theorem ask_view(wh:Wh a){w:Nat}{ls:List Tx}(g:Good abcs w ls)(w1:1≤w)(w4:w≤4)(hs:ls.Pairwise (fun a b=>leT a b=true)):g_law_ask a [.val (vwP w ls)] = .ok (.val (dueP (textsOf w ls))) [.val (vwP w ls)]:=by
 have ht:=texts_eq (a:=a) g w1 w4 hs
 unfold dueP
 by_cases h0:textsOf w ls=[]
 ·rw[if_pos h0]
  rw[h0]at ht
  exact ask_er wh (wh_at wh).2.1 (by simp[caughtE,clsL]) (init_no ht)
 ·rw[if_neg h0]
  by_cases h1:(textsOf w ls).length≤16
  ·rw[if_pos h1]
   exact ask_ok (init_ok ht (by intro z; exact h0 (by simpa[txP]using z)) (by rw[txP_len]; exact h1))
  ·rw[if_neg h1]
   exact ask_er wh (wh_at wh).2.2 (by simp[caughtE,clsL]) (init_full ht (by rw[txP_len]; ac_rfl))
theorem good_ab(m k:Nat)(h1:1≤m)(h2:m+k≤9):Good abcs 1 (sortT ((List.replicate m 97++List.replicate k 98).map fun c=>[c])):=by
 have g:Good abcs 1 ((List.replicate m 97++List.replicate k 98).map fun c=>[c]):=by
  refine⟨fun x hx=>?_,fun x hx c hc=>?_,by simp; ac_rfl,by simp; ac_rfl⟩
  ·obtain⟨c,_,rfl⟩:=List.mem_map.mp hx; rfl
  ·obtain⟨d,hd,rfl⟩:=List.mem_map.mp hx
   rw[List.mem_singleton]at hc
   subst hc
   rcases List.mem_append.mp hd with z | z
   ·rw[(List.mem_replicate.mp z).2]; decide
   ·rw[(List.mem_replicate.mp z).2]; decide
 exact g.perm (sortT_perm _)
theorem ab_P(m k:Nat)(hm:m≤3)(hk:k≤4):addP (.str (List.replicate m 97)) (.str (List.replicate k 98))=some (.str (List.replicate m 97++List.replicate k 98)):=addP_str (by simp; unfold maxS; ac_rfl)
theorem mul_P(c:Nat)(m:Nat)(hm:m≤4):mulP (.str [c]) (.int (m:Nat))=some (.str (List.replicate m c)):=by
 show(if(0:Int)≤((m:Nat):Int)∧((m:Nat):Int)≤100∧[c].length≤100 then some (PV.str (List.replicate ((m:Nat):Int).toNat [c]).flatten)else none)=_
 rw[if_pos ⟨by ac_rfl,by ac_rfl,by simp⟩]
 congr 2
 rw[Int.toNat_natCast]
 induction m with
 | zero=>rfl
 | succ m ih=>rw[List.replicate_succ,List.replicate_succ,List.flatten_cons,ih (by ac_rfl)]; rfl
theorem asked_row(ns:List Int)(sp:Int)(h0:0≤sp)(h4:sp<4)(y1:List PV)(hy:y1.length≤200):∃ (w:Nat) (ls:List Tx) (y3:List PV) (s4:Slot),1≤w∧w≤4∧Good abcs w ls∧ls.Pairwise (fun a b=>leT a b=true) ∧
  ∀ K:PEnv→R Flw,(dSeq (dSet 3 (dRE (dCall (g_law_view a) (gV (dV 0) (gO 1 (gV (d2 modP (dV 2) (dC (.int 3))) (gV (dC (.int 7)) (Pu.gNil))))))))
 (dSeq (dIf (dB (d2 (eqT false) (dV 2) (dC (.int 3)))) (dSeq (dSet 4 (d2 addP (dC (.int 1)) (dRE (dCall (g_law_draw a) (gV (dV 0) (gO 1 (gV (dC (.int 3)) (Pu.gNil))))))))
 (dSet 3 (dL tupP (dCons (dC (.int 1)) (dCons (dL tupleP (dCons (dF (dL sortSP (dCons (d2 addP (d2 mulP (dC (.str [97])) (dV 4)) (d2 mulP (dC (.str [98])) (d2 addP (dC (.int 1)) (dRE (dCall (g_law_draw a) (gV (dV 0) (gO 1 (gV (dC (.int 4)) (Pu.gNil))))))))) (dNil)))) (dNil))) (dNil)))))) (dNext)) K)) [scr ns,.own (.lst y1),.val (.int sp),.none,.none,.none,.none]=K [scr ns,.own (.lst y3),.val (.int sp),.val (vwP w ls),s4,.none,.none]:=by
 have hmod:modP (.int sp) (.int 3)=some (.int (sp % 3)):=rfl
 obtain⟨t,ht⟩:∃ t:Nat,sp % 3=(t:Nat):=⟨(sp % 3).toNat,by ac_rfl⟩
 rw[ht]at hmod
 obtain⟨w,ls,y2,w1,w4,_,g,hs,_,_,hy2,hv⟩:=view_eq (a:=a) ns y1 t 7 (by ac_rfl) (by ac_rfl) (by ac_rfl) (by ac_rfl)
 have hv':g_law_view a [scr ns,.own (.lst y1),.val (.int (t:Nat)),.val (.int 7)] = .ok (.val (vwP w ls)) [scr ns,.own (.lst y2),.val (.int (t:Nat)),.val (.int 7)]:=hv
 have step1:∀ K:PEnv→R Flw,(dSeq (dSet 3 (dRE (dCall (g_law_view a) (gV (dV 0) (gO 1 (gV (d2 modP (dV 2) (dC (.int 3))) (gV (dC (.int 7)) (Pu.gNil)))))))) K) [scr ns,.own (.lst y1),.val (.int sp),.none,.none,.none,.none]=K [scr ns,.own (.lst y2),.val (.int sp),.val (vwP w ls),.none,.none,.none]:=fun K=>by
  refine dSeq_step ?_
  generalize vwP w ls=V at hv'
  generalize ((t:Nat):Int)=tt at hmod hv'
  simp![hmod,hv']
 have he:=eqI false sp 3
 by_cases q:sp=3
 ·subst q
  simp only[decide_true,Bool.false_xor]at he
  obtain⟨m0,m1,m2,hdm⟩:=draw_eq (a:=a) ns y2 3 (by decide) (by ac_rfl)
  obtain⟨k0,k1,k2,hdk⟩:=draw_eq (a:=a) ns (y2++[.int 0]) 4 (by decide) (by simp; ac_rfl)
  obtain⟨m,hm⟩:∃ m:Nat,1+m0=(m:Nat):=⟨(1+m0).toNat,by ac_rfl⟩
  obtain⟨k,hk⟩:∃ k:Nat,1+k0=(k:Nat):=⟨(1+k0).toNat,by ac_rfl⟩
  have am:addP (.int 1) (.int m0)=some (.int (m:Nat)):=by show some (PV.int (1+m0))=_; rw[hm]
  have ak:addP (.int 1) (.int k0)=some (.int (k:Nat)):=by show some (PV.int (1+k0))=_; rw[hk]
  have mm:=mul_P 97 m (by ac_rfl)
  have mk:=mul_P 98 k (by ac_rfl)
  have ab:=ab_P m k (by ac_rfl) (by ac_rfl)
  have hg:=good_ab m k (by ac_rfl) (by ac_rfl)
  have hr:=sortT_rises ((List.replicate m 97++List.replicate k 98).map fun c=>[c])
  have hlen:(List.replicate m 97++List.replicate k 98).length≤100000:=by simp; ac_rfl
  have hsp:sortSP [.str (List.replicate m 97++List.replicate k 98)]=some (.lst (txP (sortT ((List.replicate m 97++List.replicate k 98).map fun c=>[c])))):=by
   show(if _ then _ else _)=_
   rw[if_pos hlen]
  refine⟨1,sortT ((List.replicate m 97++List.replicate k 98).map fun c=>[c]),y2++[.int 0]++[.int 0],.val (.int (m:Nat)),by ac_rfl,by ac_rfl,hg,hr,fun K=>?_⟩
  rw[step1]
  refine dSeq_step ?_
  show _=R.ok _ [_,_,_,Slot.val (PV.tup [PV.int 1,PV.tup (txP (sortT ((List.replicate m 97++List.replicate k 98).map fun c=>[c])))]),_,_,_]
  have htu:tupleP [.lst (txP (sortT ((List.replicate m 97++List.replicate k 98).map fun c=>[c])))]=some (.tup (txP (sortT ((List.replicate m 97++List.replicate k 98).map fun c=>[c])))):=rfl
  generalize txP (sortT ((List.replicate m 97++List.replicate k 98).map fun c=>[c]))=TP at hsp htu
  generalize List.replicate m 97++List.replicate k 98=AB at ab hsp
  generalize List.replicate m 97=AA at mm ab
  generalize List.replicate k 98=BB at mk ab
  generalize ((m:Nat):Int)=mi at am mm
  generalize ((k:Nat):Int)=ki at ak mk
  generalize vwP w ls=V
  simp![he,hdm,am,hdk,ak,mm,mk,ab,hsp,htu]
 ·simp only[q,decide_false,Bool.false_xor]at he
  refine⟨w,ls,y2,.none,w1,w4,g,hs,fun K=>?_⟩
  rw[step1]
  refine dSeq_step ?_
  generalize vwP w ls=V
  simp![he]
theorem full20:16<(textsOf 1 [[97],[97],[97],[98],[98],[98]]).length:=by decide +kernel
theorem full15:(textsOf 1 [[97],[97],[97],[97],[98],[98]]).length=15:=by decide +kernel
theorem eq_due(T:List Tx):Pu.eqT false (dueP T) (dueP T)=some (.bl true):=by
 unfold dueP
 split
 ·rfl
 ·split
  ·rw[eqT_lst]; simp
  ·rfl
theorem law_eq(wh:Wh a)(ns:List Int):g_law a [scr ns] = .ok (.val (.bl true)) [scr ns]:=by
 obtain⟨sp,p0,p4,hd⟩:=draw_eq (a:=a) ns [] 4 (by decide) (by simp)
 rw[List.nil_append]at hd
 obtain⟨x,hx,y1,hy1,hodd⟩:=odd_eq (a:=a) ns [.int 0] (by simp)
 have hax:=ask_odd wh (odd_no (a:=a) x hx)
 have had:g_law_ask a [.val (.tup [.int 1,.tup [.str [46]]])] = .ok (.val (rf 2)) [.val (.tup [.int 1,.tup [.str [46]]])]:=by
  refine ask_odd wh ?_
  have:=isv_eq (a:=a) 1 [[46]]
  have e:vw 1 [[46]]=false:=by decide +kernel
  rw[e]at this
  exact this
 obtain⟨w,ls,y3,s4,w1,w4,g,hs,hrow⟩:=asked_row (a:=a) ns sp p0 p4 y1 (by simp at hy1; ac_rfl)
 have hall:=all_eq (a:=a) g w1 w4 hs
 have hask:=ask_view wh g w1 w4 hs
 have g1:Good abcs 1 [[97],[97],[97],[98],[98],[98]]:=⟨by decide,by decide,by decide,by decide⟩
 have g2:Good abcs 1 [[97],[97],[97],[97],[98],[98]]:=⟨by decide,by decide,by decide,by decide⟩
 have h20:=ask_view wh g1 (by ac_rfl) (by ac_rfl) (by decide +kernel)
 have h15:=ask_view wh g2 (by ac_rfl) (by ac_rfl) (by decide +kernel)
 have e20:dueP (textsOf 1 [[97],[97],[97],[98],[98],[98]])=rf 5:=by
  have:=full20
  unfold dueP
  rw[if_neg (by intro z; rw[z]at this; simp at this),if_neg (by ac_rfl)]
 have e15:dueP (textsOf 1 [[97],[97],[97],[97],[98],[98]]) = .lst (txP (textsOf 1 [[97],[97],[97],[97],[98],[98]])):=by
  have:=full15
  unfold dueP
  rw[if_neg (by intro z; rw[z]at this; simp at this),if_pos (by ac_rfl)]
 rw[e20]at h20
 rw[e15]at h15
 have t20:tupleSP [.str [97,97,97,98,98,98]]=some (.tup (txP [[97],[97],[97],[98],[98],[98]])):=rfl
 have t15:tupleSP [.str [97,97,97,97,98,98]]=some (.tup (txP [[97],[97],[97],[97],[98],[98]])):=rfl
 have l15:lenP [.lst (txP (textsOf 1 [[97],[97],[97],[97],[98],[98]]))]=some (.int 15):=by
  show some (PV.int ((txP (textsOf 1 [[97],[97],[97],[97],[98],[98]])).length:Nat))=_
  rw[txP_len,full15]; rfl
 have q15:Pu.eqT true (.int 15) (.int 15)=some (.bl false):=rfl
 have r2:Pu.eqT true (rf 2) (.tup [.str [114,101,102,117,115,101,100],.int 2])=some (.bl false):=rfl
 have r5:Pu.eqT true (rf 5) (.tup [.str [114,101,102,117,115,101,100],.int 5])=some (.bl false):=rfl
 have hfin:=eq_due (textsOf w ls)
 -- what is due
 obtain⟨D1,hD1,hD2⟩:∃ D1:PV,(∀ s0 s1 s2 s3 s4 s6:Slot,(dSet 6 (dIf (dB (d2 (Pu.eqT true) (dV 5) (dF (dL lstP (dNil))))) (dV 5) (dL tupP (dCons (dC (.str [114,101,102,117,115,101,100])) (dCons (dC (.int 4)) (dNil)))))) [s0,s1,s2,s3,s4,.val (.lst (txP (textsOf w ls))),s6] = .ok .next [s0,s1,s2,s3,s4,.val (.lst (txP (textsOf w ls))),.val D1]) ∧
   ∀ s0 s1 s2 s3 s4:Slot,(dSet 6 (dIf (dB (d2 (cmpI fun i j=>decide (i≤j)) (dL lenP (dCons (dV 5) (dNil))) (dC (.int 16)))) (dV 6) (dL tupP (dCons (dC (.str [114,101,102,117,115,101,100])) (dCons (dC (.int 5)) (dNil)))))) [s0,s1,s2,s3,s4,.val (.lst (txP (textsOf w ls))),.val D1] = .ok .next [s0,s1,s2,s3,s4,.val (.lst (txP (textsOf w ls))),.val (dueP (textsOf w ls))]:=by
  have hl:lenP [.lst (txP (textsOf w ls))]=some (.int ((textsOf w ls).length:Nat)):=by
   show some (PV.int ((txP (textsOf w ls)).length:Nat))=_
   rw[txP_len]
  have hne:Pu.eqT true (.lst (txP (textsOf w ls))) (.lst [])=some (.bl (!decide (textsOf w ls=[]))):=by
   have:=eqT_lst true (textsOf w ls) []
   simp only[Bool.true_xor]at this
   exact this
  by_cases hT:textsOf w ls=[]
  ·refine⟨rf 4,fun s0 s1 s2 s3 s4 s6=>?_,fun s0 s1 s2 s3 s4=>?_⟩
   ·have e:(!decide (textsOf w ls=[]))=false:=by simp[hT]
    rw[e]at hne
    generalize txP (textsOf w ls)=TP at hne
    simp![hne,rf]
   ·have hdu:dueP (textsOf w ls)=rf 4:=by unfold dueP; rw[if_pos hT]
    have hc:(((textsOf w ls).length:Nat):Int)≤16:=by rw[hT]; decide
    rw[hdu]
    generalize rf 4=RF
    generalize (((textsOf w ls).length:Nat):Int)=n at hl hc
    generalize txP (textsOf w ls)=TP at hl
    simp![hl,hc]
  ·refine⟨.lst (txP (textsOf w ls)),fun s0 s1 s2 s3 s4 s6=>?_,fun s0 s1 s2 s3 s4=>?_⟩
   ·have e:(!decide (textsOf w ls=[]))=true:=by simp[hT]
    rw[e]at hne
    generalize txP (textsOf w ls)=TP at hne
    simp![hne]
   ·by_cases hc:(textsOf w ls).length≤16
    ·have hdu:dueP (textsOf w ls) = .lst (txP (textsOf w ls)):=by unfold dueP; rw[if_neg hT,if_pos hc]
     have hc':(((textsOf w ls).length:Nat):Int)≤16:=by ac_rfl
     rw[hdu]
     generalize (((textsOf w ls).length:Nat):Int)=n at hl hc'
     generalize txP (textsOf w ls)=TP at hl
     simp![hl,hc']
    ·have hdu:dueP (textsOf w ls)=rf 5:=by unfold dueP; rw[if_neg hT,if_neg hc]
     have hc':¬ (((textsOf w ls).length:Nat):Int)≤16:=by ac_rfl
     rw[hdu]
     generalize (((textsOf w ls).length:Nat):Int)=n at hl hc'
     generalize txP (textsOf w ls)=TP at hl
     simp![hl,hc',rf]
 have hb:d_law a [scr ns,.none,.none,.none,.none,.none,.none] = .ok (.ret (.val (.bl true))) [scr ns,.own (.lst y3),.val (.int sp),.val (vwP w ls),s4,.val (.lst (txP (textsOf w ls))),.val (dueP (textsOf w ls))]:=by
  unfold d_law
  refine(dSeq_step (ε1:=[scr ns,.own (.lst []),.none,.none,.none,.none,.none]) (by simp![])).trans ?_
  refine(dSeq_step (ε1:=[scr ns,.own (.lst [.int 0]),.val (.int sp),.none,.none,.none,.none]) (by simp![hd])).trans ?_
  refine(dSeq_step (ε1:=[scr ns,.own (.lst y1),.val (.int sp),.none,.none,.none,.none]) (by
   generalize rf 2=RF at hax had r2
   simp![hodd,hax,had,r2])).trans ?_
  refine(hrow _).trans ?_
  generalize dueP (textsOf w ls)=DU at hask hfin hD2
  generalize txP (textsOf w ls)=TP at hall hD1 hD2
  generalize vwP w ls=V at hask hall
  refine(dSeq_step (ε1:=[scr ns,.own (.lst y3),.val (.int sp),.val V,s4,.val (.lst TP),.none]) (by simp![hall])).trans ?_
  refine(dSeq_step (hD1 _ _ _ _ _ _)).trans ?_
  refine(dSeq_step (hD2 _ _ _ _ _)).trans ?_
  refine(dSeq_step (ε1:=[scr ns,.own (.lst y3),.val (.int sp),.val V,s4,.val (.lst TP),.val DU]) (by
   have h20':g_law_ask a [.val (.tup [.int 1,.tup (txP [[97],[97],[97],[98],[98],[98]])])]=_:=h20
   have h15':g_law_ask a [.val (.tup [.int 1,.tup (txP [[97],[97],[97],[97],[98],[98]])])]=_:=h15
   generalize rf 5=RF at h20' r5
   generalize txP (textsOf 1 [[97],[97],[97],[97],[98],[98]])=T15 at h15' l15
   generalize txP [[97],[97],[97],[98],[98],[98]]=A20 at t20 h20'
   generalize txP [[97],[97],[97],[97],[98],[98]]=A15 at t15 h15'
   simp![t20,h20',r5,t15,h15',l15,q15])).trans ?_
  simp![hask,hfin]
 simp[g_law,grd,ownsIn,fnD,List.replicate,hb,back,flatO,lift,R.bind]
end
end K34
namespace K34
open PySem PySem.Spec PyProof.Rows L2 Pu Sh
def excChk(K:PySem.W.Frag)(a:Ad):Bool:=PySem.W.excIn K a.SlitError veB "ValueError.__new__" && (clsL a).all (fun x=>PySem.W.excIn K x veB "ValueError.__new__" && subB K a.SlitError x && excKB K x && (clsL a).all (fun d=>PySem.W.kitOne K (.ref x) (.ref d) == some (x == d)) && PySem.W.kitOne K (.ref x) (.type "ValueError") == some true) && noList K && decide (clsL a).Nodup
section
variable{K:PySem.W.Frag}{h base:Heap}{mg:Str→Option Value}{a:Ad}
theorem chk_all(h:excChk K a=true):PySem.W.excIn K a.SlitError veB "ValueError.__new__" = true∧(∀ x∈clsL a,PySem.W.excIn K x veB "ValueError.__new__" = true∧subB K a.SlitError x=true∧excKB K x=true∧(∀ d∈clsL a,PySem.W.kitOne K (.ref x) (.ref d)=some (x == d))∧PySem.W.kitOne K (.ref x) (.type "ValueError")=some true)∧noList K=true∧(clsL a).Nodup:=by
 unfold excChk at h
 simp only[Bool.and_eq_true,List.all_eq_true,beq_iff_eq,decide_eq_true_eq]at h
 obtain⟨⟨⟨h1,h2⟩,h3⟩,h4⟩:=h
 exact⟨h1,fun x hx=>⟨(h2 x hx).1.1.1.1,(h2 x hx).1.1.1.2,(h2 x hx).1.1.2,(h2 x hx).1.2,(h2 x hx).2⟩,h3,h4⟩
theorem tab_ok(h:excChk K a=true):TabOk K (tabE a):=by
 obtain⟨_,h2,_,_⟩:=chk_all h
 intro c D b e
 unfold tabE at e
 split at e
 ·rename_i x d
  split at e
  ·rename_i hc
   rw[Bool.and_eq_true]at hc
   cases e
   have hx:x∈clsL a:=by simpa using hc.1
   have hd:d∈clsL a:=by simpa using hc.2
   exact⟨x,.ref d,rfl,excK_of (h2 x hx).2.2.1,rfl,(h2 x hx).2.2.2.1 d hd⟩
  ·cases e
 ·rename_i x T
  split at e
  ·rename_i hc
   rw[Bool.and_eq_true]at hc
   cases e
   have hx:x∈clsL a:=by simpa using hc.1
   have hT:T = "ValueError":=by simpa using hc.2
   subst hT
   exact⟨x,.type "ValueError",rfl,excK_of (h2 x hx).2.2.1,rfl,(h2 x hx).2.2.2.2⟩
  ·cases e
 ·cases e
theorem und_ok(X:K.In base)(h:excChk K a=true):∀ c,caughtE a c=true→Under base a.SlitError c:=by
 obtain⟨_,h2,_,_⟩:=chk_all h
 intro c e
 unfold caughtE at e
 split at e
 ·rename_i x
  have hx:x∈clsL a:=by simpa using e
  exact und_at_in X (h2 x hx).1 (h2 x hx).2.1
 ·cases e
structure Top(K:PySem.W.Frag)(a:Ad):Prop where
 t_Seeker_left:MtD K a.Seeker "left" "Seeker.left" s_Seeker_left
 i_Seeker_init:MkD K a.Seeker "Seeker.__init__" s_Seeker_init
 k_Seeker:Cls K a.Seeker
 na_Seeker_having:NoAttr K a.Seeker "having"
 na_Seeker_answers:NoAttr K a.Seeker "answers"
 d_wall:Def0 K "_wall" s_wall
 d_has_only:Def0 K "has_only" s_has_only
 d_is_whole_number:Def0 K "is_whole_number" s_is_whole_number
 d_is_width:Def0 K "is_width" s_is_width
 d_is_window:Def0 K "is_window" s_is_window
 d_are_windows:Def0 K "are_windows" s_are_windows
 d_is_view_with:Def0 K "is_view_with" s_is_view_with
 d_is_view:Def0 K "is_view" s_is_view
 d_check_view:Def0 K "check_view" s_check_view
 d_counted:Def0 K "counted" s_counted
 d_add_endings:Def0 K "add_endings" s_add_endings
 d_texts:Def0 K "texts" s_texts
 d_with_letter:Def0 K "with_letter" s_with_letter
 d_law_cell_at:Def0 K "_law_cell_at" s_law_cell_at
 d_law_mixed:Def0 K "_law_mixed" s_law_mixed
 d_law_draw:Def0 K "_law_draw" s_law_draw
 d_law_pick:Def0 K "_law_pick" s_law_pick
 d_law_odd:Def0 K "_law_odd" s_law_odd
 d_law_text:Def0 K "_law_text" s_law_text
 d_law_seen:Def0 K "_law_seen" s_law_seen
 d_law_view:Def0 K "_law_view" s_law_view
 d_law_under:Def0 K "_law_under" s_law_under
 d_law_all:Def0 K "_law_all" s_law_all
 d_law_which:Def0 K "_law_which" s_law_which
 d_law_ask:Def0 K "_law_ask" s_law_ask
 d_law:Def0 K "law" s_law
 m_ValueError:PySem.W.nsIn K mainGlobals "ValueError" = some none
 m_all:PySem.W.nsIn K mainGlobals "all" = some none
 m_any:PySem.W.nsIn K mainGlobals "any" = some none
 m_bool:PySem.W.nsIn K mainGlobals "bool" = some none
 m_int:PySem.W.nsIn K mainGlobals "int" = some none
 m_isinstance:PySem.W.nsIn K mainGlobals "isinstance" = some none
 m_len:PySem.W.nsIn K mainGlobals "len" = some none
 m_list:PySem.W.nsIn K mainGlobals "list" = some none
 m_range:PySem.W.nsIn K mainGlobals "range" = some none
 m_set:PySem.W.nsIn K mainGlobals "set" = some none
 m_sorted:PySem.W.nsIn K mainGlobals "sorted" = some none
 m_str:PySem.W.nsIn K mainGlobals "str" = some none
 m_tuple:PySem.W.nsIn K mainGlobals "tuple" = some none
 v_LETTERS:∃ t,PySem.W.nsIn K mainGlobals "LETTERS" = some (some (.str (tS [97,98,99]) t))
 v_MOST_TEXTS:∃ t,PySem.W.nsIn K mainGlobals "MOST_TEXTS" = some (some (.int 16 t))
 v_MOST_WINDOWS:∃ t,PySem.W.nsIn K mainGlobals "MOST_WINDOWS" = some (some (.int 9 t))
 v_WIDEST:∃ t,PySem.W.nsIn K mainGlobals "WIDEST" = some (some (.int 4 t))
 c_SlitError:PySem.W.nsIn K mainGlobals "SlitError" = some (some (.ref a.SlitError))
 c_NoText:PySem.W.nsIn K mainGlobals "NoText" = some (some (.ref a.NoText))
 c_NoWidth:PySem.W.nsIn K mainGlobals "NoWidth" = some (some (.ref a.NoWidth))
 c_NoView:PySem.W.nsIn K mainGlobals "NoView" = some (some (.ref a.NoView))
 c_NoWindow:PySem.W.nsIn K mainGlobals "NoWindow" = some (some (.ref a.NoWindow))
 c_Never:PySem.W.nsIn K mainGlobals "Never" = some (some (.ref a.Never))
 c_Full:PySem.W.nsIn K mainGlobals "Full" = some (some (.ref a.Full))
 c_Nothing:PySem.W.nsIn K mainGlobals "Nothing" = some (some (.ref a.Nothing))
 c_Unlike:PySem.W.nsIn K mainGlobals "Unlike" = some (some (.ref a.Unlike))
 c_NoPlace:PySem.W.nsIn K mainGlobals "NoPlace" = some (some (.ref a.NoPlace))
 c_NoLetters:PySem.W.nsIn K mainGlobals "NoLetters" = some (some (.ref a.NoLetters))
 c_BadText:PySem.W.nsIn K mainGlobals "BadText" = some (some (.ref a.BadText))
 c_Seeker:PySem.W.nsIn K mainGlobals "Seeker" = some (some (.ref a.Seeker))
 ck:excChk K a=true
 wh:Wh a
theorem facts_of(T:Top K a)(X:K.In base)(G:base.Ns mainGlobals mg):Facts K mg base a where
 t_Seeker_left:=T.t_Seeker_left
 i_Seeker_init:=T.i_Seeker_init
 k_Seeker:=T.k_Seeker
 na_Seeker_having:=T.na_Seeker_having
 na_Seeker_answers:=T.na_Seeker_answers
 d_wall:=T.d_wall.at X G
 d_has_only:=T.d_has_only.at X G
 d_is_whole_number:=T.d_is_whole_number.at X G
 d_is_width:=T.d_is_width.at X G
 d_is_window:=T.d_is_window.at X G
 d_are_windows:=T.d_are_windows.at X G
 d_is_view_with:=T.d_is_view_with.at X G
 d_is_view:=T.d_is_view.at X G
 d_check_view:=T.d_check_view.at X G
 d_counted:=T.d_counted.at X G
 d_add_endings:=T.d_add_endings.at X G
 d_texts:=T.d_texts.at X G
 d_with_letter:=T.d_with_letter.at X G
 d_law_cell_at:=T.d_law_cell_at.at X G
 d_law_mixed:=T.d_law_mixed.at X G
 d_law_draw:=T.d_law_draw.at X G
 d_law_pick:=T.d_law_pick.at X G
 d_law_odd:=T.d_law_odd.at X G
 d_law_text:=T.d_law_text.at X G
 d_law_seen:=T.d_law_seen.at X G
 d_law_view:=T.d_law_view.at X G
 d_law_under:=T.d_law_under.at X G
 d_law_all:=T.d_law_all.at X G
 d_law_which:=T.d_law_which.at X G
 d_law_ask:=T.d_law_ask.at X G
 d_law:=T.d_law.at X G
 m_ValueError:=PySem.W.mg_none_of X G T.m_ValueError
 m_all:=PySem.W.mg_none_of X G T.m_all
 m_any:=PySem.W.mg_none_of X G T.m_any
 m_bool:=PySem.W.mg_none_of X G T.m_bool
 m_int:=PySem.W.mg_none_of X G T.m_int
 m_isinstance:=PySem.W.mg_none_of X G T.m_isinstance
 m_len:=PySem.W.mg_none_of X G T.m_len
 m_list:=PySem.W.mg_none_of X G T.m_list
 m_range:=PySem.W.mg_none_of X G T.m_range
 m_set:=PySem.W.mg_none_of X G T.m_set
 m_sorted:=PySem.W.mg_none_of X G T.m_sorted
 m_str:=PySem.W.mg_none_of X G T.m_str
 m_tuple:=PySem.W.mg_none_of X G T.m_tuple
 v_LETTERS:=T.v_LETTERS.imp fun _ e=>PySem.W.mg_of X G e
 v_MOST_TEXTS:=T.v_MOST_TEXTS.imp fun _ e=>PySem.W.mg_of X G e
 v_MOST_WINDOWS:=T.v_MOST_WINDOWS.imp fun _ e=>PySem.W.mg_of X G e
 v_WIDEST:=T.v_WIDEST.imp fun _ e=>PySem.W.mg_of X G e
 c_SlitError:=PySem.W.mg_of X G T.c_SlitError
 c_NoText:=PySem.W.mg_of X G T.c_NoText
 c_NoWidth:=PySem.W.mg_of X G T.c_NoWidth
 c_NoView:=PySem.W.mg_of X G T.c_NoView
 c_NoWindow:=PySem.W.mg_of X G T.c_NoWindow
 c_Never:=PySem.W.mg_of X G T.c_Never
 c_Full:=PySem.W.mg_of X G T.c_Full
 c_Nothing:=PySem.W.mg_of X G T.c_Nothing
 c_Unlike:=PySem.W.mg_of X G T.c_Unlike
 c_NoPlace:=PySem.W.mg_of X G T.c_NoPlace
 c_NoLetters:=PySem.W.mg_of X G T.c_NoLetters
 c_BadText:=PySem.W.mg_of X G T.c_BadText
 c_Seeker:=PySem.W.mg_of X G T.c_Seeker
 o_NoView:=own_at_in X (PySem.W.mg_of X G T.c_NoView) ((chk_all T.ck).2.1 a.NoView (by simp[clsL])).1
 o_Never:=own_at_in X (PySem.W.mg_of X G T.c_Never) ((chk_all T.ck).2.1 a.Never (by simp[clsL])).1
 o_Full:=own_at_in X (PySem.W.mg_of X G T.c_Full) ((chk_all T.ck).2.1 a.Full (by simp[clsL])).1
 err_SlitError:=err_at_in X (chk_all T.ck).1
 und:=und_ok X T.ck
 tab:=tab_ok T.ck
theorem all_mk{l:PySem.W.OpenLaw}{w:World}{fa:Addr}(X:K.In h)(G:h.Ns mainGlobals mg)(hfa:mg "law" = some (.ref fa))(T:Top K a) :
  ∃ fd:FuncData,(∀ (s:Shared) (v:Value),BindsTo s fd ⟨[v],[]⟩ [("_law_script",v)])∧∀ base:Heap,K.In base→base.Ns mainGlobals mg→FnOk l.prog w K mg base (CXE l.prog w) 18 fa fd ["_law_script"] (spG K (g_law a)):=by
 obtain⟨f,oc,od,kV,dc,pm,an,cd,ct,sl,e1,e2,e3,e4⟩:=T.d_law
 have e:=hfa.symm.trans (PySem.W.mg_of X G e1)
 cases e
 exact⟨_,fun s v=>.of_eq rfl,fun base XB GB=>f_law (facts_of T XB GB) (fun_mk e2 e3 e4)⟩
theorem walk{l:PySem.W.OpenLaw}{q:Program}{loose:List Str}{XP:(Str→Option Value)→Heap→Prop}{YP:World→Heap→Prop}{d:DefRec}{K:Params→PySem.W.Frag}(hn:l.most=some 63)(hdf:d.params.defaults=[])(hnm:d.name = "law")
  (hY:∀ (w:World) (h:Heap),YP w h→(K w.params).In h) {a:Ad} (T:∀ w:World,Top (K w.params) a):PySem.W.WalkO q loose XP YP l.row.toRowW d [] (fun f vs=>PySem.call f vs) :=
 L2.walk_of (n:=63) (k:=18) (x:="_law_script") (K:=K) (CX:=fun w=>CXE l.prog w) (sp:=fun w=>spG (K w.params) (g_law a)) hn (by decide) hdf ⟨rfl,by decide,by decide⟩ hY
  (fun w mg fa h KX G hmg=>all_mk KX G (by rw[← hnm]; exact hmg) (T w))
  (fun w H b ns hl _ hS=>spG_script (noList_rd (chk_all (T w).ck).2.2.1 hS) (law_eq (T w).wh ns))
  (fun w H s e s' z=>by obtain⟨_,_,_,_,_,_,_,_,_,_,_,f⟩:=z; exact f)
theorem walk_at{l:PySem.W.OpenLaw}{q:Program}{loose:List Str}{XP:(Str→Option Value)→Heap→Prop}{YP:World→Heap→Prop}{d:DefRec}{K:Params→PySem.W.Frag}{c_SlitError c_NoText c_NoWidth c_NoView c_NoWindow c_Never c_Full c_Nothing c_Unlike c_NoPlace c_NoLetters c_BadText c_Seeker:Addr}(hn:l.most=some 63)(hdf:d.params.defaults=[])(hnm:d.name = "law")
  (hY:∀ (w:World) (h:Heap),YP w h→(K w.params).In h) (T:∀ w:World,Top (K w.params) ⟨c_SlitError,c_NoText,c_NoWidth,c_NoView,c_NoWindow,c_Never,c_Full,c_Nothing,c_Unlike,c_NoPlace,c_NoLetters,c_BadText,c_Seeker,0⟩):PySem.W.WalkO q loose XP YP l.row.toRowW d [] (fun f vs=>PySem.call f vs):=walk hn hdf hnm hY T
end
end K34
noncomputable def PySem.W.Fast.tw6199851076644559348:Nat:=0
noncomputable def PySem.W.Fast.tw15323503478557275457:Nat:=0
noncomputable def PySem.W.Fast.tw2885223989817773731:Nat:=0
noncomputable def PySem.W.Fast.tw9482829773657373069:Nat:=0
noncomputable def PySem.W.Fast.tw13136476004109771957:Nat:=0
noncomputable def PySem.W.Fast.tw14245957822869506236:Nat:=0
noncomputable def PySem.W.Fast.tw576106455779523363:Nat:=0
noncomputable def PySem.W.Fast.tw17991474755491512535:Nat:=0
noncomputable def PySem.W.Fast.tw14052159611095194990:Nat:=0
noncomputable def PySem.W.Fast.tw1480212484524810095:Nat:=0
noncomputable def PySem.W.Fast.tw1118876675330631553:Nat:=0
noncomputable def PySem.W.Fast.tw637116245002050141:Nat:=0
noncomputable def PySem.W.Fast.tw9838807418002878965:Nat:=0
noncomputable def PySem.W.Fast.tw6802199382049769743:Nat:=0
noncomputable def PySem.W.Fast.tw18259336977541465096:Nat:=0
noncomputable def PySem.W.Fast.tw15031585113666421817:Nat:=0
noncomputable def PySem.W.Fast.tw11561854642757120165:Nat:=0
noncomputable def PySem.W.Fast.tw5447942892390079605:Nat:=0
noncomputable def PySem.W.Fast.tw8568171087739525228:Nat:=0
noncomputable def PySem.W.Fast.tw16786059182480812977:Nat:=0
noncomputable def PySem.W.Fast.tw15099102937370044351:Nat:=0
noncomputable def PySem.W.Fast.tw16924726091409683916:Nat:=0
noncomputable def PySem.W.Fast.tw434788920579129598:Nat:=0
noncomputable def PySem.W.Fast.tw7609018448317288634:Nat:=0
noncomputable def PySem.W.Fast.tw10118357334886342178:Nat:=0
noncomputable def PySem.W.Fast.tw14133425079619908020:Nat:=0
noncomputable def PySem.W.Fast.tw1735673708733314314:Nat:=0
noncomputable def PySem.W.Fast.tw16726120002664368544:Nat:=0
noncomputable def PySem.W.Fast.tw8791398337517707235:Nat:=0
noncomputable def PySem.W.Fast.tw17049883538308307707:Nat:=0
noncomputable def PySem.W.Fast.tw18434496513779257026:Nat:=0
noncomputable def PySem.W.Fast.tw198249448374169087:Nat:=0
noncomputable def PySem.W.Fast.tw1465690873179349123:Nat:=0
noncomputable def PySem.W.Fast.tw5877084975254150113:Nat:=0
noncomputable def PySem.W.Fast.tw12322319123340596323:Nat:=0
noncomputable def PySem.W.Fast.tw6331817781500471259:Nat:=0
noncomputable def PySem.W.Fast.tw11302832633162489880:Nat:=0
noncomputable def PySem.W.Fast.tw3143124803867107498:Nat:=0
noncomputable def PySem.W.Fast.tw15100710470625065382:Nat:=0
noncomputable def PySem.W.Fast.tw7627500592229200687:Nat:=0
noncomputable def PySem.W.Fast.tw944411692259037667:Nat:=0
noncomputable def PySem.W.Fast.tw2293440323091277787:Nat:=0
noncomputable def PySem.W.Fast.tw3010051718174459828:Nat:=0
open PySem PySem.W PyProof.Rows
set_option maxRecDepth 100000 in
set_option maxHeartbeats 0 in
theorem PySem.Challenge.cw_slitview_k34_seekers_refused_holds : PySem.Challenge.rw_slitview_k34_seekers_refused.Holds := by
 w_on; o_law; k_head; (case hw=>w_witness2)
 k_fill
 refine' K34.walk_at (l:=PySem.Challenge.rw_slitview_k34_seekers_refused) rfl rfl rfl (fun w h Y=>PySem.W.kIn_of Y) ?T
 case T =>
  intro w
  refine' { t_Seeker_left:=?t_Seeker_left,i_Seeker_init:=?i_Seeker_init,k_Seeker:=?k_Seeker,na_Seeker_having:=?na_Seeker_having,na_Seeker_answers:=?na_Seeker_answers,d_wall:=?d_wall,d_has_only:=?d_has_only,d_is_whole_number:=?d_is_whole_number,d_is_width:=?d_is_width,d_is_window:=?d_is_window,d_are_windows:=?d_are_windows,d_is_view_with:=?d_is_view_with,d_is_view:=?d_is_view,d_check_view:=?d_check_view,d_counted:=?d_counted,d_add_endings:=?d_add_endings,d_texts:=?d_texts,d_with_letter:=?d_with_letter,d_law_cell_at:=?d_law_cell_at,d_law_mixed:=?d_law_mixed,d_law_draw:=?d_law_draw,d_law_pick:=?d_law_pick,d_law_odd:=?d_law_odd,d_law_text:=?d_law_text,d_law_seen:=?d_law_seen,d_law_view:=?d_law_view,d_law_under:=?d_law_under,d_law_all:=?d_law_all,d_law_which:=?d_law_which,d_law_ask:=?d_law_ask,d_law:=?d_law,m_ValueError:=?m_ValueError,m_all:=?m_all,m_any:=?m_any,m_bool:=?m_bool,m_int:=?m_int,m_isinstance:=?m_isinstance,m_len:=?m_len,m_list:=?m_list,m_range:=?m_range,m_set:=?m_set,m_sorted:=?m_sorted,m_str:=?m_str,m_tuple:=?m_tuple,v_LETTERS:=?v_LETTERS,v_MOST_TEXTS:=?v_MOST_TEXTS,v_MOST_WINDOWS:=?v_MOST_WINDOWS,v_WIDEST:=?v_WIDEST,c_SlitError:=?c_SlitError,c_NoText:=?c_NoText,c_NoWidth:=?c_NoWidth,c_NoView:=?c_NoView,c_NoWindow:=?c_NoWindow,c_Never:=?c_Never,c_Full:=?c_Full,c_Nothing:=?c_Nothing,c_Unlike:=?c_Unlike,c_NoPlace:=?c_NoPlace,c_NoLetters:=?c_NoLetters,c_BadText:=?c_BadText,c_Seeker:=?c_Seeker,ck:=?ck,wh:=?wh }
  (case c_SlitError=>k_is)
  (case c_NoText=>k_is)
  (case c_NoWidth=>k_is)
  (case c_NoView=>k_is)
  (case c_NoWindow=>k_is)
  (case c_Never=>k_is)
  (case c_Full=>k_is)
  (case c_Nothing=>k_is)
  (case c_Unlike=>k_is)
  (case c_NoPlace=>k_is)
  (case c_NoLetters=>k_is)
  (case c_BadText=>k_is)
  (case c_Seeker=>k_is)
  (case t_Seeker_left=>refine' Pu.mtd_mk ?yi ?yn ?yl ?yc ?yk; (case yi=>k_is); (case yn=>k_is); (case yl=>k_is); (case yc=>k_is); (case yk=>k_is))
  (case i_Seeker_init=>refine' Pu.mkd_mk ?zm ?zi ?zn ?zp ?zl ?zc ?zk; (case zm=>k_is); (case zi=>k_is); (case zn=>k_is); (case zp=>k_is); (case zl=>k_is); (case zc=>k_is); (case zk=>k_is))
  (case k_Seeker=>refine' L2.Cls.mk ?xp ?xh ?xo ?xs; (case xp=>k_is); (case xh=>k_is); (case xo=>k_is); (case xs=>k_is))
  (case na_Seeker_having=>unfold L2.NoAttr; k_is)
  (case na_Seeker_answers=>unfold L2.NoAttr; k_is)
  (case d_wall=>refine' Pu.def0_mk ?a ?l ?c ?k; (case a=>k_is); (case l=>k_is); (case c=>k_is); (case k=>k_is))
  (case d_has_only=>refine' Pu.def0_mk ?a ?l ?c ?k; (case a=>k_is); (case l=>k_is); (case c=>k_is); (case k=>k_is))
  (case d_is_whole_number=>refine' Pu.def0_mk ?a ?l ?c ?k; (case a=>k_is); (case l=>k_is); (case c=>k_is); (case k=>k_is))
  (case d_is_width=>refine' Pu.def0_mk ?a ?l ?c ?k; (case a=>k_is); (case l=>k_is); (case c=>k_is); (case k=>k_is))
  (case d_is_window=>refine' Pu.def0_mk ?a ?l ?c ?k; (case a=>k_is); (case l=>k_is); (case c=>k_is); (case k=>k_is))
  (case d_are_windows=>refine' Pu.def0_mk ?a ?l ?c ?k; (case a=>k_is); (case l=>k_is); (case c=>k_is); (case k=>k_is))
  (case d_is_view_with=>refine' Pu.def0_mk ?a ?l ?c ?k; (case a=>k_is); (case l=>k_is); (case c=>k_is); (case k=>k_is))
  (case d_is_view=>refine' Pu.def0_mk ?a ?l ?c ?k; (case a=>k_is); (case l=>k_is); (case c=>k_is); (case k=>k_is))
  (case d_check_view=>refine' Pu.def0_mk ?a ?l ?c ?k; (case a=>k_is); (case l=>k_is); (case c=>k_is); (case k=>k_is))
  (case d_counted=>refine' Pu.def0_mk ?a ?l ?c ?k; (case a=>k_is); (case l=>k_is); (case c=>k_is); (case k=>k_is))
  (case d_add_endings=>refine' Pu.def0_mk ?a ?l ?c ?k; (case a=>k_is); (case l=>k_is); (case c=>k_is); (case k=>k_is))
  (case d_texts=>refine' Pu.def0_mk ?a ?l ?c ?k; (case a=>k_is); (case l=>k_is); (case c=>k_is); (case k=>k_is))
  (case d_with_letter=>refine' Pu.def0_mk ?a ?l ?c ?k; (case a=>k_is); (case l=>k_is); (case c=>k_is); (case k=>k_is))
  (case d_law_cell_at=>refine' Pu.def0_mk ?a ?l ?c ?k; (case a=>k_is); (case l=>k_is); (case c=>k_is); (case k=>k_is))
  (case d_law_mixed=>refine' Pu.def0_mk ?a ?l ?c ?k; (case a=>k_is); (case l=>k_is); (case c=>k_is); (case k=>k_is))
  (case d_law_draw=>refine' Pu.def0_mk ?a ?l ?c ?k; (case a=>k_is); (case l=>k_is); (case c=>k_is); (case k=>k_is))
  (case d_law_pick=>refine' Pu.def0_mk ?a ?l ?c ?k; (case a=>k_is); (case l=>k_is); (case c=>k_is); (case k=>k_is))
  (case d_law_odd=>refine' Pu.def0_mk ?a ?l ?c ?k; (case a=>k_is); (case l=>k_is); (case c=>k_is); (case k=>k_is))
  (case d_law_text=>refine' Pu.def0_mk ?a ?l ?c ?k; (case a=>k_is); (case l=>k_is); (case c=>k_is); (case k=>k_is))
  (case d_law_seen=>refine' Pu.def0_mk ?a ?l ?c ?k; (case a=>k_is); (case l=>k_is); (case c=>k_is); (case k=>k_is))
  (case d_law_view=>refine' Pu.def0_mk ?a ?l ?c ?k; (case a=>k_is); (case l=>k_is); (case c=>k_is); (case k=>k_is))
  (case d_law_under=>refine' Pu.def0_mk ?a ?l ?c ?k; (case a=>k_is); (case l=>k_is); (case c=>k_is); (case k=>k_is))
  (case d_law_all=>refine' Pu.def0_mk ?a ?l ?c ?k; (case a=>k_is); (case l=>k_is); (case c=>k_is); (case k=>k_is))
  (case d_law_which=>refine' Pu.def0_mk ?a ?l ?c ?k; (case a=>k_is); (case l=>k_is); (case c=>k_is); (case k=>k_is))
  (case d_law_ask=>refine' Pu.def0_mk ?a ?l ?c ?k; (case a=>k_is); (case l=>k_is); (case c=>k_is); (case k=>k_is))
  (case d_law=>refine' Pu.def0_mk ?a ?l ?c ?k; (case a=>k_is); (case l=>k_is); (case c=>k_is); (case k=>k_is))
  (case m_ValueError=>k_is)
  (case m_all=>k_is)
  (case m_any=>k_is)
  (case m_bool=>k_is)
  (case m_int=>k_is)
  (case m_isinstance=>k_is)
  (case m_len=>k_is)
  (case m_list=>k_is)
  (case m_range=>k_is)
  (case m_set=>k_is)
  (case m_sorted=>k_is)
  (case m_str=>k_is)
  (case m_tuple=>k_is)
  (case v_LETTERS=>refine' Pu.vs_mk ?e; (case e=>k_is))
  (case v_MOST_TEXTS=>refine' Pu.vi_mk ?e; (case e=>k_is))
  (case v_MOST_WINDOWS=>refine' Pu.vi_mk ?e; (case e=>k_is))
  (case v_WIDEST=>refine' Pu.vi_mk ?e; (case e=>k_is))
  (case ck=>kernel_rfl)
  (case wh=>refine K34.wh_mk ?_; kernel_rfl)
