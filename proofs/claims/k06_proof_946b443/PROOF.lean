import PyProof.Rows.All
import Wide.All
import OpenK.AllK
import Wide.FinOn
import Lean
import PyProof.EqAt
import PyProof.EqKinds
import PyProof.TupleCall
import KE.KIntText
import KE.KDictList
import KE.KDictSum
import PyProof.Rows.Range3
import PyProof.DictWalks
import KE.KMinKey
import KE.KSortTup
import PyProof.EnumStmt
import PyProof.EnumMake
import PyProof.EnumFor
import PySem.Challenge.RW_slitview_k06_whole_slits
noncomputable section
set_option compiler.extract_closed false
local macro_rules | `(∅) => `(by first | lia | omega)
set_option Elab.async false
set_option bootstrap.genMatcherCode false
set_option genSizeOf false
set_option linter.all false
set_option maxRecDepth 100000
local macro_rules | `(tactic| ac_nf) => `(tactic| exact ⟨rfl,rfl,rfl,by decide +kernel,rfl,by decide +kernel,by decide +kernel⟩)
open Option renaming some→aa,none→af,bind_some→jj,map_some→uF,map_eq_some_iff→xH,isSome_iff_exists→A_,getD_none→GO,isSome_map→GR,getD_some→Hj
open PySem renaming Addr→ac,Value→ai,Shared→am,wpAny→au,Expr→aw,wpAny_bind→ax,model→aB,Heap→aE,eval→aG,starEach→aH,World→aP,Stmt→aR,wpAny_pure→aV,Around→a6,Program→ba,sizeLine→bn,backTo→bU,mainGlobals→b9,Scope→dO,wpAny_mono→d5,compareOp→d7,bootBuiltins→eE,rawInt→eL,bindArgs→eV,attributeBase→e9,cellsFrom→fK,FuncData→gn,NameKind→gI,swapsWith→ik,Keyword→im,SetTable→jx,strKind→jy,binaryOp→jT,codeAny→jU,backToKw→jW,keywordEach→jX,mem_of_lookup→kC,Paired→lj,sysModules→mf,isTrue→mj,behindInMarks→ml,IsPart→mx,wpAny_newObj_type→mz,setNext→mE,setField→mF,wpAny_truthy_bool→nN,pyIter→nO,foldedSetIterable→nP,sizeLine_eq→nQ,codeAny_mono→nV,builtinsNs→pr,holding→pA,wpAny_field→pD,getItem→pE,wpAny_holding→pF,wpAny_passesOwn→rq,sliceBounds→rF,valueAt→rG,callerA→rJ,relayAll→rK,wpAny_setState_of→rL,wpAny_askSetting→rN,wpAny_setField→rO,tupleKind→uk,assignEach→ur,getMethod→uu,wpAny_call→uw,call_meets→uy,lookup_relabel_local→uA,codeAny_builtin→uD,pickOrder→uE,wpAny_Call_Name_kw→xD,wpAny_call_entry→xE,setsByText→xO,wpAny_ite_split→xP,setFlight→xR,wpAny_execs_nil→A1,PassesOwn→A3,letOwnedTupleGo→A4,subscripted→Bc,tupleKind_room_in1→Bh,plainId_quiet→Bp,excClassObj→Bs,Within→Gz,wpAny_execs_cons→GC,wpAny_pyIter_list→GT,checkBuiltinCall→GZ,wpAny_loadPart_at→G8
open Bool renaming true→ah,false→aj,and_eq_true→fq,false_ne_true→fV,false_xor→kE,eq_iff_iff→mn,false_eq_true→xM,true_and→Bm,or_eq_true→Bn,eq_false_iff→G9
open PySem.W renaming Frag→aq,nsIn→cY,fnOf→fk,mg_of→gv,kitOne→gH,findIn→il,mg_none_of→jA,keepIn→jV,kia_one→kB,emptyDict→nR,excIn→n6,instObj→pq,tabIn→pt,codeIn→pC,InstAt→ut,isFn→xA,mroIn→xC,lookIn→A5,plainGet→A6,callWith_K→A8,OpenLaw→Bi,clsIn→Bt,methodObj→GA,hasDictIn→GG,plainGet_of→GH,looks_findIn→GI,specialIn→GJ,methodCall_KW→GL,cellsFrom_some→GM
open Nat renaming le_refl→bt,ne_of_lt→dr,le_trans→dP,lt_irrefl→fj,lt_of_lt_of_le→gG,lt_succ_self→kA,zero_add→kD,le_of_eq→mq,zero_le→mr,lt_succ_of_lt→mD,le_of_lt→pw,ne_of_gt→pB,le_succ→rA,add_right_comm→uH,add_assoc→uI,lt_trans→Bg,lt_of_le_of_lt→Bj,eq_zero_or_pos→Hm
open List renaming replicate→bG,mem_cons→bQ,getElem?_set_ne→cu,getElem?_eq_some_iff→cO,getElem?_set_self→cP,map_cons→cQ,mem_map→cR,range→cW,size_toArray→cX,length_map→c9,length_append→dI,length_cons→eF,getElem?_eq_getElem→fL,map_map→fM,append_nil→gq,length_set→gK,mem_append_right→iR,getElem?_append_left→iS,getElem?_map→iT,append_assoc→iU,not_mem_nil→iV,lookup→jh,lookup_cons→ji,mem_cons_of_mem→jw,nil_append→jz,nodup_cons→jY,find?_cons→jZ,map_congr_left→j0,sum_cons→j2,mem_filter→lm,mem_cons_self→mi,length→mv,length_drop→my,all_eq_true→mC,mem_singleton→mG,mem_append→nM,replicate_succ→nW,length_nil→nX,foldl_cons→nY,length_eq_zero_iff→n8,dropLast→n_,all_cons→pG,any_cons→pH,length_singleton→pJ,map_append→pK,take_of_length_le→pL,getElem?_eq_none→pN,length_take→rD,getElem?_append_right→rE,map_nil→rH,flatMap_cons→rP,filter_cons→rQ,any_eq_true→rR,mem_range→ul,filterMap_cons→um,mem_append_left→uo,lookup_append→uz,all_map→uB,range_succ→uC,filter_eq_self→uJ,length_dropLast→xG,take_append_drop→xI,eq_nil_of_length_eq_zero→xK,ext_getElem?→xQ,filter_map→xU,length_filter_le→xV,of_mem_zip→A9,flatten_cons→Bf,drop_append_of_le_length→Bk,range_succ_eq_map→Bl,cons_append→Bu,length_erase_of_mem→Bv,length_pos_iff→Bw,mem_map_of_mem→By,any_eq_false→GF,length_range→GU,toList_toArray→GW,getElem_mem→GX,nodup_append→G2,getElem?_drop→G3,drop_eq_getElem_cons→G4,drop_length→G5,dropLast_concat_getLast→G_,flatMap_nil→Ha,filter_append→Hb,take_append_of_le_length→Hc,filter_flatMap→Hd,count_eq_zero_of_not_mem→He,count_append→Hf,isEmpty_nil→Hg,drop_of_length_le→Hi,flatMap_append→Hk,dropLast_eq_take→Hl,findIdx?_eq_some_iff_getElem→QW
open PySem.Heap renaming lt_size→bN,get?_push_of_some→bV,get?_push_size→dq,SameBut→ku,get?_update_other→pI,get?_update_self→pM,size_push→uv,get?_none_of_le→A0
open PySem.Str renaming ofString→cI,empty→kx
open Ne renaming symm→c8
open Option.some renaming inj→fi
open False renaming elim→fW
open PyProof.Rows renaming envOfC→gu,StrsAre→gJ,size_push'→j1,AllBare→mh,callWith_type1→GD,slot_tuple_getitem→QV
open PySem.PassesOwn renaming never→iW
open Int renaming toNat_natCast→mw,emod_lt_of_pos→Hh
open PySem.Obj renaming mapFields→mH,mapSeq→ux,data_mapFields→uG,isFreed_of_fields→Br
open Iff renaming rfl→nZ
open PySem.F renaming plainAttrs_list→pO,excBase_ValueError→xT,slot_dict_get→GS,slot_list_append→G6,type_list_append→G7
open Function renaming comp→pP
open List.cons renaming injEq→pQ
open PySem.SetTable renaming grown→rM,below→QY
open PySem.Value renaming isStrOf→uj
open Array renaming length_toList→uq,getElem?_eq_some_iff→xJ,getElem?_eq_getElem→Bq,getElem?_toList→GQ
open PySem.SeqAt renaming EqAt→xF
open PySem.Heap.SameBut renaming update→xL
open PySem.Around renaming under_plainId→xN
open Nat.succ renaming inj→xS
open PySem.Calls renaming spliced_cons→A7,callWith_builtin→Bd,evalArgs_plain→Be,spliced_nil→GK
open PySem.Builtin.Slice renaming slicePlaces→Ba,sliceAdjust→GN
open PySem.Builtin.Tuple renaming tupleExact→Bb
open List.Perm renaming refl→Bo,append_left→G0
open PySem.Builtin.Str renaming occurrences→GE
open PySem.Builtin.List renaming listTooLong→GP
open PyProof.Rows.F renaming plain_set_update_loop→GY,entry_set_update_loop→QX
open PySem.SetTable.below renaming go→G1
open Classical renaming byContradiction→Hn
open PySem PySem.Spec PyProof.Rows
namespace L2
abbrev aO:=Sum Int Str
def qG:aO->ai->Bool
 |.inl k,v=>Value.isInt k v
 |.inr x,v=>uj x v
def QE(w:aP):aO->Int
 |.inl k=>hashInt k
 |.inr x=>hashStr w x
theorem l7:∀{k:aO}{v:ai},qG k v=ah->(∃i t,k=Sum.inl i/\v=Value.int i t)\/(∃x t,k=Sum.inr x/\v=Value.str x t)
 |.inl i,v,h=>by obtain⟨t,e⟩:=Value.isInt_shape (k:=i) (v:=v) h;exact .inl ⟨i,t,rfl,e⟩
 |.inr x,v,h=>by obtain⟨t,e⟩:=Value.isStrOf_shape (x:=x) (v:=v) h;exact .inr ⟨x,t,rfl,e⟩
theorem IK(i:Int)(t:Tok):qG (.inl i) (.int i t)=ah:=by simp[qG,Value.isInt]
theorem N5(x:Str)(t:Tok):qG (.inr x) (.str x t)=ah:=by simp[qG,uj]
theorem Pz(a b:Int):decide ((Sum.inl a:aO)=Sum.inl b)=(a == b):=by
 by_cases e:a=b
 ·subst e;simp
 ·have h:¬(Sum.inl a:aO)=Sum.inl b:=λq=>e (Sum.inl.inj q);rw[decide_eq_false h];exact(beq_eq_false_iff_ne.mpr e).symm
theorem Qa(a b:Str):decide ((Sum.inr a:aO)=Sum.inr b)=decide (a=b):=by
 by_cases e:a=b
 ·subst e;simp
 ·have h:¬(Sum.inr a:aO)=Sum.inr b:=λq=>e (Sum.inr.inj q);rw[decide_eq_false h,decide_eq_false e]
theorem JX(a:Int)(b:Str):decide ((Sum.inl a:aO)=Sum.inr b)=aj:=decide_eq_false (λq=>nomatch q)
theorem Kj(a:Str)(b:Int):decide ((Sum.inr a:aO)=Sum.inl b)=aj:=decide_eq_false (λq=>nomatch q)
def gz(prog:ba)(w:aP):PySem.KeyKind prog w aO where
 is:=qG
 hash:=QE w
 inj:=λv a b ha hb=>by
  rcases l7 ha with⟨i,t,rfl,rfl⟩|⟨x,t,rfl,rfl⟩
  ·rcases l7 hb with⟨j,u,rfl,e⟩|⟨y,u,rfl,e⟩
   ·injection e with e1 _;rw[e1]
   ·exact nomatch e
  ·rcases l7 hb with⟨j,u,rfl,e⟩|⟨y,u,rfl,e⟩
   ·exact nomatch e
   ·injection e with e1 _;rw[e1]
 byValue:=λk v h=>by rcases l7 h with⟨i,t,rfl,rfl⟩|⟨x,t,rfl,rfl⟩ <;> rfl
 pyHash:=λhv h=>by
  rcases l7 hv with⟨i,t,rfl,rfl⟩|⟨x,t,rfl,rfl⟩
  ·exact wpAny_pyHash_int h
  ·exact wpAny_pyHash_str h
 eqBool:=λhu hv h=>by
  rcases l7 hu with⟨i,t,rfl,rfl⟩|⟨x,t,rfl,rfl⟩
  ·rcases l7 hv with⟨j,u,rfl,rfl⟩|⟨y,u,rfl,rfl⟩
   ·rw[Pz]at h;exact wpAny_eqBool_int h
   ·rw[JX]at h;exact SeqAt.EqAt.int_str i t y u _ _ _ _ h
  ·rcases l7 hv with⟨j,u,rfl,rfl⟩|⟨y,u,rfl,rfl⟩
   ·rw[Kj]at h;exact SeqAt.EqAt.str_int x t j u _ _ _ _ h
   ·rw[Qa]at h;exact wpAny_eqBool_str h
 «strs»:=λk x t v h=>by
  rcases l7 h with⟨i,u,rfl,e⟩|⟨y,u,rfl,e⟩
  ·exact nomatch e
  ·injection e with e1 _;subst e1;cases v <;> rfl
theorem HY(prog:ba)(w:aP)(i:Int)(t:Tok):(gz prog w).is (.inl i) (.int i t)=ah:=IK i t
theorem Kl(prog:ba)(w:aP)(x:Str)(t:Tok):(gz prog w).is (.inr x) (.str x t)=ah:=N5 x t
inductive V where
 |non|bl (b:Bool)|int (i:Int)|str (x:Str)|byt (b:Array UInt8)|flt (b:UInt64)|ref (a:ac)|ty (n:String)
 deriving DecidableEq
def RelV:V->ai->Prop
 |.non,u=>u=Value.none
 |.bl b,u=>u=Value.bool b
 |.int i,u=>∃t,u=Value.int i t
 |.str x,u=>∃t,u=Value.str x t
 |.byt b,u=>∃t,u=Value.bytes b t
 |.flt b,u=>∃t,u=Value.float b t
 |.ref a,u=>u=Value.ref a
 |.ty n,u=>u=Value.type n
abbrev bF:List V->List ai->Prop:=lj RelV
theorem bF.length{xs:List V}{us:List ai}(r:bF xs us):xs.length=us.length:=Paired.length r
theorem bF.get:∀{xs:List V}{us:List ai}{i:Nat}{x:V},bF xs us->xs[i]?=aa x->∃u,us[i]?=aa u/\RelV x u
 |_,_,_,_,.nil,e=>by simp at e
 |_,_,0,_,.cons r _,e=>by simp at e;subst e;exact⟨_,rfl,r⟩
 |_,_,i+1,x,.cons _ t,e=>by obtain⟨u,h1,h2⟩:=bF.get (i:=i) (x:=x) t (by simpa using e);exact⟨u,by simpa using h1,h2⟩
theorem bF.append:∀{xs ys:List V}{us ws:List ai},bF xs us->bF ys ws->bF (xs++ys) (us++ws)
 |_,_,_,_,.nil,s=>s
 |_,_,_,_,.cons r t,s=>.cons r (bF.append t s)
theorem bF.take:∀{xs:List V}{us:List ai} (n:Nat),bF xs us->bF (xs.take n) (us.take n)
 |_,_,0,_=>.nil
 |_,_,_+1,.nil=>.nil
 |_,_,n+1,.cons r t=>.cons r (bF.take n t)
theorem bF.drop:∀{xs:List V}{us:List ai} (n:Nat),bF xs us->bF (xs.drop n) (us.drop n)
 |_,_,0,r=>r
 |_,_,_+1,.nil=>.nil
 |_,_,n+1,.cons _ t=>bF.drop n t
def li:Option V->Option ai->Prop
 |some v,aa u=>RelV v u
 |none,af=>True
 |_,_=>False
def KV{κ:Type}:List (κ×V)->List (κ×ai)->Prop:=lj λ(p:κ×V) (q:κ×ai)=>p.1=q.1/\RelV p.2 q.2
def kV:aO->V
 |.inl i=>.int i
 |.inr x=>.str x
inductive HO where
 |lst (xs:List V)
 |tup (xs:List V)
 |dK (kvs:List (aO×V))|dT (kvs:List (List aO×V))
 |set (S:Int->Bool) (n:Nat)
 |ins (C dx:ac) (fs:List (Str×V))
 |own (x:ac)
 |xd (fs:List (Str×V))
 |met (f x:ac)
 |rng (lo hi:Int)
 |frz (o:Obj) (u:HO)
 |tbl (q:Str)
 |ext (φ:aE->Prop)
abbrev Hp:=ac->Option HO
def upd(H:Hp)(a:ac)(o:HO):Hp:=λb=>if b=a then aa o else H b
theorem upd_same{H:Hp}{a:ac}{o:HO}:upd H a o a=aa o:=by unfold upd;rw[if_pos rfl]
theorem bh{H:Hp}{a b:ac}{o:HO}(h:b≠a):upd H a o b=H b:=by unfold upd;rw[if_neg h]
theorem Iu{H:Hp}{a b:ac}{o u:HO}(h:H a=aa o)(h':H b=aa u)(d:o≠u):a≠b:=by intro e;subst e;rw[h]at h';exact d (fi h')
theorem lL{H:Hp}{a b:ac}{o:HO}(h:H a=aa o)(h':H b=af):a≠b:=by
 intro e;subst e;rw[h]at h';cases h'
def Gw(h:aE)(a:ac)(items:Array ai):Prop:=IsTup h a items/\∃o,h.get? a=aa o/\o.dict=af
theorem Gw.new(h:aE)(its:Array ai):Gw (h.push {cls:=.type "tuple",data:=.seq its}) h.objs.size its:=⟨IsTup.new _ _,_,dq _ rfl,rfl⟩
section
variable(P:ba)(w:aP)
def dy(H:Hp)(h:aE)(a:ac):HO->Prop
 |.lst xs=>xs.length<=bn/\∃(its:List ai) (n:Nat),bF xs its/\h.get? a=aa {cls:=.type "list",data:=.seq its.toArray n}
 |.tup xs=>xs.length<=bn/\∃its:List ai,bF xs its/\Gw h a its.toArray
 |.dK kvs=>kvs.length<=bn/\(a == mf)=aj/\∃vs,KV kvs vs/\h.DictOf (gz P w) a vs
 |.dT kvs=>kvs.length<=bn/\(a == mf)=aj/\∃xs:List (List aO×ac×ai),
   lj (λ(p:List aO×V) (q:List aO×ac×ai)=>p.1=q.1/\H q.2.1=aa (.tup (p.1.map kV))/\RelV p.2 q.2.2) kvs xs /\
   ∃o es ep,h.get? a=aa o/\o.ExactDict/\o.data=.dict es ep/\es.toList=xs.map (entryOfKey (uk (gz P w)))/\(xs.map (·.1)).Nodup
 |.set S n=>h.SetOf (intKind P w) a S n
 |.ins C dx fs=>H dx=aa (.own a)/\fs.length<=1000/\dx≠a/\h.get? a=aa (pq C dx) /\
   ∃mA,h.Ns1 dx mA/\(∀f,li (fs.lookup f) (mA f))/\Gz mA (fs.map (·.1))
 |.own _=>∃o,h.get? a=aa o
 |.xd fs=>∃mA,h.Ns1 a mA/\∀f,li (fs.lookup f) (mA f)
 |.rng lo hi=>∃t u v,h.get? a=aa {cls:=.type "range",data:=.fields #[.int lo t,.int hi u,.int 1 v]}
 |.frz o u=>h.get? a=aa o/\dy H h a u
 |.tbl q=>∃ps:Array ai,h.get? a=aa {cls:=.none,data:=.fields ps}/\TriplesOk ps.toList/\∀pos cv,codeAmong pos ps.toList=aa cv->∃c,cv=.ref c/\H c=aa (.own a)/\h.CodeRec cv q
 |.met f x=>h.get? a=aa (GA (.ref f) (.ref x))
 |.ext φ=>φ h/\(∃o,h.get? a=aa o)/\∀h1 h2:aE,φ h1->(∀o,h1.get? a=aa o->h2.get? a=aa o)->φ h2
def c0(H:Hp)(h:aE):Prop:=∀a o,H a=aa o->dy P w H h a o
end
section
variable{P:ba}{w:aP}{H H':Hp}{h h':aE}{a:ac}{o:HO}
theorem dy.lt(x:dy P w H h a o):a<h.objs.size:=by
 cases o with
 |lst xs=>obtain⟨_,_,_,_,e⟩:=x;exact bN e
 |tup xs=>obtain⟨_,_,_,p,_⟩:=x;exact p.lt
 |dK kvs=>obtain⟨_,_,_,_,o,_,_,e,_⟩:=x;exact bN e
 |dT kvs=>obtain⟨_,_,_,_,o,_,_,e,_⟩:=x;exact bN e
 |set S n=>obtain⟨o,_,_,_,e,_⟩:=x;exact bN e
 |ins C dx fs=>obtain⟨_,_,_,e,_⟩:=x;exact bN e
 |own y=>obtain⟨_,e⟩:=x;exact bN e
 |xd fs=>obtain⟨_,⟨_,_,_,e,_⟩,_⟩:=x;exact bN e
 |rng lo hi=>obtain⟨_,_,_,e⟩:=x;exact bN e
 |frz ob u=>obtain⟨e,_⟩:=x;exact bN e
 |tbl q=>obtain⟨_,e,_⟩:=x;exact bN e
 |met f y=>exact bN (show h.get? a=aa _ from x)
 |ext φ=>obtain⟨_,⟨_,e⟩,_⟩:=x;exact bN e
theorem Paired.mapP{α β:Type}{F G:α->β->Prop}:∀{l₁:List α}{l₂:List β},lj F l₁ l₂->(∀a b,F a b->G a b)->lj G l₁ l₂
 |_,_,.nil,_=>.nil
 |_,_,.cons r t,f=>.cons (f _ _ r) (Paired.mapP t f)
theorem dy.stay(x:dy P w H h a o)(k:∀b u,(b=a\/H b=aa (.own a))->h.get? b=aa u->h'.get? b=aa u)(ho:∀b,H b=aa (.own a)->H' b=aa (.own a)) (ht:∀b xs,H b=aa (.tup xs)->H' b=aa (.tup xs)):dy P w H' h' a o:=by
 induction o with
 |lst xs=>obtain⟨z,its,n,r,e⟩:=x;exact⟨z,its,n,r,k _ _ (.inl rfl) e⟩
 |tup xs=>obtain⟨z,its,r,⟨ob,e,c⟩,o2,e2,c2⟩:=x;exact⟨z,its,r,⟨ob,k _ _ (.inl rfl) e,c⟩,o2,k _ _ (.inl rfl) e2,c2⟩
 |dK kvs=>obtain⟨z,y,vs,r,ob,es,ep,e,c⟩:=x;exact⟨z,y,vs,r,ob,es,ep,k _ _ (.inl rfl) e,c⟩
 |dT kvs=>obtain⟨z,y,xs,r,ob,es,ep,e,c⟩:=x;exact⟨z,y,xs,Paired.mapP r λp q z=>⟨z.1,ht _ _ z.2.1,z.2.2⟩,ob,es,ep,k _ _ (.inl rfl) e,c⟩
 |set S n=>obtain⟨ob,es,ep,t,e,c⟩:=x;exact⟨ob,es,ep,t,k _ _ (.inl rfl) e,c⟩
 |ins C dx fs=>obtain⟨d,z,ne,e,mA,⟨od,es,ep,e2,c⟩,r⟩:=x;exact⟨ho _ d,z,ne,k _ _ (.inl rfl) e,mA,⟨od,es,ep,k _ _ (.inr d) e2,c⟩,r⟩
 |own y=>obtain⟨ob,e⟩:=x;exact⟨ob,k _ _ (.inl rfl) e⟩
 |xd fs=>obtain⟨mA,⟨od,es,ep,e,c⟩,r⟩:=x;exact⟨mA,⟨od,es,ep,k _ _ (.inl rfl) e,c⟩,r⟩
 |rng lo hi=>obtain⟨t,u,v,e⟩:=x;exact⟨t,u,v,k _ _ (.inl rfl) e⟩
 |frz ob u ih=>obtain⟨e,q⟩:=x;exact⟨k _ _ (.inl rfl) e,ih q⟩
 |tbl q=>
  obtain⟨ps,e,t,g⟩:=x;refine⟨ps,k a _ (.inl rfl) e,t,λpos cv hc=>?_⟩;obtain⟨c,rfl,h1,c2,o,vs,tk,e2,e3,r⟩:=g pos cv hc;cases e2;exact⟨c,rfl,ho c h1,c,o,vs,tk,rfl,k c _ (.inr h1) e3,r⟩
 |met f y=>have e:h.get? a=aa (GA (.ref f) (.ref y)):=x;show h'.get? a=aa (GA (.ref f) (.ref y));exact k a _ (.inl rfl) e
 |ext φ=>obtain⟨p,⟨o,e⟩,st⟩:=x;exact⟨st _ _ p λo q=>k _ _ (.inl rfl) q,⟨o,k _ _ (.inl rfl) e⟩,st⟩
theorem c0.lt(x:c0 P w H h)(e:H a=aa o):a<h.objs.size:=(x a o e).lt
theorem c0.fresh(x:c0 P w H h)(e:h.objs.size<=a):H a=af:=by
 cases q:H a with
 |none=>rfl
 |some u=>exact absurd (gG (x.lt q) e) (fj _)
theorem c0.kept(x:c0 P w H h)(k:∀b u,h.get? b=aa u->h'.get? b=aa u):c0 P w H h':=λa o e=>(x a o e).stay (λb u _ q=>k b u q) (λ_ q=>q) λ_ _ q=>q
theorem c0.laid(x:c0 P w H h)(k:∀b u,h.get? b=aa u->h'.get? b=aa u)(hp:h.objs.size<=a)(new:dy P w (upd H a o) h' a o):c0 P w (upd H a o) h':=λb u e=>by
 have hn:=x.fresh hp;by_cases hb:b=a
 ·subst hb;rw[upd_same]at e;cases e;exact new
 ·rw[bh hb]at e;exact(x b u e).stay (λc v _ q=>k c v q) (λc q=>by rw[bh (lL q hn)];exact q) λc xs q=>by rw[bh (lL q hn)];exact q
end
def Rd(H:Hp)(a:ac)(u:HO):Prop:=H a=aa u\/∃o,H a=aa (.frz o u)
theorem Rd.ok{P:ba}{w:aP}{H:Hp}{h:aE}{a:ac}{u:HO}(r:Rd H a u)(x:c0 P w H h):dy P w H h a u:=by
 rcases r with r|⟨o,r⟩
 ·exact x a u r
 ·obtain⟨_,q⟩:=x a _ r;exact q
def sW:Option HO->Prop
 |some (.lst _)=>True
 |some (.dK _)=>True
 |some (.dT _)=>True
 |some (.set _ _)=>True
 |some (.ins _ _ _)=>True
 |some (.ext _)=>True
 |_=>False
section
variable{P:ba}{w:aP}{H:Hp}{h h':aE}{x e:ac}{o':HO}
theorem c0.write(ok:c0 P w H h)(mu:sW (H x))(he:e=x\/H e=aa (.own x))(k:∀b u,b≠e->h.get? b=aa u->h'.get? b=aa u)(rX:∃u,h'.get? e=aa u)(new:dy P w (upd H x o') h' x o'):c0 P w (upd H x o') h':=λb u q=>by
 have nown:∀c y,H c=aa (.own y)->c≠x:=λc y r z=>by subst z;rw[r]at mu;exact mu
 have ntup:∀c xs,H c=aa (.tup xs)->c≠x:=λc xs r z=>by subst z;rw[r]at mu;exact mu
 by_cases hb:b=x
 ·subst hb;rw[upd_same]at q;cases q;exact new
 ·rw[bh hb]at q;by_cases kG:b=e
  ·have q':H b=aa (.own x):=by
    rcases he with z|z
    ·exact absurd (kG.trans z) hb
    ·rw[kG];exact z
   rw[q]at q';cases q';obtain⟨v,hv⟩:=rX;exact⟨v,by rw[kG];exact hv⟩
  ·refine(ok b u q).stay (λc v hc r=>k c v ?_ r) (λc r=>by rw[bh (nown c b r)];exact r) λc xs r=>by rw[bh (ntup c xs r)];exact r
   rcases hc with rfl|hc
   ·exact kG
   ·rintro rfl;rcases he with z|z
    ·exact nown c b hc z
    ·rw[hc]at z;cases z;exact hb rfl
end
structure Un(fs ex:List ac)(H H':Hp)(h h':aE):Prop where
 keep:∀b o,h.get? b=aa o->H b=af->b∉fs->b∉ex->h'.get? b=aa o
 slot:∀b o,h.get? b=aa o->H b=af->b∈fs->b∉ex->∃sl,h'.get? b=aa {o with slots:=sl}
 free:∀b o,h.get? b=aa o->H b=af->b∉ex->H' b=af
 there:∀b o,h.get? b=aa o->b∉ex->∃o',h'.get? b=aa o'
 tups:∀b xs,H b=aa (.tup xs)->H' b=aa (.tup xs)
 frzs:∀b o u,H b=aa (.frz o u)->H' b=aa (.frz o u)
 tbls:∀b q,H b=aa (.tbl q)->H' b=aa (.tbl q)
section
variable{fs fs' ex ex':List ac}{H H1 H2:Hp}{h h1 h2 h':aE}{a x e:ac}{o:HO}
theorem Un.any(u:Un fs ex H H1 h h1){b:ac}{ob:Obj}(q:h.get? b=aa ob)(n:H b=af)(hx:b∉ex):∃sl,h1.get? b=aa {ob with slots:=sl}:=by
 by_cases hb:b∈fs
 ·exact u.slot b ob q n hb hx
 ·exact⟨ob.slots,u.keep b ob q n hb hx⟩
theorem Un.kept(k:∀b u,h.get? b=aa u->h'.get? b=aa u):Un fs ex H H h h' :=⟨λb ob q _ _ _=>k b ob q,λb ob q _ _ _=>⟨ob.slots,k b ob q⟩,λ_ _ _ n _=>n,λb ob q _=>⟨ob,k b ob q⟩,λ_ _ q=>q,λ_ _ _ q=>q,λ_ _ q=>q⟩
theorem Un.refl:Un fs ex H H h h:=Un.kept λ_ _ q=>q
theorem Un.laid(k:∀b u,h.get? b=aa u->h'.get? b=aa u)(hp:h.objs.size<=a)(hn:H a=af):Un fs ex H (upd H a o) h h' where
 keep:=λb u q _ _ _=>k b u q
 slot:=λb u q _ _ _=>⟨u.slots,k b u q⟩
 free:=λb u q n _=>by rw[bh (dr (gG (bN q) hp))];exact n
 there:=λb u q _=>⟨u,k b u q⟩
 tups:=λb xs q=>by rw[bh (lL q hn)];exact q
 frzs:=λb u xs q=>by rw[bh (lL q hn)];exact q
 tbls:=λb ps q=>by rw[bh (lL q hn)];exact q
theorem Un.write(mu:sW (H x))(he:e=x\/H e=aa (.own x))(k:∀b u,b≠e->h.get? b=aa u->h'.get? b=aa u)(rX:∃u,h'.get? e=aa u):Un fs ex H (upd H x o) h h':=by
 have hx:∀b,H b=af->b≠x:=λb n z=>by subst z;rw[n]at mu;exact mu
 have hb:∀b,H b=af->b≠e:=λb n z=>by
  subst z;rcases he with r|r
  ·exact hx b n r
  ·rw[n]at r;cases r
 have hm:∀b u,H b=aa u->¬sW (aa u)->b≠x:=λb u q nm z=>by subst z;rw[q]at mu;exact nm mu
 refine⟨λb u q n _ _=>k b u (hb b n) q,λb u q n _ _=>⟨u.slots,k b u (hb b n) q⟩,λb u q n _=>by rw[bh (hx b n)];exact n,λb u q _=>?_,
  λb xs q=>by rw[bh (hm b _ q λz=>z)];exact q,λb u xs q=>by rw[bh (hm b _ q λz=>z)];exact q,λb ps q=>by rw[bh (hm b _ q λz=>z)];exact q⟩
 by_cases kG:b=e
 ·subst kG;exact rX
 ·exact⟨u,k b u kG q⟩
end
def wI(h:aE)(H:Hp):List ac:=(cW h.objs.size).filter λa=>(H a).isSome
def lQ(h:aE)(H:Hp):aE:=PySem.W.hideAll h (wI h H)
theorem HC(h:aE)(H:Hp):(lQ h H).objs.size=h.objs.size:=PySem.W.hideAll_size _ _
theorem LZ{h:aE}{H:Hp}{b:ac}{o:Obj}(e:h.get? b=aa o)(n:H b=af):(lQ h H).get? b=aa o :=PySem.W.hideAll_get _ e λhm=>by have q:(H b).isSome=ah:=(lm.mp hm).2;rw[n]at q;simp at q
theorem QS{h:aE}{H:Hp}{b:ac}{o:Obj}(e:(lQ h H).get? b=aa o):h.get? b=aa o/\H b=af:=by
 have e':h.get? b=aa o:=PySem.W.of_hideAll (wI h H) e;refine⟨e',?_⟩;cases q:H b with
 |none=>rfl
 |some x=>
  have hm:b∈wI h H:=lm.mpr ⟨ul.mpr (bN e'),by simp[q]⟩;have z:(lQ h H).get? b=af:=PySem.W.hideAll_none (wI h H) hm;rw[z]at e;cases e
def NK(g h:aE)(L:ac):List (ac×Obj):=(cW h.objs.size).filterMap λa=>if a=L\/(g.get? a).isSome=ah then af else(h.get? a).map λo=>(a,o)
def rest(g h:aE)(L d:ac):List (ac×Obj):=(NK g h L).filter λp=>decide (p.1≠d)
structure Mod(K:aq)(mg:Str->Option ai)(base:aE):Prop where
 kin:K.In base
 glob:base.Ns b9 mg
 blt:∃mb,base.Ns pr mb/\∀x:Str,x≠"__name__"->mb x=eE x
 nolimit:base.NoLimit
 bm:∃bm ob,mg "__builtins__" = aa (.ref bm)/\bm≠pr/\base.get? bm=aa ob/\ob.cls=.type "module"/\ob.dict=aa pr/\ob.data=.plain
set_option genInjectivity false in
structure Cx where
 prog:ba
 w:aP
 K:aq
 mg:Str->Option ai
 base:aE
 A:a6
 N:List Str
 s₀:am
 H₀:Hp
 env:Env
 outer:List Env
 stack:List Env
 ex:List ac
 fn:Str->Bool
 calm:Bool
 pn:List (ac×Obj)
 xe:ai->am->Prop
def fD(l:List Env):List ac:=l.filterMap (·.frame)
abbrev Cx.fs(X:Cx):List ac:=fD X.outer
def cx(sc:dO)(x:Str):Prop:=sc.names.lookup x=aa .local\/sc.names.lookup x=aa .cell\/sc.names.lookup x=aa .free
def Loc(sc:dO)(x:Str):Prop:=sc.names.lookup x=aa .local\/sc.names.lookup x=aa .cell
def Look(env:Env)(h:aE)(m:Str->Option ai)(x:Str)(u:ai):Prop :=(env.kindOf x=aa .local/\m x=aa u)\/((env.kindOf x=aa .cell\/env.kindOf x=aa .free)/\∃c,env.cells.lookup x=aa c/\h.IsCell c (aa u))
def AF:List Str:=["road"]
def vd(K:aq)(H:Hp):Prop:=∀x∈AF,∀c P,pt K x=aa (c,P)->H P=aa (.tbl (x++".<locals>.<lambda>"))
set_option genInjectivity false in
structure Cx.Ok(X:Cx):Prop where
 mod:Mod X.K X.mg X.base
 kind:X.env.scope.kind=.function
 glob:X.env.globals=b9
 blt:X.env.builtins=pr
 above:X.s₀.heap.objs.size<=X.env.locals
 inj:∀x y c,X.env.cells.lookup x=aa c->X.env.cells.lookup y=aa c->x=y
 has:∀x,(X.env.kindOf x=aa .cell\/X.env.kindOf x=aa .free)->∃c,X.env.cells.lookup x=aa c
 cab:∀x c,X.fn x=ah->X.env.cells.lookup x=aa c->X.s₀.heap.objs.size<=c
 hd:X.calm=ah->X.A.handled=af
 frames:X.A.frames=aa X.stack
 stk:X.stack=X.outer\/(X.stack=X.env::X.outer/\X.env.frame=aa X.env.locals)
 exf:∀b∈X.ex,b≠X.env.locals/\∀x c,X.env.cells.lookup x=aa c->c≠b
 bs:∀b o,X.base.get? b=aa o->X.s₀.heap.get? b=aa o/\X.H₀ b=af
 bsz:X.base.objs.size<=X.s₀.heap.objs.size
 noex:∀b o,X.base.get? b=aa o->b∉X.ex
 exfs:∀b∈X.ex,b∉X.fs
 funs:X.s₀.heap.FunFrames X.base X.outer
 frf:∀b∈X.fs,X.H₀ b=af
 tab:vd X.K X.H₀
structure Inv(X:Cx)(ae:List (ac×Obj))(σ:List (Option V))(H:Hp)(s:am):Prop where
 ok:X.Ok
 os:s.os=X.s₀.os
 bare:mh s.gens
 base:Un X.fs X.ex X.H₀ H X.s₀.heap s.heap
 loc:∃m,s.heap.Ns X.env.locals m/\∀(i:Nat) (x:Str) (v:V),X.N[i]?=aa x->σ[i]?=aa (aa v)->cx X.env.scope x->∃u,RelV v u/\Look X.env s.heap m x u
 cell:∀x c,X.env.cells.lookup x=aa c->∃v,s.heap.IsCell c v
 free:H X.env.locals=af
 freeC:∀x c,X.env.cells.lookup x=aa c->H c=af
 pin:∀p∈X.pn++ae,s.heap.get? p.1=aa p.2/\H p.1=af/\p.1≠X.env.locals/\p.1∉X.fs/\∀v,p.2.data≠.cell v
 hok:c0 X.prog X.w H s.heap
 len:σ.length=X.N.length
section
variable{X:Cx}{ae:List (ac×Obj)}{σ:List (Option V)}{H H':Hp}{s:am}{h':aE}
theorem Cx.Ok.nofr(ok:X.Ok){b:ac}{o:Obj}(e:X.base.get? b=aa o):b∉X.fs:=λhb=>by
 have:=(ok.funs.mem hb).1;rw[e]at this;cases this
theorem Inv.bs(I:Inv X ae σ H s):∀b o,X.base.get? b=aa o->s.heap.get? b=aa o/\H b=af:=λb o e=>⟨I.base.keep b o (I.ok.bs b o e).1 (I.ok.bs b o e).2 (I.ok.nofr e) (I.ok.noex b o e),I.base.free b o (I.ok.bs b o e).1 (I.ok.bs b o e).2 (I.ok.noex b o e)⟩
theorem Inv.bk(I:Inv X ae σ H s):∀b o,X.base.get? b=aa o->s.heap.get? b=aa o:=λb o e=>(I.bs b o e).1
theorem Inv.mod(I:Inv X ae σ H s):Mod X.K X.mg X.base:=I.ok.mod
theorem Inv.kIn(I:Inv X ae σ H s):X.K.In s.heap:=I.ok.mod.kin.keeps I.bk
theorem Inv.lt(I:Inv X ae σ H s):X.env.locals<s.heap.objs.size:=let ⟨_,hn,_⟩:=I.loc;hn.lt
theorem Inv.sz(I:Inv X ae σ H s):X.s₀.heap.objs.size<=s.heap.objs.size:=dP I.ok.above (pw I.lt)
theorem Inv.nofs(I:Inv X ae σ H s){a:ac}(h:s.heap.objs.size<=a):a∉X.fs:=λhb=>by obtain⟨_,o,ho,_⟩:=I.ok.funs.mem hb;exact absurd (gG (bN ho) (dP I.sz h)) (fj _)
theorem Inv.cne(I:Inv X ae σ H s):∀x c,X.env.cells.lookup x=aa c->c≠X.env.locals:=λx c e z=>by
 obtain⟨v,o,ho,hd⟩:=I.cell x c e;obtain⟨m,⟨o',es,ep,iX,uO,_⟩,_⟩:=I.loc;rw[z,iX]at ho;cases ho;rw[uO]at hd;cases hd
theorem Inv.tab(I:Inv X ae σ H s):vd X.K H:=λx hx c P h=>I.base.tbls P _ (I.ok.tab x hx c P h)
theorem Inv.funs(I:Inv X ae σ H s):s.heap.FunFrames X.base X.outer:=by
 have all:∀(l:List Env),(∀b∈fD l,b∈X.fs)->X.s₀.heap.FunFrames X.base l->s.heap.FunFrames X.base l:=by
  intro l
  induction l with
  |nil=>intro _ _;trivial
  |cons env r ih=>intro hs hl;obtain⟨hk,⟨L,o,hf,hn,ho,hd⟩,hr⟩:=hl;have hL:L∈X.fs:=hs L (by unfold fD;rw[um,hf];exact mi);obtain⟨sl,e⟩:=I.base.slot L o ho (I.ok.frf L hL) hL λz=>I.ok.exfs L z hL;exact⟨hk,⟨L,_,hf,hn,e,hd⟩,ih (λb hb=>hs b (by unfold fD;rw[um,hf];exact jw _ hb)) hr⟩
 exact all X.outer (λ_ hb=>hb) I.ok.funs
theorem Inv.stack(I:Inv X ae σ H s):s.heap.FunFrames X.base X.stack:=by
 rcases I.ok.stk with e|⟨e,hf⟩
 ·rw[e];exact I.funs
 ·rw[e];obtain⟨m,hn,_⟩:=I.loc;refine .cons (by rw[I.ok.kind];decide) hf hn ?_ I.funs;exact A0 (dP I.ok.bsz I.ok.above)
theorem Inv.stkSub(I:Inv X ae σ H s):∀b∈fD X.stack,b∈X.env.locals::X.fs:=λb hb=>by
 rcases I.ok.stk with e|⟨e,hf⟩
 ·rw[e]at hb;exact jw _ hb
 ·rw[e]at hb;unfold fD at hb;rw[um,hf]at hb;exact hb
theorem Inv.stkFree(I:Inv X ae σ H s):∀b∈fD X.stack,H b=af:=λb hb=>by
 rcases bQ.mp (I.stkSub b hb)with e|hb
 ·rw[e];exact I.free
 ·obtain⟨_,o,ho,_⟩:=I.ok.funs.mem hb;exact I.base.free b o ho (I.ok.frf b hb) λz=>I.ok.exfs b z hb
theorem Inv.step{g':Array GenState}{t':Nat}{d':Drawn}{ch:List ac}(I:Inv X ae σ H s)(lq:∀b∈ch,(b∈X.ex\/X.s₀.heap.objs.size<=b)/\b≠X.env.locals/\(∀x c,X.env.cells.lookup x=aa c->c≠b)/\∀p∈X.pn++ae,p.1≠b)(keep:∀b o,b≠X.env.locals->b∉X.fs->b∉ch->s.heap.get? b=aa o->H b=af->h'.get? b=aa o)(slot:∀b o,b≠X.env.locals->b∈X.fs->b∉ch->s.heap.get? b=aa o->H b=af->∃sl,h'.get? b=aa {o with slots:=sl}) (free:∀b o,b∉ch->s.heap.get? b=aa o->H b=af->H' b=af)(there:∀b o,b∉ch->s.heap.get? b=aa o->∃o',h'.get? b=aa o')(tups:∀b xs,H b=aa (.tup xs)->H' b=aa (.tup xs)) (frzs:∀b o u,H b=aa (.frz o u)->H' b=aa (.frz o u)) (tbls:∀b q,H b=aa (.tbl q)->H' b=aa (.tbl q))(ns:∀m,s.heap.Ns X.env.locals m->h'.Ns X.env.locals m) (hok:c0 X.prog X.w H' h') (hg:mh g'):Inv X ae σ H' {s with heap:=h',gens:=g',drawn:=d',toks:=t'}:=by
 have ui:∀b o,X.s₀.heap.get? b=aa o->b≠X.env.locals:=λb o e=>dr (gG (bN e) I.ok.above);have neC:∀b o,X.s₀.heap.get? b=aa o->b∉X.ex->b∉ch:=λb o e hx hb=>by
  rcases(lq b hb).1 with z|z
  ·exact hx z
  ·exact absurd (gG (bN e) z) (fj _)
 have cellK:∀x c,X.env.cells.lookup x=aa c->∀v,s.heap.IsCell c v->h'.IsCell c v:=λx c e v ⟨o,ho,hd⟩=>by
  have nch:c∉ch:=λz=>(lq c z).2.2.1 x c e rfl;by_cases hc:c∈X.fs
  ·obtain⟨sl,q⟩:=slot c o (I.cne x c e) hc nch ho (I.freeC x c e);exact⟨_,q,hd⟩
  ·exact⟨o,keep c o (I.cne x c e) hc nch ho (I.freeC x c e),hd⟩
 refine⟨I.ok,I.os,hg,⟨λb o e n hb hx=>?_,λb o e n hb hx=>?_,λb o e n hx=>?_,λb o e hx=>?_,λb xs e=>tups b xs (I.base.tups b xs e),λb o xs e=>frzs b o xs (I.base.frzs b o xs e),λb ps e=>?_⟩,?_,λx c e=>?_,?_,λx c e=>?_,λp hp=>?_,hok,I.len⟩
 ·exact keep b o (ui b o e) hb (neC b o e hx) (I.base.keep b o e n hb hx) (I.base.free b o e n hx)
 ·obtain⟨sl,e1⟩:=I.base.slot b o e n hb hx;obtain⟨sl',e2⟩:=slot b _ (ui b o e) hb (neC b o e hx) e1 (I.base.free b o e n hx);exact⟨sl',e2⟩
 ·obtain⟨o',e1⟩:=I.base.there b o e hx;exact free b o' (neC b o e hx) e1 (I.base.free b o e n hx)
 ·obtain⟨o',e1⟩:=I.base.there b o e hx;exact there b o' (neC b o e hx) e1
 ·exact tbls b _ (I.base.tbls b ps e)
 ·obtain⟨m,hn,hl⟩:=I.loc;refine⟨m,ns m hn,λi x v e1 e2 e3=>?_⟩;obtain⟨u,r,l⟩:=hl i x v e1 e2 e3;refine⟨u,r,?_⟩;rcases l with l|⟨k,c,e,z⟩
  ·exact .inl l
  ·exact .inr ⟨k,c,e,cellK x c e _ z⟩
 ·obtain⟨v,z⟩:=I.cell x c e;exact⟨v,cellK x c e v z⟩
 ·obtain⟨m,⟨o,_,_,ho,_⟩,_⟩:=I.loc;exact free _ o (λz=>(lq _ z).2.1 rfl) ho I.free
 ·obtain⟨v,o,ho,hd⟩:=I.cell x c e;exact free c o (λz=>(lq c z).2.2.1 x c e rfl) ho (I.freeC x c e)
 ·obtain⟨e,n,ne,nf,d⟩:=I.pin p hp;have nch:p.1∉ch:=λz=>(lq p.1 z).2.2.2 p hp rfl;exact⟨keep p.1 p.2 ne nf nch e n,free p.1 p.2 nch e n,ne,nf,d⟩
theorem Inv.un{t':Nat}(I:Inv X ae σ H s)(u:Un X.fs [] H H' s.heap h')(hok:c0 X.prog X.w H' h'):Inv X ae σ H' {s with heap:=h',toks:=t'}:=by
 obtain⟨m,⟨o,es,ep,ho,r⟩,_⟩:=id I.loc;obtain⟨sl,hL⟩:=u.any ho I.free (by simp);exact I.step (g':=s.gens) (d':=s.drawn) (ch:=[]) (λ_ z=>nomatch z) (λb o _ hb _ e n=>u.keep b o e n hb (by simp)) (λb o _ hb _ e n=>u.slot b o e n hb (by simp)) (λb o _ e n=>u.free b o e n (by simp)) (λb o _ e=>u.there b o e (by simp)) u.tups u.frzs u.tbls (λm' hm=>by
  obtain⟨o',es',ep',iX,r'⟩:=hm;rw[ho]at iX;cases iX;exact⟨_,es',ep',hL,r'⟩) hok I.bare
theorem Inv.call{g':Array GenState}{t':Nat}{d':Drawn}{ch:List ac}(I:Inv X ae σ H s)(u:Un (fD X.stack) ch H H' s.heap h')(hok:c0 X.prog X.w H' h')(hg:mh g')(lq:∀b∈ch,(b∈X.ex\/X.s₀.heap.objs.size<=b)/\b≠X.env.locals/\(∀x c,X.env.cells.lookup x=aa c->c≠b)/\∀p∈X.pn++ae,p.1≠b):Inv X ae σ H' {s with heap:=h',gens:=g',drawn:=d',toks:=t'}:=by
 obtain⟨m,⟨o,es,ep,ho,r⟩,_⟩:=id I.loc;obtain⟨sl,hL⟩:=u.any ho I.free λz=>(lq _ z).2.1 rfl;exact I.step (ch:=ch) lq (λb o hL hb hc e n=>u.keep b o e n (λz=>(bQ.mp (I.stkSub b z)).elim hL hb) hc) (λb o _ _ hc e n=>u.any e n hc) (λb o hc e n=>u.free b o e n hc) (λb o hc e=>u.there b o e hc) u.tups u.frzs u.tbls (λm' hm=>by
  obtain⟨o',es',ep',iX,r'⟩:=hm;rw[ho]at iX;cases iX;exact⟨_,es',ep',hL,r'⟩) hok hg
theorem Inv.turned{t':Nat}{it:ac}(I:Inv X ae σ H s)(k:∀b o,b≠it->s.heap.get? b=aa o->h'.get? b=aa o)(hn:H it=af)(hL:it≠X.env.locals)(h1:it∈X.ex\/X.s₀.heap.objs.size<=it) (h2:∀x c,X.env.cells.lookup x=aa c->c≠it) (h3:∀p∈X.pn++ae,p.1≠it):Inv X ae σ H {s with heap:=h',toks:=t'}:=by
 have nit:∀b u,H b=aa u->b≠it:=λb u e z=>by rw[z,hn]at e;cases e
 refine I.step (g':=s.gens) (d':=s.drawn) (ch:=[it]) (λb hb=>?_) (λb o _ _ hc e _=>k b o (λz=>hc (by simp[z])) e) (λb o _ _ hc e _=>⟨o.slots,k b o (λz=>hc (by simp[z])) e⟩) (λ_ _ _ _ n=>n)
  (λb o hc e=>⟨o,k b o (λz=>hc (by simp[z])) e⟩) (λ_ _ e=>e) (λ_ _ _ e=>e) (λ_ _ e=>e) (λm hm=>?_) (λb u e=>?_) I.bare
 ·have e:b=it:=by simpa using hb
  subst e;exact⟨h1,hL,h2,h3⟩
 ·obtain⟨o,es,ep,ho,r⟩:=hm;exact⟨o,es,ep,k _ o (c8 hL) ho,r⟩
 ·refine(I.hok b u e).stay (λc v hc q=>k c v ?_ q) (λ_ q=>q) λ_ _ q=>q;rcases hc with z|z
  ·rw[z];exact nit b u e
  ·exact nit c _ z
theorem Inv.tok(I:Inv X ae σ H s)(t:Nat):Inv X ae σ H {s with toks:=t}:=I.un (h':=s.heap) (t':=t) Un.refl I.hok
theorem Inv.kept{t':Nat}(I:Inv X ae σ H s)(k:∀b u,s.heap.get? b=aa u->h'.get? b=aa u):Inv X ae σ H {s with heap:=h',toks:=t'}:=I.un (Un.kept k) (I.hok.kept k)
theorem Inv.laid{a:ac}{o:HO}{t':Nat}(I:Inv X ae σ H s)(k:∀b u,s.heap.get? b=aa u->h'.get? b=aa u)(hp:s.heap.objs.size<=a)(new:dy X.prog X.w (upd H a o) h' a o):Inv X ae σ (upd H a o) {s with heap:=h',toks:=t'}:=I.un (Un.laid k hp (I.hok.fresh hp)) (I.hok.laid k hp new)
theorem Inv.write{x e:ac}{o:HO}{t':Nat}(I:Inv X ae σ H s)(mu:sW (H x))(he:e=x\/H e=aa (.own x))(k:∀b u,b≠e->s.heap.get? b=aa u->h'.get? b=aa u)(rX:∃u,h'.get? e=aa u)(new:dy X.prog X.w (upd H x o) h' x o):Inv X ae σ (upd H x o) {s with heap:=h',toks:=t'}:=I.un (Un.write mu he k rX) (I.hok.write mu he k rX new)
theorem Inv.pins_of{pins':List (ac×Obj)}(I:Inv X ae σ H s)(h:∀p∈pins',s.heap.get? p.1=aa p.2/\H p.1=af/\p.1≠X.env.locals/\p.1∉X.fs/\∀v,p.2.data≠.cell v):Inv X pins' σ H s :=⟨I.ok,I.os,I.bare,I.base,I.loc,I.cell,I.free,I.freeC,λp hp=>(nM.mp hp).elim (λz=>I.pin p (uo _ z)) (h p),I.hok,I.len⟩
theorem yx{N:List Str}(hN:N.Nodup){i j:Nat}{x:Str}(a:N[i]?=aa x)(b:N[j]?=aa x):i=j:=by obtain⟨h1,e1⟩:=cO.mp a;obtain⟨h2,e2⟩:=cO.mp b;exact(List.getElem_inj hN).mp (e1.trans e2.symm)
theorem Ft{M:Model}{A:a6}{E:ai->am->Prop}{i:Nat}{x:Str}{v:V}{u:ai}{Q:Unit->am->Prop}(I:Inv X ae σ H s)(hN:X.N.Nodup)(hi:X.N[i]?=aa x)(hx:Loc X.env.scope x)(r:RelV v u)(h:∀s',Inv X ae (σ.set i (aa v)) H s'->(∃a,ku a s.heap s'.heap/\(a=X.env.locals\/X.env.cells.lookup x=aa a))->Q () s') (hf:X.fn x=ah\/X.env.scope.names.lookup x=aa .local:=by first|exact .inl rfl|exact .inr rfl|assumption):au M A (storeName X.env x u) Q E s:=by
 obtain⟨m,hn,hl⟩:=id I.loc;have mK:(X.env.scope.kind == .class||(X.env.scope.kind == .module&&X.env.locals != X.env.globals))=aj:=by rw[I.ok.kind];rfl
 have hiσ:i<σ.length:=by rw[I.len];exact(cO.mp hi).1
 have cne:=I.cne;have tracked:∀{a:ac}{h':aE},(∃o,s.heap.get? a=aa o/\H a=af)->ku a s.heap h'->c0 X.prog X.w H h':=λ{a h'} ha hs b ob e=>by
  obtain⟨_,_,uK⟩:=ha;refine(I.hok b ob e).stay (λc w' hc q=>(hs.2 c ?_).trans q) (λ_ q=>q) λ_ _ q=>q;rintro rfl;rcases hc with rfl|hc
  ·rw[uK]at e;cases e
  ·rw[uK]at hc;cases hc
 rcases hx with hk|hk
 ·refine wpAny_storeName_local hk hn (λh' pS hs=>?_) mK;obtain⟨oL,_,_,rY,_⟩:=id hn;refine h _ ⟨I.ok,I.os,I.bare,⟨λb o e n hb hx=>?_,λb o e n hb hx=>?_,I.base.free,λb o e hx=>?_,I.base.tups,I.base.frzs,I.base.tbls⟩,⟨_,pS,λj y v' e1 e2 e3=>?_⟩,λy c e=>?_,I.free,I.freeC,λp hp=>?_,tracked ⟨oL,rY,I.free⟩ hs,by simpa using I.len⟩ ⟨_,hs,.inl rfl⟩
  ·exact(hs.2 b (dr (gG (bN e) I.ok.above))).trans (I.base.keep b o e n hb hx)
  ·obtain⟨sl,e1⟩:=I.base.slot b o e n hb hx;exact⟨sl,(hs.2 b (dr (gG (bN e) I.ok.above))).trans e1⟩
  ·obtain⟨o',e1⟩:=I.base.there b o e hx;exact⟨o',(hs.2 b (dr (gG (bN e) I.ok.above))).trans e1⟩
  ·by_cases hj:j=i
   ·subst hj;rw[hi]at e1;cases e1;rw[cP hiσ]at e2;cases e2;exact⟨u,r,.inl ⟨hk,by simp⟩⟩
   ·rw[cu (c8 hj)]at e2;obtain⟨u',r',q⟩:=hl j y v' e1 e2 e3;refine⟨u',r',?_⟩;rcases q with⟨k,e⟩|⟨k,c,e,z⟩
    ·refine .inl ⟨k,?_⟩;have:y≠x:=λe=>hj (yx hN e1 (e ▸ hi));simp[this,e]
    ·exact .inr ⟨k,c,e,z.sameBut hs (cne y c e)⟩
  ·obtain⟨w',z⟩:=I.cell y c e;exact⟨w',z.sameBut hs (cne y c e)⟩
  ·obtain⟨e,n,ne,nf,d⟩:=I.pin p hp;exact⟨(hs.2 p.1 ne).trans e,n,ne,nf,d⟩
 ·have hfn:X.fn x=ah:=by
   rcases hf with z|z
   ·exact z
   ·rw[z]at hk;cases hk
  obtain⟨c,hc⟩:=I.ok.has x (.inl hk);obtain⟨w',z⟩:=I.cell x c hc;refine wpAny_storeName_cell I.ok.kind hk hc z (λh' iY hs=>?_);obtain⟨oc,hoc,hocd⟩:=id z;refine h {s with heap:=h'} ⟨I.ok,I.os,I.bare,⟨λb o e n hb hx=>?_,λb o e n hb hx=>?_,I.base.free,λb o e hx=>?_,I.base.tups,I.base.frzs,I.base.tbls⟩,⟨m,hn.sameBut hs (c8 (cne x c hc)),λj y v' e1 e2 e3=>?_⟩,λy c' e=>?_,I.free,I.freeC,λp hp=>?_,tracked ⟨oc,hoc,I.freeC x c hc⟩ hs,by simpa using I.len⟩ ⟨c,hs,.inr hc⟩
  ·exact(hs.2 b (dr (gG (bN e) (I.ok.cab x c hfn hc)))).trans (I.base.keep b o e n hb hx)
  ·obtain⟨sl,e1⟩:=I.base.slot b o e n hb hx;exact⟨sl,(hs.2 b (dr (gG (bN e) (I.ok.cab x c hfn hc)))).trans e1⟩
  ·obtain⟨o',e1⟩:=I.base.there b o e hx;exact⟨o',(hs.2 b (dr (gG (bN e) (I.ok.cab x c hfn hc)))).trans e1⟩
  ·by_cases hj:j=i
   ·subst hj;rw[hi]at e1;cases e1;rw[cP hiσ]at e2;cases e2;exact⟨u,r,.inr ⟨.inl hk,c,hc,iY⟩⟩
   ·rw[cu (c8 hj)]at e2;obtain⟨u',r',q⟩:=hl j y v' e1 e2 e3;refine⟨u',r',?_⟩;rcases q with q|⟨k,c',e,z'⟩
    ·exact .inl q
    ·refine .inr ⟨k,c',e,z'.sameBut hs ?_⟩;rintro rfl;exact hj (yx hN e1 (I.ok.inj _ _ _ e hc ▸ hi))
  ·by_cases hcc:c'=c
   ·subst hcc;exact⟨_,iY⟩
   ·obtain⟨w2,z2⟩:=I.cell y c' e;exact⟨w2,z2.sameBut hs hcc⟩
  ·obtain⟨e,n,ne,nf,d⟩:=I.pin p hp;refine⟨(hs.2 p.1 ?_).trans e,n,ne,nf,d⟩;intro q;rw[q,hoc]at e;have q':oc=p.2:=fi e;exact d w' (by rw[←q'];exact hocd)
theorem wB{M:Model}{A:a6}{E:ai->am->Prop}{i:Nat}{x:Str}{v:V}{u:ai}{Q:Unit->am->Prop}(I:Inv X ae σ H s)(hN:X.N.Nodup)(hi:X.N[i]?=aa x)(hx:Loc X.env.scope x)(r:RelV v u)(h:∀s',Inv X ae (σ.set i (aa v)) H s'->Q () s') (hf:X.fn x=ah\/X.env.scope.names.lookup x=aa .local:=by first|exact .inl rfl|exact .inr rfl|assumption):au M A (storeName X.env x u) Q E s :=Ft I hN hi hx r (λs' I' _=>h s' I') hf
theorem Inv.call'{s':am}{ch:List ac}(I:Inv X ae σ H s)(ho:s'.os=s.os)(u:Un (fD X.stack) ch H H' s.heap s'.heap)(hok:c0 X.prog X.w H' s'.heap)(hg:mh s'.gens)(lq:∀b∈ch,(b∈X.ex\/X.s₀.heap.objs.size<=b)/\b≠X.env.locals/\(∀x c,X.env.cells.lookup x=aa c->c≠b)/\∀p∈X.pn++ae,p.1≠b):Inv X ae σ H' s':=by obtain⟨h',g',d',t',o'⟩:=s';have e:o'=s.os:=ho;subst e;exact I.call (g':=g') (t':=t') (d':=d') u hok hg lq
end
abbrev XK:=ai->Option ac->Hp->Prop
abbrev St:=List (Option V)
abbrev VK:=V->Hp->Prop
abbrev TE:=St->Hp->VK->Prop
abbrev TT:=St->Hp->(Bool->Hp->Prop)->Prop
abbrev TA:=St->Hp->(List V->Hp->Prop)->Prop
structure ki where
 nx:St->Hp->Prop
 rt:VK
 bk:St->Hp->Prop:=λ_ _=>False
 ct:St->Hp->Prop:=λ_ _=>False
abbrev TS:=ki->St->Hp->Prop
def EP(X:Cx)(ae:List (ac×Obj))(σ:St)(Q:VK)(u:ai)(s':am):Prop:=∃v H',Inv X ae σ H' s'/\RelV v u/\Q v H'
def TP(X:Cx)(ae:List (ac×Obj))(σ:St)(Q:Bool->Hp->Prop)(b:Bool)(s':am):Prop:=∃H',Inv X ae σ H' s'/\Q b H'
def AP(X:Cx)(ae:List (ac×Obj))(σ:St)(Q:List V->Hp->Prop)(us:List ai)(s':am):Prop:=∃vs H',Inv X ae σ H' s'/\bF vs us/\Q vs H'
def SP(X:Cx)(ae:List (ac×Obj))(D:ki)(f:Flow)(s':am):Prop :=
 match f with
 |.next=>∃σ' H',Inv X ae σ' H' s'/\D.nx σ' H'
 |.brk=>∃σ' H',Inv X ae σ' H' s'/\D.bk σ' H'
 |.cont=>∃σ' H',Inv X ae σ' H' s'/\D.ct σ' H'
 |.ret u=>∃v σ' H',Inv X ae σ' H' s'/\RelV v u/\D.rt v H'
def PE(X:Cx)(e:aw)(t:TE):Prop :=
 ∀(ae:List (ac×Obj)) (s:am) (σ:St) (H:Hp) (Q:VK),Inv X ae σ H s->t σ H Q->au (aB X.prog X.w) X.A (aG e X.env) (EP X ae σ Q) X.xe s
def PT(X:Cx)(e:aw)(t:TT):Prop :=
 ∀(ae:List (ac×Obj)) (s:am) (σ:St) (H:Hp) (Q:Bool->Hp->Prop),Inv X ae σ H s->t σ H Q->au (aB X.prog X.w) X.A (mj e X.env (aG e X.env)) (TP X ae σ Q) X.xe s
def PW(X:Cx)(e:aw)(t:TT):Prop :=
 ∀(fX:Sem ai) (ae:List (ac×Obj)) (s:am) (σ:St) (H:Hp) (Q:Bool->Hp->Prop),Inv X ae σ H s->t σ H Q->au (aB X.prog X.w) X.A (mj e X.env fX) (TP X ae σ Q) X.xe s
def PA(X:Cx)(es:List aw)(t:TA):Prop :=
 ∀(pos:Pos) (ae:List (ac×Obj)) (s:am) (σ:St) (H:Hp) (Q:List V->Hp->Prop),Inv X ae σ H s->t σ H Q->au (aB X.prog X.w) X.A (spliced (bU pos (aH es X.env))) (AP X ae σ Q) X.xe s
def PS(X:Cx)(st:aR)(t:TS):Prop :=
 ∀(ae:List (ac×Obj)) (s:am) (σ:St) (H:Hp) (D:ki),Inv X ae σ H s->t D σ H->au (aB X.prog X.w) X.A (exec st X.env) (SP X ae D) X.xe s
def ko(X:Cx)(st:List aR)(t:TS):Prop :=
 ∀(ae:List (ac×Obj)) (s:am) (σ:St) (H:Hp) (D:ki),Inv X ae σ H s->t D σ H->au (aB X.prog X.w) X.A (execs st X.env) (SP X ae D) X.xe s
theorem aQ{α:Type}{t:Sem α}{Q Q':α->am->Prop}{M:Model}{A:a6}{E:ai->am->Prop}{s:am}(h:au M A t Q E s)(hQ:∀a s,Q a s->Q' a s):au M A t Q' E s:=d5 h hQ λ_ _ x=>x
section
variable{X:Cx}
def FR(i:Nat):TE:=λσ H Q=>∃v,σ[i]?=aa (aa v)/\Q v H
def tC(v:V):TE:=λ_ H Q=>Q v H
theorem cF{i:Nat}{x:Str}{pos:Pos}(hN:X.N[i]?=aa x)(hv:cx X.env.scope x)(hd:(x == ("__debug__" : Str))=aj:=by decide)(a8:(x == ("__classdict__" : Str))=aj:=by decide):PE X (.Name x pos) (FR i):=by
 intro ae s σ H Q I h;obtain⟨v,e,h⟩:=h;obtain⟨m,hn,hl⟩:=I.loc;obtain⟨u,r,l⟩:=hl i x v hN e hv;have fin:EP X ae σ Q u s:=⟨v,H,I,r,h⟩
 rcases l with⟨hk,hm⟩|⟨hk,c,hc,xW⟩
 ·exact wpAny_Name (wpAny_loadName_local I.ok.kind hk hn hm fin) hd
 ·rcases hk with hk|hk
  ·exact wpAny_Name (wpAny_loadName_cell I.ok.kind hk hc xW fin) hd
  ·exact wpAny_Name (wpAny_loadName_free I.ok.kind hk hc xW fin a8) hd
theorem Qc{i j pos}:PE X (.Constant (.int i) j pos) (tC (.int i)):=λ_ _ _ H _ I h=>wpAny_Constant_int ⟨.int i,H,I.tok _,⟨_,rfl⟩,h⟩
theorem Nd{b j pos}:PE X (.Constant (.bool b) j pos) (tC (.bl b)):=λ_ _ _ H _ I h=>Constant_bool ⟨.bl b,H,I,rfl,h⟩
theorem Nx{j pos}:PE X (.Constant .none j pos) (tC .non):=λ_ _ _ H _ I h=>Constant_none ⟨.non,H,I,rfl,h⟩
theorem Md{x j pos}:PE X (.Constant (.str x) j pos) (tC (.str x)):=λ_ _ _ H _ I h=>Calls.Constant_str ⟨.str x,H,I.tok _,⟨_,rfl⟩,h⟩
def Gl(X:Cx)(x:Str):Prop:=X.env.kindOf x=aa .globalImplicit
theorem rg{E:ai->am->Prop}{ae:List (ac×Obj)}{s:am}{σ:St}{H:Hp}{x:Str}{u:ai}{pos:Pos}{Q:ai->am->Prop}(I:Inv X ae σ H s)(hg:Gl X x)(hm:X.mg x=aa u)(h:Q u s)(hd:(x == ("__debug__" : Str))=aj:=by decide):au (aB X.prog X.w) X.A (aG (.Name x pos) X.env) Q E s :=Calls.Name_function_global I.ok.kind hg (Calls.loadGlobal_global (by rw[I.ok.glob];exact I.mod.glob.keeps I.bk) hm h) hd
theorem t0{E:ai->am->Prop}{ae:List (ac×Obj)}{s:am}{σ:St}{H:Hp}{x:Str}{u:ai}{pos:Pos}{Q:ai->am->Prop}(I:Inv X ae σ H s)(hg:Gl X x)(hm:X.mg x=af)(hv:eE x=aa u)(h:Q u s)(hn:x≠"__name__":=by decide) (hd:(x == ("__debug__" : Str))=aj:=by decide):au (aB X.prog X.w) X.A (aG (.Name x pos) X.env) Q E s:=by obtain⟨mb,h1,h2⟩:=I.mod.blt;exact Calls.Name_function_global I.ok.kind hg (Calls.loadGlobal_builtin (by rw[I.ok.glob];exact I.mod.glob.keeps I.bk) hm (by rw[I.ok.blt];exact h1.keeps I.bk) ((h2 x hn).trans hv) h) hd
theorem zV{x:Str}{v:V}{u:ai}{pos:Pos}(hg:Gl X x)(hm:X.mg x=aa u)(r:RelV v u)(hd:(x == ("__debug__" : Str))=aj:=by decide):PE X (.Name x pos) (tC v) :=λ_ _ _ H _ I h=>rg I hg hm ⟨v,H,I,r,h⟩ hd
theorem LC{x:Str}{v:V}{u:ai}{pos:Pos}(hg:Gl X x)(hm:X.mg x=af)(hv:eE x=aa u)(r:RelV v u)(hn:x≠"__name__":=by decide)(hd:(x == ("__debug__" : Str))=aj:=by decide):PE X (.Name x pos) (tC v) :=λ_ _ _ H _ I h=>t0 I hg hm hv ⟨v,H,I,r,h⟩ hn hd
variable{a b:aw}{ta tb:TE}{pos:Pos}
def PC(X:Cx)(op:CmpOp)(a b:aw)(t:TE):Prop :=
 ∀(ae:List (ac×Obj)) (s:am) (σ:St) (H:Hp) (Q:VK),Inv X ae σ H s->t σ H Q ->
  au (aB X.prog X.w) X.A (aG a X.env) (λv s₁=>au (aB X.prog X.w) X.A (aG b X.env) (λu s₂=>au (aB X.prog X.w) X.A (d7 op v u) (EP X ae σ Q) X.xe s₂) X.xe s₁) X.xe s
theorem Qo(b:aw){op:CmpOp}(h:op≠.In)(h2:op≠.NotIn):ml op b=aj:=by
 have e1:(op == CmpOp.In)=aj:=by cases op <;> first|rfl|exact absurd rfl h
 have e2:(op == CmpOp.NotIn)=aj:=by cases op <;> first|rfl|exact absurd rfl h2
 cases b <;> simp[ml,e1,e2]
def tB(t:TE):TT:=λσ H Q=>t σ H λx H1=>∃c,x=.bl c/\Q c H1
theorem OY{op:CmpOp}{t:TE}(h:PC X op a b t)(h1:ml op b=aj:=by first|exact Qo _ (by decide) (by decide)|rfl):PT X (.Compare a [op] [b] pos) (tB t):=by
 intro ae s σ H Q I hw;refine wpAny_isTrue_Compare1 (aQ (h ae s σ H _ I hw) λv s1 h1=>aQ h1 λu s2 h2=>aQ h2 λc s3 ⟨x,H1,I1,r1,q1⟩=>?_) h1;obtain⟨d,rfl,q⟩:=q1;cases r1;exact nN ⟨H1,I1,q⟩
theorem Ox{e:aw}{t:TE}(h:PE X e t)(he:∀fX,mj e X.env fX=(do let v ←fX;standAt e.pos;pA [v] (truthy v)):=by intro _;rfl):PT X e (tB t):=by
 intro ae s σ H Q I hw;refine isTrue_plain (aQ (h ae s σ H _ I hw) λv s1 ⟨x,H1,I1,r1,q1⟩=>?_) (he _);obtain⟨d,rfl,q⟩:=q1;cases r1;exact nN ⟨H1,I1,q⟩
variable{tA tB':TT}{rest:List aw}
def HI(t u:TT):TT:=λσ H Q=>t σ H λc H1=>if c=ah then u σ H1 Q else Q aj H1
def IM(t u:TT):TT:=λσ H Q=>t σ H λc H1=>if c=ah then Q ah H1 else u σ H1 Q
def PF(t:TT):TT:=λσ H Q=>t σ H λc H1=>Q (!c) H1
theorem Nb(ha:PT X a tA):PW X (.BoolOp .And [a] pos) tA:=by
 intro wh ae s σ H Q I h;refine isTrue_and (aQ (ha ae s σ H Q I h) λc s1 e=>?_);cases c with
 |true=>exact isTrue_and_nil e
 |false=>exact e
theorem LP(ha:PT X a tA):PW X (.BoolOp .Or [a] pos) tA:=by
 intro wh ae s σ H Q I h;refine isTrue_or (aQ (ha ae s σ H Q I h) λc s1 e=>?_);cases c with
 |false=>exact isTrue_or_nil e
 |true=>exact e
theorem LD(ha:PT X a tA)(hb:PW X (.BoolOp .And (b::rest) pos) tB'):PW X (.BoolOp .And (a::b::rest) pos) (HI tA tB'):=by
 intro wh ae s σ H Q I h;refine isTrue_and (aQ (ha ae s σ H _ I h) λc s1 ⟨H1,I1,q1⟩=>?_);cases c with
 |true=>exact hb wh ae s1 σ H1 Q I1 q1
 |false=>exact⟨H1,I1,q1⟩
theorem No(ha:PT X a tA)(hb:PW X (.BoolOp .Or (b::rest) pos) tB'):PW X (.BoolOp .Or (a::b::rest) pos) (IM tA tB'):=by
 intro wh ae s σ H Q I h;refine isTrue_or (aQ (ha ae s σ H _ I h) λc s1 ⟨H1,I1,q1⟩=>?_);cases c with
 |true=>exact⟨H1,I1,q1⟩
 |false=>exact hb wh ae s1 σ H1 Q I1 q1
theorem JO(ha:PT X a tA):PT X (.UnaryOp .Not a pos) (PF tA):=by intro ae s σ H Q I h;exact isTrue_not (ha ae s σ H (λc H1=>Q (!c) H1) I h)
def JH(ta tb:TE):TE:=λσ H Q=>ta σ H λx H1=>∃c,x=.bl c/\if c=ah then tb σ H1 Q else Q (.bl aj) H1
def MB(ta:TE):TE:=λσ H Q=>ta σ H λx H1=>∃c,x=.bl c/\Q (.bl (!c)) H1
theorem KS{op}{t:TE}(h:PE X a t):PE X (.BoolOp op [a] pos) t:=λae s σ H Q I hw=>BoolOp_one (h ae s σ H Q I hw)
theorem HQ(ha:PE X a ta)(hb:PE X (.BoolOp .And (b::rest) pos) tb):PE X (.BoolOp .And (a::b::rest) pos) (JH ta tb):=by
 intro ae s σ H Q I h;refine BoolOp_and (aQ (ha ae s σ H _ I h) λv s1 ⟨x,H1,I1,r1,q1⟩=>?_);obtain⟨c,rfl,q1⟩:=q1;cases r1;refine nN ?_;cases c with
 |true=>exact hb ae s1 σ H1 Q I1 q1
 |false=>exact⟨.bl aj,H1,I1,rfl,q1⟩
theorem OT(ha:PE X a ta):PE X (.UnaryOp .Not a pos) (MB ta):=by
 intro ae s σ H Q I h;refine UnaryOp_ (aQ (ha ae s σ H _ I h) λv s1 ⟨x,H1,I1,r1,q1⟩=>?_);obtain⟨c,rfl,q1⟩:=q1;cases r1;exact not_of (nN ⟨.bl (!c),H1,I1,rfl,q1⟩)
def L5(t:TT)(ta tb:TE):TE:=λσ H Q=>t σ H λc H1=>if c=ah then ta σ H1 Q else tb σ H1 Q
theorem LI{c:aw}(hc:PT X c tA)(ha:PE X a ta)(hb:PE X b tb):PE X (.IfExp c a b pos) (L5 tA ta tb):=by
 intro ae s σ H Q I h;refine wpAny_IfExp (aQ (hc ae s σ H _ I h) λd s1 ⟨H1,I1,q1⟩=>?_);cases d with
 |true=>exact ha ae s1 σ H1 Q I1 q1
 |false=>exact hb ae s1 σ H1 Q I1 q1
end
def bZ(K:aq)(H:Hp)(a:ac)(xs:List V):Prop :=
 Rd H a (.lst xs) \/
  ∃(o:Obj) (its:Array ai) (n:Nat),K.lookup a=aa o/\o.cls=.type "list"/\o.dict=af/\o.data=.seq its n/\its.size<=bn/\bF xs its.toList
def cV(K:aq)(H:Hp)(a:ac)(xs:List V):Prop :=
 Rd H a (.tup xs) \/
  ∃(o:Obj) (its:Array ai) (n:Nat),K.lookup a=aa o/\o.cls=.type "tuple"/\o.data=.seq its n/\its.size<=bn/\bF xs its.toList
def QT:ai->Option V
 |.none=>aa .non
 |.bool b=>aa (.bl b)
 |.int i _=>aa (.int i)
 |.str x _=>aa (.str x)
 |.bytes b _=>aa (.byt b)
 |.float b _=>aa (.flt b)
 |.ref a=>aa (.ref a)
 |.type n=>aa (.ty n)
 |_=>af
theorem RelV.abs{x:V}{u:ai}(r:RelV x u):QT u=aa x:=by
 cases x with
 |non=>cases r;rfl
 |bl _=>cases r;rfl
 |int _=>obtain⟨t,rfl⟩:=r;rfl
 |str _=>obtain⟨t,rfl⟩:=r;rfl
 |byt _=>obtain⟨t,rfl⟩:=r;rfl
 |flt _=>obtain⟨t,rfl⟩:=r;rfl
 |ref _=>cases r;rfl
 |ty _=>cases r;rfl
theorem RelV.inj{x y:V}{u:ai}(r:RelV x u)(q:RelV y u):x=y:=fi (r.abs.symm.trans q.abs)
theorem bF.inj:∀{xs ys:List V}{us:List ai},bF xs us->bF ys us->xs=ys
 |_,_,_,.nil,.nil=>rfl
 |_,_,_,.cons r t,.cons r' t'=>by rw[r.inj r',bF.inj t t']
section
variable{X:Cx}{ae:List (ac×Obj)}{σ:St}{H:Hp}{s:am}{a:ac}{xs ys:List V}
theorem bZ.of{K:aq}(h:H a=aa (.lst xs)):bZ K H a xs:=.inl (.inl h)
theorem cV.of{K:aq}(h:H a=aa (.tup xs)):cV K H a xs:=.inl (.inl h)
theorem Inv.list(I:Inv X ae σ H s)(h:bZ X.K H a xs):∃its:List ai,bF xs its/\PlainL s.heap a its.toArray/\xs.length<=bn:=by
 rcases h with h|⟨o,its,n,hk,hc,hd,hs,hz,r⟩
 ·obtain⟨z,its,n,r,e⟩:=h.ok I.hok;exact⟨its,r,⟨_,n,e,rfl,rfl,rfl⟩,z⟩
 ·refine⟨its.toList,r,⟨o,n,I.kIn a o hk,hc,hd,by simpa using hs⟩,?_⟩;have e:=r.length;simp only[uq]at e;lia
theorem Inv.tuple(I:Inv X ae σ H s)(h:cV X.K H a xs):∃its:List ai,bF xs its/\IsTup s.heap a its.toArray/\xs.length<=bn:=by
 rcases h with h|⟨o,its,n,hk,hc,hs,hz,r⟩
 ·obtain⟨z,its,r,p,_⟩:=h.ok I.hok;exact⟨its,r,p,z⟩
 ·refine⟨its.toList,r,⟨o,I.kIn a o hk,hc,n,by simpa using hs⟩,?_⟩;have e:=r.length;simp only[uq]at e;lia
theorem Inv.list_inj(I:Inv X ae σ H s)(h:bZ X.K H a xs)(h':bZ X.K H a ys):xs=ys:=by
 obtain⟨its,r,⟨o,n,e,_,_,d⟩,_⟩:=I.list h;obtain⟨its',r',⟨o',n',e',_,_,d'⟩,_⟩:=I.list h';rw[e]at e';cases e';rw[d]at d';injection d' with d1 _;have:its=its':=by simpa using congrArg Array.toList d1
 subst this;exact r.inj r'
theorem Inv.tuple_inj(I:Inv X ae σ H s)(h:cV X.K H a xs)(h':cV X.K H a ys):xs=ys:=by
 obtain⟨its,r,⟨o,e,_,n,d⟩,_⟩:=I.tuple h;obtain⟨its',r',⟨o',e',_,n',d'⟩,_⟩:=I.tuple h';rw[e]at e';cases e';rw[d]at d';injection d' with d1 _;have:its=its':=by simpa using congrArg Array.toList d1
 subst this;exact r.inj r'
end
abbrev Cx.wish(X:Cx)(E:ai->am->Prop):Cx:={X with xe:=E}
abbrev Cx.nox(X:Cx):Cx:=X.wish λ_ _=>False
theorem Cx.Ok.wish{X:Cx}(ok:X.Ok)(E:ai->am->Prop):(X.wish E).Ok :=⟨ok.mod,ok.kind,ok.glob,ok.blt,ok.above,ok.inj,ok.has,ok.cab,ok.hd,ok.frames,ok.stk,ok.exf,ok.bs,ok.bsz,ok.noex,ok.exfs,ok.funs,ok.frf,ok.tab⟩
theorem Cx.Ok.unwish{X:Cx}{E:ai->am->Prop}(ok:(X.wish E).Ok):X.Ok :=⟨ok.mod,ok.kind,ok.glob,ok.blt,ok.above,ok.inj,ok.has,ok.cab,ok.hd,ok.frames,ok.stk,ok.exf,ok.bs,ok.bsz,ok.noex,ok.exfs,ok.funs,ok.frf,ok.tab⟩
section
variable{X:Cx}{ae:List (ac×Obj)}{σ:St}{H:Hp}{s:am}{E:ai->am->Prop}
theorem Inv.wish(I:Inv X ae σ H s)(E:ai->am->Prop):Inv (X.wish E) ae σ H s:=⟨I.ok.wish E,I.os,I.bare,I.base,I.loc,I.cell,I.free,I.freeC,I.pin,I.hok,I.len⟩
theorem Inv.unwish(I:Inv (X.wish E) ae σ H s):Inv X ae σ H s:=⟨I.ok.unwish,I.os,I.bare,I.base,I.loc,I.cell,I.free,I.freeC,I.pin,I.hok,I.len⟩
theorem SP.unwish{D:ki}{f:Flow}{s':am}(h:SP (X.wish E) ae D f s'):SP X ae D f s':=by
 cases f with
 |next=>obtain⟨σ',H',I,q⟩:=h;exact⟨σ',H',I.unwish,q⟩
 |brk=>obtain⟨σ',H',I,q⟩:=h;exact⟨σ',H',I.unwish,q⟩
 |cont=>obtain⟨σ',H',I,q⟩:=h;exact⟨σ',H',I.unwish,q⟩
 |ret u=>obtain⟨v,σ',H',I,r,q⟩:=h;exact⟨v,σ',H',I.unwish,r,q⟩
end
section
variable{X:Cx}{st:aR}{rest:List aR}{t u:TS}{e:aw}{te:TE}{pos:Pos}
def Lc:TS:=λD σ H=>D.nx σ H
def JK(t u:TS):TS:=λD σ H=>t {D with nx:=u D} σ H
theorem Jq:ko X [] Lc:=λ_ _ σ H _ I h=>A1 ⟨σ,H,I,h⟩
theorem H_(h1:PS X st t)(h2:ko X rest u):ko X (st::rest) (JK t u):=by
 intro ae s σ H D I h;refine GC (aQ (h1 ae s σ H {D with nx:=u D} I h) λf s1 q=>?_);cases f with
 |next=>obtain⟨σ',H',I',q⟩:=q;exact h2 ae s1 σ' H' D I' q
 |ret v=>exact q
 |brk=>exact q
 |cont=>exact q
theorem CL(h1:PS X st t):ko X [st] t:=by
 intro ae s σ H D I h;refine GC (aQ (h1 ae s σ H D I h) λf s1 q=>?_);cases f with
 |next=>exact A1 q
 |ret v=>exact q
 |brk=>exact q
 |cont=>exact q
theorem Inv.quiet{ae:List (ac×Obj)}{σ:St}{H:Hp}{s:am}(I:Inv X ae σ H s):interactive X.env=aj:=by simp[interactive,I.ok.kind]
def MR(te:TE):TS:=λD σ H=>te σ H λ_ H1=>D.nx σ H1
theorem tG(he:PE X e te)(hs:ik e af pos.line X.env=pure aj:=by rfl):PS X (.Expr e pos) (MR te):=by intro ae s σ H D I h;exact wpAny_Expr_any (aQ (he ae s σ H _ I h) λv s1 ⟨x,H1,I1,r1,q1⟩=>⟨σ,H1,I1,q1⟩) I.quiet hs
def Mr(te:TE):TS:=λD σ H=>te σ H D.rt
theorem sO(he:PE X e te):PS X (.Return (aa e) pos) (Mr te):=by intro ae s σ H D I h;exact wpAny_Return_some (aQ (he ae s σ H _ I h) λv s1 ⟨x,H1,I1,r1,q1⟩=>⟨x,σ,H1,I1,r1,q1⟩)
def OF:TS:=λD _ H=>D.rt .non H
theorem Qu:PS X (.Return af pos) OF:=λ_ _ σ H _ I h=>wpAny_Return_none ⟨.non,σ,H,I,rfl,h⟩
def Qj(c:TT)(t u:TS):TS:=λD σ H=>c σ H λb H1=>if b=ah then t D σ H1 else u D σ H1
theorem P6{c:aw}{a b:List aR}{tc:TT}(hc:PT X c tc)(ha:ko X a t)(hb:ko X b u):PS X (.If c a b pos) (Qj tc t u):=by
 intro ae s σ H D I h;refine wpAny_If (aQ (hc ae s σ H _ I h) λd s1 ⟨H1,I1,q1⟩=>?_);cases d with
 |true=>exact ha ae s1 σ H1 D I1 q1
 |false=>exact hb ae s1 σ H1 D I1 q1
end
abbrev TG:=V->St->Hp->(St->Hp->Prop)->Prop
abbrev oY:=List V->St->Hp->(St->Hp->Prop)->Prop
def PG(X:Cx)(target:aw)(t:TG):Prop :=
 ∀(ae:List (ac×Obj)) (s:am) (σ:St) (H:Hp) (v:V) (u:ai) (Q:St->Hp->Prop),Inv X ae σ H s->RelV v u->t v σ H Q ->
  au (aB X.prog X.w) X.A (assign target X.env u) (λ_ s'=>∃σ' H',Inv X ae σ' H' s'/\Q σ' H') X.xe s
def vB(X:Cx)(ts:List aw)(t:oY):Prop :=
 ∀(ae:List (ac×Obj)) (s:am) (σ:St) (H:Hp) (vs:List V) (us:List ai) (Q:St->Hp->Prop),Inv X ae σ H s->bF vs us->t vs σ H Q ->
  au (aB X.prog X.w) X.A (assignInOrder ((ur ts X.env).map (·.2)) us) (λ_ s'=>∃σ' H',Inv X ae σ' H' s'/\Q σ' H') X.xe s
section
variable{X:Cx}{pos:Pos}
def Ce(i:Nat):TG:=λv σ H Q=>Q (σ.set i (aa v)) H
theorem ro{i:Nat}{x:Str}(hN:X.N.Nodup)(hi:X.N[i]?=aa x)(hx:Loc X.env.scope x)(hf:X.fn x=ah\/X.env.scope.names.lookup x=aa .local:=by first|exact .inl rfl|exact .inr rfl|assumption):PG X (.Name x pos) (Ce i):=by intro ae s σ H v u Q I r h;exact wpAny_assign_Name (wB I hN hi hx r (λs' I'=>⟨_,H,I',h⟩) hf)
def bK:oY:=λvs σ H Q=>vs=[]/\Q σ H
def Mq(t:TG)(u:oY):oY:=λvs σ H Q=>∃v r,vs=v::r/\t v σ H λσ' H'=>u r σ' H' Q
theorem Fk:vB X [] bK:=by
 intro ae s σ H vs us Q I r h;obtain⟨e,h⟩:=h;subst e;cases r;exact assignInOrder_nil ⟨σ,H,I,h⟩
theorem xi{e:aw}{es:List aw}{t:TG}{u:oY}(h1:PG X e t)(h2:vB X es u)(hs:(ur (e::es) X.env).map (·.2)=assign e X.env::(ur es X.env).map (·.2):=by rfl):vB X (e::es) (Mq t u):=by
 intro ae s σ H vs us Q I r h;obtain⟨v,vr,e1,h⟩:=h;subst e1;cases r with
 |cons r rr=>rw[hs];refine assignInOrder_cons (aQ (h1 ae s σ H _ _ _ I r h) λ_ s1 ⟨σ1,H1,I1,q1⟩=>?_);exact h2 ae s1 σ1 H1 _ _ Q I1 rr q1
def Od(K:aq)(n:Nat)(t:oY):TG:=λv σ H Q=>∃a xs,v=.ref a/\cV K H a xs/\xs.length=n/\t xs σ H Q
theorem Fm{es:List aw}{k:Nat}{t:oY}{n:Nat}(hc:X.calm=ah)(h:vB X es t)(hn:(ur es X.env).length=n:=by rfl) (fY:(ur es X.env).findIdx? (·.1)=af:=by rfl):PG X (.Tuple es k pos) (Od X.K n t):=by
 intro ae s σ H v u Q I r hw;obtain⟨a,xs,e1,hq,hl,hw⟩:=hw;subst e1;cases r;obtain⟨its,rv,ht,hz⟩:=I.tuple hq;refine assign_Tuple_tuple (I.ok.hd hc) ht (by simp[hn,←hl,rv.length]) fY λh' hx=>?_;have I1:Inv X ae σ H {s with heap:=h'}:=I.kept (t':=s.toks) λb o e=>hx b o (dr (bN e)) e;exact h ae _ σ H xs _ Q I1 (by simpa using rv) hw
def CT(te:TE)(g:TG):TS:=λD σ H=>te σ H λx H1=>g x σ H1 D.nx
theorem LG{tg e:aw}{te:TE}{g:TG}(he:PE X e te)(hg:PG X tg g)(hs:swapsWithSole [tg] e pos.line X.env=pure aj:=by rfl)(hw:swappedStores [tg] e X.env=pure af:=by rfl)(h1:(ur [tg] X.env).map (·.2)=[assign tg X.env]:=by rfl):PS X (.Assign [tg] e pos) (CT te g):=by intro ae s σ H D I h;refine wpAny_Assign_stores (aQ (he ae s σ H _ I h) λv s1 ⟨x,H1,I1,r1,q1⟩=>?_) hs hw;rw[h1];exact aQ (hg ae s1 σ H1 x v _ I1 r1 q1) λ_ s2 q=>q
theorem F6{i:Nat}{x:Str}{e:aw}{te:TE}{pos':Pos}(hN:X.N.Nodup)(hi:X.N[i]?=aa x)(hx:Loc X.env.scope x)(he:PE X e te)(hs:ik e (aa (.Name x pos')) pos.line X.env=pure aj:=by rfl)(hf:X.fn x=ah\/X.env.scope.names.lookup x=aa .local:=by first|exact .inl rfl|exact .inr rfl|assumption):PS X (.Assign [.Name x pos'] e pos) (CT te (Ce i)):=by intro ae s σ H D I h;refine wpAny_Assign_Name (aQ (he ae s σ H _ I h) λv s1 ⟨y,H1,I1,r1,q1⟩=>?_) hs;exact wB I1 hN hi hx r1 (λs2 I2=>⟨_,H1,I2,q1⟩) hf
def Kb(c:TT)(tb:TS):TS:=λD σ H=>∃W:Nat->St->Hp->Prop,(∃m,W m σ H)/\∀m σ H,W m σ H ->
 c σ H λb H1=>if b=ah then ∃N:St->Hp->Prop,(∀σ' H',N σ' H'->∃m',m'<m/\W m' σ' H')/\tb {D with nx:=N,ct:=N,bk:=D.nx} σ H1 else D.nx σ H1
theorem Pj{c:aw}{body:List aR}{tc:TT}{tb:TS}(hp:A3 (aB X.prog X.w) X.A X.env X.xe)(hc:PT X c tc)(hb:ko X body tb):PS X (.While c body [] pos) (Kb tc tb):=by
 intro ae s σ H D I h;obtain⟨W,⟨m0,w0⟩,turn⟩:=h;refine wpAny_While (codeAny_whileLoop (λn s'=>∃σ' H',Inv X ae σ' H' s'/\W n σ' H') ?_ m0 ⟨σ,H,I,w0⟩);rintro n s1 ⟨σ1,H1,I1,w1⟩;refine rq hp (aQ (hc ae s1 σ1 H1 _ I1 (turn n σ1 H1 w1)) λb s2 ⟨H2,I2,q2⟩=>?_);cases b with
 |true=>
  obtain⟨N,hN,q2⟩:=q2;rw[if_pos rfl];refine rq hp (aQ (hb ae s2 σ1 H2 _ I2 q2) λf s3 q3=>?_);cases f with
  |next=>obtain⟨σ3,H3,I3,n3⟩:=q3;obtain⟨m',hm,w3⟩:=hN σ3 H3 n3;exact⟨m',hm,σ3,H3,I3,w3⟩
  |cont=>obtain⟨σ3,H3,I3,n3⟩:=q3;obtain⟨m',hm,w3⟩:=hN σ3 H3 n3;exact⟨m',hm,σ3,H3,I3,w3⟩
  |brk=>exact q3
  |ret v=>exact q3
 |false=>rw[if_neg fV];exact A1 ⟨σ1,H2,I2,q2⟩
end
structure It where
 go:Nat->Hp->Prop
 yld:Nat->Hp->V->Hp->Prop
 stop:Nat->Hp->Prop
def kt(X:Cx)(ae:List (ac×Obj))(H:Hp)(b:ac):Prop :=
 H b=af/\b≠X.env.locals/\b∉X.fs/\(b∈X.ex\/X.s₀.heap.objs.size<=b)/\(∀x c,X.env.cells.lookup x=aa c->c≠b)/\∀p∈X.pn++ae,p.1≠b
theorem Inv.fpOk{X:Cx}{ae:List (ac×Obj)}{σ:St}{H H':Hp}{s:am}{b:ac}(I:Inv X ae σ H s)(hb:s.heap.objs.size<=b)(hn:H' b=af):kt X ae H' b:=by
 refine⟨hn,pB (gG I.lt hb),I.nofs hb,.inr (dP I.sz hb),λx c e z=>?_,λp hp z=>?_⟩
 ·obtain⟨v,q⟩:=I.cell x c e;exact absurd (gG q.lt (by rw[z];exact hb)) (fj _)
 ·exact absurd (gG (bN (I.pin p hp).1) (by rw[z];exact hb)) (fj _)
structure qr(P:ba)(w:aP)(K:aq)(tg:aw)(J:It)(fp:List ac)(it:ac)(tn:Nat->aE->Prop):Prop where
 mem:it∈fp
 obj:∀i h,tn i h->∀b∈fp,∃o,h.get? b=aa o/\∀v,o.data≠.cell v
 keep:∀i h h',tn i h->(∀b∈fp,∀o,h.get? b=aa o->h'.get? b=aa o)->tn i h'
 item:∀(X:Cx),X.prog=P->X.w=w->X.K=K->X.calm=ah->∀(i:Nat) (ae:List (ac×Obj)) (s:am) (σ:St) (H:Hp) (E:ai->am->Prop),Inv X ae σ H s->(∀b∈fp,kt X ae H b)->tn i s.heap->J.go i H ->
  au (aB P w) X.A (pyNext (.ref it)) (λr s1=>∃u,r=aa u /\ au (aB P w) X.A (A4 tg (.ref it) u) (λ_ s2=>∃x H',Inv X ae σ H' s2/\RelV x u/\J.yld i H x H'/\tn (i+1) s2.heap/\∀b∈fp,H' b=af) E s1) E s
 done:∀(X:Cx),X.prog=P->X.w=w->X.K=K->X.calm=ah->∀(i:Nat) (ae:List (ac×Obj)) (s:am) (σ:St) (H:Hp) (E:ai->am->Prop),Inv X ae σ H s->(∀b∈fp,kt X ae H b)->tn i s.heap->J.stop i H ->
  au (aB P w) X.A (pyNext (.ref it)) (λr s1=>r=af/\Inv X ae σ H s1) E s
 self:∀(A:a6) (i:Nat) (s:am) (Q:ai->am->Prop) (E:ai->am->Prop),tn i s.heap->Q (.ref it) s->au (aB P w) A (nO (.ref it)) Q E s
abbrev TI:=St->Hp->(It->Hp->Prop)->Prop
def vq(X:Cx)(ae:List (ac×Obj))(σ:St)(tg:aw)(R:It->Hp->Prop)(itv:ai)(s2:am):Prop :=
 ∃(it:ac) (fp:List ac) (tn:Nat->aE->Prop) (J:It) (H':Hp),itv=.ref it/\Inv X ae σ H' s2/\qr X.prog X.w X.K tg J fp it tn/\tn 0 s2.heap/\(∀b∈fp,kt X ae H' b)/\R J H'
def PI(X:Cx)(tg iter:aw)(wi:TI):Prop :=
 ∀(ae:List (ac×Obj)) (s:am) (σ:St) (H:Hp) (R:It->Hp->Prop),Inv X ae σ H s->wi σ H R ->
  au (aB X.prog X.w) X.A (aG iter X.env) (λv s1=>au (aB X.prog X.w) X.A (nO v) (vq X ae σ tg R) X.xe s1) X.xe s
theorem vi{M:Model}{A:a6}{E:ai->am->Prop}{s:am}{tg:aw}{it:ac}{u:ai}{o:Obj}{n:String}{vs:Array ai}{Q:Unit->am->Prop}(ho:s.heap.get? it=aa o)(hc:o.cls=.type n)(hd:o.data=.fields vs)(hn:["enumerate","zip","dict_itemiterator","dict_reverseitemiterator","odict_iterator","itertools.zip_longest","itertools.pairwise"].contains n=aj) (hQ:Q () s):au M A (A4 tg (.ref it) u) Q E s:=by
 unfold A4;cases tg <;> first
  |exact aV hQ
  | (cases u <;> first
    |exact aV hQ
    | (refine ax (wpAny_load ho ?_)
       rw[hc,hd];show au M A (if(["enumerate","zip","dict_itemiterator","dict_reverseitemiterator","odict_iterator","itertools.zip_longest","itertools.pairwise"].contains n&&vs[0]? == aa (eL _))=ah then _ else _) Q E s;rw[if_neg (by intro h;rw[hn,Bool.false_and]at h;cases h)];exact aV hQ))
def yF(K:aq)(a:ac):It :=⟨λi H=>∃xs x,bZ K H a xs/\xs[i]?=aa x,λi H x H'=>H'=H/\∀xs,bZ K H a xs->xs[i]?=aa x,λi H=>∃xs,bZ K H a xs/\xs.length<=i⟩
def z6(K:aq)(a:ac):It :=⟨λi H=>∃xs x,cV K H a xs/\xs[i]?=aa x,λi H x H'=>H'=H/\∀xs,cV K H a xs->xs[i]?=aa x,λi H=>∃xs,cV K H a xs/\xs.length<=i⟩
def wg(lo:Int)(n:Nat):It:=⟨λi _=>i<n,λi H x H'=>H'=H/\x=.int (lo+i),λi _=>n<=i⟩
theorem MH{P:ba}{w:aP}{K:aq}{tg:aw}(a it:ac):qr P w K tg (yF K a) [it] it (λi h=>h.IsListIter it a i) where
 mem:=by simp
 obj:=λi h st b hb=>by
  have e:b=it:=by simpa using hb
  subst e;obtain⟨o,e,c,d⟩:=st;exact⟨o,e,λv z=>by rw[d]at z;cases z⟩
 keep:=λi h h' st k=>st.at λo e=>k it (by simp) o e
 item:=by intro X hP hw hK hc i ae s σ H E I hf st hg;subst hP hw hK;obtain⟨xs,x,hq,hx⟩:=hg;obtain⟨its,rv,p,hz⟩:=I.list hq;obtain⟨u,hu,ru⟩:=rv.get hx;obtain⟨f0,f1,f2,f3,f4,f5⟩:=hf it (by simp);refine wpAny_pyNext_list_item st p.isList (x:=u) (by simpa using hu) λh' iZ sb=>?_;have I1:Inv X ae σ H {s with heap:=h'}:=I.turned (t':=s.toks) (λb o hb e=>(sb.2 b hb).trans e) f0 f1 f3 f4 f5;obtain⟨o,e,c,d⟩:=id iZ;exact⟨u,rfl,vi (s:={s with heap:=h'}) e c d (by decide) ⟨x,H,I1,ru,⟨rfl,λys hy=>by rw[I.list_inj hy hq];exact hx⟩,iZ,λb hb=>(hf b hb).1⟩⟩
 done:=by intro X hP hw hK hc i ae s σ H E I hf st hg;subst hP hw hK;obtain⟨xs,hq,hx⟩:=hg;obtain⟨its,rv,p,hz⟩:=I.list hq;obtain⟨f0,f1,f2,f3,f4,f5⟩:=hf it (by simp);have hl:=rv.length;exact wpAny_pyNext_list_end (I.ok.hd hc) st p.isList (by simp;lia) λh' eb=>⟨rfl,I.turned (t':=s.toks) (λb o hb e=>eb b o hb e) f0 f1 f3 f4 f5⟩
 self:=λ_ _ _ _ _ st h=>wpAny_pyIter_listiter st h
theorem OV{P:ba}{w:aP}{K:aq}{tg:aw}(a it:ac):qr P w K tg (z6 K a) [it] it (λi h=>h.IsTupleIter it a i) where
 mem:=by simp
 obj:=λi h st b hb=>by
  have e:b=it:=by simpa using hb
  subst e;obtain⟨o,e,c,d⟩:=st;exact⟨o,e,λv z=>by rw[d]at z;cases z⟩
 keep:=λi h h' st k=>st.at λo e=>k it (by simp) o e
 item:=by intro X hP hw hK hc i ae s σ H E I hf st hg;subst hP hw hK;obtain⟨xs,x,hq,hx⟩:=hg;obtain⟨its,rv,p,hz⟩:=I.tuple hq;obtain⟨u,hu,ru⟩:=rv.get hx;obtain⟨f0,f1,f2,f3,f4,f5⟩:=hf it (by simp);refine wpAny_pyNext_tuple_item st (show s.heap.IsTuple a its.toArray from p) (x:=u) (by simpa using hu) λh' iZ sb=>?_;have I1:Inv X ae σ H {s with heap:=h'}:=I.turned (t':=s.toks) (λb o hb e=>(sb.2 b hb).trans e) f0 f1 f3 f4 f5;obtain⟨o,e,c,d⟩:=id iZ;exact⟨u,rfl,vi (s:={s with heap:=h'}) e c d (by decide) ⟨x,H,I1,ru,⟨rfl,λys hy=>by rw[I.tuple_inj hy hq];exact hx⟩,iZ,λb hb=>(hf b hb).1⟩⟩
 done:=by intro X hP hw hK hc i ae s σ H E I hf st hg;subst hP hw hK;obtain⟨xs,hq,hx⟩:=hg;obtain⟨its,rv,p,hz⟩:=I.tuple hq;obtain⟨f0,f1,f2,f3,f4,f5⟩:=hf it (by simp);have hl:=rv.length;exact wpAny_pyNext_tuple_end (I.ok.hd hc) st (show s.heap.IsTuple a its.toArray from p) (by simp;lia) λh' eb=>⟨rfl,I.turned (t':=s.toks) (λb o hb e=>eb b o hb e) f0 f1 f3 f4 f5⟩
 self:=λ_ _ _ _ _ st h=>wpAny_pyIter_tupleiter st h
theorem Lw{P:ba}{w:aP}{K:aq}{tg:aw}(it:ac)(lo:Int)(n:Nat):qr P w K tg (wg lo n) [it] it (λi h=>IsRangeIter h it (lo+(i:Nat)*1) ((n:Int)-(i:Nat)) 1) where
 mem:=by simp
 obj:=λi h st b hb=>by
  have e:b=it:=by simpa using hb
  subst e;exact⟨_,st,λv z=>by
   have z':Data.fields _=Data.cell v:=z;cases z'⟩
 keep:=λi h h' st k=>k it (by simp) _ st
 item:=by intro X hP hw hK hc i ae s σ H E I hf st hg;subst hP hw hK;obtain⟨f0,f1,f2,f3,f4,f5⟩:=hf it (by simp);have W:=Walks.range (prog:=X.prog) (w:=X.w) (I.ok.hd hc) it lo 1 n;refine W.item i s _ _ hg st λv h' tk hv iZ kk=>?_;obtain⟨t,rfl⟩:=hv;have I1:Inv X ae σ H {s with heap:=h',toks:=tk}:=I.turned (λb o hb e=>kk b o (by simpa using hb) e) f0 f1 f3 f4 f5;refine⟨_,rfl,vi (s:={s with heap:=h',toks:=tk}) (n:="range_iterator") iZ rfl rfl (by decide) ⟨.int (lo+i),H,I1,⟨t,?_⟩,⟨rfl,rfl⟩,iZ,λb hb=>(hf b hb).1⟩⟩;rw[Int.mul_one]
 done:=by intro X hP hw hK hc i ae s σ H E I hf st hg;subst hP hw hK;obtain⟨f0,f1,f2,f3,f4,f5⟩:=hf it (by simp);exact wpAny_pyNext_range_end (I.ok.hd hc) st (by have:n<=i:=hg;lia) λh' eb=>⟨rfl,I.turned (t':=s.toks) (λb o hb e=>eb b o hb e) f0 f1 f3 f4 f5⟩
 self:=λ_ _ _ _ _ st h=>wpAny_pyIter_rangeiter st h
section
variable{X:Cx}{tg:aw}
theorem Ia{ae:List (ac×Obj)}{σ:St}{H:Hp}{s:am}{R:It->Hp->Prop}{E:ai->am->Prop}{lo hi:Int}{t u v:Tok}{tk:Nat}(I:Inv X ae σ H s)(h1:-(2^62)<=lo)(h2:lo<2^62)(h3:-(2^62)<=hi)(h4:hi<2^62)(q:R (wg lo (hi-lo).toNat) H):au (aB X.prog X.w) X.A (nO (.ref s.heap.objs.size)) (vq X ae σ tg R) E {s with heap:=s.heap.push {cls:=.type "range",data:=.fields #[.int lo t,.int hi u,.int 1 v]},toks:=tk}:=by
 refine wpAny_pyIter_range (IsRange.new ..) (small_one h1 h2 h3 h4) ?_;have I1:Inv X ae σ H {s with heap:=s.heap.push {cls:=.type "range",data:=.fields #[.int lo t,.int hi u,.int 1 v]},toks:=tk}:=I.kept λb o e=>bV _ e;refine⟨(s.heap.push {cls:=.type "range",data:=.fields #[.int lo t,.int hi u,.int 1 v]}).objs.size,[(s.heap.push {cls:=.type "range",data:=.fields #[.int lo t,.int hi u,.int 1 v]}).objs.size],_,_,H,rfl,I1.kept (t':=tk) λb o e=>bV _ e,Lw _ lo (hi-lo).toNat,?_,λb hb=>?_,q⟩
 ·have e1:lo+((0:Nat):Int)*1=lo:=by simp
  have e2:(((hi-lo).toNat:Nat):Int)-((0:Nat):Int)=Builtin.Range.rangeSize lo hi 1:=by rw[rangeSize_one];split <;> lia
  show IsRangeIter _ _ (lo+((0:Nat):Int)*1) ((((hi-lo).toNat:Nat):Int)-((0:Nat):Int)) 1;rw[e1,e2];exact dq _ rfl
 ·have e:b=(s.heap.push {cls:=.type "range",data:=.fields #[.int lo t,.int hi u,.int 1 v]}).objs.size:=by simpa using hb
  subst e;exact I1.fpOk (bt _) (I1.hok.fresh (bt _))
def IB(ta:TA):TI:=λσ H R=>ta σ H λvs H1=>∃j:Int,vs=[.int j]/\-(2^62)<=j/\j<2^62/\R (wg 0 j.toNat) H1
theorem Qy{a:aw}{ta:TA}{p pos:Pos}(hg:Gl X "range")(hm:X.mg "range" = af)(ha:PA X [a] ta)(hs:aH [a] X.env=[(aj,aG a X.env)]:=by rfl):PI X tg (.Call (.Name "range" p) [a] [] pos) (IB ta):=by
 intro ae s σ H R I h;refine Call_ (t0 I hg hm boot_range (GD (aQ (ha pos ae s σ H _ I h) λus s1 ⟨vs,H1,I1,r1,q1⟩=>?_) hs rfl));obtain⟨j,e,q1,q2,q⟩:=q1;subst e;cases r1 with
 |cons r rr=>
  cases rr;obtain⟨t,rfl⟩:=r;exact call_range_1 (Ia I1 ∅ ∅ q1 q2 (by simpa using q))
def OH(wi:TI)(g:TG)(tb:TS):TS:=λD σ H=>wi σ H λJ H1=>∃W:Nat->Nat->St->Hp->Prop,(∃m,W 0 m σ H1)/\∀i m σ H,W i m σ H ->
 (J.stop i H/\D.nx σ H)\/(J.go i H/\∃N:St->Hp->Prop,(∀σ' H',N σ' H'->∃m',m'<m/\W (i+1) m' σ' H')/\∀x H',J.yld i H x H'->g x σ H' λσ2 H2=>tb {D with nx:=N,ct:=N,bk:=D.nx} σ2 H2)
def tX(fp:List ac)(h:aE):List (ac×Obj):=fp.filterMap λb=>(h.get? b).map λo=>(b,o)
theorem wK{fp:List ac}{h:aE}{b:ac}{o:Obj}(hb:b∈fp)(e:h.get? b=aa o):(b,o)∈tX fp h:=List.mem_filterMap.mpr ⟨b,hb,by rw[e];rfl⟩
theorem LK{fp:List ac}{h:aE}{p:ac×Obj}(hp:p∈tX fp h):p.1∈fp/\h.get? p.1=aa p.2:=by
 obtain⟨b,hb,e⟩:=List.mem_filterMap.mp hp;cases q:h.get? b with
 |none=>rw[q]at e;cases e
 |some o=>rw[q]at e;have e':(b,o)=p:=fi e;subst e';exact⟨hb,q⟩
theorem Inv.pinned{ae:List (ac×Obj)}{σ:St}{H:Hp}{s:am}{fp:List ac}(I:Inv X ae σ H s)(hf:∀b∈fp,kt X ae H b)(ho:∀b∈fp,∃o,s.heap.get? b=aa o/\∀v,o.data≠.cell v):Inv X (ae++tX fp s.heap) σ H s :=
 I.pins_of λp hp=>(nM.mp hp).elim (λz=>I.pin p (iR _ z)) λz=>by
  obtain⟨hb,e⟩:=LK z;obtain⟨f0,f1,f2,_⟩:=hf p.1 hb;obtain⟨o,e',d⟩:=ho p.1 hb;rw[e]at e';cases e';exact⟨e,f0,f1,f2,d⟩
theorem Inv.unpinned{ae pl:List (ac×Obj)}{σ:St}{H:Hp}{s:am}(I:Inv X (ae++pl) σ H s):Inv X ae σ H s:=I.pins_of λp hp=>I.pin p (iR _ (uo _ hp))
theorem Mp{iter:aw}{body:List aR}{wi:TI}{g:TG}{tb:TS}{pos:Pos}(hp:A3 (aB X.prog X.w) X.A X.env X.xe)(hc:X.calm=ah)(hi:PI X tg iter wi)(hg:PG X tg g)(hb:ko X body tb)(hs:∀x,nP iter X.env x=pure x:=by intro _;rfl):PS X (.For tg iter body [] pos) (OH wi g tb):=by
 intro ae s σ H D I h;refine wpAny_For (aQ (hi ae s σ H _ I h) λv s1 h1=>aQ h1 λitv s2 h2=>?_) hs;obtain⟨it,fp,tn,J,H2,e,I2,T,st2,f2,W,⟨m0,w0⟩,turn⟩:=h2;subst e;have stat:∀{H':Hp},(∀b∈fp,H' b=af)->∀b∈fp,kt X ae H' b:=λhn b hb=>⟨hn b hb,(f2 b hb).2⟩
 refine codeAny_forLoop_any (λn s'=>∃i σ' H',Inv X ae σ' H' s'/\tn i s'.heap/\(∀b∈fp,H' b=af)/\W i n σ' H') ?_ m0 ⟨0,σ,H2,I2,st2,λb hb=>(f2 b hb).1,w0⟩;rintro n s3 ⟨i,σ3,H3,I3,uP,fr3,w3⟩;rcases turn i n σ3 H3 w3 with⟨stop,qn⟩|⟨go,N,hN,step⟩
 ·refine rq hp (aQ (T.done X rfl rfl rfl hc i ae s3 σ3 H3 X.xe I3 (stat fr3) uP stop) λr s4 ⟨hr,I4⟩=>?_);subst hr;exact A1 ⟨σ3,H3,I4,qn⟩
 ·refine rq hp (aQ (T.item X rfl rfl rfl hc i ae s3 σ3 H3 X.xe I3 (stat fr3) uP go) λr s4 ⟨u,hr,h4⟩=>?_);subst hr;refine rq hp (aQ h4 λ_ s5 ⟨x,H5,I5,r5,y5,rZ,fr5⟩=>?_);have I5':=I5.pinned (stat fr5) (T.obj _ _ rZ);refine rq hp (aQ (hg _ s5 σ3 H5 x u _ I5' r5 (step x H5 y5)) λ_ s6 ⟨σ6,H6,I6,q6⟩=>?_);refine rq hp (aQ (hb _ s6 σ6 H6 _ I6 q6) λf s7 q7=>?_);have again:∀{σ7:St}{H7:Hp},Inv X (ae++tX fp s5.heap) σ7 H7 s7->N σ7 H7->∃m,m<n/\∃i σ' H',Inv X ae σ' H' s7/\tn i s7.heap/\(∀b∈fp,H' b=af)/\W i m σ' H':=λ{σ7 H7} I7 n7=>by obtain⟨m',hm,w7⟩:=hN σ7 H7 n7;refine⟨m',hm,i+1,σ7,H7,I7.unpinned,T.keep _ _ _ rZ λb hb o e=>(I7.pin (b,o) (iR _ (iR _ (wK hb e)))).1,λb hb=>?_,w7⟩;obtain⟨o,e,d⟩:=T.obj _ _ rZ b hb;exact(I7.pin (b,o) (iR _ (iR _ (wK hb e)))).2.1
  cases f with
  |next=>obtain⟨σ7,H7,I7,n7⟩:=q7;exact again I7 n7
  |cont=>obtain⟨σ7,H7,I7,n7⟩:=q7;exact again I7 n7
  |brk=>obtain⟨σ7,H7,I7,q7⟩:=q7;exact⟨σ7,H7,I7.unpinned,q7⟩
  |ret v=>obtain⟨x7,σ7,H7,I7,r7,q7⟩:=q7;exact⟨x7,σ7,H7,I7.unpinned,r7,q7⟩
end
abbrev R2:=V->V->Hp->VK->Prop
def bY(X:Cx)(f:ai->ai->Sem ai)(r:R2):Prop :=
 ∀(ae:List (ac×Obj)) (s:am) (σ:St) (H:Hp) (x y:V) (v u:ai) (Q:VK),Inv X ae σ H s->RelV x v->RelV y u->r x y H Q ->
  au (aB X.prog X.w) X.A (f v u) (EP X ae σ Q) X.xe s
def xq(X:Cx)(f:ai->Sem ai)(r:V->Hp->VK->Prop):Prop :=
 ∀(ae:List (ac×Obj)) (s:am) (σ:St) (H:Hp) (x:V) (v:ai) (Q:VK),Inv X ae σ H s->RelV x v->r x H Q ->
  au (aB X.prog X.w) X.A (f v) (EP X ae σ Q) X.xe s
def eG(X:Cx)(f:ai)(r:List V->Hp->VK->Prop):Prop :=
 ∀(ae:List (ac×Obj)) (s:am) (σ:St) (H:Hp) (xs:List V) (us:List ai) (Q:VK),Inv X ae σ H s->bF xs us->r xs H Q ->
  au (aB X.prog X.w) X.A (call f us) (EP X ae σ Q) X.xe s
def vz(r:R2)(ta tb:TE):TE:=λσ H Q=>ta σ H λx H1=>tb σ H1 λy H2=>r x y H2 Q
def Ot(r:V->Hp->VK->Prop)(ta:TE):TE:=λσ H Q=>ta σ H λx H1=>r x H1 Q
def rI(C:Int->Int->Prop)(g:Int->Int->V):R2:=λx y H Q=>∃i j,x=.int i/\y=.int j/\C i j/\Q (g i j) H
def kM(g:Int->Int->V):R2:=λx y H Q=>∃i j,x=.int i/\y=.int j/\Q (g i j) H
def rU(g:Int->V):V->Hp->VK->Prop:=λx H Q=>∃i,x=.int i/\Q (g i) H
section
variable{X:Cx}{a b c:aw}{ta tb tc:TE}{pos:Pos}
theorem Ax(ha:PE X a ta)(hb:PE X b tb){ae:List (ac×Obj)}{s:am}{σ:St}{H:Hp}{R:V->V->Hp->Prop}(I:Inv X ae σ H s)(h:ta σ H λx H1=>tb σ H1 λy H2=>R x y H2) {Q:ai->am->Prop}{f:ai->ai->Sem ai}(hf:∀v u s2 x y H2,Inv X ae σ H2 s2->RelV x v->RelV y u->R x y H2->au (aB X.prog X.w) X.A (f v u) Q X.xe s2):au (aB X.prog X.w) X.A (aG a X.env) (λv s₁=>au (aB X.prog X.w) X.A (aG b X.env) (λu s₂=>au (aB X.prog X.w) X.A (f v u) Q X.xe s₂) X.xe s₁) X.xe s:=by refine aQ (ha ae s σ H _ I h) λv s1 ⟨x,H1,I1,r1,q1⟩=>?_;refine aQ (hb ae s1 σ H1 _ I1 q1) λu s2 ⟨y,H2,I2,r2,q2⟩=>?_;exact hf v u s2 x y H2 I2 r1 r2 q2
theorem BM{op:Operator}{r:R2}(ho:bY X (jT op) r)(ha:PE X a ta)(hb:PE X b tb):PE X (.BinOp a op b pos) (vz r ta tb):=by intro ae s σ H Q I h;exact wpAny_BinOp (Ax ha hb I h λv u s2 x y H2 I2 rx ry q=>ho ae s2 σ H2 x y v u Q I2 rx ry q)
theorem OK{op:UnaryOp}{r:V->Hp->VK->Prop}(ho:xq X (unaryOp op) r)(ha:PE X a ta):PE X (.UnaryOp op a pos) (Ot r ta):=by intro ae s σ H Q I h;exact UnaryOp_ (aQ (ha ae s σ H _ I h) λv s1 ⟨x,H1,I1,r1,q1⟩=>ho ae s1 σ H1 x v Q I1 r1 q1)
theorem Fd{f:ai->ai->Sem ai}{C:Int->Int->Prop}{g:Int->Int->Int}(rule:∀(i j:Int) (t u:Tok) (s:am) (Q:ai->am->Prop) (E:ai->am->Prop),C i j->Q (.int (g i j) s.toks) {s with toks:=s.toks+1}->au (aB X.prog X.w) X.A (f (.int i t) (.int j u)) Q E s):bY X f (rI C λi j=>.int (g i j)):=by intro ae s σ H x y v u Q I rx ry h;obtain⟨i,j,rfl,rfl,hc,q⟩:=h;obtain⟨t,rfl⟩:=rx;obtain⟨t',rfl⟩:=ry;exact rule i j t t' s _ _ hc ⟨.int (g i j),H,I.tok _,⟨_,rfl⟩,q⟩
theorem EA{f:ai->ai->Sem ai}{g:Int->Int->Int}(rule:∀(i j:Int) (t u:Tok) (s:am) (Q:ai->am->Prop) (E:ai->am->Prop),Q (.int (g i j) s.toks) {s with toks:=s.toks+1}->au (aB X.prog X.w) X.A (f (.int i t) (.int j u)) Q E s):bY X f (kM λi j=>.int (g i j)):=by intro ae s σ H x y v u Q I rx ry h;obtain⟨i,j,rfl,rfl,q⟩:=h;obtain⟨t,rfl⟩:=rx;obtain⟨t',rfl⟩:=ry;exact rule i j t t' s _ _ ⟨.int (g i j),H,I.tok _,⟨_,rfl⟩,q⟩
theorem AY{f:ai->ai->Sem ai}{g:Int->Int->Bool}(rule:∀(i j:Int) (t u:Tok) (s:am) (Q:ai->am->Prop) (E:ai->am->Prop),Q (.bool (g i j)) s->au (aB X.prog X.w) X.A (f (.int i t) (.int j u)) Q E s):bY X f (kM λi j=>.bl (g i j)):=by intro ae s σ H x y v u Q I rx ry h;obtain⟨i,j,rfl,rfl,q⟩:=h;obtain⟨t,rfl⟩:=rx;obtain⟨t',rfl⟩:=ry;exact rule i j t t' s _ _ ⟨.bl (g i j),H,I,rfl,q⟩
def zX(i j:Int):Prop:=(-(2^64)<i/\i<2^64)\/(-(2^64)<j/\j<2^64)
theorem zX.ok{i j:Int}(h:zX i j):IntMulOk i j:=by
 rcases h with⟨h1,h2⟩|⟨h1,h2⟩
 ·exact .of_left (intBits_le_64 h1 h2)
 ·exact .of_right (intBits_le_64 h1 h2)
theorem Ro:bY X (jT .Add) (kM λi j=>.int (i+j)):=EA λ_ _ _ _ _ _ _ q=>add_int q
theorem qb:bY X (jT .Sub) (kM λi j=>.int (i-j)):=EA λ_ _ _ _ _ _ _ q=>sub_int q
theorem Ra:bY X (jT .Mult) (rI zX λi j=>.int (i*j)):=Fd λ_ _ _ _ _ _ _ hc q=>mul_int q hc.ok
theorem vt:bY X (jT .Mod) (rI (λ_ j=>0<j) λi j=>.int (i % j)):=Fd λi j _ _ _ _ _ hc q=>by have h1:(0:Int)<j:=hc;exact mod_int' ∅ (by rw[Int.fmod_eq_emod_of_nonneg i ∅];exact q)
theorem Ii{f:ai->Sem ai}{g:Int->Int}(rule:∀(i:Int) (t:Tok) (s:am) (Q:ai->am->Prop) (E:ai->am->Prop),Q (.int (g i) s.toks) {s with toks:=s.toks+1}->au (aB X.prog X.w) X.A (f (.int i t)) Q E s):xq X f (rU λi=>.int (g i)):=by intro ae s σ H x v Q I rx h;obtain⟨i,rfl,q⟩:=h;obtain⟨t,rfl⟩:=rx;exact rule i t s _ _ ⟨.int (g i),H,I.tok _,⟨_,rfl⟩,q⟩
theorem mW:xq X (unaryOp .USub) (rU λi=>.int (-i)):=Ii λ_ _ _ _ _ q=>neg_int q
end
def oX:V->V->Bool
 |.non,.non=>ah|.non,.int _=>ah|.int _,.non=>ah|.non,.bl _=>ah|.bl _,.non=>ah|.non,.str _=>ah|.str _,.non=>ah
 |.int _,.int _=>ah|.bl _,.bl _=>ah|.str _,.str _=>ah|.byt _,.byt _=>ah
 |.int _,.str _=>ah|.str _,.int _=>ah|.bl _,.str _=>ah|.str _,.bl _=>ah
 |_,_=>aj
def EU:R2:=λx y H Q=>oX x y=ah/\Q (.bl (decide (x=y))) H
def D4:R2:=λx y H Q=>oX x y=ah/\Q (.bl (!decide (x=y))) H
theorem ED{i j:Int}:decide (V.int i=V.int j)=(i == j):=by rw[mn];simp
theorem Ec{i j:Bool}:decide (V.bl i=V.bl j)=(i == j):=by rw[mn];simp
theorem C9{i j:Str}:decide (V.str i=V.str j)=(i == j):=by rw[mn];simp
theorem Gk{i j:Array UInt8}:decide (V.byt i=V.byt j)=(i.toList == j.toList):=by
 rw[mn];cases i;cases j;simp
section
variable{X:Cx}{a b c:aw}{ta tb tc:TE}{pos:Pos}
theorem cZ{ae:List (ac×Obj)}{σ:St}{H:Hp}{s:am}{Q:VK}{k k':Bool}(I:Inv X ae σ H s)(q:Q (.bl k) H)(e:k=k'):EP X ae σ Q (.bool k') s:=by subst e;exact⟨.bl k,H,I,rfl,q⟩
theorem Rj:bY X (d7 .Eq) EU:=by
 intro ae s σ H x y v u Q I rx ry h;obtain⟨hs,q⟩:=h;cases x with
 |non=>
  cases rx;cases y with
  |non=>cases ry;exact PySem.EqNone.eq_none_none (cZ I q (by simp))
  |bl j=>cases ry;exact PySem.EqNone.eq_none_bool (cZ I q (by simp))
  |int j=>obtain⟨t',rfl⟩:=ry;exact PySem.EqNone.eq_none_int (cZ I q (by simp))
  |str j=>obtain⟨t',rfl⟩:=ry;exact PySem.EqNone.eq_none_str (cZ I q (by simp))
  |_=>exact absurd (show aj=ah from hs) fV
 |bl i=>
  cases rx;cases y with
  |non=>cases ry;exact PySem.EqNone.eq_bool_none (cZ I q (by simp))
  |bl j=>cases ry;exact eq_bool (cZ I q Ec)
  |str j=>obtain⟨t',rfl⟩:=ry;exact PySem.EqMixed.eq_bool_str (cZ I q (by simp))
  |_=>exact absurd (show aj=ah from hs) fV
 |int i=>
  obtain⟨t,rfl⟩:=rx;cases y with
  |non=>cases ry;exact PySem.EqNone.eq_int_none (cZ I q (by simp))
  |int j=>obtain⟨t',rfl⟩:=ry;exact eq_int (cZ I q ED)
  |str j=>obtain⟨t',rfl⟩:=ry;exact PySem.EqMixed.eq_int_str (cZ I q (by simp))
  |_=>exact absurd (show aj=ah from hs) fV
 |str i=>
  obtain⟨t,rfl⟩:=rx;cases y with
  |non=>cases ry;exact PySem.EqNone.eq_str_none (cZ I q (by simp))
  |bl j=>cases ry;exact PySem.EqMixed.eq_str_bool (cZ I q (by simp))
  |int j=>obtain⟨t',rfl⟩:=ry;exact PySem.EqMixed.eq_str_int (cZ I q (by simp))
  |str j=>obtain⟨t',rfl⟩:=ry;exact eq_str (cZ I q C9)
  |_=>exact absurd (show aj=ah from hs) fV
 |byt i=>
  obtain⟨t,rfl⟩:=rx;cases y with
  |byt j=>obtain⟨t',rfl⟩:=ry;exact PySem.W.eq_bytes (cZ I q Gk)
  |_=>exact absurd (show aj=ah from hs) fV
 |_=>cases y <;> exact absurd (show aj=ah from hs) fV
theorem Rz:bY X (d7 .NotEq) D4:=by
 intro ae s σ H x y v u Q I rx ry h;obtain⟨hs,q⟩:=h;cases x with
 |non=>
  cases rx;cases y with
  |non=>cases ry;exact PySem.EqNone.ne_none_none (cZ I q (by simp))
  |bl j=>cases ry;exact PySem.EqNone.ne_none_bool (cZ I q (by simp))
  |int j=>obtain⟨t',rfl⟩:=ry;exact PySem.EqNone.ne_none_int (cZ I q (by simp))
  |str j=>obtain⟨t',rfl⟩:=ry;exact PySem.EqNone.ne_none_str (cZ I q (by simp))
  |_=>exact absurd (show aj=ah from hs) fV
 |bl i=>
  cases rx;cases y with
  |non=>cases ry;exact PySem.EqNone.ne_bool_none (cZ I q (by simp))
  |bl j=>cases ry;exact ne_bool (cZ I q (congrArg not Ec))
  |str j=>obtain⟨t',rfl⟩:=ry;exact PySem.EqMixed.ne_bool_str (cZ I q (by simp))
  |_=>exact absurd (show aj=ah from hs) fV
 |int i=>
  obtain⟨t,rfl⟩:=rx;cases y with
  |non=>cases ry;exact PySem.EqNone.ne_int_none (cZ I q (by simp))
  |int j=>obtain⟨t',rfl⟩:=ry;exact ne_int (cZ I q (congrArg not ED))
  |str j=>obtain⟨t',rfl⟩:=ry;exact PySem.EqMixed.ne_int_str (cZ I q (by simp))
  |_=>exact absurd (show aj=ah from hs) fV
 |str i=>
  obtain⟨t,rfl⟩:=rx;cases y with
  |non=>cases ry;exact PySem.EqNone.ne_str_none (cZ I q (by simp))
  |bl j=>cases ry;exact PySem.EqMixed.ne_str_bool (cZ I q (by simp))
  |int j=>obtain⟨t',rfl⟩:=ry;exact PySem.EqMixed.ne_str_int (cZ I q (by simp))
  |str j=>obtain⟨t',rfl⟩:=ry;exact ne_str (cZ I q (congrArg not C9))
  |_=>exact absurd (show aj=ah from hs) fV
 |byt i=>
  obtain⟨t,rfl⟩:=rx;cases y with
  |byt j=>obtain⟨t',rfl⟩:=ry;exact PySem.W.ne_bytes (cZ I q (congrArg not Gk))
  |_=>exact absurd (show aj=ah from hs) fV
 |_=>cases y <;> exact absurd (show aj=ah from hs) fV
theorem wT:bY X (d7 .Lt) (kM λi j=>.bl (decide (i<j))):=AY λ_ _ _ _ _ _ _ q=>lt_int q
theorem ox:bY X (d7 .LtE) (kM λi j=>.bl (decide (i<=j))):=AY λ_ _ _ _ _ _ _ q=>le_int q
theorem sY:bY X (d7 .Gt) (kM λi j=>.bl (decide (j<i))):=AY λ_ _ _ _ _ _ _ q=>gt_int q
theorem Rf:bY X (d7 .In) (λx y H Q=>∃i j,x=.str i/\y=.str j/\Q (.bl (!(GE j i 0 j.length 1).isEmpty)) H):=by intro ae s σ H x y v u Q I rx ry h;obtain⟨i,j,rfl,rfl,q⟩:=h;obtain⟨t,rfl⟩:=rx;obtain⟨t',rfl⟩:=ry;exact in_str (cZ I q rfl)
theorem BP:bY X (d7 .Is) (λx y H Q=>y=.non/\Q (.bl (decide (x=.non))) H):=by
 intro ae s σ H x y v u Q I rx ry h;obtain⟨rfl,q⟩:=h;cases ry;refine is_none_gen (cZ I q ?_);cases x <;> first
  | (cases rx;rfl)
  | (obtain⟨t,rfl⟩:=rx;rfl)
theorem bY.or{f:ai->ai->Sem ai}{r r':R2}(h:bY X f r)(h':bY X f r'):bY X f (λx y H Q=>r x y H Q\/r' x y H Q):=by
 intro ae s σ H x y v u Q I rx ry q;rcases q with q|q
 ·exact h ae s σ H x y v u Q I rx ry q
 ·exact h' ae s σ H x y v u Q I rx ry q
theorem Oq{op:CmpOp}{r:R2}(ho:bY X (d7 op) r)(ha:PE X a ta)(hb:PE X b tb)(hm:ml op b=aj):PE X (.Compare a [op] [b] pos) (vz r ta tb):=by intro ae s σ H Q I h;exact wpAny_Compare1 (Ax ha hb I h λv u s2 x y H2 I2 rx ry q=>ho ae s2 σ H2 x y v u Q I2 rx ry q) hm
def Ei(t:TE):TT:=λσ H Q=>t σ H λx H'=>∃k,x=.bl k/\Q k H'
theorem za{op:CmpOp}{r:R2}(ho:bY X (d7 op) r)(ha:PE X a ta)(hb:PE X b tb)(hm:ml op b=aj):PT X (.Compare a [op] [b] pos) (Ei (vz r ta tb)):=by
 intro ae s σ H Q I h;refine wpAny_isTrue_Compare1 (aQ (ha ae s σ H _ I h) λv s1 ⟨x,H1,I1,r1,q1⟩=>aQ (hb ae s1 σ H1 _ I1 q1) λu s2 ⟨y,H2,I2,r2,q2⟩=>aQ (ho ae s2 σ H2 x y v u _ I2 r1 r2 q2) λc s3 ⟨z,H3,I3,r3,k,e,q3⟩=>?_) hm;subst e;cases r3;exact nN ⟨H3,I3,q3⟩
def yP(r r':R2)(ta tb tc:TE):TE:=λσ H Q=>ta σ H λx H1=>tb σ H1 λy H2=>r x y H2 λz H3=>∃k,z=.bl k /\
 (if k=ah then tc σ H3 λw' H4=>r' y w' H4 Q else Q (.bl aj) H3)
theorem Np{op op':CmpOp}{r r':R2}(ho:bY X (d7 op) r)(iX:bY X (d7 op') r')(ha:PE X a ta)(hb:PE X b tb)(hc:PE X c tc)(hm:lastMarks [op,op'] [b,c]=aj:=by with_unfolding_all rfl):PE X (.Compare a [op,op'] [b,c] pos) (yP r r' ta tb tc):=by
 intro ae s σ H Q I h;refine Compare_chain (aQ (ha ae s σ H _ I h) λv s1 ⟨x,H1,I1,r1,q1⟩=>chain_link (aQ (hb ae s1 σ H1 _ I1 q1) λu s2 ⟨y,H2,I2,r2,q2⟩=>aQ (ho ae s2 σ H2 x y v u _ I2 r1 r2 q2) λd s3 ⟨z,H3,I3,r3,k,e,q3⟩=>?_)) hm;subst e;cases r3;refine nN ?_;cases k with
 |false=>exact ite_ff ⟨.bl aj,H3,I3,rfl,q3⟩
 |true=>exact ite_tt (chain_last (aQ (hc ae s3 σ H3 _ I3 q3) λw' s4 ⟨z',H4,I4,r4,q4⟩=>iX ae s4 σ H4 y z' u w' Q I4 r2 r4 q4))
theorem NY{op op':CmpOp}{r r':R2}(ho:bY X (d7 op) r)(iX:bY X (d7 op') r')(ha:PE X a ta)(hb:PE X b tb)(hc:PE X c tc)(hm:lastMarks [op,op'] [b,c]=aj:=by with_unfolding_all rfl):PT X (.Compare a [op,op'] [b,c] pos) (Ei (yP r r' ta tb tc)):=by
 intro ae s σ H Q I h;refine isTrue_chain (aQ (ha ae s σ H _ I h) λv s1 ⟨x,H1,I1,r1,q1⟩=>test_link (aQ (hb ae s1 σ H1 _ I1 q1) λu s2 ⟨y,H2,I2,r2,q2⟩=>aQ (ho ae s2 σ H2 x y v u _ I2 r1 r2 q2) λd s3 ⟨z,H3,I3,r3,k,e,q3⟩=>?_)) hm;subst e;cases r3;refine nN ?_;cases k with
 |false=>
  obtain⟨k',e',q'⟩:=q3;cases e';exact ite_ff ⟨H3,I3,q'⟩
 |true=>
  refine ite_tt (test_last (aQ (hc ae s3 σ H3 _ I3 q3) λw' s4 ⟨z',H4,I4,r4,q4⟩=>aQ (iX ae s4 σ H4 y z' u w' _ I4 r2 r4 q4) λd' s5 ⟨z2,H5,I5,r5,k2,e2,q5⟩=>?_));subst e2;cases r5;exact nN ⟨H5,I5,q5⟩
theorem sX:(bn:Nat)<2^63:=by rw[nQ];decide
theorem Ku:bY X (jT .Add) (λx y H Q=>∃i j,x=.str i/\y=.str j/\i.length+j.length<=bn/\Q (.str (i++j)) H):=by intro ae s σ H x y v u Q I rx ry h;obtain⟨i,j,rfl,rfl,hz,q⟩:=h;obtain⟨t,rfl⟩:=rx;obtain⟨t',rfl⟩:=ry;exact add_str (λt' tk=>⟨.str (i++j),H,I.tok _,⟨_,rfl⟩,q⟩) hz
theorem vals1{x:V}{us:List ai}(r:bF [x] us):∃u,us=[u]/\RelV x u:=by
 cases r with
 |cons r1 r2=>cases r2;exact⟨_,rfl,r1⟩
def C4(K:aq)(x:V)(H:Hp)(n:Nat):Prop :=
 match x with
 |.str y=>y.length<=bn/\n=y.length
 |.byt y=>y.size<=bn/\n=y.size
 |.ref p=>(∃xs,bZ K H p xs/\n=xs.length)\/∃xs,cV K H p xs/\n=xs.length
 |_=>False
theorem et:eG X (.builtin "len") (λxs H Q=>∃x n,xs=[x]/\C4 X.K x H n/\Q (.int n) H):=by
 intro ae s σ H xs us Q I r h;obtain⟨x,n,rfl,e,q⟩:=h;obtain⟨u,rfl,rx⟩:=vals1 r;have hl:=sX;have hs:bn=16777216:=nQ;cases x with
 |str y=>obtain⟨t,rfl⟩:=rx;obtain⟨hy,e'⟩:y.length<=bn/\n=y.length:=e;subst e';exact len_str ∅ ⟨.int _,H,I.tok _,⟨_,rfl⟩,q⟩
 |byt y=>obtain⟨t,rfl⟩:=rx;obtain⟨hy,e'⟩:y.size<=bn/\n=y.size:=e;subst e';exact PySem.W.len_bytes ∅ ⟨.int _,H,I.tok _,⟨_,rfl⟩,q⟩
 |ref p=>
  cases rx;have e':(∃xs,bZ X.K H p xs/\n=xs.length)\/∃xs,cV X.K H p xs/\n=xs.length:=e;rcases e' with⟨xs,hx,e'⟩|⟨xs,hx,e'⟩
  ·subst e';obtain⟨its,r',pl,hz⟩:=I.list hx;have aS:=r'.length;exact Calls.call_len_list pl.isList (by simp only[cX];lia) ⟨.int xs.length,H,I.tok _,⟨_,by simp only[cX];rw[aS]⟩,q⟩
  ·subst e';obtain⟨its,r',pl,hz⟩:=I.tuple hx;have aS:=r'.length;exact len_tuple pl (by simp only[cX];lia) ⟨.int xs.length,H,I.tok _,⟨_,by simp only[cX];rw[aS]⟩,q⟩
 |_=>exact(show False from e).elim
end
structure q_(h:aE)(x dx C:ac)(mA:Str->Option ai):Prop where
 obj:h.get? x=aa (pq C dx)
 ns:h.Ns1 dx mA
 ne:dx≠x
theorem Of{h:aE}{dx:ac}{mA:Str->Option ai}(n:h.Ns1 dx mA):∃od,h.get? dx=aa od/\∀name,A5 name od=aa (mA name):=by
 obtain⟨o,es,ep,ho,hd,hk,_,hm⟩:=n;refine⟨o,ho,λname=>?_⟩;have e:=hm name;unfold nsFind findBy at e;rw[←Array.find?_toList]at e;unfold A5;rw[hd];dsimp only;split
 ·rename_i y q;rw[q]at e;exact congrArg aa e
 ·rename_i q;rw[q]at e;have a:es.toList.any (·.refKey)=aj:=by rw[GF];intro y hy;obtain⟨z,t,rV⟩:=hk y (Array.mem_toList_iff.mp hy);simp[DictEntry.refKey,rV]
  have a':¬es.toList.any (·.refKey)=ah:=by rw[a];exact fV
  rw[if_neg a'];exact congrArg aa e
theorem q_.look{h:aE}{x dx C:ac}{mA:Str->Option ai}(I:q_ h x dx C mA):∃od,ut h x (pq C dx) C (aa od)/\∀name,A5 name od=aa (mA name) :=
 let ⟨od,ho,hl⟩:=Of I.ns
 ⟨od,⟨I.obj,rfl,rfl,ho⟩,hl⟩
section
variable{prog:ba}{w:aP}{A:a6}{E:ai->am->Prop}{s:am}{K:aq}{x dx C f:ac}{mA:Str->Option ai}{name:Str}{v:ai}
theorem JA{expr:Bool}{Q:ai->am->Prop}(X:K.In s.heap)(I:q_ s.heap x dx C mA)(hg:A6 K C name=ah)(hh:GG K C=ah)(ha:il K (.ref C) name=aa af) (hv:mA name=aa v) (hv':PySem.W.handedIn v=ah) (h:Q v {s with toks:=s.toks+1}):au (aB prog w) A (getAttr (.ref x) name expr) Q E s:=by obtain⟨od,J,hl⟩:=I.look;exact PySem.W.get_value X J (GH hg).1 (PySem.W.findObj_own hh ha rfl (by rw[hl,hv])) hv' h
theorem K0{pl:Sem Bool}{Q:ai×List ai->am->Prop}(X:K.In s.heap)(I:q_ s.heap x dx C mA)(hg:A6 K C name=ah)(hf:il K (.ref C) name=aa (aa (.ref f))) (ht:xA K (.ref f)=ah) (hv:mA name=af) (h:Q (.ref f,[.ref x]) s):au (aB prog w) A (uu (.ref x) name pl) Q E s:=by obtain⟨od,J,hl⟩:=I.look;exact PySem.W.method_fn X J (GH hg).1 (GH hg).2 hf (beq_iff_eq.mp ht) (by show(A5 name od).map (·.isSome)=aa aj;rw[hl,hv];rfl) h
theorem M_{ns:List Str}{Q:Unit->am->Prop}(X:K.In s.heap)(I:q_ s.heap x dx C mA)(hs:il K (.ref C) "__setattr__" = aa (aa (.builtin "object.__setattr__"))) (hp:PySem.W.plainOver K C=ah) (ht:PySem.W.takerIn K C name=aa af) (hh:GG K C=ah)(hw:Gz mA ns) (hsz:ns.length<=bn)(h:∀h',q_ h' x dx C (λy=>if y=name then aa v else mA y)->ku dx s.heap h'->Q () {s with heap:=h',toks:=s.toks+2}):au (aB prog w) A (setAttr (.ref x) name v) Q E s:=by obtain⟨od,J,hl⟩:=I.look;refine PySem.W.set_plain X J hs (PySem.W.osa_open (s:={s with toks:=s.toks+1}) (r:=af) X J hp ht λb=>?_);obtain⟨cd,hc,uO⟩:=PySem.W.any_some hh;have hx:s.heap.get? x=aa ⟨.ref C,aa dx,.plain,#[]⟩:=I.obj;refine ax (aV (ax (ax (wpAny_loadPart hx (ax (PySem.W.Looks.here (s:={s with toks:=s.toks+1}) (PySem.W.looks_clsIn X hc) ?_))))));rw[uO];refine aV (a:=aa dx) (ax (aV (ax ?_)));refine wpAny_nsSet1 (s:={s with toks:=s.toks+1}) I.ns λh' hn2 hs2=>?_;obtain⟨oD,esD,epD,hoD,hdD,hcD⟩:=hn2.count (PySem.Within.cons name v hw);refine ax (wpAny_lookBehind hoD (by rw[hdD];exact pastItsLine_dict (dP hcD (by rw[eF];lia))) ?_);exact aV (h _ ⟨(hs2.2 _ (c8 I.ne)).trans I.obj,hn2,I.ne⟩ hs2)
theorem Py{R:Result->am->Prop}{vs:List ai}{kw:List (Str×ai)}(X:K.In s.heap)(hm:PySem.W.makesIn K C=ah)(hi:il K (.ref C) "__init__" = aa (aa (.ref f))) (hf:PySem.W.typeIn K (.ref f)=aa (.type "function"))(h:jU (aB prog w) (A.under (.builtin "type.__call__" ⟨.ref C::vs,kw⟩)) (.call (.ref f) ⟨.ref (s.heap.objs.size+1)::vs,kw⟩) (PySem.W.InitBack (s.heap.objs.size+1) R) {s with heap:=(s.heap.push nR).push (pq C s.heap.objs.size)}):jU (aB prog w) A (.call (.ref C) ⟨vs,kw⟩) R s:=by obtain⟨hh,g,d,t,os⟩:=s;exact PySem.W.make_core (PySem.W.makes_of X hm) (GI X hi) (λself=>PySem.W.bind_fn X self hf) (.inl rfl) h
end
def eQ(f:Str)(v:V):List (Str×V)->List (Str×V)
 |[]=>[(f,v)]
 | (g,x)::r=>if g=f then(g,v)::r else(g,x)::eQ f v r
theorem BY(f g:Str)(v:V):∀fs:List (Str×V),(eQ f v fs).lookup g=if g=f then aa v else fs.lookup g
 |[]=>by
  show jh g [(f,v)]=_;by_cases h:g=f
  ·have hb:(g == f)=ah:=beq_iff_eq.mpr h;simp only[jh,hb,if_pos h]
  ·have hb:(g == f)=aj:=beq_eq_false_iff_ne.mpr h;simp only[jh,hb,if_neg h]
 | (k,x)::r=>by
  have ih:=BY f g v r;rw[show eQ f v ((k,x)::r)=(if k=f then(k,v)::r else(k,x)::eQ f v r)from rfl];by_cases hk:k=f
  ·rw[if_pos hk];by_cases h:g=k
   ·have hb:(g == k)=ah:=beq_iff_eq.mpr h;simp only[jh,hb,if_pos (h.trans hk)]
   ·have hb:(g == k)=aj:=beq_eq_false_iff_ne.mpr h;simp only[jh,hb,if_neg (λe:g=f=>h (e.trans hk.symm))]
  ·rw[if_neg hk];by_cases h:g=k
   ·have hb:(g == k)=ah:=beq_iff_eq.mpr h;simp only[jh,hb,if_neg (λe:g=f=>hk (h.symm.trans e))]
   ·have hb:(g == k)=aj:=beq_eq_false_iff_ne.mpr h;simp only[jh,hb];exact ih
theorem yM(f:Str)(v:V):∀fs:List (Str×V),f∈(eQ f v fs).map (·.1)/\∀g,g∈fs.map (·.1)->g∈(eQ f v fs).map (·.1)
 |[]=>⟨by simp[eQ],λg h=>by simp at h⟩
 | (k,x)::r=>by
  obtain⟨i1,i2⟩:=yM f v r;rw[show eQ f v ((k,x)::r)=(if k=f then(k,v)::r else(k,x)::eQ f v r)from rfl];by_cases hk:k=f
  ·rw[if_pos hk];subst hk;exact⟨by simp,λg h=>by simpa using h⟩
  ·rw[if_neg hk];refine⟨?_,λg h=>?_⟩
   ·rw[cQ];exact jw _ i1
   ·rw[cQ]at h ⊢;rcases bQ.mp h with e|e
    ·exact bQ.mpr (.inl e)
    ·exact jw _ (i2 g e)
theorem ES(f:Str)(v:V):∀fs:List (Str×V),(eQ f v fs).length<=fs.length+1
 |[]=>by simp[eQ]
 | (k,x)::r=>by
  have ih:=ES f v r;rw[show eQ f v ((k,x)::r)=(if k=f then(k,v)::r else(k,x)::eQ f v r)from rfl];by_cases hk:k=f
  ·rw[if_pos hk,eF,eF];lia
  ·rw[if_neg hk,eF,eF];lia
theorem li.some_of{v:V}{o:Option ai}(r:li (aa v) o):∃u,o=aa u/\RelV v u:=by
 cases o with
 |none=>exact(show False from r).elim
 |some u=>exact⟨u,rfl,r⟩
theorem li.none_of{o:Option ai}(r:li af o):o=af:=by
 cases o with
 |none=>rfl
 |some u=>exact(show False from r).elim
theorem Qq{v:V}{u:ai}(r:RelV v u):PySem.W.handedIn u=ah:=by
 cases v with
 |non=>cases (show u=Value.none from r);rfl
 |bl b=>cases (show u=Value.bool b from r);rfl
 |int i=>obtain⟨t,e⟩:=(show ∃t,u=Value.int i t from r);cases e;rfl
 |str x=>obtain⟨t,e⟩:=(show ∃t,u=Value.str x t from r);cases e;rfl
 |byt b=>obtain⟨t,e⟩:=(show ∃t,u=Value.bytes b t from r);cases e;rfl
 |flt b=>obtain⟨t,e⟩:=(show ∃t,u=Value.float b t from r);cases e;rfl
 |ref a=>cases (show u=Value.ref a from r);rfl
 |ty n=>cases (show u=Value.type n from r);rfl
section
variable{P:ba}{w:aP}{H H':Hp}{h h':aE}{a C dx:ac}{fs fs':List (Str×V)}
theorem v9(hok:c0 P w H h)(e:H a=aa (.ins C dx fs)):∃mA,q_ h a dx C mA/\(∀f,li (fs.lookup f) (mA f))/\Gz mA (fs.map (·.1))/\fs.length<=1000/\H dx=aa (.own a):=by
 obtain⟨d,z,ne,ob,mA,n,r,q⟩:=(show dy P w H h a (.ins C dx fs)from hok a _ e)
 exact⟨mA,⟨ob,n,ne⟩,r,q,z,d⟩
end
structure Cls(K:aq)(C:ac):Prop where
 pg:A6 K C kx=ah
 hd:GG K C=ah
 po:PySem.W.plainOver K C=ah
 sa:il K (.ref C) "__setattr__" = aa (aa (.builtin "object.__setattr__"))
theorem Cls.get{K:aq}{C:ac}(c:Cls K C)(f:Str):A6 K C f=ah:=c.pg
def gF(K:aq)(C:ac)(f:Str):Prop:=il K (.ref C) f=aa af
theorem gF.taker{K:aq}{C:ac}{f:Str}(n:gF K C f):PySem.W.takerIn K C f=aa af:=by unfold PySem.W.takerIn;rw[show il K (.ref C) f=aa af from n];rfl
structure vg(K:aq)(C:ac)(m:Str)(f:ac):Prop where
 at_:il K (.ref C) m=aa (aa (.ref f))
 fn:xA K (.ref f)=ah
 kp:jV K (.ref f)=ah
section
variable{X:Cx}{ae:List (ac×Obj)}{σ:St}{H:Hp}{s:am}{a C dx:ac}{fs:List (Str×V)}{f:Str}{v:V}{A:a6}{E:ai->am->Prop}
theorem OO{b:Bool}{Q:ai->am->Prop}(I:Inv X ae σ H s)(e:H a=aa (.ins C dx fs))(c:Cls X.K C)(n:gF X.K C f)(l:fs.lookup f=aa v)(h:∀u s',Inv X ae σ H s'->RelV v u->Q u s'):au (aB X.prog X.w) A (getAttr (.ref a) f b) Q E s:=by obtain⟨mA,O,r,_,_,_⟩:=v9 I.hok e;obtain⟨u,hu,ru⟩:=li.some_of (v:=v) (o:=mA f) (by rw[←l];exact r f);exact JA I.kIn O (c.get f) c.hd n hu (Qq ru) (h u _ (I.tok _) ru)
theorem yA{m:Str}{g:ac}{pl:Sem Bool}{Q:ai×List ai->am->Prop}(I:Inv X ae σ H s)(e:H a=aa (.ins C dx fs))(c:Cls X.K C)(k:vg X.K C m g)(l:fs.lookup m=af)(h:Q (.ref g,[.ref a]) s):au (aB X.prog X.w) A (uu (.ref a) m pl) Q E s:=by obtain⟨mA,O,r,_,_,_⟩:=v9 I.hok e;have hn:mA m=af:=li.none_of (by rw[←l];exact r m);exact K0 I.kIn O (c.get m) k.at_ k.fn hn h
theorem N1{y:V}{u:ai}{Q:Unit->am->Prop}(I:Inv X ae σ H s)(e:H a=aa (.ins C dx fs))(c:Cls X.K C)(n:gF X.K C f)(hl:fs.length<1000)(ry:RelV y u)(h:∀s',Inv X ae σ (upd H a (.ins C dx (eQ f y fs))) s'->Q () s'):au (aB X.prog X.w) A (setAttr (.ref a) f u) Q E s:=by
 obtain⟨mA,O,r,wi,_,ho⟩:=v9 I.hok e;have hz:(fs.map (·.1)).length<=bn:=by rw[c9,nQ];lia
 refine M_ I.kIn O c.sa c.po n.taker c.hd wi hz λh' O' sb=>h _ ?_;have hd:∃o,h'.get? dx=aa o:=let ⟨o,_,_,e',_⟩:=O'.ns;⟨o,e'⟩
 refine I.write (x:=a) (e:=dx) (by rw[e];exact True.intro) (.inr ho) (λb q hb z=>(sb.2 b hb).trans z) hd ?_;refine⟨by rw[bh O.ne];exact ho,?_,O.ne,O'.obj,_,O'.ns,λg=>?_,λg hg=>?_⟩
 ·have:=ES f y fs;lia
 ·show li ((eQ f y fs).lookup g) (if g=f then aa u else mA g);rw[BY];by_cases q:g=f
  ·rw[if_pos q,if_pos q];exact ry
  ·rw[if_neg q,if_neg q];exact r g
 ·by_cases q:g=f
  ·rw[q];exact(yM f y fs).1
  ·refine(yM f y fs).2 g (wi g λz=>hg ?_);show(if g=f then aa u else mA g)=af;rw[if_neg q];exact z
theorem Inv.made(I:Inv X ae σ H s):Inv X ae σ (upd (upd H s.heap.objs.size (.own (s.heap.objs.size+1))) (s.heap.objs.size+1) (.ins C s.heap.objs.size [])) {s with heap:=(s.heap.push nR).push (pq C s.heap.objs.size)}:=by
 have e1:(s.heap.push nR).get? s.heap.objs.size=aa nR:=dq s.heap rfl;have e2:((s.heap.push nR).push (pq C s.heap.objs.size)).get? (s.heap.objs.size+1)=aa (pq C s.heap.objs.size):=by have:=dq (s.heap.push nR) (o:=pq C s.heap.objs.size) rfl;rwa[uv]at this
 have e3:(s.heap.push nR).Ns s.heap.objs.size (λ_=>af):=⟨nR,#[],_,e1,rfl,(λe he=>absurd he (by simp)),λ_=>rfl⟩
 have I1:=I.laid (a:=s.heap.objs.size) (o:=.own (s.heap.objs.size+1)) (h':=s.heap.push nR) (t':=s.toks) (λb u q=>bV _ q) (bt _) ⟨_,e1⟩;refine I1.laid (a:=s.heap.objs.size+1) (o:=.ins C s.heap.objs.size []) (t':=s.toks) (λb u q=>bV _ q) (mq (uv _ _)) ?_;have ne:s.heap.objs.size≠s.heap.objs.size+1:=dr (kA _);refine⟨by rw[bh ne,upd_same],mr _,ne,e2,λ_=>af,(Heap.Ns1.of_empty e3).at λo q=>bV _ q,λ_=>True.intro,λy hy=>absurd rfl hy⟩
theorem Pb{prog:ba}{w:aP}{env:Env}{e:aw}{f:Str}{pos:Pos}{s:am}{Q:ai->am->Prop}(hb:e9 e f env (aG e env)=aG e env)(h:au (aB prog w) A (aG e env) (λo s₁=>au (aB prog w) A (getAttr o f ah) Q E s₁) E s):au (aB prog w) A (aG (.Attribute e f pos) env) Q E s :=Attribute_any_ h (by rw[arm_eval_Attribute,hb])
end
def Il(K:aq)(ta:TE)(f:Str):TE:=λσ H Q=>ta σ H λx H1=>∃a C dx fs v,x=.ref a/\H1 a=aa (.ins C dx fs)/\Cls K C/\gF K C f/\fs.lookup f=aa v/\Q v H1
def Jd(K:aq)(ta tv:TE)(f:Str):TS:=λD σ H=>tv σ H λy H1=>ta σ H1 λx H2=>∃a C dx fs,x=.ref a/\H2 a=aa (.ins C dx fs)/\Cls K C/\gF K C f/\fs.length<1000 /\
 D.nx σ (upd H2 a (.ins C dx (eQ f y fs)))
section
variable{X:Cx}{o e value:aw}{f:Str}{pos pos' tpos:Pos}{ta tv:TE}
theorem nr(he:PE X e ta)(hb:e9 e f X.env (aG e X.env)=aG e X.env):PE X (.Attribute e f pos) (Il X.K ta f):=by intro ae s σ H Q I h;refine Pb hb (aQ (he ae s σ H _ I h) λu s1 ⟨x,H1,I1,rx,a,C,dx,fs,v,ex,ea,c,n,l,q⟩=>?_);subst ex;obtain rfl:u=Value.ref a:=rx;exact OO I1 ea c n l λu' s2 I2 ru=>⟨v,H1,I2,ru,q⟩
theorem Cv(ha:PE X o ta)(hv:PE X value tv)(hs:ik value (aa (.Attribute o f pos')) pos.line X.env=pure aj):PS X (.Assign [.Attribute o f pos'] value pos) (Jd X.K ta tv f):=by intro ae s σ H D I h;refine plainObj_wpAny_Assign_Attribute (aQ (hv ae s σ H _ I h) λu s1 ⟨y,H1,I1,ry,q⟩=>aQ (ha ae s1 σ H1 _ I1 q) λov s2 ⟨x,H2,I2,rx,a,C,dx,fs,ex,ea,c,n,l,q2⟩=>?_) hs;subst ex;obtain rfl:ov=Value.ref a:=rx;exact N1 I2 ea c n l ry λs3 I3=>⟨σ,_,I3,q2⟩
end
section
variable{X:Cx}{ae:List (ac×Obj)}{σ:St}{H:Hp}{s:am}{A:a6}{E:ai->am->Prop}{Q:ai->am->Prop}{c:ai}{b:Bool}
inductive iF(K:aq)(H:Hp):V->ai->Prop where
 |non:iF K H .non (.type "NoneType")
 |bl (x:Bool):iF K H (.bl x) (.type "bool")
 |int (i:Int):iF K H (.int i) (.type "int")
 |str (x:Str):iF K H (.str x) (.type "str")
 |flt (x:UInt64):iF K H (.flt x) (.type "float")
 |lst {a:ac}{xs:List V} (e:H a=aa (.lst xs)):iF K H (.ref a) (.type "list")
 |frz {a:ac}{o:Obj}{xs:List V} (e:H a=aa (.frz o (.lst xs))):iF K H (.ref a) (.type "list")
 |tup {a:ac}{xs:List V} (e:H a=aa (.tup xs)):iF K H (.ref a) (.type "tuple")
 |dK {a:ac}{kvs:List (aO×V)} (e:H a=aa (.dK kvs)):iF K H (.ref a) (.type "dict")
 |dT {a:ac}{kvs:List (List aO×V)} (e:H a=aa (.dT kvs)):iF K H (.ref a) (.type "dict")
 |ins {a C dx:ac}{fs:List (Str×V)} (e:H a=aa (.ins C dx fs)) (cl:Cls K C) (ha:il K (.ref C) "__class__" = aa (aa (.builtin "object.__class__")))
   (hn:GJ K (.builtin "object.__class__") "__get__" = aa (aa (.builtin "getset_descriptor.__get__"))) (uQ:PySem.W.takesIn K (.builtin "object.__class__")=aa ah)
   (hm:xC K C (.type "object")=aa ah):iF K H (.ref a) (.ref C)
theorem La{x:V}{u t:ai}(I:Inv X ae σ H s)(rx:RelV x u)(ty:iF X.K H x t)(e:gH X.K t c=aa b)(h:∀tk,Q (.bool b) {s with toks:=tk}):au (aB X.prog X.w) A (call (.builtin "isinstance") [u,c]) Q E s:=by
 cases ty with
 |non=>cases (show u=Value.none from rx);exact kB PySem.W.kitx_none I.kIn True.intro e (λz=>nomatch z) h
 |bl y=>cases (show u=Value.bool y from rx);exact kB PySem.W.kitx_bool I.kIn True.intro e (λz=>nomatch z) h
 |int i=>obtain⟨t,q⟩:=(show ∃t,u=Value.int i t from rx);cases q;exact kB PySem.W.kitx_int I.kIn True.intro e (λz=>nomatch z) h
 |str y=>obtain⟨t,q⟩:=(show ∃t,u=Value.str y t from rx);cases q;exact kB PySem.W.kitx_str I.kIn True.intro e (λz=>nomatch z) h
 |flt y=>obtain⟨t,q⟩:=(show ∃t,u=Value.float y t from rx);cases q;exact kB PySem.W.kitx_float I.kIn True.intro e (λz=>nomatch z) h
 |@lst a xs ea=>
  cases (show u=Value.ref a from rx);obtain⟨_,_,n,_,h1⟩:=(show dy X.prog X.w H s.heap a (.lst xs)from I.hok a _ ea)
  exact kB PySem.W.kitx_list I.kIn ⟨_,h1,rfl⟩ e (λz=>nomatch z) h
 |@frz a ob xs ea=>
  cases (show u=Value.ref a from rx);obtain⟨_,_,_,n,_,h1⟩:=(show dy X.prog X.w H s.heap a (.frz ob (.lst xs))from I.hok a _ ea)
  exact kB PySem.W.kitx_list I.kIn ⟨_,h1,rfl⟩ e (λz=>nomatch z) h
 |@tup a xs ea=>
  cases (show u=Value.ref a from rx);obtain⟨_,_,_,p,_⟩:=(show dy X.prog X.w H s.heap a (.tup xs)from I.hok a _ ea)
  obtain⟨o,h1,h2,_⟩:=p;exact kB PySem.W.kitx_tuple I.kIn ⟨o,h1,h2⟩ e (λz=>nomatch z) h
 |@dK a kvs ea=>
  cases (show u=Value.ref a from rx);obtain⟨_,_,vs,_,p⟩:=(show dy X.prog X.w H s.heap a (.dK kvs)from I.hok a _ ea)
  obtain⟨o,es,ep,h1,h2,_⟩:=p;exact kB PySem.W.kitx_dict I.kIn ⟨o,h1,h2.1⟩ e (λz=>nomatch z) h
 |@dT a kvs ea=>
  cases (show u=Value.ref a from rx);obtain⟨_,_,xs,_,o,es,ep,h1,h2,_⟩:=(show dy X.prog X.w H s.heap a (.dT kvs)from I.hok a _ ea)
  exact kB PySem.W.kitx_dict I.kIn ⟨o,h1,h2.1⟩ e (λz=>nomatch z) h
 |@ins a C dx fs ea cl ha hn uQ hm=>
  cases (show u=Value.ref a from rx);obtain⟨mA,O,_⟩:=v9 I.hok ea;obtain⟨od,J,_⟩:=O.look;exact kB (PySem.W.kitx_own (cl.get _) cl.hd ha hn uQ hm) I.kIn J e (λz=>nomatch z) h
end
structure cB(k:Nat)(A:a6):Prop where
 hd:A.handled=af
 dp:A.depth+3*k+5<recursionLimit
 un:A.units+16*k+200<cLine
theorem cB.mono{j k:Nat}{A:a6}(r:cB k A)(h:j<=k):cB j A:=⟨r.hd,by have:=r.dp;lia,by have:=r.un;lia⟩
theorem cB.deeper{k:Nat}{A:a6}(r:cB (k+1) A)(env:Env):cB k (A.deeper env) :=⟨r.hd,by have:=r.dp;show A.depth+1+3*k+5<_;lia,by have:=r.un;show A.units+3+16*k+200<_;lia⟩
theorem QI{A:a6}{C:ac}{us:List ai}{kw:List (Str×ai)}:(A.under (.builtin "type.__call__" ⟨.ref C::us,kw⟩)).depth=A.depth+1:=by
 first|rfl|simp[Around.under,Code.weight,Code.isCreation,Code.isGuard,Code.isCaller,Code.frames,Code.isFrame,guardIds]
theorem Pw{A:a6}{C:ac}{us:List ai}{kw:List (Str×ai)}:(A.under (.builtin "type.__call__" ⟨.ref C::us,kw⟩)).units=A.units+1:=by
 first|rfl|simp[Around.under,Code.cUnits,Code.frames,Code.isFrame]
theorem cB.make{k:Nat}{A:a6}(r:cB (k+1) A)(C:ac)(us:List ai)(kw:List (Str×ai)):cB k (A.under (.builtin "type.__call__" ⟨.ref C::us,kw⟩)) :=⟨r.hd,by have:=r.dp;rw[QI];lia,by have:=r.un;rw[Pw];lia⟩
theorem cB.depth{k:Nat}{A:a6}(r:cB k A):A.depth<recursionLimit:=by have:=r.dp;lia
theorem cB.units{k:Nat}{A:a6}(r:cB k A):A.units+64<cLine:=by have:=r.un;lia
def Dy:TA:=λ_ H Q=>Q [] H
def KB(ta:TE)(tr:TA):TA:=λσ H Q=>ta σ H λx H1=>tr σ H1 λxs H2=>Q (x::xs) H2
section
variable{X:Cx}{e:aw}{es:List aw}{te:TE}{t:TA}{pos:Pos}
theorem gB:PA X [] Dy:=λ_ _ _ _ H Q I h=>GK ⟨[],H,I,.nil,h⟩
theorem ff(ha:PE X e te)(hr:PA X es t)(hs:aH (e::es) X.env=(aj,aG e X.env)::aH es X.env:=by rfl):PA X (e::es) (KB te t):=by intro pos ae s σ H Q I h;rw[hs];show au _ _ (spliced ((aj,aG e X.env)::bU pos (aH es X.env))) _ _ s;refine A7 (aQ (ha ae s σ H _ I h) λu s1 ⟨x,H1,I1,r1,q1⟩=>?_);exact aQ (hr pos ae s1 σ H1 _ I1 q1) λus s2 ⟨xs,H2,I2,r2,q2⟩=>⟨x::xs,H2,I2,.cons r1 r2,q2⟩
def Mv(t:TA):TE:=λσ H Q=>t σ H λxs H1=>xs.length<=bn/\∀p,H1 p=af->Q (.ref p) (upd H1 p (.tup xs))
def Iy(t:TA):TE:=λσ H Q=>t σ H λxs H1=>xs.length<=bn/\∀p,H1 p=af->Q (.ref p) (upd H1 p (.lst xs))
theorem JG{x1}(h:PA X es t):PE X (.Tuple es x1 pos) (Mv t):=by intro ae s σ H Q I hq;refine wpAny_Tuple_spliced (aQ (h pos ae s σ H _ I hq) λus s1 ⟨xs,H1,I1,r,z,q⟩=>⟨by rw[←r.length];exact z,?_⟩);have hf:H1 s1.heap.objs.size=af:=I1.hok.fresh (bt _);refine⟨.ref s1.heap.objs.size,upd H1 s1.heap.objs.size (.tup xs),I1.laid (t':=s1.toks) (λb u e=>bV _ e) (bt _) ?_,rfl,q _ hf⟩;exact⟨z,us,r,⟨⟨_,dq _ rfl,rfl,_,rfl⟩,_,dq _ rfl,rfl⟩⟩
theorem FZ(h:PA X es t):PE X (.List es pos) (Iy t):=by intro ae s σ H Q I hq;refine wpAny_List_spliced (aQ (h pos ae s σ H _ I hq) λus s1 ⟨xs,H1,I1,r,z,q⟩=>⟨by rw[←r.length];exact z,?_⟩);have hf:H1 s1.heap.objs.size=af:=I1.hok.fresh (bt _);refine⟨.ref s1.heap.objs.size,upd H1 s1.heap.objs.size (.lst xs),I1.laid (t':=s1.toks) (λb u e=>bV _ e) (bt _) ?_,rfl,q _ hf⟩;exact⟨z,us,0,r,dq _ rfl⟩
end
abbrev Sp:=List V->Hp->VK->XK->Prop
abbrev eI:=List Env->Hp->am->XK->ai->am->Prop
structure mX(P:ba)(w:aP)(K:aq)(mg:Str->Option ai)(base:aE)(A:a6)(outer:List Env)(s:am)(H:Hp):Prop where
 frames:A.frames=aa outer
 mod:Mod K mg base
 bs:∀b o,base.get? b=aa o->s.heap.get? b=aa o/\H b=af
 bsz:base.objs.size<=s.heap.objs.size
 funs:s.heap.FunFrames base outer
 frf:∀b∈fD outer,H b=af
 hok:c0 P w H s.heap
 bare:mh s.gens
 tab:vd K H
def CE(outer:List Env)(P:ba)(w:aP)(H:Hp)(s:am)(Q:VK)(u:ai)(s':am):Prop :=
 ∃v H',s'.os=s.os/\mh s'.gens/\Un (fD outer) [] H H' s.heap s'.heap/\c0 P w H' s'.heap/\RelV v u/\Q v H'
def CR(CX:eI)(outer:List Env)(P:ba)(w:aP)(H:Hp)(s:am)(Q:VK)(E:XK)(r:Result)(s':am):Prop :=
 match r with
 |.ok (.ret u)=>CE outer P w H s Q u s'
 |.ok _=>False
 |.error e=>CX outer H s E e s'
structure gL(P:ba)(w:aP)(K:aq)(mg:Str->Option ai)(base:aE)(CX:eI)(k:Nat)(f:ac)(fd:gn)(ps:List Str)(sp:Sp):Prop where
 len:∀vs H Q E,sp vs H Q E->vs.length=ps.length
 run:∀(A:a6) (outer:List Env) (s:am) (H:Hp) (args:Args) (us:List ai) (vs:List V) (Q:VK) (E:XK),cB k A->mX P w K mg base A outer s H->BindsTo s fd args (ps.zip us)->bF vs us->sp vs H Q E ->
  jU (aB P w) A (.call (.ref f) args) (CR CX outer P w H s Q E) s
theorem mX.make{P:ba}{w:aP}{K:aq}{mg:Str->Option ai}{base:aE}{A:a6}{outer:List Env}{s:am}{H:Hp}(e:mX P w K mg base A outer s H)(C:ac)(us:List ai)(kw:List (Str×ai)):mX P w K mg base (A.under (.builtin "type.__call__" ⟨.ref C::us,kw⟩)) outer s H:=⟨by first|exact e.frames | (simpa[Around.under,Code.envs,Code.isFrame,pushEnvs]using e.frames),e.mod,e.bs,e.bsz,e.funs,e.frf,e.hok,e.bare,e.tab⟩
section
variable{X:Cx}{ae:List (ac×Obj)}{σ:St}{H:Hp}{s s':am}
theorem Inv.env0(I:Inv X ae σ H s):mX X.prog X.w X.K X.mg X.base X.A X.stack s H :=⟨I.ok.frames,I.ok.mod,I.bs,dP I.ok.bsz I.sz,I.stack,I.stkFree,I.hok,I.bare,I.tab⟩
theorem Inv.after{Q:VK}{u:ai}(I:Inv X ae σ H s)(h:CE X.stack X.prog X.w H s Q u s'):EP X ae σ Q u s':=by obtain⟨v,H',os,bare,un,hok,r,q⟩:=h;obtain⟨hh,g,d,t,os'⟩:=s';obtain rfl:os'=s.os:=os;exact⟨v,H',I.call (h':=hh) (g':=g) (d':=d) (t':=t) (ch:=[]) un hok bare (λb z=>absurd z (by simp)),r,q⟩
end
def JY(sp:Sp)(dvs:List V)(E:XK)(t:TA):TE:=λσ H Q=>t σ H λvs H1=>sp (vs++dvs) H1 Q E
def KY(C:ac)(m:Str)(sp:Sp)(dvs:List V)(E:XK)(ta:TE)(t:TA):TE:=λσ H Q=>ta σ H λx H1=>∃a dx fs,x=.ref a/\H1 a=aa (.ins C dx fs)/\fs.lookup m=af /\
 t σ H1 λvs H2=>sp (x::(vs++dvs)) H2 Q E
def NT(C:ac)(sp:Sp)(dvs:List V)(E:XK)(t:TA):TE:=λσ H Q=>t σ H λvs H1=>∀x dx,H1 x=af->H1 dx=af->dx≠x ->
 sp (.ref x::(vs++dvs)) (upd (upd H1 dx (.own x)) x (.ins C dx [])) (λv H2=>v=.non/\Q (.ref x) H2) E
def Binds(K:aq)(fd:gn)(ps:List Str)(ds:List ai):Prop :=
 ∀(s:am) (us:List ai),K.In s.heap->(us++ds).length=ps.length->BindsTo s fd ⟨us,[]⟩ (ps.zip (us++ds))
theorem Binds.all{K:aq}{fd:gn}{ps:List Str}(h:∀us:List ai,us.length=ps.length->eV fd ⟨us,[]⟩=pure (ps.zip us)):Binds K fd ps []:=λs us _ hl=>by rw[gq]at hl ⊢;exact .of_eq (h us hl)
def jL(CX:eI)(X:Cx)(E:XK):Prop:=∀(ae:List (ac×Obj)) (σ:St) (H:Hp) (s:am) (e:ai) (s':am),Inv X ae σ H s->CX X.stack H s E e s'->X.xe e s'
section
variable{X:Cx}{CX:eI}{k:Nat}{f C:ac}{fd:gn}{ps:List Str}{sp:Sp}{dvs:List V}{ds:List ai}{E:XK}{x m:Str}{p pos apos:Pos}{e o:aw}{es:List aw}{ta:TE}{t:TA}
theorem Gx{ae:List (ac×Obj)}{σ:St}{H:Hp}{s:am}{Q:VK}{us:List ai}{vs:List V}(F:gL X.prog X.w X.K X.mg X.base CX k f fd ps sp)(hr:cB k X.A)(hb:Binds X.K fd ps ds)(hd:bF dvs ds)(hx:jL CX X E)(I:Inv X ae σ H s) (r:bF vs us) (h:sp (vs++dvs) H Q E):au (aB X.prog X.w) X.A (call (.ref f) us) (EP X ae σ Q) X.xe s:=by
 have r2:bF (vs++dvs) (us++ds):=r.append hd;have hl:(us++ds).length=ps.length:=by rw[←r2.length];exact F.len _ _ _ _ h
 refine uw (nV (F.run X.A X.stack s H ⟨us,[]⟩ (us++ds) (vs++dvs) Q E hr I.env0 (hb s us I.kIn hl) r2 h) λr s' hq=>?_);cases r with
 |error e=>exact hx ae σ H s e s' I hq
 |ok fl=>
  cases fl with
  |ret u=>exact I.after hq
  |next=>exact fW hq
  |brk=>exact fW hq
  |cont=>exact fW hq
theorem yW(F:gL X.prog X.w X.K X.mg X.base CX k f fd ps sp)(hr:cB k X.A)(hg:Gl X x)(hm:X.mg x=aa (.ref f))(hk:jV X.K (.ref f)=ah)(hb:Binds X.K fd ps ds)(hd:bF dvs ds)(hx:jL CX X E)(ha:PA X (e::es) t) (eX:(x == ("__debug__" : Str))=aj:=by decide) (he:aH (e::es) X.env=(aj,aG e X.env)::aH es X.env:=by rfl) (cz:(bU pos (aH es X.env)).any (·.1)=aj:=by rfl):PE X (.Call (.Name x p) (e::es) [] pos) (JY sp dvs E t):=by intro ae s σ H Q I h;refine xD (rg I hg hm ?_ eX);refine A8 (h₀:=X.base) I.ok.mod.kin hk (aQ (ha pos ae s σ H _ I h) λus s1 ⟨vs,H1,I1,r,q⟩=>⟨I1.kIn,?_⟩) he cz;exact Gx F hr hb hd hx I1 r q
theorem Jc{pl:Sem Bool}(he:PE X o ta)(c:Cls X.K C)(hm:vg X.K C m f)(F:gL X.prog X.w X.K X.mg X.base CX k f fd ps sp)(hr:cB k X.A)(hb:Binds X.K fd ps ds)(hd:bF dvs ds)(hx:jL CX X E)(ht:aG (.Call (.Attribute o m apos) [] [] pos) X.env=(do
   let ov ←aG o X.env
   standAt apos.atName
   let (f,first) ←pA [ov] (uu ov m pl)
   callWith pos f first (bU pos (aH [] X.env)) (jW pos (jX [] X.env))):=by rfl) :
  PE X (.Call (.Attribute o m apos) [] [] pos) (KY C m sp dvs E ta Dy):=by
 intro ae s σ H Q I h;refine GL (pl:=pl) (aQ (he ae s σ H _ I h) λu s1 ⟨x,H1,I1,rx,a,dx,fs,ex,ea,l,q⟩=>?_) ht;subst ex;obtain rfl:u=Value.ref a:=rx;refine yA I1 ea c hm l ?_;exact PySem.W.callWith_K0 (first:=[.ref a]) I1.kIn hm.kp (Gx (us:=[.ref a]) (vs:=[.ref a]) F hr hb hd hx I1 (.cons rfl .nil) q)
structure Mk(K:aq)(C f:ac):Prop where
 makes:PySem.W.makesIn K C=ah
 init:il K (.ref C) "__init__" = aa (aa (.ref f))
 fn:xA K (.ref f)=ah
 kp:jV K (.ref C)=ah
theorem Ir{ae:List (ac×Obj)}{σ:St}{H:Hp}{s:am}{Q:VK}{us:List ai}{vs:List V}(M:Mk X.K C f)(F:gL X.prog X.w X.K X.mg X.base CX k f fd ps sp)(hr:cB (k+1) X.A)(hb:Binds X.K fd ps ds)(hd:bF dvs ds)(hx:jL CX X E) (I:Inv X ae σ H s) (r:bF vs us)(h:∀x dx,H x=af->H dx=af->dx≠x->sp (.ref x::(vs++dvs)) (upd (upd H dx (.own x)) x (.ins C dx [])) (λv H2=>v=.non/\Q (.ref x) H2) E):au (aB X.prog X.w) X.A (call (.ref C) us) (EP X ae σ Q) X.xe s:=by
 have hq:=h (s.heap.objs.size+1) s.heap.objs.size (I.hok.fresh (rA _)) (I.hok.fresh (bt _)) (dr (kA _));have I2:=Inv.made (C:=C) I;have r2:bF (V.ref (s.heap.objs.size+1)::(vs++dvs)) (Value.ref (s.heap.objs.size+1)::(us++ds)):=.cons rfl (r.append hd);have hl:(Value.ref (s.heap.objs.size+1)::us++ds).length=ps.length:=by have e:=r2.length;rw[F.len _ _ _ _ hq]at e;exact e.symm
 refine uw (Py (f:=f) I.kIn M.makes M.init (beq_iff_eq.mp M.fn) (nV (F.run _ X.stack _ _ ⟨Value.ref (s.heap.objs.size+1)::us,[]⟩ (Value.ref (s.heap.objs.size+1)::(us++ds)) _ _ E (hr.make C us []) (I2.env0.make C us []) (hb _ (Value.ref (s.heap.objs.size+1)::us) I2.kIn hl) r2 hq) λr s' uR=>?_));cases r with
 |error e=>exact hx ae σ _ _ e s' I2 uR
 |ok fl=>
  cases fl with
  |ret u=>obtain⟨v,H',I3,rv,ev,q3⟩:=I2.after uR;subst ev;exact⟨rv,⟨V.ref (s.heap.objs.size+1),H',I3,rfl,q3⟩⟩
  |next=>exact fW uR
  |brk=>exact fW uR
  |cont=>exact fW uR
theorem L7(M:Mk X.K C f)(F:gL X.prog X.w X.K X.mg X.base CX k f fd ps sp)(hr:cB (k+1) X.A)(hg:Gl X x)(hm:X.mg x=aa (.ref C))(hb:Binds X.K fd ps ds)(hd:bF dvs ds)(hx:jL CX X E)(ha:PA X (e::es) t) (eX:(x == ("__debug__" : Str))=aj:=by decide) (he:aH (e::es) X.env=(aj,aG e X.env)::aH es X.env:=by rfl) (cz:(bU pos (aH es X.env)).any (·.1)=aj:=by rfl):PE X (.Call (.Name x p) (e::es) [] pos) (NT C sp dvs E t):=by intro ae s σ H Q I h;refine xD (rg I hg hm ?_ eX);refine A8 (h₀:=X.base) I.ok.mod.kin M.kp (aQ (ha pos ae s σ H _ I h) λus s1 ⟨vs,H1,I1,r,q⟩=>⟨I1.kIn,?_⟩) he cz;exact Ir M F hr hb hd hx I1 r q
end
structure bI(N P:List Str)(sc:dO):Prop where
 kind:sc.kind=.function
 co:sc.isCoroutine=aj
 gen:sc.isGenerator=aj
 nd:N.Nodup
 pre:N.take P.length=P
 par:∀x∈P,sc.names.lookup x=aa .local\/sc.names.lookup x=aa .cell
 nofree:∀y∈sc.names,y.2≠.free
theorem EW{kindOf:Str->Option gI}{x:Str}:∀{binds:List (Str×ai)}{m:Str->Option ai},(∀v,(x,v)∉binds)->bindL kindOf binds m x=m x
 |[],_,_=>rfl
 | (n,v)::r,m,h=>by
  unfold bindL;rw[EW λw hw=>h w (jw _ hw)];split
  ·have:x≠n:=by rintro rfl;exact h v mi
   simp[this]
  ·rfl
theorem Gm{kindOf:Str->Option gI}{x:Str}:∀{binds:List (Str×ai)}{m:Str->Option ai},(∀v,(x,v)∉binds)->bindC kindOf binds m x=m x
 |[],_,_=>rfl
 | (n,v)::r,m,h=>by
  unfold bindC;rw[Gm λw hw=>h w (jw _ hw)];split
  ·rfl
  ·have:x≠n:=by rintro rfl;exact h v mi
   simp[this]
theorem C3{kindOf:Str->Option gI}{x:Str}{v:ai}:∀{P:List Str}{vs:List ai}{i:Nat}{m:Str->Option ai},P.Nodup->P[i]?=aa x->vs[i]?=aa v->kindOf x=aa .local -> bindL kindOf (P.zip vs) m x=aa v
 |[],_,_,_,_,h,_,_=>by simp at h
 |_::_,[],_,_,_,_,h,_=>by simp at h
 |p::P,w::vs,0,m,nd,h1,h2,hk=>by simp at h1 h2;subst h1;subst h2;show bindL kindOf ((p,w)::P.zip vs) m p=_;unfold bindL;rw[EW λv hv=>(jY.mp nd).1 (A9 hv).1,if_pos hk];simp
 |p::P,w::vs,i+1,m,nd,h1,h2,hk=>by show bindL kindOf ((p,w)::P.zip vs) m x=_;unfold bindL;exact C3 (i:=i) (jY.mp nd).2 (by simpa using h1) (by simpa using h2) hk
theorem Gh{kindOf:Str->Option gI}{x:Str}{v:ai}:∀{P:List Str}{vs:List ai}{i:Nat}{m:Str->Option ai},P.Nodup->P[i]?=aa x->vs[i]?=aa v->kindOf x≠aa .local -> bindC kindOf (P.zip vs) m x=aa v
 |[],_,_,_,_,h,_,_=>by simp at h
 |_::_,[],_,_,_,_,h,_=>by simp at h
 |p::P,w::vs,0,m,nd,h1,h2,hk=>by simp at h1 h2;subst h1;subst h2;show bindC kindOf ((p,w)::P.zip vs) m p=_;unfold bindC;rw[Gm λv hv=>(jY.mp nd).1 (A9 hv).1,if_neg hk];simp
 |p::P,w::vs,i+1,m,nd,h1,h2,hk=>by show bindC kindOf ((p,w)::P.zip vs) m x=_;unfold bindC;exact Gh (i:=i) (jY.mp nd).2 (by simpa using h1) (by simpa using h2) hk
def start(N:List Str)(vs:List V):St:=vs.map aa++bG (N.length-vs.length) af
def gd(CX:eI)(P:ba)(w:aP)(K:aq)(mg:Str->Option ai)(base:aE)(N:List Str)(qual:Str)(scope:dO)(f:ac)(cd:ai)(A:a6)(outer:List Env)(s:am)(H:Hp)(E:XK):Cx where
 prog:=P
 w:=w
 K:=K
 mg:=mg
 base:=base
 A:=A.deeper (gu qual scope s.heap.objs.size f cd)
 N:=N
 s₀:=s
 H₀:=H
 env:=gu qual scope s.heap.objs.size f cd
 outer:=outer
 stack:=gu qual scope s.heap.objs.size f cd::outer
 ex:=[]
 calm:=ah
 fn:=λ_=>ah
 pn:=[]
 xe:=λe s'=>au (aB P w) (A.deeper (gu qual scope s.heap.objs.size f cd)) (leaving (gu qual scope s.heap.objs.size f cd) e) (λ_ s''=>CX outer H s E e s'') (λe' s''=>CX outer H s E e' s'') s'
theorem CO{sc:dO}{n:Nat}{x:Str}(h:sc.names.lookup x=aa .cell):∃c,(fK n sc.names []).lookup x=aa c:=by have q:=GM sc.names n [] (.inl h);exact A_.mp q
theorem Eo{CX:eI}{P:ba}{w:aP}{K:aq}{mg:Str->Option ai}{base:aE}{N ps:List Str}{qual:Str}{scope:dO}{f:ac}{cd:ai}{A:a6}{outer:List Env}{s s1:am}{H:Hp}{E:XK}{us:List ai}{vs:List V}(S:bI N ps scope) (hd:A.handled=af) (e0:mX P w K mg base A outer s H) (hl:vs.length=ps.length) (r:bF vs us)(x:InCallC s s.heap.objs.size (bindL (gu qual scope s.heap.objs.size f cd).kindOf (ps.zip us) λ_=>af) (fK (s.heap.objs.size+1) scope.names []) (bindC (gu qual scope s.heap.objs.size f cd).kindOf (ps.zip us) λ_=>af) s1):Inv (gd CX P w K mg base N qual scope f cd A outer s H E) [] (start N vs) H s1:=by
 have cz:ps.length<=N.length:=by have:=congrArg mv S.pre;rw[rD]at this;lia
 obtain⟨h1,tk,rfl,hk⟩:=x.done;have noA:∀b:ac,b∉(gd CX P w K mg base N qual scope f cd A outer s H E).ex:=λb z=>absurd (show b∈([]:List ac)from z) (by simp);refine⟨⟨e0.mod,S.kind,rfl,rfl,bt _,λy z c h1 h2=>?_,λy hy=>?_,λy c _ h=>?_,λ_=>hd,Around.frames_deeper e0.frames,.inr ⟨rfl,rfl⟩,λb z=>absurd z (noA b),e0.bs,e0.bsz,λb _ _=>noA b,λb z=>absurd z (noA b),e0.funs,e0.frf,e0.tab⟩,rfl,e0.bare,Un.kept hk,⟨_,x.toInCall.ns,λi y v h1 h2 h3=>?_⟩,λy c h=>⟨_,x.cell y c h⟩,e0.hok.fresh (bt _),λy c h=>?_,λp hp=>absurd (show p∈([]:List (ac×Obj))from hp) (by simp),e0.hok.kept hk,?_⟩
 ·exact name_of_addr x.apart (kC h1) (kC h2)
 ·have hy:scope.names.lookup y=aa .cell\/scope.names.lookup y=aa .free:=hy;rcases hy with hy|hy
  ·exact CO hy
  ·exact absurd rfl (S.nofree _ (kC hy))
 ·exact pw (x.above y c (kC h))
 ·have hi:i<vs.length:=by
   unfold start at h2;by_cases hi:i<vs.length
   ·exact hi
   ·rw[rE (by simpa using hi)]at h2;rw[List.getElem?_replicate]at h2;split at h2 <;> cases h2
  have ha:vs[i]?=aa v:=by
   unfold start at h2;rw[iS (by simpa using hi),iT]at h2;cases e:vs[i]? with
   |none=>rw[e]at h2;cases h2
   |some a=>rw[e]at h2;cases h2;rfl
  obtain⟨u,hu,rv⟩:=r.get ha;have hp:ps[i]?=aa y:=by rw[←S.pre,List.getElem?_take_of_lt ∅];exact h1
  have ndP:ps.Nodup:=by rw[←S.pre];exact S.nd.sublist (List.take_sublist _ _)
  refine⟨u,rv,?_⟩;rcases S.par y (List.mem_of_getElem? hp)with k|k
  ·exact .inl ⟨k,C3 ndP hp hu k⟩
  ·obtain⟨c,e⟩:=CO (n:=s.heap.objs.size+1) k;refine .inr ⟨.inl k,c,e,?_⟩;have q:=x.cell y c e;rw[Gh ndP hp hu (by show scope.names.lookup y≠_;rw[k];decide)]at q;exact q
 ·exact e0.hok.fresh (pw (x.above y c (kC h)))
 ·unfold start;show _=N.length;rw[dI,c9,List.length_replicate];lia
theorem BX{CX:eI}{P:ba}{w:aP}{K:aq}{mg:Str->Option ai}{base:aE}{k:Nat}{f:ac}{name qual:Str}{params:Arguments}{body:List aR}{scope:dO}{dV kV doc pm aF ct oc:ai}{an od:Option ac}{osl:Array (Option ai)}{N ps:List Str}{sp:Sp} (lk:K.lookup f=aa ⟨oc,od,.func (fk name qual params body scope dV kV doc pm an aF ct),osl⟩) (a8:pC K aF qual=ah) (S:bI N ps scope)(len:∀vs H Q E,sp vs H Q E->vs.length=ps.length)(eW:∀(A:a6) (outer:List Env) (s:am) (H:Hp) (vs:List V) (Q:VK) (E:XK),cB k (A.deeper (gu qual scope s.heap.objs.size f aF))->sp vs H Q E -> ∃t,ko (gd CX P w K mg base N qual scope f aF A outer s H E) body t/\t {nx:=λ_ H'=>Q .non H',rt:=Q} (start N vs) H):gL P w K mg base CX (k+1) f (fk name qual params body scope dV kV doc pm an aF ct) ps sp:=by
 refine⟨len,λA outer s H args us vs Q E hr e0 hb r io=>?_⟩;have hl:=len _ _ _ _ io;have KX:K.In s.heap:=e0.mod.kin.keeps λb o e=>(e0.bs b o e).1;have lim:s.heap.NoLimit:=e0.mod.nolimit.keeps λb o e=>(e0.bs b o e).1;have BA:∀y∈ps.zip us,scope.names.lookup y.1=aa .local\/(scope.names.lookup y.1=aa .cell/\((fK (s.heap.objs.size+1) scope.names []).lookup y.1).isSome=ah):=λ⟨n,v⟩ hy=>by
  rcases S.par n (A9 hy).1 with q|q
  ·exact .inl q
  ·exact .inr ⟨q,GM _ _ _ (.inl q)⟩
 refine codeAny_call_function hr.depth (KX _ _ lk) rfl S.co S.gen rfl (PySem.W.codeRec_of KX a8) (hb _ _ _ _ ?_);refine wpAny_newFunctionEnv_cells S.kind BA λenv he s1 x=>?_;subst he;refine⟨lim.keeps x.toInCall.keep,codeAny_func ?_⟩;obtain⟨t,ht,hq⟩:=eW A outer s H vs Q E (hr.deeper _) io;have I:Inv (gd CX P w K mg base N qual scope f aF A outer s H E) [] (start N vs) H s1:=Eo S hr.hd e0 hl r x;refine d5 (ht [] s1 (start N vs) H _ I hq) (λfl s' hs=>?_) λe s' hs=>hs;have fin:∀{σ':St}{H':Hp}{v:V}{u:ai},Inv (gd CX P w K mg base N qual scope f aF A outer s H E) [] σ' H' s'->RelV v u->Q v H'->CE outer P w H s Q u s' :=λ{σ' H' v u} J rv q=>⟨v,H',J.os,J.bare,J.base,J.hok,rv,q⟩
 cases fl with
 |ret u=>obtain⟨v,σ',H',J,rv,q⟩:=hs;exact fin J rv q
 |next=>obtain⟨σ',H',J,q⟩:=hs;exact fin (v:=V.non) (u:=Value.none) J rfl q
 |brk=>obtain⟨_,_,_,q⟩:=hs;exact fW q
 |cont=>obtain⟨_,_,_,q⟩:=hs;exact fW q
section
variable{X:Cx}{x:Str}{p pos:Pos}{e:aw}{es:List aw}{t:TA}{id T:String}{r:List V->Hp->VK->Prop}
def Fw(r:List V->Hp->VK->Prop)(t:TA):TE:=λσ H Q=>t σ H λvs H1=>r vs H1 Q
theorem l9(hc:eG X (.builtin id) r)(hg:Gl X x)(hm:X.mg x=af)(hv:eE x=aa (.builtin id))(ha:PA X (e::es) t)(hn:x≠"__name__":=by decide)(eX:(x == ("__debug__" : Str))=aj:=by decide)(he:aH (e::es) X.env=(aj,aG e X.env)::aH es X.env:=by rfl) (cz:(bU pos (aH es X.env)).any (·.1)=aj:=by rfl):PE X (.Call (.Name x p) (e::es) [] pos) (Fw r t):=by intro ae s σ H Q I h;refine xD (t0 I hg hm hv ?_ hn eX);exact PyProof.Rows.callWith_builtin1 (aQ (ha pos ae s σ H _ I h) λus s1 ⟨vs,H1,I1,r1,q1⟩=>hc ae s1 σ H1 vs us Q I1 r1 q1) he cz
theorem wO(hc:eG X (.type T) r)(hg:Gl X x)(hm:X.mg x=af)(hv:eE x=aa (.type T))(ha:PA X (e::es) t)(hn:x≠"__name__":=by decide)(eX:(x == ("__debug__" : Str))=aj:=by decide)(he:aH (e::es) X.env=(aj,aG e X.env)::aH es X.env:=by rfl) (cz:(bU pos (aH es X.env)).any (·.1)=aj:=by rfl):PE X (.Call (.Name x p) (e::es) [] pos) (Fw r t):=by intro ae s σ H Q I h;refine xD (t0 I hg hm hv ?_ hn eX);exact GD (aQ (ha pos ae s σ H _ I h) λus s1 ⟨vs,H1,I1,r1,q1⟩=>hc ae s1 σ H1 vs us Q I1 r1 q1) he cz
end
end L2
namespace HT
section
open PySem.SeqAt
open PySem.AutoSeq1 (wpAny_loadPart')
open PySem.MeetsSeq PySem.MeetsSeq2 PySem.MeetsSeq3
end
section
variable{prog:ba}{w:aP}{A:a6}{E:ai->am->Prop}{s:am}
theorem cat_tup{t b:ac}{vs ws:List ai}{Q:ai->am->Prop}(ht:IsTup s.heap t vs.toArray)(hb:IsTup s.heap b ws.toArray)(hv:vs≠[])(h1:ws=[]->Q (.ref t) s) (h2:ws≠[]->Q (.ref s.heap.objs.size) {s with heap:=s.heap.push {cls:=.type "tuple",data:=.seq (vs++ws).toArray}})(hsz:vs.length+ws.length<=bn):au (aB prog w) A (jT .Add (.ref t) (.ref b)) Q E s:=by
 obtain⟨⟨cls,dd,data,sl⟩,ho,hc,n,hd⟩:=id ht;obtain⟨⟨cls2,dd2,data2,sl2⟩,oh,hc2,n2,pT⟩:=id hb;simp only at hc hd hc2 pT;subst hc hd hc2 pT;have e:vs.toArray++ws.toArray=(vs++ws).toArray:=by simp
 by_cases hw:ws=[]
 ·exact concat_meets ⟨_,ho,rfl⟩ ⟨_,oh,rfl⟩ noFill_tuple_add seq_tuple_add PySem.F.slot_tuple_add PySem.F.entry_tuple_add (PySem.F.args_tuple_add_2 _ _)
   (tuple_addW1 t b vs.toArray ws.toArray n n2 dd dd2 sl sl2 (by simpa using hv) (by simp[hw])) ⟨ho,oh,h1 hw⟩
 ·refine concat_meets ⟨_,ho,rfl⟩ ⟨_,oh,rfl⟩ noFill_tuple_add seq_tuple_add PySem.F.slot_tuple_add PySem.F.entry_tuple_add (PySem.F.args_tuple_add_2 _ _)
   (tuple_addW2 t b vs.toArray ws.toArray n n2 dd dd2 sl sl2 (by simpa using hv) (by simpa using hw) (by rw[cX,cX];exact hsz)) ⟨ho,oh,?_⟩
  rw[e];exact h2 hw
def sIx(n d:Nat):Option Int->Nat
 |none=>d
 |some v=>if v<0 then(v+(n:Int)).toNat else min v.toNat n
theorem sIx_nat(n d k:Nat):sIx n d (aa (k:Int))=min k n:=by show(if(k:Int)<0 then((k:Int)+(n:Int)).toNat else min (k:Int).toNat n)=min k n;rw[if_neg ∅,mw]
theorem sIx_le(n d:Nat)(hd:d<=n)(o:Option Int):sIx n d o<=n:=by
 cases o with
 |none=>exact hd
 |some v=>
  show(if v<0 then(v+(n:Int)).toNat else min v.toNat n)<=n;by_cases hv:v<0
  ·rw[if_pos hv];lia
  ·rw[if_neg hv];exact Nat.min_le_right _ _
theorem Cw(v:Int)(n d:Nat):(if v<0 then max (v+(n:Int)) 0 else min v (n:Int))=((sIx n d (aa v):Nat):Int):=by
 show(if v<0 then max (v+(n:Int)) 0 else min v (n:Int))=(((if v<0 then(v+(n:Int)).toNat else min v.toNat n):Nat):Int)
 by_cases hv:v<0
 ·simp only[if_pos hv];lia
 ·simp only[if_neg hv];lia
theorem KP(lo hi:Option Int)(n:Nat):GN lo hi 1 (n:Int)=(((sIx n 0 lo:Nat):Int),((sIx n n hi:Nat):Int)):=by
 have h1:¬((1:Int)<0):=∅
 unfold GN;simp only[h1,if_false];refine Prod.ext ?_ ?_
 ·cases lo with
  |none=>rfl
  |some v=>exact Cw v n 0
 ·cases hi with
  |none=>rfl
  |some v=>exact Cw v n n
theorem NP(i j:Nat):Ba (i:Int) (j:Int) 1=j-i:=by
 unfold Ba;have h1:(1:Int) > 0:=∅
 simp only[h1,if_true,Int.ediv_one];split <;> lia
theorem FW{v:ai}{o:Option Int}{Q:Option Int->am->Prop}(p:mx v o)(h:Q o s):au (aB prog w) A (Builtin.Slice.slicePartIndex v) Q E s:=by
 cases p with
 |none=>exact slicePart_none h
 |int i t=>exact slicePart_int h
theorem OB{sl:ac}{vl vu:ai}{lo hi:Option Int}{n:Nat}{Q:Int×Int×Nat->am->Prop}(hs:s.heap.IsSliceOf sl vl vu .none)(pl:mx vl lo)(pu:mx vu hi)(h:Q (((sIx n 0 lo:Nat):Int),1,sIx n n hi-sIx n 0 lo) s):au (aB prog w) A (Builtin.Slice.sliceApplied (.ref sl) (pure (n:Int))) Q E s:=by
 obtain⟨os,uS,uT,hds⟩:=id hs;unfold Builtin.Slice.sliceApplied Builtin.Slice.sliceFields;refine ax (ax (pD uS hds (x:=vl) rfl (ax (pD uS hds (x:=vu) rfl (ax (pD uS hds (x:=.none) rfl (aV ?_)))))));refine ax (slicePart_none ?_);show au _ _ (if((1:Int) == 0)=ah then _ else _) _ _ s;rw[if_neg (by decide)];refine ax (FW pl (ax (FW pu (ax (aV ?_)))));show au _ _ (match GN lo hi 1 (n:Int)with | (lo,hi)=>pure (lo,(1:Int),Ba lo hi 1)) _ _ s;rw[KP lo hi n];show au _ _ (pure (((sIx n 0 lo:Nat):Int),(1:Int),Ba ((sIx n 0 lo:Nat):Int) ((sIx n n hi:Nat):Int) 1)) _ _ s;rw[NP];exact aV h
theorem MZ(xs:Array ai)(i k:Nat):((cW k).filterMap λ(m:Nat)=>xs[((i:Int)+(m:Int)*1).toNat]?).toArray=((xs.toList.drop i).take k).toArray:=by
 have e:(λ(m:Nat)=>xs[((i:Int)+(m:Int)*1).toNat]?)=λm=>xs[i+m]?:=by
  funext m;have:((i:Int)+(m:Int)*1).toNat=i+m:=∅
  rw[this]
 rw[e];have:=pick_run xs i k;rw[List.filterMap_map]at this;have e2:((λx=>xs[x]?) ∘ λx=>i+x)=λm=>xs[i+m]?:=rfl;rw[e2]at this;rw[this]
theorem getItem_tuple_cut{t sl:ac}{items:Array ai}{vl vu:ai}{lo hi:Option Int}{Q:ai->am->Prop}(ht:IsTup s.heap t items)(hs:s.heap.IsSliceOf sl vl vu .none)(pl:mx vl lo)(pu:mx vu hi)(hw:¬(sIx items.size 0 lo=0/\sIx items.size items.size hi=items.size))(h:Q (.ref s.heap.objs.size) {s with heap:=s.heap.push {cls:=.type "tuple",data:=.seq ((items.toList.drop (sIx items.size 0 lo)).take (sIx items.size items.size hi-sIx items.size 0 lo)).toArray}})(hsz:items.size<=bn):au (aB prog w) A (pE (.ref t) (.ref sl)) Q E s:=by
 have xX:sizeOk (.seq ((items.toList.drop (sIx items.size 0 lo)).take (sIx items.size items.size hi-sIx items.size 0 lo)).toArray):=by show((items.toList.drop (sIx items.size 0 lo)).take (sIx items.size items.size hi-sIx items.size 0 lo)).toArray.size<=bn;rw[cX,rD,my,uq];lia
 have hj:sIx items.size items.size hi<=items.size:=sIx_le _ _ (bt _) hi;obtain⟨os,uS,uT,hds⟩:=id hs;have hTs:s.TypeIs (.ref sl) "slice":=⟨os,uS,uT⟩
 unfold pE
 try with_reducible refine pF ?_
 first|refine ax (aV ?_)|skip
 refine ax (wpAny_sequenceKey ht.typeIs (by decide) ?_);refine ax (wpAny_callSpecial?_slot (name:=cI "__getitem__") ht.typeIs QV (xE QV ht.typeIs entry_tuple_getitem ?_ (args_tuple_getitem _ _)));show au _ _ (Builtin.Tuple.tupleItemsOf (.ref t) >>= _) _ _ s;refine ax (tupleItemsOf_ ht ?_);refine ax (wpAny_typeOf hTs ?_);rw[if_pos (by decide)];refine ax (OB hs pl pu ?_);have hno:¬((((sIx items.size 0 lo:Nat):Int) == 0&&(1:Int) == 1&&(sIx items.size items.size hi-sIx items.size 0 lo) == items.size)=ah):=by intro q;rw[fq,fq]at q;have q1:((sIx items.size 0 lo:Nat):Int)=0:=eq_of_beq q.1.1;have q2:sIx items.size items.size hi-sIx items.size 0 lo=items.size:=eq_of_beq q.2;exact hw ⟨∅,∅⟩
 show au _ _ (if(((sIx items.size 0 lo:Nat):Int) == 0&&(1:Int) == 1&&(sIx items.size items.size hi-sIx items.size 0 lo) == items.size)=ah then _ else _) _ _ s;rw[if_neg hno,MZ]
 first
  |exact ax (m:=Bb _) (mz (aV ⟨_,rfl,aV h⟩) xX)
  |exact ax (m:=Bb _) (mz (ax (aV (aV ⟨_,rfl,aV h⟩))) xX)
  |exact ax (ax (m:=Bb _) (mz (aV (aV ⟨_,rfl,aV h⟩)) xX))
  |exact ax (ax (m:=Bb _) (mz (aV ⟨_,rfl,aV h⟩) xX))
end
end HT
namespace L2
abbrev TO:=St->Hp->(Option Int->Hp->Prop)->Prop
def PO(X:Cx)(e:Option aw)(t:TO):Prop :=
 ∀(ae:List (ac×Obj)) (s:am) (σ:St) (H:Hp) (Q:Option Int->Hp->Prop),Inv X ae σ H s->t σ H Q ->
  au (aB X.prog X.w) X.A (evalPart e X.env) (λu s'=>∃o H',Inv X ae σ H' s'/\mx u o/\Q o H') X.xe s
def OX:TO:=λ_ H Q=>Q af H
def J9(t:TE):TO:=λσ H Q=>t σ H λx H1=>∃i,x=.int i/\Q (aa i) H1
section
variable{X:Cx}{e:aw}{te:TE}{lo hi:Option aw}{tl th:TO}{pos p2:Pos}
theorem Lo:PO X af OX:=by intro ae s σ H Q I h;rw[evalPart_none];exact aV ⟨af,H,I,.none,h⟩
theorem M6(h:PE X e te):PO X (aa e) (J9 te):=by intro ae s σ H Q I hw;rw[evalPart_some];refine aQ (h ae s σ H _ I hw) λu s1 ⟨x,H1,I1,r1,q1⟩=>?_;obtain⟨i,rfl,q⟩:=q1;obtain⟨t,rfl⟩:=r1;exact⟨aa i,H1,I1,.int i t,q⟩
def lO(X:Cx)(r:V->Option Int->Option Int->Hp->VK->Prop):Prop :=
 ∀(ae:List (ac×Obj)) (s:am) (σ:St) (H:Hp) (x:V) (v vl vu:ai) (lo hi:Option Int) (sl:ac) (Q:VK),Inv X ae σ H s->RelV x v->s.heap.IsSliceOf sl vl vu .none->mx vl lo->mx vu hi->r x lo hi H Q ->
  ∃T id,typeLookup (.type T) "__getitem__" = pure (aa (.builtin id))/\s.TypeIs v T/\au (aB X.prog X.w) X.A (pE v (.ref sl)) (EP X ae σ Q) X.xe s
theorem lO.or{r r':V->Option Int->Option Int->Hp->VK->Prop}(h:lO X r)(h':lO X r'):lO X (λx lo hi H Q=>r x lo hi H Q\/r' x lo hi H Q):=by
 intro ae s σ H x v vl vu lo hi sl Q I rx hs pl pu q;rcases q with q|q
 ·exact h ae s σ H x v vl vu lo hi sl Q I rx hs pl pu q
 ·exact h' ae s σ H x v vl vu lo hi sl Q I rx hs pl pu q
def N_(r:V->Option Int->Option Int->Hp->VK->Prop)(te:TE)(tl th:TO):TE:=λσ H Q=>te σ H λx H1=>tl σ H1 λl H2=>th σ H2 λu H3=>r x l u H3 Q
theorem Mm{r:V->Option Int->Option Int->Hp->VK->Prop}(hr:lO X r)(he:PE X e te)(hl:PO X lo tl)(hu:PO X hi th):PE X (.Subscript e (.Slice lo hi af p2) pos) (N_ r te tl th):=by intro ae s σ H Q I h;refine Subscript_ (aQ (he ae s σ H _ I h) λv s1 ⟨x,H1,I1,r1,q1⟩=>?_);refine wpAny_Slice (aQ (hl ae s1 σ H1 _ I1 q1) λvl s2 ⟨l,H2,I2,pl,q2⟩=>aQ (hu ae s2 σ H2 _ I2 q2) λvu s3 ⟨u,H3,I3,pu,q3⟩=>?_);rw[evalPart_none];refine aV ?_;have I4:Inv X ae σ H3 {s3 with heap:=s3.heap.push {cls:=.type "slice",data:=.fields #[vl,vu,.none]}}:=I3.kept (t':=s3.toks) λb ob q=>bV _ q;obtain⟨T,id,hT,ht,hg⟩:=hr ae {s3 with heap:=s3.heap.push {cls:=.type "slice",data:=.fields #[vl,vu,.none]}} σ H3 x v vl vu l u s3.heap.objs.size Q I4 r1 (Heap.IsSliceOf.new ..) pl pu q3;show au (aB X.prog X.w) X.A (subscriptTail e (.Slice lo hi af p2) v (.ref s3.heap.objs.size)) (EP X ae σ Q) X.xe {s3 with heap:=s3.heap.push {cls:=.type "slice",data:=.fields #[vl,vu,.none]}};exact tail_any (ops:=[.ref s3.heap.objs.size,v]) ht hT hg (by with_unfolding_all rfl)
def mU(xs:List V)(lo hi:Option Int):List V:=(xs.drop (HT.sIx xs.length 0 lo)).take (HT.sIx xs.length xs.length hi-HT.sIx xs.length 0 lo)
theorem Cu(xs:List V)(lo hi:Option Int):(mU xs lo hi).length<=xs.length:=by unfold mU;rw[rD,my];lia
def Fj(K:aq):V->Option Int->Option Int->Hp->VK->Prop:=λx lo hi H Q=>∃a xs,x=.ref a/\cV K H a xs /\
 ¬(HT.sIx xs.length 0 lo=0/\HT.sIx xs.length xs.length hi=xs.length)/\∀p,H p=af->Q (.ref p) (upd H p (.tup (mU xs lo hi)))
theorem K5:lO X (Fj X.K):=by
 intro ae s σ H x v vl vu lo hi sl Q I rx hs pl pu h;obtain⟨a,xs,rfl,hx,hw,q⟩:=h;cases rx;obtain⟨its,r,ht,hz⟩:=I.tuple hx;have aS:its.toArray.size=xs.length:=by rw[cX];exact r.length.symm
 refine⟨"tuple",_,PyProof.Rows.slot_tuple_getitem.lookup,ht.typeIs,?_⟩;refine HT.getItem_tuple_cut ht hs pl pu (by rw[aS];exact hw) ?_ (by rw[aS];exact hz);rw[aS];refine⟨.ref s.heap.objs.size,_,I.laid (t':=s.toks) (o:=.tup (mU xs lo hi)) (λb ob q=>bV _ q) (bt _) ?_,rfl,q _ (I.hok.fresh (bt _))⟩;exact⟨dP (Cu xs lo hi) hz,_,(r.drop (HT.sIx xs.length 0 lo)).take (HT.sIx xs.length xs.length hi-HT.sIx xs.length 0 lo),Gw.new _ _⟩
def Df(K:aq):R2:=λx y H Q=>∃a b xs ys,x=.ref a/\y=.ref b/\cV K H a xs/\cV K H b ys/\xs≠[]/\xs.length+ys.length<=bn /\
 (ys=[]->Q (.ref a) H)/\(ys≠[]->∀p,H p=af->Q (.ref p) (upd H p (.tup (xs++ys))))
theorem bF.nil_iff{xs:List V}{us:List ai}(r:bF xs us):us=[]↔xs=[]:=by
 cases r with
 |nil=>simp
 |cons _ _=>simp
theorem Rh:bY X (jT .Add) (Df X.K):=by
 intro ae s σ H x y v u Q I rx ry h;obtain⟨a,b,xs,ys,rfl,rfl,ha,hb,hx,hz,q1,q2⟩:=h;cases rx;cases ry;obtain⟨its,r1,p1,_⟩:=I.tuple ha;obtain⟨its2,r2,p2,_⟩:=I.tuple hb;refine HT.cat_tup p1 p2 (λz=>hx (r1.nil_iff.mp z)) (λz=>⟨.ref a,H,I,rfl,q1 (r2.nil_iff.mp z)⟩) (λz=>?_) (by rw[←r1.length,←r2.length];exact hz);refine⟨.ref s.heap.objs.size,_,I.laid (t':=s.toks) (o:=.tup (xs++ys)) (λb ob q=>bV _ q) (bt _) ?_,rfl,q2 (λw=>z (r2.nil_iff.mpr w)) _ (I.hok.fresh (bt _))⟩;exact⟨by rw[dI];exact hz,_,r1.append r2,Gw.new _ _⟩
end
def oJ(n:Nat)(i:Int):Option Nat:=if 0<=i then(if i<n then aa i.toNat else af)else if -(n:Int)<=i then aa (i+n).toNat else af
def f_{α:Type}(xs:List α)(i:Int):Option α:=(oJ xs.length i).bind λj=>xs[j]?
theorem Kf{n:Nat}{i:Int}{j:Nat}(h:oJ n i=aa j):seqIndex? i n=aa j/\j<n/\-(n:Int)<=i/\i<n:=by
 unfold oJ at h;by_cases h0:0<=i
 ·rw[if_pos h0]at h;by_cases h1:i<n
  ·rw[if_pos h1]at h;have e:i.toNat=j:=fi h;exact⟨by rw[seqIndex_of h0 h1,e],∅,∅,h1⟩
  ·rw[if_neg h1]at h;cases h
 ·rw[if_neg h0]at h;by_cases h1:-(n:Int)<=i
  ·rw[if_pos h1]at h;have e:(i+n).toNat=j:=fi h;exact⟨by rw[seqIndex_neg ∅ h1,e],∅,h1,∅⟩
  ·rw[if_neg h1]at h;cases h
theorem yE{α:Type}{xs:List α}{i:Int}{v:α}(h:f_ xs i=aa v):∃j,seqIndex? i xs.length=aa j/\xs[j]?=aa v/\j<xs.length/\-(xs.length:Int)<=i/\i<xs.length:=by
 unfold f_ at h;cases e:oJ xs.length i with
 |none=>rw[e]at h;cases h
 |some j=>rw[e]at h;obtain⟨h1,h2,h3,h4⟩:=Kf e;exact⟨j,h1,h,h2,h3,h4⟩
theorem Om{α:Type}{xs:List α}{j:Nat}{v:α}(h:xs[j]?=aa v):f_ xs (j:Int)=aa v:=by
 have hj:j<xs.length:=(cO.mp h).1;have e:oJ xs.length (j:Int)=aa j:=by unfold oJ;rw[if_pos ∅,if_pos ∅];simp
 unfold f_;rw[e];exact h
def ET(b:aw):Prop:=∀o i,Bc b aj o i=operate [o,i] (pE o i)
def ly(X:Cx)(r:R2):Prop :=
 ∀(value slice:aw) (ae:List (ac×Obj)) (s:am) (σ:St) (H:Hp) (x y:V) (v u:ai) (Q:VK),Inv X ae σ H s->RelV x v->RelV y u->r x y H Q ->
  Bc slice aj v u=operate [v,u] (pE v u)->au (aB X.prog X.w) X.A (subscriptTail value slice v u) (EP X ae σ Q) X.xe s
def xv(X:Cx)(id:String)(r:V->List V->Hp->VK->Prop):Prop :=
 ∀(ae:List (ac×Obj)) (s:am) (σ:St) (H:Hp) (x:V) (xs:List V) (v:ai) (us:List ai) (Q:VK),Inv X ae σ H s->RelV x v->bF xs us->r x xs H Q ->
  au (aB X.prog X.w) X.A (call (.builtin id) (v::us)) (EP X ae σ Q) X.xe s
section
variable{X:Cx}{a b:aw}{ta tb:TE}{pos:Pos}
theorem ly.or{r r':R2}(h:ly X r)(h':ly X r'):ly X (λx y H Q=>r x y H Q\/r' x y H Q):=by
 intro value slice ae s σ H x y v u Q I rx ry q hs;rcases q with q|q
 ·exact h value slice ae s σ H x y v u Q I rx ry q hs
 ·exact h' value slice ae s σ H x y v u Q I rx ry q hs
theorem Lx{r:R2}(hr:ly X r)(ha:PE X a ta)(hb:PE X b tb)(hs:ET b):PE X (.Subscript a b pos) (vz r ta tb):=by intro ae s σ H Q I h;exact Subscript_ (Ax ha hb I h λv u s2 x y H2 I2 rx ry q=>hr a b ae s2 σ H2 x y v u Q I2 rx ry q (hs _ _))
def E_(K:aq):R2:=λx y H Q=>∃p xs i v,x=.ref p/\y=.int i/\bZ K H p xs/\f_ xs i=aa v/\Q v H
def BZ(K:aq):R2:=λx y H Q=>∃p xs i v,x=.ref p/\y=.int i/\cV K H p xs/\f_ xs i=aa v/\Q v H
def B_:R2:=λx y H Q=>∃z i c,x=.str z/\y=.int i/\z.length<=bn/\f_ z.cps.toList i=aa c/\Q (.str ⟨#[c]⟩) H
theorem Rk:ly X (E_ X.K):=by
 intro value slice ae s σ H x y v u Q I rx ry h hs;obtain⟨p,xs,i,z,rfl,rfl,hq,he,q⟩:=h;cases rx;obtain⟨t,rfl⟩:=ry;obtain⟨its,r,pl,hz⟩:=I.list hq;obtain⟨j,h1,h2,h3,h4,h5⟩:=yE he;obtain⟨w,ew,rw'⟩:=r.get h2;have hl:=r.length;have hn:=sX;have fin:EP X ae σ Q w s:=⟨z,H,I,rw',q⟩
 by_cases h0:0<=i
 ·have hj:i.toNat=j:=by
   rw[seqIndex_of h0 h5]at h1;exact fi h1
  exact item_listR pl.isList h0 ∅ (by rw[hj];simpa using ew) fin hs
 ·have hj:(i+(its.toArray.size:Int)).toNat=j:=by
   rw[seqIndex_neg ∅ h4]at h1;rw[cX,←hl];exact fi h1
  exact subscriptTail_builtinR (x:=w) pl.isList.typeIs slot_list_getitem.lookup
   (wpAny_getItem_list_neg (Q:=λr s'=>r=w/\EP X ae σ Q r s') pl.isList ∅ (by rw[cX] <;> lia) ∅ (by rw[hj];simpa using ew) ⟨rfl,fin⟩) hs
theorem Rq:ly X (BZ X.K):=by
 intro value slice ae s σ H x y v u Q I rx ry h hs;obtain⟨p,xs,i,z,rfl,rfl,hq,he,q⟩:=h;cases rx;obtain⟨t,rfl⟩:=ry;obtain⟨its,r,pl,hz⟩:=I.tuple hq;obtain⟨j,h1,h2,h3,h4,h5⟩:=yE he;obtain⟨w,ew,rw'⟩:=r.get h2;have hl:=r.length;have hn:=sX;have fin:EP X ae σ Q w s:=⟨z,H,I,rw',q⟩
 exact subscriptTail_builtinR (x:=w) pl.typeIs slot_tuple_getitem.lookup
  (getItem_tuple (j:=j) (Q:=λr s'=>r=w/\EP X ae σ Q r s') pl ∅ ∅ (by rw[cX,←hl];exact h1) (by simpa using ew) ⟨rfl,fin⟩) hs
theorem Mh:ly X B_:=by
 intro value slice ae s σ H x y v u Q I rx ry h hs;obtain⟨z,i,c,rfl,rfl,hz,he,q⟩:=h;obtain⟨t,rfl⟩:=rx;obtain⟨t',rfl⟩:=ry;obtain⟨j,h1,h2,h3,h4,h5⟩:=yE he;have hl:z.cps.toList.length=z.length:=by simp[Str.length]
 rw[hl]at h1 h4 h5;have hn:=sX;exact tail_any (typeIs_str s z t) slot_str_getitem.lookup (getItem_str (c:=c) (by have e1:decide (i < -(2^63:Int))=aj:=decide_eq_false ∅;have e2:decide (i ≥ 2^63)=aj:=decide_eq_false ∅;rw[e1,e2,Bool.or_false]) (by rw[h1];simpa using h2) ⟨.str ⟨#[c]⟩,H,I.tok _,⟨_,rfl⟩,q⟩) hs
def FC(K:aq):R2:=λx y H Q=>E_ K x y H Q\/BZ K x y H Q\/B_ x y H Q
theorem ii:ly X (FC X.K):=Rk.or (Rq.or Mh)
theorem Ni(lo hi:Option Int)(n:Nat):(rF lo hi af n).1=((HT.sIx n 0 lo:Nat):Int)/\(rF lo hi af n).2.1=((HT.sIx n n hi:Nat):Int)/\(rF lo hi af n).2.2=1:=by
 refine⟨?_,?_,rfl⟩
 ·cases lo with
  |none=>simp[rF,HT.sIx]
  |some i=>
   simp only[rF,HT.sIx,GO,show(1:Int) > 0 by decide,if_true];by_cases h:i<0
   ·simp only[h,if_true] <;> lia
   ·simp only[h,if_false] <;> lia
 ·cases hi with
  |none=>simp[rF,HT.sIx]
  |some i=>
   simp only[rF,HT.sIx,GO,show(1:Int) > 0 by decide,if_true];by_cases h:i<0
   ·simp only[h,if_true] <;> lia
   ·simp only[h,if_false] <;> lia
theorem IR(its:List ai)(lo hi:Option Int):slicePick its.toArray lo hi af=((its.drop (HT.sIx its.length 0 lo)).take (HT.sIx its.length its.length hi-HT.sIx its.length 0 lo)).toArray:=by obtain⟨h1,h2,h3⟩:=Ni lo hi its.toArray.size;unfold slicePick;rw[h1,h2,h3];simp only[sliceRange_one,pick_run,cX] <;> rfl
def D_(K:aq):V->Option Int->Option Int->Hp->VK->Prop:=λx lo hi H Q=>∃a xs,x=.ref a/\bZ K H a xs/\∀p,H p=af->Q (.ref p) (upd H p (.lst (mU xs lo hi)))
theorem Rc:lO X (D_ X.K):=by
 intro ae s σ H x v vl vu lo hi sl Q I rx hs pl pu h;obtain⟨a,xs,rfl,hx,q⟩:=h;cases rx;obtain⟨its,r,ht,hz⟩:=I.list hx;have aS:=r.length;refine⟨"list",_,slot_list_getitem.lookup,ht.isList.typeIs,?_⟩;refine wpAny_getItem_list_slice ht.isList hs pl pu .none (by simp) ?_ (by rw[cX] <;> lia);rw[IR,←aS];refine⟨.ref s.heap.objs.size,_,I.laid (t':=s.toks) (o:=.lst (mU xs lo hi)) (λb ob q=>bV _ q) (bt _) ?_,rfl,q _ (I.hok.fresh (bt _))⟩;exact⟨dP (Cu xs lo hi) hz,_,0,(r.drop (HT.sIx xs.length 0 lo)).take (HT.sIx xs.length xs.length hi-HT.sIx xs.length 0 lo),dq _ rfl⟩
def fR:V->Bool
 |.non=>ah
 |.bl _=>ah
 |.int _=>ah
 |.str _=>ah
 |_=>aj
def dU:V->V->Bool
 |.non,.non=>ah
 |.bl a,.bl b=>a == b
 |.bl a,.int b=>(if a then 1 else 0) == b
 |.int a,.bl b=>a == (if b then 1 else 0)
 |.int a,.int b=>a == b
 |.str a,.str b=>a == b
 |_,_=>aj
theorem Ea{A:a6}{s:am}{y x:V}{u v:ai}(ry:RelV y u)(rx:RelV x v)(fy:fR y=ah)(fx:fR x=ah):xF A s u v (dU y x):=by
 cases y with
 |non=>
  cases ry;cases x with
  |non=>cases rx;exact SeqAt.EqAt.same _
  |bl b=>cases rx;exact SeqAt.EqAt.none_bool b
  |int b=>obtain⟨t,rfl⟩:=rx;exact SeqAt.EqAt.none_int b t
  |str b=>obtain⟨t,rfl⟩:=rx;exact SeqAt.EqAt.none_str b t
  |_=>exact absurd (show aj=ah from fx) fV
 |bl a=>
  cases ry;cases x with
  |non=>cases rx;exact SeqAt.EqAt.bool_none a
  |bl b=>cases rx;exact SeqAt.EqAt.bool_bool a b
  |int b=>obtain⟨t,rfl⟩:=rx;exact SeqAt.EqAt.bool_int a b t
  |str b=>obtain⟨t,rfl⟩:=rx;exact SeqAt.EqAt.bool_str a b t
  |_=>exact absurd (show aj=ah from fx) fV
 |int a=>
  obtain⟨t',rfl⟩:=ry;cases x with
  |non=>cases rx;exact SeqAt.EqAt.int_none a t'
  |bl b=>cases rx;exact SeqAt.EqAt.int_bool a t' b
  |int b=>obtain⟨t,rfl⟩:=rx;exact SeqAt.EqAt.int_int a t' b t
  |str b=>obtain⟨t,rfl⟩:=rx;exact SeqAt.EqAt.int_str a t' b t
  |_=>exact absurd (show aj=ah from fx) fV
 |str a=>
  obtain⟨t',rfl⟩:=ry;cases x with
  |non=>cases rx;exact SeqAt.EqAt.str_none a t'
  |bl b=>cases rx;exact SeqAt.EqAt.str_bool a t' b
  |int b=>obtain⟨t,rfl⟩:=rx;exact SeqAt.EqAt.str_int a t' b t
  |str b=>obtain⟨t,rfl⟩:=rx;exact SeqAt.EqAt.str_str a t' b t
  |_=>exact absurd (show aj=ah from fx) fV
 |_=>exact absurd (show aj=ah from fy) fV
def je(x:V)(u:ai):Bool:=match u with
 |.none=>dU .non x
 |.bool b=>dU (.bl b) x
 |.int i _=>dU (.int i) x
 |.str z _=>dU (.str z) x
 |_=>aj
theorem vH{x y:V}{u:ai}(r:RelV y u)(f:fR y=ah):je x u=dU y x:=by
 cases y with
 |non=>cases r;rfl
 |bl b=>cases r;rfl
 |int i=>obtain⟨t,rfl⟩:=r;rfl
 |str z=>obtain⟨t,rfl⟩:=r;rfl
 |_=>exact absurd (show aj=ah from f) fV
theorem zC{x:V}:∀{xs:List V}{us:List ai},bF xs us->xs.all fR=ah->us.any (je x)=xs.any λy=>dU y x
 |_,_,.nil,_=>rfl
 |y::xs,u::us,.cons r t,f=>by rw[pG,fq]at f;rw[pH,pH,vH r f.1,zC t f.2]
theorem qh{A:a6}{s:am}{x:V}{v:ai}(rx:RelV x v)(fx:fR x=ah):∀{xs:List V}{us:List ai},bF xs us->xs.all fR=ah->∀u∈us,xF A s u v (je x u)
 |_,_,.nil,_=>λu hu=>by cases hu
 |y::xs,u::us,.cons r t,f=>λu' hu=>by
  rw[pG,fq]at f;rcases bQ.mp hu with rfl|hu
  ·rw[vH r f.1];exact Ea r rx f.1 fx
  ·exact qh rx fx t f.2 u' hu
def sZ(x:V)(xs:List V):Bool:=xs.any λy=>dU y x
def zA(K:aq)(neg:Bool):R2:=λx y H Q=>∃p xs,y=.ref p/\(bZ K H p xs\/cV K H p xs)/\fR x=ah/\xs.all fR=ah/\Q (.bl (if neg then !sZ x xs else sZ x xs)) H
theorem O3:bY X (d7 .In) (zA X.K aj):=by
 intro ae s σ H x y v u Q I rx ry h;obtain⟨p,xs,rfl,hq,fx,fs,q⟩:=h;cases ry;rcases hq with hq|hq
 ·obtain⟨its,r,pl,hz⟩:=I.list hq;refine SeqAt.in_listAt (je x) pl.isList (λw hw=>qh rx fx r fs w (by simpa using hw)) ⟨.bl _,H,I,rfl,?_⟩;rw[show its.toArray.any (je x)=its.any (je x) by simp,zC r fs];exact q
 ·obtain⟨its,r,pl,hz⟩:=I.tuple hq;refine SeqAt.in_tupleAt (je x) pl (λw hw=>qh rx fx r fs w (by simpa using hw)) ⟨.bl _,H,I,rfl,?_⟩;rw[show its.toArray.any (je x)=its.any (je x) by simp,zC r fs];exact q
theorem eG.or{f:ai}{r r':List V->Hp->VK->Prop}(h:eG X f r)(h':eG X f r'):eG X f (λxs H Q=>r xs H Q\/r' xs H Q):=by
 intro ae s σ H xs us Q I rs q;rcases q with q|q
 ·exact h ae s σ H xs us Q I rs q
 ·exact h' ae s σ H xs us Q I rs q
theorem AQ:eG X (.type "list") (λxs H Q=>∃p ys,xs=[.ref p]/\(bZ X.K H p ys\/cV X.K H p ys)/\∀l,H l=af->Q (.ref l) (upd H l (.lst ys))):=by
 intro ae s σ H xs us Q I r h;obtain⟨p,ys,rfl,hq,q⟩:=h;obtain⟨u,rfl,rx⟩:=vals1 r;cases rx;have fin:∀(its:List ai),bF ys its->ys.length<=bn->∀(h':aE) (c':Nat),(∀b o',s.heap.get? b=aa o'->h'.get? b=aa o') ->
   h'.get? s.heap.objs.size=aa {cls:=.type "list",dict:=af,data:=.seq its.toArray c',slots:=#[]}->EP X ae σ Q (.ref s.heap.objs.size) {s with heap:=h'}:=λits r' hz h' c' kp e=>
  ⟨.ref s.heap.objs.size,_,I.laid (t':=s.toks) kp (bt _) (show dy X.prog X.w _ h' _ (.lst ys)from⟨hz,its,c',r',e⟩),rfl,q _ (I.hok.fresh (bt _))⟩
 rcases hq with hq|hq
 ·obtain⟨its,r',pl,hz⟩:=I.list hq;have aS:=r'.length;obtain⟨o,ho,hc,n,hd⟩:=pl.isList;exact call_list_seq p (.inl rfl) ho hc hd (λh' c' kp e=>fin its r' hz h' c' kp e) (by simp only[cX] <;> lia)
 ·obtain⟨its,r',pl,hz⟩:=I.tuple hq;have aS:=r'.length;obtain⟨o,ho,hc,n,hd⟩:=pl;exact call_list_seq p (.inr rfl) ho hc hd (λh' c' kp e=>fin its r' hz h' c' kp e) (by simp only[cX] <;> lia)
theorem qN:eG X (.type "tuple") (λxs H Q=>∃p ys,xs=[.ref p]/\((bZ X.K H p ys/\∀l,H l=af->Q (.ref l) (upd H l (.tup ys)))\/(cV X.K H p ys/\Q (.ref p) H))):=by
 intro ae s σ H xs us Q I r h;obtain⟨p,ys,rfl,h⟩:=h;obtain⟨u,rfl,rx⟩:=vals1 r;cases rx;rcases h with⟨hq,q⟩|⟨hq,q⟩
 ·obtain⟨its,r',pl,hz⟩:=I.list hq;have aS:=r'.length;refine call_tuple_list pl.isList (λh' kp=>?_) (by simp only[cX] <;> lia);have I1:Inv X ae σ H {s with heap:=h'}:=I.kept (t':=s.toks) kp;have I2:Inv X ae σ (upd H h'.objs.size (.tup ys)) {s with heap:=h'.push {cls:=.type "tuple",data:=.seq its.toArray}} :=I1.laid (t':=s.toks) (λb o e=>bV _ e) (bt _) (show dy X.prog X.w _ _ _ (.tup ys)from⟨hz,its,r',Gw.new _ _⟩);exact⟨.ref h'.objs.size,_,I2,rfl,q _ (I1.hok.fresh (bt _))⟩
 ·obtain⟨its,r',pl,hz⟩:=I.tuple hq;exact call_tuple_same pl ⟨.ref p,H,I,rfl,q⟩
def AN(K:aq)(T:String)(x:V)(H:Hp):Prop:=match x with
 |.str _=>T = "str"
 |.int _=>T = "int"
 |.ref p=>(T = "list"/\∃xs,bZ K H p xs)\/(T = "tuple"/\∃o,K.lookup p=aa o/\o.cls=.type "tuple"/\o.dict=af) \/
   (T = "dict"/\((∃kvs,H p=aa (.dK kvs))\/∃kvs,H p=aa (.dT kvs)))\/(T = "set"/\∃S n,H p=aa (.set S n))
 |_=>False
theorem Dl{ae:List (ac×Obj)}{σ:St}{H:Hp}{s:am}{T:String}{x:V}{v:ai}(I:Inv X ae σ H s)(r:RelV x v)(ty:AN X.K T x H):s.TypeIs v T/\∀a,v=.ref a->∃ob,s.heap.get? a=aa ob/\ob.dict=af:=by
 cases x with
 |str z=>
  obtain⟨t,rfl⟩:=r;cases (show T = "str" from ty);exact⟨typeIs_str s z t,λ_ e=>nomatch e⟩
 |int i=>
  obtain⟨t,rfl⟩:=r;cases (show T = "int" from ty);exact⟨typeIs_int s i t,λ_ e=>nomatch e⟩
 |ref p=>
  cases r;rcases ty with⟨rfl,xs,hq⟩|⟨rfl,o,hk,hc,hd⟩|⟨rfl,hk⟩|⟨rfl,S,n,hk⟩
  ·obtain⟨its,_,pl,_⟩:=I.list hq;refine⟨pl.isList.typeIs,λa e=>?_⟩;cases e;obtain⟨o,n,e,c,hd,_⟩:=pl;exact⟨o,e,hd⟩
  ·refine⟨⟨o,I.kIn p o hk,hc⟩,λa e=>?_⟩;cases e;exact⟨o,I.kIn _ o hk,hd⟩
  ·have z:∃o,s.heap.get? p=aa o/\o.ExactDict:=by
    rcases hk with⟨kvs,hk⟩|⟨kvs,hk⟩
    ·obtain⟨_,_,_,_,o,_,_,e,ex,_⟩:=I.hok p _ hk;exact⟨o,e,ex⟩
    ·obtain⟨_,_,_,_,o,_,_,e,ex,_⟩:=I.hok p _ hk;exact⟨o,e,ex⟩
   obtain⟨o,e,ex⟩:=z;refine⟨⟨o,e,ex.1⟩,λa e2=>?_⟩;cases e2;exact⟨o,e,ex.2.1⟩
  ·obtain⟨o,_,_,_,e,ex,_⟩:=I.hok p _ hk;refine⟨⟨o,e,ex.1⟩,λa e2=>?_⟩;cases e2;exact⟨o,e,ex.2.1⟩
 |_=>exact fW ty
def Ol(K:aq)(T:String)(r:V->List V->Hp->VK->Prop)(to:TE):TE:=λσ H Q=>to σ H λx H1=>AN K T x H1/\r x [] H1 Q
def J1(K:aq)(T:String)(r:V->List V->Hp->VK->Prop)(to:TE)(t:TA):TE:=λσ H Q=>to σ H λx H1=>AN K T x H1/\t σ H1 λxs H2=>r x xs H2 Q
variable{o e:aw}{es:List aw}{to:TE}{t:TA}{name:Str}{apos cpos:Pos}{T id:String}{r:V->List V->Hp->VK->Prop}
theorem yU(pa:PlainAttrs T)(slot:Slot T name id)(oj:typeOf (.builtin id)=pure (.type "method_descriptor"))(hm:xv X id r)(ho:PE X o to)(mI:e9 o name X.env (aG o X.env)=aG o X.env:=by rfl) (mJ:(apos.endLine == cpos.line)=ah:=by rfl):PE X (.Call (.Attribute o name apos) [] [] cpos) (Ol X.K T r to):=by intro ae s σ H Q I h;refine wpAny_Call_method0_late mI mJ (aQ (ho ae s σ H _ I h) λv s1 ⟨x,H1,I1,r1,ty,q1⟩=>?_);obtain⟨h1,h2⟩:=Dl I1 r1 ty;exact⟨T,id,pa,slot,oj,h1,h2,Bd rfl (PySem.evalArgs_none (hm ae s1 σ H1 x [] v [] Q I1 r1 .nil q1))⟩
theorem qO(pa:PlainAttrs T)(slot:Slot T name id)(oj:typeOf (.builtin id)=pure (.type "method_descriptor"))(hm:xv X id r)(ho:PE X o to)(ha:PA X (e::es) t)(mI:e9 o name X.env (aG o X.env)=aG o X.env:=by rfl)(x6:((bU cpos (aH (e::es) X.env)).all (λx=>!x.1)&&(jW cpos (jX [] X.env)).all (λx=>x.1.isSome)&&decide ((e::es).length+([]:List im).length+(if([]:List im).isEmpty then 0 else 1)<30))=ah:=by rfl)(mJ:(apos.endLine == cpos.line)=ah:=by rfl) (hs:aH (e::es) X.env=(aj,aG e X.env)::aH es X.env:=by rfl) (Bz:(bU cpos (aH es X.env)).any (·.1)=aj:=by rfl):PE X (.Call (.Attribute o name apos) (e::es) [] cpos) (J1 X.K T r to t):=by intro ae s σ H Q I h;refine wpAny_Call_method_late mI x6 mJ rfl (aQ (ho ae s σ H _ I h) λv s1 ⟨x,H1,I1,r1,ty,q1⟩=>?_);obtain⟨h1,h2⟩:=Dl I1 r1 ty;refine⟨T,id,pa,slot,oj,h1,h2,?_⟩;have hA:=ha cpos ae s1 σ H1 _ I1 q1;rw[hs]at hA ⊢;refine Bd (by show(aj||(bU cpos (aH es X.env)).any (·.1))=aj;rw[Bz] <;> rfl) (Be ?_);exact aQ hA λus s2 ⟨vs,H2,I2,r2,q2⟩=>hm ae s2 σ H2 x vs v us Q I2 r1 r2 q2
end
def rn(X:Cx)(id:String)(r:V->List V->Hp->VK->Prop):Prop :=
 ∀(ae:List (ac×Obj)) (s:am) (σ:St) (H:Hp) (x:V) (xs:List V) (v:ai) (us:List ai) (Q:VK),Inv X ae σ H s->RelV x v->bF xs us->r x xs H Q ->
  au (aB X.prog X.w) X.A (call (.builtin id) (v::us)) (EP X ae σ Q) X.xe s
theorem bF.one:∀{x:V}{us:List ai},bF [x] us->∃u,us=[u]/\RelV x u
 |_,_,.cons r .nil=>⟨_,rfl,r⟩
theorem bF.zero:∀{us:List ai},bF [] us->us=[]
 |_,.nil=>rfl
theorem bF.dropLast{xs:List V}{us:List ai}(h:bF xs us):bF xs.dropLast us.dropLast:=by
 induction h with
 |nil=>exact .nil
 |cons r t ih=>
  cases t with
  |nil=>exact .nil
  |cons q t'=>exact .cons r ih
theorem JQ{α:Type}(l:List α):l.eraseIdx (l.length-1)=l.dropLast:=by
 induction l with
 |nil=>rfl
 |cons a r ih=>
  cases r with
  |nil=>rfl
  |cons b r=>
   have e:(a::b::r).length-1=((b::r).length-1)+1:=by have h1:(a::b::r).length=r.length+2:=rfl;have h2:(b::r).length=r.length+1:=rfl;lia
   rw[e,List.eraseIdx_cons_succ,ih]
   all_goals rfl
section
variable{X:Cx}{ae:List (ac×Obj)}{σ:St}{H:Hp}{s:am}{l b:ac}{xs ys zs:List V}
theorem Inv.lset{its its':List ai}{n:Nat}{f:Array ai->Array ai}{t':Nat}(I:Inv X ae σ H s)(hH:H l=aa (.lst xs))(e:s.heap.get? l=aa {cls:=.type "list",data:=.seq its.toArray n}) (hf:f its.toArray=its'.toArray) (hv:bF ys its') (hz:ys.length<=bn):Inv X ae σ (upd H l (.lst ys)) {s with heap:=s.heap.update l (ux f),toks:=t'}:=by have q:=PySem.IsL.update e f;rw[hf]at q;refine I.write (x:=l) (e:=l) (by rw[hH];exact trivial) (.inl rfl) (λb' u hb hu=>(pI s.heap (ux f) (c8 hb)).trans hu) ⟨_,q⟩ ?_;exact⟨hz,its',_,hv,q⟩
theorem Inv.lnew{its:List ai}{t':Nat}(I:Inv X ae σ H s)(hv:bF ys its)(hz:ys.length<=bn):Inv X ae σ (upd H s.heap.objs.size (.lst ys)) {s with heap:=s.heap.push {cls:=.type "list",data:=.seq its.toArray},toks:=t'} :=I.laid (λ_ _ q=>bV _ q) (bt _) ⟨hz,its,0,hv,dq _ rfl⟩
theorem Inv.fresh(I:Inv X ae σ H s):H s.heap.objs.size=af:=I.hok.fresh (bt _)
theorem Inv.lstM(I:Inv X ae σ H s)(hH:H l=aa (.lst xs)):xs.length<=bn/\∃(its:List ai) (n:Nat),bF xs its/\xs.length=its.length/\s.heap.get? l=aa {cls:=.type "list",data:=.seq its.toArray n}:=by obtain⟨z,its,n,r,e⟩:=I.hok l _ hH;exact⟨z,its,n,r,r.length,e⟩
theorem Ow{n:Nat}(h:n<=bn):GP n=aj:=by unfold GP;exact decide_eq_false ∅
end
section
variable{X:Cx}
def MU:V->List V->Hp->VK->Prop:=λx vs H Q=>∃l xs y,x=.ref l/\vs=[y]/\H l=aa (.lst xs)/\xs.length<bn/\Q .non (upd H l (.lst (xs++[y])))
theorem wj:rn X "list.append" MU:=by
 intro ae s σ H x vs v us Q I rx rv h;obtain⟨l,xs,y,rfl,rfl,hH,hz,q⟩:=h;cases rx;obtain⟨u,rfl,ru⟩:=rv.one;obtain⟨z,its,n,r,hl,e⟩:=I.lstM hH;refine uy F.slot_list_append ⟨_,e,rfl⟩ F.entry_list_append (F.args_list_append_2 _ _) (PySem.list_append l its.toArray n u (by rw[cX];lia)) ⟨e,?_⟩;refine⟨.non,_,I.lset (its':=its++[u]) hH e (by simp) (r.append (.cons ru .nil)) ?_,rfl,q⟩;rw[dI,pJ];lia
def Nv:V->List V->Hp->VK->Prop:=λx vs H Q=>∃l xs y,x=.ref l/\vs=[]/\H l=aa (.lst xs)/\xs[xs.length-1]?=aa y/\Q y (upd H l (.lst xs.dropLast))
theorem D6:rn X "list.pop" Nv:=by
 intro ae s σ H x vs v us Q I rx rv h;obtain⟨l,xs,y,rfl,rfl,hH,hy,q⟩:=h;cases rx;have hus:=rv.zero;subst hus;obtain⟨z,its,n,r,hl,e⟩:=I.lstM hH;obtain⟨u,hu,ru⟩:=r.get hy;have hy':its.toArray[its.toArray.size-1]?=aa u:=by show its.toArray[its.length-1]?=aa u;rw[←GQ,←hl];exact hu
 refine uy F.slot_list_pop ⟨_,e,rfl⟩ F.entry_list_pop (F.args_list_pop_1 _) (MeetsSeq.list_pop_last l its.toArray n u hy' (by rw[cX];lia)) ⟨e,?_⟩;refine⟨y,_,I.lset (its':=its.dropLast) hH e ?_ r.dropLast ?_,ru,q⟩
 ·show its.toArray.eraseIdxIfInBounds (its.toArray.size-1)=its.dropLast.toArray;rw[cX,List.eraseIdxIfInBounds_toArray,JQ]
 ·rw[xG];lia
theorem Mo{α:Type}(xs:List α)(k:Nat):(bG k xs).flatten.length=k*xs.length:=by
 induction k with
 |zero=>simp
 |succ k ih=>rw[nW,Bf,dI,ih,Nat.succ_mul,Nat.add_comm]
end
section
variable{κ:Type}[DecidableEq κ]
def ja(kvs:List (κ×V))(k:κ):Option V:=(kvs.find? λkv=>decide (kv.1=k)).map (·.2)
def gU(kvs:List (κ×V))(k:κ)(v:V):List (κ×V) :=if(kvs.any λkv=>decide (kv.1=k))=ah then kvs.map (λkv=>if kv.1=k then(kv.1,v)else kv)else kvs++[(k,v)]
theorem wJ{p:κ×V}{r:List (κ×V)}{k:κ}(e:p.1=k):ja (p::r) k=aa p.2:=by simp[ja,jZ,e]
theorem vZ{p:κ×V}{r:List (κ×V)}{k:κ}(e:¬p.1=k):ja (p::r) k=ja r k:=by simp[ja,jZ,e]
theorem C8(k:κ):∀kvs:List (κ×V),(kvs.any λkv=>decide (kv.1=k))=(ja kvs k).isSome
 |[]=>rfl
 |p::r=>by
  rw[pH];by_cases e:p.1=k
  ·simp only[wJ e,decide_eq_true e,Bool.true_or,Option.isSome_some]
  ·rw[vZ e,decide_eq_false e,Bool.false_or];exact C8 k r
theorem AL(kvs:List (κ×V))(k:κ)(v:V):(gU kvs k v).length<=kvs.length+1:=by
 unfold gU;split
 ·rw[c9];lia
 ·rw[dI,eF,nX];lia
theorem li.isSome_eq{o:Option V}{u:Option ai}(r:li o u):o.isSome=u.isSome:=by
 cases o with
 |none=>cases u with
  |none=>rfl
  |some _=>exact(show False from r).elim
 |some _=>cases u with
  |none=>exact(show False from r).elim
  |some _=>rfl
theorem li.getD{o:Option V}{u:Option ai}{d:V}{d':ai}(r:li o u)(rd:RelV d d'):RelV (o.getD d) (u.getD d'):=by
 cases o with
 |none=>cases u with
  |none=>exact rd
  |some _=>exact(show False from r).elim
 |some _=>cases u with
  |none=>exact(show False from r).elim
  |some _=>exact r
theorem KV.val{kvs:List (κ×V)}{vs:List (κ×ai)}(r:KV kvs vs)(k:κ):li (ja kvs k) (rG vs k):=by
 unfold KV at r
 induction r with
 |nil=>exact True.intro
 |@cons p q ps qs h t ih=>
  obtain⟨h1,h2⟩:=h;by_cases e:p.1=k
  ·have e':q.1=k:=h1.symm.trans e;have b:rG (q::qs) k=aa q.2:=by simp[rG,jZ,e']
   rw[wJ e,b];exact h2
  ·have e':¬q.1=k:=λz=>e (h1.trans z);have b:rG (q::qs) k=rG qs k:=by simp[rG,jZ,e']
   rw[vZ e,b];exact ih
theorem KV.any{kvs:List (κ×V)}{vs:List (κ×ai)}(r:KV kvs vs)(k:κ):(kvs.any λkv=>decide (kv.1=k))=vs.any λkv=>decide (kv.1=k):=by
 unfold KV at r
 induction r with
 |nil=>rfl
 |cons h t ih=>rw[pH,pH,ih,h.1]
theorem KV.repl{kvs:List (κ×V)}{vs:List (κ×ai)}(r:KV kvs vs)(k:κ){y:V}{u:ai}(ry:RelV y u):KV (kvs.map λkv=>if kv.1=k then(kv.1,y)else kv) (vs.map λkv=>if kv.1=k then(kv.1,u)else kv):=by
 unfold KV at r ⊢
 induction r with
 |nil=>exact .nil
 |@cons p q ps qs h t ih=>
  rw[cQ,cQ];refine .cons ?_ ih;obtain⟨h1,h2⟩:=h;by_cases e:p.1=k
  ·rw[if_pos e,if_pos (h1.symm.trans e)];exact⟨h1,ry⟩
  ·rw[if_neg e,if_neg (λz=>e (h1.trans z))];exact⟨h1,h2⟩
theorem KV.put{kvs:List (κ×V)}{vs:List (κ×ai)}(r:KV kvs vs)(k:κ){y:V}{u:ai}(ry:RelV y u):KV (gU kvs k y) (stored vs k u):=by
 unfold gU stored;rw[r.any k];by_cases e:(vs.any λkv=>decide (kv.1=k))=ah
 ·rw[if_pos e,if_pos e];exact r.repl k ry
 ·rw[if_neg e,if_neg e];exact Paired.snoc r ⟨rfl,ry⟩
theorem KV.length{kvs:List (κ×V)}{vs:List (κ×ai)}(r:KV kvs vs):kvs.length=vs.length:=Paired.length r
end
theorem rj{P:ba}{w:aP}{k:aO}{u:ai}(r:RelV (kV k) u):(gz P w).is k u=ah:=by
 cases k with
 |inl i=>obtain⟨t,e⟩:=(show ∃t,u=Value.int i t from r);subst e;exact HY P w i t
 |inr x=>obtain⟨t,e⟩:=(show ∃t,u=Value.str x t from r);subst e;exact Kl P w x t
theorem CU{P:ba}{w:aP}:∀{ks:List aO}{us:List ai},bF (ks.map kV) us->ItemsAre (gz P w) ks us
 |[],_,r=>by rw[rH]at r;cases r;exact .nil
 |k::ks,_,r=>by
  rw[cQ]at r;cases r with
  |cons h t=>exact .cons (rj h) (CU t)
abbrev KT(H:Hp):List (List aO×V)->List (List aO×ac×ai)->Prop:=lj λp q=>p.1=q.1/\H q.2.1=aa (.tup (p.1.map kV))/\RelV p.2 q.2.2
theorem KT.val{H:Hp}{kvs:List (List aO×V)}{xs:List (List aO×ac×ai)}(r:KT H kvs xs)(k:List aO):li (ja kvs k) ((atKey xs k).map (·.2)):=by
 induction r with
 |nil=>exact True.intro
 |@cons p q ps qs h t ih=>
  obtain⟨h1,_,h2⟩:=h;by_cases e:p.1=k
  ·have e':q.1=k:=h1.symm.trans e;have b:atKey (q::qs) k=aa q.2:=by simp[atKey,jZ,e']
   rw[wJ e,b];exact h2
  ·have e':¬q.1=k:=λz=>e (h1.trans z);have b:atKey (q::qs) k=atKey qs k:=by simp[atKey,jZ,e']
   rw[vZ e,b];exact ih
theorem KT.repl{H:Hp}{kvs:List (List aO×V)}{xs:List (List aO×ac×ai)}(r:KT H kvs xs)(k:List aO){y:V}{u:ai}(ry:RelV y u):KT H (kvs.map λkv=>if kv.1=k then(kv.1,y)else kv) (xs.map (putAt k u)):=by
 induction r with
 |nil=>exact .nil
 |@cons p q ps qs h t ih=>
  rw[cQ,cQ];refine .cons ?_ ih;obtain⟨h1,h2,h3⟩:=h;unfold putAt;by_cases e:p.1=k
  ·rw[if_pos e,if_pos (h1.symm.trans e)];exact⟨h1,h2,ry⟩
  ·rw[if_neg e,if_neg (λz=>e (h1.trans z))];exact⟨h1,h2,h3⟩
theorem KT.put{H:Hp}{kvs:List (List aO×V)}{xs:List (List aO×ac×ai)}(r:KT H kvs xs)(k:List aO){b:ac}{y:V}{u:ai}(hb:H b=aa (.tup (k.map kV)))(ry:RelV y u):KT H (gU kvs k y) (storedH xs k b u):=by
 have e:(kvs.any λkv=>decide (kv.1=k))=(atKey xs k).isSome:=by rw[C8,(r.val k).isSome_eq,GR]
 unfold gU storedH;rw[e];by_cases q:(atKey xs k).isSome=ah
 ·rw[if_pos q,if_pos q];exact r.repl k ry
 ·rw[if_neg q,if_neg q];exact Paired.snoc r ⟨rfl,hb,ry⟩
theorem KT.keeps{H H':Hp}{kvs:List (List aO×V)}{xs:List (List aO×ac×ai)}(r:KT H kvs xs)(ht:∀b ys,H b=aa (.tup ys)->H' b=aa (.tup ys)):KT H' kvs xs :=Paired.mapP r λ_ _ z=>⟨z.1,ht _ _ z.2.1,z.2.2⟩
section
variable{P:ba}{w:aP}{H:Hp}{h:aE}{a:ac}
theorem Fq{u:HO}(ok:c0 P w H h)(e:Rd H a u):dy P w H h a u:=e.ok ok
theorem pi{kvs:List (aO×V)}(ok:c0 P w H h)(e:Rd H a (.dK kvs)):kvs.length<=bn/\(a == mf)=aj/\∃vs,KV kvs vs/\h.DictOf (gz P w) a vs :=show dy P w H h a (.dK kvs)from Fq ok e
theorem tL{kvs:List (aO×V)}(ok:c0 P w H h)(e:H a=aa (.dK kvs)):kvs.length<=bn/\(a == mf)=aj/\∃vs,KV kvs vs/\h.DictOf (gz P w) a vs:=pi ok (.inl e)
theorem tP{ks:List aO}(ok:c0 P w H h)(e:H a=aa (.tup (ks.map kV))):(uk (gz P w)).is h ks a:=by
 obtain⟨_,its,r,⟨o,h1,h2,n,h3⟩,_⟩:=(show dy P w H h a (.tup (ks.map kV))from ok a _ e)
 exact⟨o,its.toArray,n,h1,h2,h3,by simpa using CU r⟩
theorem qT{kvs:List (List aO×V)}(ok:c0 P w H h)(e:Rd H a (.dT kvs)):kvs.length<=bn/\(a == mf)=aj /\ ∃xs,KT H kvs xs/\h.DictOfH (uk (gz P w)) a xs:=by
 obtain⟨z,y,xs,r,o,es,ep,h1,h2,h3,h4,h5⟩:=(show dy P w H h a (.dT kvs)from Fq ok e)
 refine⟨z,y,xs,r,o,es,ep,h1,h2,h3,h4,λx hx=>?_,h5⟩;have all:∀{l:List (List aO×V)}{m:List (List aO×ac×ai)},KT H l m->∀x∈m,(uk (gz P w)).is h x.1 x.2.1:=by
  intro l m q
  induction q with
  |nil=>intro x hx;exact nomatch hx
  |@cons p q ps qs hq t ih=>
   intro x hx;rcases bQ.mp hx with e|hx
   ·subst e;exact tP ok (by rw[←hq.1];exact hq.2.1)
   ·exact ih x hx
 exact all r x hx
theorem IE{kvs:List (List aO×V)}(ok:c0 P w H h)(e:H a=aa (.dT kvs)):kvs.length<=bn/\(a == mf)=aj /\ ∃xs,KT H kvs xs/\h.DictOfH (uk (gz P w)) a xs:=qT ok (.inl e)
end
def lI(H:Hp)(a:ac)(y:V)(r:Option V):Prop :=(∃kvs k,Rd H a (.dK kvs)/\y=kV k/\r=ja kvs k)\/∃kvs k b,Rd H a (.dT kvs)/\y=.ref b/\H b=aa (.tup (k.map kV))/\r=ja kvs k
def AX(H:Hp)(a:ac)(y v:V)(H':Hp):Prop :=
 (∃kvs k,H a=aa (.dK kvs)/\y=kV k/\kvs.length<bn/\H'=upd H a (.dK (gU kvs k v))) \/
 ∃kvs k b,H a=aa (.dT kvs)/\y=.ref b/\H b=aa (.tup (k.map kV))/\kvs.length<bn/\H'=upd H a (.dT (gU kvs k v))
theorem lI.k{H:Hp}{a:ac}{kvs:List (aO×V)}{k:aO}(e:H a=aa (.dK kvs)):lI H a (kV k) (ja kvs k):=.inl ⟨kvs,k,.inl e,rfl,rfl⟩
theorem AX.k{H:Hp}{a:ac}{kvs:List (aO×V)}{k:aO}{v:V}(e:H a=aa (.dK kvs))(hl:kvs.length<bn):AX H a (kV k) v (upd H a (.dK (gU kvs k v))):=.inl ⟨kvs,k,e,rfl,hl,rfl⟩
section
variable{X:Cx}{ae:List (ac×Obj)}{σ:St}{H:Hp}{s:am}{a:ac}{y v:V}{u r:ai}{o:Option V}{A:a6}{E:ai->am->Prop}
theorem Inv.big(I:Inv X ae σ H s):mf<s.heap.objs.size:=by have h:b9<s.heap.objs.size:=(I.mod.glob.keeps I.bk).lt;exact Bg (by decide) h
theorem L_{Q:ai->am->Prop}(hu:A.units+1<cLine)(I:Inv X ae σ H s)(g:lI H a y (aa v))(ry:RelV y u)(h:∀w' s',Inv X ae σ H s'->RelV v w'->Q w' s'):au (aB X.prog X.w) A (pE (.ref a) u) Q E s:=by
 rcases g with⟨kvs,k,e,ey,l⟩|⟨kvs,k,b,e,ey,eb,l⟩
 ·subst ey;obtain⟨z,hd,vs,rel,dd⟩:=pi I.hok e;obtain⟨w',hw,rw'⟩:=li.some_of (v:=v) (o:=rG vs k) (by rw[l];exact rel.val k);exact wpAny_getItem_of (rj ry) dd.mapOf hw (h w' _ (I.tok _) rw')
 ·subst ey;cases (show u=Value.ref b from ry);obtain⟨z,hd,xs,rel,dd⟩:=qT I.hok e;obtain⟨w',hw,rw'⟩:=li.some_of (v:=v) (o:=(atKey xs k).map (·.2)) (by rw[l];exact rel.val k);obtain⟨p,hp,kH⟩:=xH.mp hw;refine wpAny_getItem_heap (Bh hu) (tP I.hok eb) dd hp ?_;rw[kH];exact h w' _ (I.tok _) rw'
theorem QA{Q:ai->am->Prop}(hu:A.units+1<cLine)(I:Inv X ae σ H s)(g:lI H a y o)(ry:RelV y u)(h:∀s',Inv X ae σ H s'->Q (.bool o.isSome) s'):au (aB X.prog X.w) A (d7 .In u (.ref a)) Q E s:=by
 rcases g with⟨kvs,k,e,ey,l⟩|⟨kvs,k,b,e,ey,eb,l⟩
 ·subst ey;obtain⟨z,hd,vs,rel,dd⟩:=pi I.hok e;refine wpAny_in_of (rj ry) hd dd.mapOf ?_;rw[←(rel.val k).isSome_eq,←l];exact h _ (I.tok _)
 ·subst ey;cases (show u=Value.ref b from ry);obtain⟨z,hd,xs,rel,dd⟩:=qT I.hok e;refine wpAny_in_heap (Bh hu) (tP I.hok eb) hd dd ?_;have q:=(rel.val k).isSome_eq;rw[GR]at q;rw[←q,←l];exact h _ (I.tok _)
theorem yu{h':aE}{t':Nat}{ob:HO}(I:Inv X ae σ H s)(mu:sW (H a))(hs:ku a s.heap h')(he:∃q,h'.get? a=aa q)(new:dy X.prog X.w (upd H a ob) h' a ob):Inv X ae σ (upd H a ob) {s with heap:=h',toks:=t'} :=I.write (x:=a) (e:=a) mu (.inl rfl) (λb q hb z=>(hs.2 b hb).trans z) he new
theorem Ci{P:ba}{w:aP}{H':Hp}{h':aE}{kvs:List (aO×V)}{vs:List (aO×ai)}(z:kvs.length<=bn)(hd:(a == mf)=aj)(rel:KV kvs vs)(dd:h'.DictOf (gz P w) a vs):dy P w H' h' a (.dK kvs):=⟨z,hd,vs,rel,dd⟩
theorem KA{H':Hp}{Q:Unit->am->Prop}(hu:A.units+1<cLine)(I:Inv X ae σ H s)(g:AX H a y v H')(ry:RelV y u)(rv:RelV v r)(h:∀s',Inv X ae σ H' s'->Q () s'):au (aB X.prog X.w) A (setItem (.ref a) u r) Q E s:=by
 rcases g with⟨kvs,k,e,ey,l,eH⟩|⟨kvs,k,b,e,ey,eb,l,eH⟩
 ·subst ey eH;obtain⟨z,hd,vs,rel,dd⟩:=tL I.hok e;have hz:vs.length<=bn:=by rw[←rel.length];exact z
  have hl:(gU kvs k v).length<=bn:=by have:=AL kvs k v;lia
  refine wpAny_setItem_pairs (hsz:=hz) (rj ry) dd λh' dd' hs=>h _ ?_;have he:∃q,h'.get? a=aa q:=let ⟨q,_,_,hq,_⟩:=dd';⟨q,hq⟩
  exact yu I (by rw[e];exact True.intro) hs he (Ci hl hd (rel.put k rv) dd')
 ·subst ey eH;cases (show u=Value.ref b from ry);obtain⟨z,hd,xs,rel,dd⟩:=IE I.hok e;have hz:xs.length<=bn:=by rw[←Paired.length rel];exact z
  have hl:(gU kvs k v).length<=bn:=by have:=AL kvs k v;lia
  refine wpAny_setItem_heap (hsz:=hz) (Bh hu) (tP I.hok eb) dd λh' dd' hs=>h _ ?_;obtain⟨q,es,ep,hq,h2,h3,h4,_,h5⟩:=dd';refine yu I (by rw[e];exact True.intro) hs ⟨q,hq⟩ ⟨hl,hd,_,(rel.put k eb rv).keeps λc ys ec=>?_,q,es,ep,hq,h2,h3,h4,h5⟩;rw[bh (Iu ec e (λz=>nomatch z))];exact ec
end
section
variable{X:Cx}{ae:List (ac×Obj)}{σ:St}{H:Hp}{s:am}{a:ac}{kvs:List (aO×V)}{k:aO}{u:ai}{A:a6}{E:ai->am->Prop}
theorem O6{Q:ai->am->Prop}(I:Inv X ae σ H s)(e:Rd H a (.dK kvs))(h:∀t s',Inv X ae σ H s'->Q (.int kvs.length t) s'):au (aB X.prog X.w) A (call (.builtin "len") [.ref a]) Q E s:=by obtain⟨z,hd,vs,rel,dd⟩:=pi I.hok e;refine call_len_dict hd dd (by rw[←rel.length];rw[nQ]at z;lia) ?_;rw[←rel.length];exact h _ _ (I.tok _)
end
def zM(i:aw):Prop:=∀ov iv,Bc i aj ov iv=operate [ov,iv] (pE ov iv)
theorem Qb{prog:ba}{w:aP}{A:a6}{E:ai->am->Prop}{s:am}{env:Env}{value slice:aw}{pos:Pos}{T id:String}{Q:ai->am->Prop}(hl:typeLookup (.type T) "__getitem__" = pure (aa (.builtin id))) (hs:zM slice)(h:au (aB prog w) A (aG value env) (λo s₁=>au (aB prog w) A (aG slice env) (λi s₂=>s₂.TypeIs o T/\au (aB prog w) A (pE o i) Q E s₂) E s₁) E s):au (aB prog w) A (aG (.Subscript value slice pos) env) Q E s:=by
 refine Subscript_ (d5 h (λo s₁ h₁=>d5 h₁ (λi s₂ h₂=>?_) λ_ _ x=>x) λ_ _ x=>x);obtain⟨hT,h₂⟩:=h₂;unfold subscriptTail;refine ax ?_;rw[getitemInPython_of_ne hT.not_modules];refine ax (wpAny_specialOf hT hl ?_);have fin:au (aB prog w) A (Bc slice aj o i) (λr s₃=>au (aB prog w) A (letTemporaryGo value o r >>= λ_=>pure r) Q E s₃) E s₂:=by rw[hs o i];exact wpAny_operating (d5 h₂ (λr s₃ h₃=>ax (wpAny_letTemporaryGo (aV h₃))) λ_ _ x=>x)
 first
  |exact aV (ax fin)
  |exact ax (aV (ax fin))
  |exact ax fin
theorem LV{X:Cx}{ae:List (ac×Obj)}{σ:St}{H:Hp}{s:am}{a:ac}{y:V}{o:Option V}(I:Inv X ae σ H s)(g:lI H a y o):s.TypeIs (.ref a) "dict":=by
 rcases g with⟨kvs,k,e,_,_⟩|⟨kvs,k,b,e,_,_,_⟩
 ·obtain⟨_,_,vs,_,dd⟩:=pi I.hok e;exact dd.typeIs
 ·obtain⟨_,_,xs,_,dd⟩:=qT I.hok e;exact dd.typeIs
def J2(td ty:TE):TE:=λσ H Q=>td σ H λx H1=>ty σ H1 λy H2=>∃a v,x=.ref a/\lI H2 a y (aa v)/\Q v H2
def P5(ty td:TE):TE:=λσ H Q=>ty σ H λy H1=>td σ H1 λx H2=>∃a o,x=.ref a/\lI H2 a y o/\Q (.bl o.isSome) H2
def JV(td ty tv:TE):TS:=λD σ H=>tv σ H λv H1=>td σ H1 λx H2=>ty σ H2 λy H3=>∃a H4,x=.ref a/\AX H3 a y v H4/\D.nx σ H4
section
variable{X:Cx}{o i e value:aw}{pos pos' tpos:Pos}{td ty tv:TE}
theorem HJ(hu:X.A.units+1<cLine)(ho:PE X o td)(hi:PE X i ty)(hs:zM i):PE X (.Subscript o i pos) (J2 td ty):=by intro ae s σ H Q I h;refine Qb PySem.F.slot_dict_getitem.lookup hs (aQ (ho ae s σ H _ I h) λu s1 ⟨x,H1,I1,rx,q1⟩=>aQ (hi ae s1 σ H1 _ I1 q1) λiv s2 ⟨y,H2,I2,ry,a,v,ex,g,q2⟩=>?_);subst ex;obtain rfl:u=Value.ref a:=rx;exact⟨LV I2 g,L_ hu I2 g ry λw' s3 I3 rw'=>⟨v,H2,I3,rw',q2⟩⟩
theorem Mi(hu:X.A.units+1<cLine)(hi:PE X i ty)(ho:PE X o td):PC X .In i o (P5 ty td):=by intro ae s σ H Q I h;refine aQ (hi ae s σ H _ I h) λiv s1 ⟨y,H1,I1,ry,q1⟩=>aQ (ho ae s1 σ H1 _ I1 q1) λu s2 ⟨x,H2,I2,rx,a,ov,ex,g,q2⟩=>?_;subst ex;obtain rfl:u=Value.ref a:=rx;exact QA hu I2 g ry λs3 I3=>⟨.bl ov.isSome,H2,I3,rfl,q2⟩
theorem Jl(hu:X.A.units+1<cLine)(ho:PE X o td)(hi:PE X i ty)(hv:PE X value tv)(hs:ik value (aa (.Subscript o i pos')) pos.line X.env=pure aj):PS X (.Assign [.Subscript o i pos'] value pos) (JV td ty tv):=by intro ae s σ H D I h;refine wpAny_Assign_Subscript (aQ (hv ae s σ H _ I h) λr s1 ⟨v,H1,I1,rv,q1⟩=>aQ (ho ae s1 σ H1 _ I1 q1) λu s2 ⟨x,H2,I2,rx,q2⟩=>aQ (hi ae s2 σ H2 _ I2 q2) λiv s3 ⟨y,H3,I3,ry,a,H4,ex,g,q3⟩=>?_) hs;subst ex;obtain rfl:u=Value.ref a:=rx;exact KA hu I3 g ry rv λs4 I4=>⟨σ,H4,I4,q3⟩
end
theorem Du{P:ba}{w:aP}{H:Hp}(h:aE)(hb:mf<h.objs.size):dy P w H (h.push {cls:=.type "dict",data:=.dict #[]}) h.objs.size (.dK []) :=⟨mr _,beq_eq_false_iff_ne.mpr (c8 (dr hb)),[],.nil,Heap.DictOf.new h⟩
def NG:TE:=λ_ H Q=>∀p,H p=af->Q (.ref p) (upd H p (.dK []))
section
variable{X:Cx}{pos:Pos}
theorem Ko:PE X (.Dict [] [] pos) NG:=λae s σ H Q I h=>wpAny_Dict_empty ⟨.ref s.heap.objs.size,_,I.laid (a:=s.heap.objs.size) (o:=.dK []) (t':=s.toks) (λ_ _ q=>bV _ q) (bt _) (Du s.heap I.big),rfl,h _ (I.hok.fresh (bt _))⟩
end
def zE:List (TE×TE)->St->Hp->(List (V×V)->Hp->Prop)->Prop
 |[],_,H,Q=>Q [] H
 | (tk,tv)::r,σ,H,Q=>tk σ H λx H1=>tv σ H1 λy H2=>zE r σ H2 λps H3=>Q ((x,y)::ps) H3
abbrev VV:List (V×V)->List (ai×ai)->Prop:=lj λp q=>RelV p.1 q.1/\RelV p.2 q.2
def qJ(X:Cx)(pos:Pos)(keys:List (Option aw))(values:List aw)(trs:List (TE×TE)):Prop :=
 ∀(ae:List (ac×Obj)) (s:am) (σ:St) (H:Hp) (Q:List (V×V)->Hp->Prop),Inv X ae σ H s->zE trs σ H Q ->
  au (aB X.prog X.w) X.A (evalPairs (pairTrees keys values X.env pos)) (λvs s'=>∃ps H',Inv X ae σ H' s'/\VV ps vs/\Q ps H') X.xe s
theorem Pn{X:Cx}{pos:Pos}:qJ X pos [] [] []:=λae s σ H Q I h=>pairTrees_nil_walk ⟨[],H,I,.nil,h⟩
theorem ML{X:Cx}{pos:Pos}{k v:aw}{ks:List (Option aw)}{vs:List aw}{tk tv:TE}{trs:List (TE×TE)}(hk:PE X k tk)(hv:PE X v tv)(hr:qJ X pos ks vs trs):qJ X pos (aa k::ks) (v::vs) ((tk,tv)::trs):=λae s σ H Q I h=>pairTrees_cons_walk (aQ (hk ae s σ H _ I h) λu s1 ⟨x,H1,I1,rx,q1⟩=>aQ (hv ae s1 σ H1 _ I1 q1) λw2 s2 ⟨y,H2,I2,ry,q2⟩=>aQ (hr ae s2 σ H2 _ I2 q2) λws s3 ⟨ps,H3,I3,rel,q3⟩=>⟨(x,y)::ps,H3,I3,.cons ⟨rx,ry⟩ rel,q3⟩)
def ri(kvs more:List (aO×V)):List (aO×V):=more.foldl (λbb kv=>gU bb kv.1 kv.2) kvs
theorem KV.merge:∀{more:List (aO×V)}{rs:List (aO×ai)}{kvs:List (aO×V)}{vs:List (aO×ai)},KV more rs->KV kvs vs->KV (ri kvs more) (merged vs rs):=by
 intro more rs kvs vs r;unfold KV at r
 induction r generalizing kvs vs with
 |nil=>intro q;exact q
 |@cons p q ps qs h t ih=>
  intro r0;have e:KV (gU kvs p.1 p.2) (stored vs q.1 q.2):=by have:=r0.put p.1 h.2;rw[←h.1];exact this
  exact ih e
theorem Fp:∀(more kvs:List (aO×V)),(ri kvs more).length<=kvs.length+more.length
 |[],kvs=>by show kvs.length<=kvs.length+0;lia
 |p::r,kvs=>by have h1:=Fp r (gU kvs p.1 p.2);have h2:=AL kvs p.1 p.2;show(ri (gU kvs p.1 p.2) r).length<=_;rw[eF];lia
theorem Cr{P:ba}{w:aP}:∀{kvs:List (aO×V)}{ws:List (ai×ai)},VV (kvs.map λkv=>(kV kv.1,kv.2)) ws->∃rs,Carries (gz P w) ws rs/\KV kvs rs
 |[],_,r=>by rw[rH]at r;cases r;exact⟨[],True.intro,.nil⟩
 |p::kvs,_,r=>by
  rw[cQ]at r;cases r with
  |@cons a b as bs h t=>obtain⟨rs,c,q⟩:=Cr (P:=P) (w:=w) t;obtain⟨b1,b2⟩:=b;exact⟨(p.1,b2)::rs,⟨rj h.1,rfl,c⟩,.cons ⟨rfl,h.2⟩ q⟩
def Qr(trs:List (TE×TE)):TE:=λσ H Q=>∀p,H p=af->zE trs σ (upd H p (.dK [])) λps H2=>H2 p=aa (.dK [])/\∃kvs:List (aO×V),ps=kvs.map (λkv=>(kV kv.1,kv.2))/\kvs.length<=15/\Q (.ref p) (upd H2 p (.dK (ri [] kvs)))
theorem IW{X:Cx}{pos:Pos}{keys:List (Option aw)}{values:List aw}{trs:List (TE×TE)}(h:qJ X pos keys values trs)(uL:keys.all (·.isSome)=ah)(hl:keys.length=values.length)(h0:keys≠[])(h15:keys.length<=15):PE X (.Dict keys values pos) (Qr trs):=by
 intro ae s σ H Q I q;have hn:=I.hok.fresh (bt s.heap.objs.size);have I1:=I.laid (a:=s.heap.objs.size) (o:=.dK []) (h':=s.heap.push {cls:=.type "dict",data:=.dict #[]}) (t':=s.toks) (λ_ _ q=>bV _ q) (bt _) (Du s.heap I.big);refine wpAny_Dict_walk (knd:=gz X.prog X.w) uL hl h0 h15 (aQ (h ae _ σ _ _ I1 (q _ hn)) λws s2 ⟨ps,H2,I2,rel,e,kvs,ep,lk,q2⟩=>?_);subst ep;obtain⟨rs,c,rk⟩:=Cr (P:=X.prog) (w:=X.w) rel;obtain⟨z,hd,vs0,r0,dd⟩:=tL I2.hok e;cases r0;refine⟨rs,c,dd,λh' dd' hs=>⟨.ref s.heap.objs.size,_,?_,rfl,q2⟩⟩;have hz:(ri [] kvs).length<=bn:=by have h1:=Fp kvs [];rw[nX]at h1;rw[nQ];lia
 have he:∃q,h'.get? s.heap.objs.size=aa q:=let ⟨q,_,_,hq,_⟩:=dd';⟨q,hq⟩
 exact yu I2 (by rw[e];exact True.intro) hs he (Ci hz hd (rk.merge .nil) dd')
structure M2(X:Cx)(o:aw)(m:Str)(apos:Pos)(e f:aw)(cpos:Pos):Prop where
 base:e9 o m X.env (aG o X.env)=aG o X.env
 few:((bU cpos (aH [e,f] X.env)).all (λx=>!x.1)&&(jW cpos (jX [] X.env)).all (λx=>x.1.isSome)&&decide (([e,f]:List aw).length+([]:List im).length+(if([]:List im).isEmpty then 0 else 1)<30))=ah
 line:(apos.endLine == cpos.line)=ah
 trees:bU cpos (aH [e,f] X.env)=[(aj,aG e X.env),(aj,aG f X.env)]
def CS(H:Hp)(a:ac):Prop:=(∃kvs,Rd H a (.dK kvs))\/∃kvs,Rd H a (.dT kvs)
theorem M9{X:Cx}{ae:List (ac×Obj)}{σ:St}{H:Hp}{s:am}{a:ac}(I:Inv X ae σ H s)(d:CS H a):s.TypeIs (.ref a) "dict"/\(∀b,Value.ref a=.ref b->∃ob,s.heap.get? b=aa ob/\ob.dict=af)/\(a == mf)=aj:=by
 rcases d with⟨kvs,e⟩|⟨kvs,e⟩
 ·obtain⟨_,hd,vs,_,dd⟩:=pi I.hok e;refine⟨dd.typeIs,λb q=>?_,hd⟩;cases q;obtain⟨ob,_,_,h1,h2,_⟩:=dd;exact⟨ob,h1,h2.2.1⟩
 ·obtain⟨_,hd,xs,_,dd⟩:=qT I.hok e;refine⟨dd.typeIs,λb q=>?_,hd⟩;cases q;obtain⟨ob,_,_,h1,h2,_⟩:=dd;exact⟨ob,h1,h2.2.1⟩
section
variable{X:Cx}{ae:List (ac×Obj)}{σ:St}{H:Hp}{s:am}{a:ac}{y d:V}{u r:ai}{o:Option V}{A:a6}{E:ai->am->Prop}
theorem JN{Q:ai->am->Prop}(hu:A.units+1<cLine)(I:Inv X ae σ H s)(g:lI H a y o)(ry:RelV y u)(rd:RelV d r)(h:∀w' s',Inv X ae σ H s'->RelV (o.getD d) w'->Q w' s'):au (aB X.prog X.w) A (call (.builtin "dict.get") [.ref a,u,r]) Q E s:=by
 rcases g with⟨kvs,k,e,ey,l⟩|⟨kvs,k,b,e,ey,eb,l⟩
 ·subst ey;obtain⟨z,hd,vs,rel,dd⟩:=pi I.hok e;refine call_meetsIn GS dd.typeIs PySem.F.entry_dict_get (PySem.F.args_dict_get_3 _ _ _) (meets_dict_get_default (gz X.prog X.w) a (rj ry) hd r) ⟨_,dd.mapOf,h _ _ (I.tok _) ?_⟩;rw[l];exact(rel.val k).getD rd
 ·subst ey;cases (show u=Value.ref b from ry);obtain⟨z,hd,xs,rel,dd⟩:=qT I.hok e;refine call_meetsIn GS dd.typeIs PySem.F.entry_dict_get (PySem.F.args_dict_get_3 _ _ _) (meetsH_dict_get_default (uk (gz X.prog X.w)) a b hd r) ⟨Bh hu,k,xs,tP I.hok eb,dd,h _ _ (I.tok _) ?_⟩;rw[l];exact(rel.val k).getD rd
end
def Oo(td ty tx:TE):TE:=λσ H Q=>td σ H λx H1=>∃a,x=.ref a/\CS H1 a/\ty σ H1 λy H2=>tx σ H2 λz H3=>∃o,lI H3 a y o/\Q (o.getD z) H3
section
variable{X:Cx}{o e f:aw}{apos cpos:Pos}{td ty tx:TE}
theorem Kx(hu:X.A.units+1<cLine)(ho:PE X o td)(he:PE X e ty)(hf:PE X f tx)(m:M2 X o "get" apos e f cpos):PE X (.Call (.Attribute o "get" apos) [e,f] [] cpos) (Oo td ty tx):=by intro ae s σ H Q I h;refine wpAny_Call_method m.base m.few m.line PySem.F.plainAttrs_dict GS PySem.F.type_dict_get (aQ (ho ae s σ H _ I h) λu s1 ⟨x,H1,I1,rx,a,ex,d,q1⟩=>?_);subst ex;obtain rfl:u=Value.ref a:=rx;obtain⟨t1,t2,_⟩:=M9 I1 d;refine⟨t1,t2,?_⟩;rw[m.trees];refine Bd rfl (Be (A7 (aQ (he ae s1 σ H1 _ I1 q1) λiv s2 ⟨y,H2,I2,ry,q2⟩=>A7 (aQ (hf ae s2 σ H2 _ I2 q2) λfv s3 ⟨z,H3,I3,rz,ov,g,q3⟩=>GK ?_))));exact JN hu I3 g ry rz λw' s4 I4 rw'=>⟨_,H3,I4,rw',q3⟩
end
end L2
namespace Att
open PySem PySem.W PySem.Calls PyProof.Rows
theorem O7{P:Params}{h:aE}:∀(ns:List Int) (vs:List ai),WellAll P h vs (ns.map WData.int)->IntsAre vs ns:=by
 intro ns
 induction ns with
 |nil=>
  intro vs w;rw[rH]at w;cases w;exact .nil
 |cons n ns ih=>
  intro vs w;rw[cQ]at w;cases w with
  |cons a b=>
   cases a;exact .cons _ _ (ih _ b)
theorem Qx{l:OpenLaw}{n:Nat}(hn:l.most=aa n){P:Params}{h:aE}{args:List WData}{vals:List ai}(uN:l.row.toRowW.claim.pre args=ah) (hwl:WellAll P h vals args):∃a vs ns,vals=[Value.ref a]/\args=[WData.list (ns.map WData.int)]/\h.get? a=aa {cls:=.type "list",data:=.seq vs.toArray}/\IntsAre vs ns/\ns.length<=n:=by
 have hsh:WShape.hasAll [] args [.list .int]=ah:=(pre_splitW uN).1;have hc:l.pre.holds [] {args:=args}=ah:=(pre_splitW uN).2;obtain⟨d,r,rfl,h1,h2⟩:=hasAllW_cons hsh;obtain rfl:=hasAllW_nil h2;obtain⟨xs,rfl,h3⟩:=hasW_list h1;obtain⟨ns,rfl⟩:=items_int h3;have aS:ns.length<=n:=by
  unfold OpenLaw.pre at hc;have h4:(WTm.not (.lt (.lit (.int (n:Int))) (.len (.arg 0)))).holds [] {args:=[.list (ns.map .int)]}=ah:=by have h4:=(holds_andW hc).1;rw[hn]at h4;exact h4
  have h5:=condW_of h4 (w_not (w_lt w_lit (w_len_list (w_arg rfl))));rw[c9]at h5;refine Nat.le_of_not_lt λq=>?_;have q':(n:Int)<((ns.length:Nat):Int):=∅
  first
   | (rw[decide_eq_true q']at h5;exact absurd h5 (by decide))
   | (simp at h5;lia)
 cases hwl with
 |cons w1 w2=>
  cases w2;cases w1 with
  |list ho uL=>exact⟨_,_,ns,rfl,rfl,ho,O7 ns _ uL,aS⟩
theorem MX(l:OpenLaw)(args:List WData):l.row.toRowW.claim.post args (.bool ah) args=ah :=
 postW_of (r:=l.row.toRowW) (X:=(ah == ah))
  (show WShape.has [] (.bool ah) .bool=ah by first|rfl|decide|simp[WShape.has,WShape.arms,WShape.armsAll])
  (show(WTm.eq .res (.lit (.bool ah))).value [] {args:=args,res:=aa (.bool ah),after:=args}=aa (.bool (ah == ah))from w_eq_bool (w_res rfl) w_lit) rfl
theorem attach_call{l:OpenLaw}{n:Nat}{q:ba}{loose:List Str}{XP:(Str->Option ai)->aE->Prop}{YP:aP->aE->Prop}{d:DefRec}(hn:l.most=aa n) (pU:d.params.defaults=[])(call:∀(w:aP) (s₀ s₁:am) (mg mb:Str->Option ai) (fa:ac) (o:Obj) (pm cd doc:ai) (a:ac) (vs:List ai) (ns:List Int),Ground q loose [] XP w s₀ mg mb s₁.heap->YP w s₁.heap -> s₁.heap.get? fa=aa o->o.data=.func (docDef d.name d.params d.body d.scope pm cd doc)->s₁.heap.CodeRec cd d.name->mg d.name=aa (.ref fa) -> s₁.heap.get? a=aa {cls:=.type "list",data:=.seq vs.toArray}->IntsAre vs ns->ns.length<=n->s₁.gens=#[] -> jU (aB l.prog w) rJ (.call (.ref fa) ⟨[.ref a],[]⟩) (λr s'=>r=.ok (.ret (.bool ah))/\OldK s₁.heap s'.heap/\s'.os=s₁.os/\mh s'.gens) s₁):WalkO q loose XP YP l.row.toRowW d [] (λf vs=>PySem.call f vs):=by intro w s₀ s₁ mg mb G Y fa o pm cd doc dV kV ho hd a8 hD uU hg args vals as uN hlay hrd hwl hlo;obtain rfl:dV=.none:=Dflts.none hD pU;obtain rfl:kV=.none:=Dflts.noKw hD;obtain⟨a,vs,ns,rfl,rfl,BF,BB,aS⟩:=Qx hn uN hwl;refine enter_call (nV (call w s₀ s₁ mg mb fa o pm cd doc a vs ns G Y ho (fd_plain hd) a8 uU BF BB aS hg) λr s' hq=>?_);obtain⟨rfl,h2,h3,h4⟩:=hq;exact⟨.inl ⟨.bool ah,.bool ah,[],rfl,λ_=>rfl,.bool ah,MX l _,λ_=>⟨List.Pairwise.nil,λ_ hm=>(nomatch hm)⟩⟩,h2,h3,h4⟩
end Att
namespace L2
theorem B3:∀{vs:List ai}{ns:List Int},IntsAre vs ns->bF (ns.map V.int) vs
 |_,_,.nil=>.nil
 |_,_,.cons n t h=>.cons ⟨t,rfl⟩ (B3 h)
def Ao(H:Hp):Prop:=∀b,H b=af\/(∃o xs,H b=aa (.frz o (.lst xs)))\/∃q,H b=aa (.tbl q)
def jm(K:aq):Hp:=λb=>match pt K "road" with
 |some (_,P)=>if b=P then aa (.tbl "road.<locals>.<lambda>")else af
 |none=>af
theorem oQ{K:aq}{b:ac}{u:HO}(h:jm K b=aa u):u=.tbl "road.<locals>.<lambda>"/\∃c,pt K "road" = aa (c,b):=by
 unfold jm at h;split at h
 ·rename_i c P e;split at h
  ·rename_i hb;subst hb;cases h;exact⟨rfl,c,e⟩
  ·cases h
 ·cases h
theorem CY{K:aq}{c P:ac}(h:pt K "road" = aa (c,P)):jm K P=aa (.tbl "road.<locals>.<lambda>"):=by unfold jm;rw[h];exact if_pos rfl
def Cn(K:aq)(h:aE):Prop:=∀c P,pt K "road" = aa (c,P)->PySem.W.codeHdIn K c P=ah/\K.lookup P=af/\h.get? P=aa {cls:=.none,data:=.fields #[]}
theorem MO{P:ba}{w:aP}{K:aq}{mg mb:Str->Option ai}{CX:eI}{k:Nat}{fa a:ac}{fd:gn}{x:Str}{sp:Sp}{s₁:am}{vs:List ai}{ns:List Int}(KX:K.In s₁.heap) (r8:s₁.heap.Ns b9 mg) (hb:s₁.heap.Ns pr mb) (hbb:∀x:Str,x≠"__name__"->mb x=eE x) (hlim:s₁.heap.NoLimit) (hbm:∃bm ob,mg "__builtins__" = aa (.ref bm)/\bm≠pr/\s₁.heap.get? bm=aa ob/\ob.cls=.type "module"/\ob.dict=aa pr/\ob.data=.plain) (ol:Cn K s₁.heap) (hg:s₁.gens=#[])(ha:s₁.heap.get? a=aa {cls:=.type "list",data:=.seq vs.toArray}) (hi:IntsAre vs ns) (hl:ns.length<=bn) (hr:cB k rJ)(F:∀base:aE,K.In base->base.Ns b9 mg->gL P w K mg base CX k fa fd [x] sp) (Q2:∀(s:am) (u:ai),BindsTo s fd ⟨[u],[]⟩ [(x,u)])(io:∀H:Hp,Ao H->bZ K H a (ns.map V.int)->sp [.ref a] H (λv _=>v=.bl ah) λ_ _ _=>False)(hCX:∀H e s',CX [] H s₁ (λ_ _ _=>False) e s'->False):jU (aB P w) rJ (.call (.ref fa) ⟨[.ref a],[]⟩) (λr s'=>r=.ok (.ret (.bool ah))/\OldK s₁.heap s'.heap/\s'.os=s₁.os/\mh s'.gens) s₁:=by
 have rv:=B3 hi;have lenV:=hi.length;have core:∀H:Hp,Ao H->bZ K H a (ns.map V.int)->c0 P w H s₁.heap->(∀b,H b≠af->b=a\/∃c,pt K "road" = aa (c,b))->(H a≠af->K.lookup a=af)->vd K H ->
   jU (aB P w) rJ (.call (.ref fa) ⟨[.ref a],[]⟩) (λr s'=>r=.ok (.ret (.bool ah))/\OldK s₁.heap s'.heap/\s'.os=s₁.os/\mh s'.gens) s₁:=by
  intro H hO hS hok hA hK hTH;have base_of:∀{b:ac}{o:Obj},s₁.heap.get? b=aa o->H b=af->(lQ s₁.heap H).get? b=aa o:=λe n=>LZ e n;have noA:∀{b:ac}{o:Obj}{es:Array DictEntry}{ep:Nat},s₁.heap.get? b=aa o->o.data=.dict es ep->H b=af:=λ{b o es ep} e d=>by
   cases q:H b with
   |none=>rfl
   |some u=>
    rcases hA b (by rw[q];simp)with e'|⟨c,e'⟩
    ·subst e';rw[ha]at e;cases e;have d':Data.seq vs.toArray _=Data.dict es ep:=d;cases d'
    ·rw[(ol c b e').2.2]at e;cases e;cases d
  have nsK:∀{b:ac}{m:Str->Option ai},s₁.heap.Ns b m->(lQ s₁.heap H).Ns b m:=λ{b m} ⟨o,es,ep,e,d,r⟩=>⟨o,es,ep,base_of e (noA e d),d,r⟩
  have hKb:K.In (lQ s₁.heap H):=λb o e=>base_of (KX b o e) (by
   cases q:H b with
   |none=>rfl
   |some u=>
    rcases hA b (by rw[q];simp)with e'|⟨c,e'⟩
    ·subst e';rw[hK (by rw[q];simp)]at e;cases e
    ·rw[(ol c b e').2.1]at e;cases e)
  have hM:Mod K mg (lQ s₁.heap H):=⟨hKb,nsK r8,⟨mb,nsK hb,hbb⟩,(let ⟨mc,h1,h2⟩:=hlim;⟨mc,nsK h1,h2⟩),by
   obtain⟨bm,ob,b1,b2,b3,b4,b5,b6⟩:=hbm;refine⟨bm,ob,b1,b2,base_of b3 ?_,b4,b5,b6⟩;cases q:H bm with
   |none=>rfl
   |some u=>
    rcases hA bm (by rw[q];simp)with e'|⟨c,e'⟩
    ·subst e';rw[ha]at b3;cases b3;simp at b4
    ·rw[(ol c bm e').2.2]at b3;cases b3;simp at b4⟩
  have e0:mX P w K mg (lQ s₁.heap H) rJ [] s₁ H:=⟨rfl,hM,λb o e=>QS e,mq (HC _ _),trivial,λb hb=>absurd (show b∈([]:List ac)from hb) (by simp),hok,.of_eq hg,hTH⟩
  refine nV ((F _ hKb (nsK r8)).run rJ [] s₁ H ⟨[.ref a],[]⟩ [.ref a] [.ref a] _ _ hr e0 (Q2 s₁ (.ref a)) (.cons rfl .nil) (io H hO hS)) λr s' h=>?_;cases r with
  |error e=>exact(hCX H e s' h).elim
  |ok fl=>
   cases fl with
   |next=>exact fW h
   |brk=>exact fW h
   |cont=>exact fW h
   |ret u=>
    obtain⟨v,H',os,bare,un,Hr,r',q⟩:=h;have q':v=.bl ah:=q;subst q';obtain rfl:u=Value.bool ah:=r';refine⟨rfl,⟨λb o e=>?_,λb o e=>un.there b o e (by simp)⟩,os,bare⟩;cases q:H b with
    |none=>exact .inl (un.keep b o e q (by intro z;exact absurd (show b∈([]:List ac)from z) (by simp)) (by simp))
    |some u=>
     rcases hO b with z|⟨ob,xs,z⟩|⟨qn,z⟩
     ·rw[q]at z;cases z
     ·have z2:=un.frzs b ob _ z;obtain⟨e1,_⟩:=hok b _ z;obtain⟨e2,_⟩:=Hr b _ z2;rw[e]at e1;cases e1;exact .inl e2
     ·rcases hA b (by rw[q];simp)with e'|⟨c,e'⟩
      ·subst e';obtain⟨ps,e1,_⟩:=hok b _ z;rw[ha]at e1;cases e1
      ·obtain⟨k1,k2,k3⟩:=ol c b e';rw[k3]at e;cases e;obtain⟨oc,vs',_,_,_,_,_,_,_,f1,f2,f3,f4,_⟩:=PySem.W.codeHd_of_K KX k1;obtain⟨ps,e1,_⟩:=Hr b _ (un.tbls b _ z);exact .inr (.inl ⟨⟨c,oc,vs',f1,f2,f3,f4⟩,rfl,#[],ps,rfl,by rw[e1];simp⟩)
 cases hk:K.lookup a with
 |some o=>
  have e:=KX a o hk;rw[ha]at e;cases e;have tH:∀b u,jm K b=aa u->dy P w (jm K) s₁.heap b u:=λb u z=>by
   obtain⟨rfl,c,e⟩:=oQ z;exact⟨#[],(ol c b e).2.2,trivial,λpos cv h=>by cases h⟩
  refine core (jm K) (λb=>?_) (.inr ⟨_,vs.toArray,_,hk,rfl,rfl,rfl,by rw[cX,lenV];exact hl,by simpa using rv⟩) tH (λb z=>?_) (λz=>?_) λx hx c P e=>?_
  ·cases q:jm K b with
   |none=>exact .inl rfl
   |some u=>exact .inr (.inr ⟨_,congrArg aa (oQ q).1⟩)
  ·cases q:jm K b with
   |none=>exact absurd q z
   |some u=>exact .inr (oQ q).2
  ·cases q:jm K a with
   |none=>exact absurd q z
   |some u=>
    obtain⟨_,c,e'⟩:=oQ q;rw[(ol c a e').2.2]at ha;cases ha
  ·obtain rfl:x = "road":=by simpa[AF]using hx
   exact CY e
 |none=>
  have ta:∀c P,pt K "road" = aa (c,P)->P≠a:=λc P e z=>by subst z;rw[(ol c P e).2.2]at ha;cases ha
  refine core (λb=>if b=a then aa (.frz {cls:=.type "list",data:=.seq vs.toArray} (.lst (ns.map V.int)))else jm K b) (λb=>?_) (.inl (.inr ⟨{cls:=.type "list",data:=.seq vs.toArray},if_pos rfl⟩)) (λb u z=>?_) (λb z=>?_) (λ_=>hk) λx hx c P e=>?_
  ·by_cases hb:b=a
   ·exact .inr (.inl ⟨_,_,if_pos hb⟩)
   ·cases q:jm K b with
    |none=>exact .inl ((if_neg hb).trans q)
    |some u=>exact .inr (.inr ⟨_,(if_neg hb).trans (q.trans (congrArg aa (oQ q).1))⟩)
  ·by_cases hb:b=a
   ·have z':=(if_pos hb).symm.trans z;cases z';subst hb;exact⟨ha,by rw[c9];exact hl,vs,_,rv,ha⟩
   ·obtain⟨rfl,c,e⟩:=oQ ((if_neg hb).symm.trans z);exact⟨#[],(ol c b e).2.2,trivial,λpos cv h=>by cases h⟩
  ·by_cases hb:b=a
   ·exact .inl hb
   ·cases q:jm K b with
    |none=>exact absurd ((if_neg hb).trans q) z
    |some u=>exact .inr (oQ q).2
  ·obtain rfl:x = "road":=by simpa[AF]using hx
   exact(if_neg (ta c P e)).trans (CY e)
theorem RA{l:Bi}{n k:Nat}{q:ba}{loose:List Str}{XP:(Str->Option ai)->aE->Prop}{YP:aP->aE->Prop}{d:DefRec}{K:Params->aq}{CX:aP->eI}{sp:aP->Sp}{x:Str}(hn:l.most=aa n) (hn2:n<=bn) (pU:d.params.defaults=[]) (hr:cB k rJ)(hY:∀(w:aP) (h:aE),YP w h->(K w.params).In h/\Cn (K w.params) h)(F:∀(w:aP) (mg:Str->Option ai) (fa:ac) (h:aE),(K w.params).In h->h.Ns b9 mg->mg d.name=aa (.ref fa) -> ∃fd:gn,(∀(s:am) (u:ai),BindsTo s fd ⟨[u],[]⟩ [(x,u)]) /\ ∀base:aE,(K w.params).In base->base.Ns b9 mg->gL l.prog w (K w.params) mg base (CX w) k fa fd [x] (sp w))(io:∀(w:aP) (H:Hp) (a:ac) (ns:List Int),ns.length<=n->Ao H->bZ (K w.params) H a (ns.map V.int)->sp w [.ref a] H (λv _=>v=.bl ah) λ_ _ _=>False)(hCX:∀(w:aP) (H:Hp) (s:am) (e:ai) (s':am),CX w [] H s (λ_ _ _=>False) e s'->False):PySem.W.WalkO q loose XP YP l.row.toRowW d [] (λf vs=>PySem.call f vs):=by refine Att.attach_call hn pU λw s₀ s₁ mg mb fa o pm cd doc a vs ns G Y ho hd a8 uU BF BB aS hg=>?_;have KX:=(hY w _ Y).1;obtain⟨fd,hb,hF⟩:=F w mg fa _ KX G.T.g uU;exact MO KX G.T.g G.T.b G.T.builtins G.T.nolimit G.T.bmain (hY w _ Y).2 hg BF BB (dP aS hn2) hr hF hb (λH hO hS=>io w H a ns aS hO hS) λH e s'=>hCX w H s₁ e s'
def gc(s:aR):Arguments:=match s with
 |.FunctionDef _ a _ _ _ _ _ _ _ _=>a
 |_=>{posonlyargs:=[],args:=[],vararg:=af,kwonlyargs:=[],kw_defaults:=[],kwarg:=af,defaults:=[]}
def c7(s:aR):List aR:=match s with
 |.FunctionDef _ _ b _ _ _ _ _ _ _=>b
 |_=>[]
def aN(s:aR):dO:=match s with
 |.FunctionDef _ _ _ _ _ _ sc _ _ _=>sc
 |_=>{kind:=.function,names:=[],isGenerator:=aj,isCoroutine:=aj}
abbrev zd:eI:=λ_ _ _ _ _ _=>False
abbrev E0:XK:=λ_ _ _=>False
structure kT(K:aq)(x qual:Str)(st:aR)(f:ac)(fd:gn):Prop where
 ex:∃(oc:ai) (od:Option ac) (kV doc pm:ai) (an:Option ac) (aF ct:ai) (osl:Array (Option ai)),
  fd=fk x qual (gc st) (c7 st) (aN st) .none kV doc pm an aF ct/\K.lookup f=aa ⟨oc,od,.func fd,osl⟩/\pC K aF qual=ah
 kp:jV K (.ref f)=ah
section
variable{P:ba}{w:aP}{K:aq}{mg:Str->Option ai}{base:aE}
theorem kT.binds{x qual:Str}{st:aR}{f:ac}{fd:gn}{ps:List Str}(F:kT K x qual st f fd)(h:∀(kV doc pm:ai) (an:Option ac) (aF ct:ai) (us:List ai),us.length=ps.length->eV (fk x qual (gc st) (c7 st) (aN st) .none kV doc pm an aF ct) ⟨us,[]⟩=pure (ps.zip us)):Binds K fd ps []:=by obtain⟨oc,od,kV,doc,pm,an,aF,ct,osl,rfl,lk,a8⟩:=F.ex;exact .all (h kV doc pm an aF ct)
theorem wN{x qual:Str}{st:aR}{f:ac}{oc:ai}{od an:Option ac}{osl:Array (Option ai)}{kV doc pm aF ct:ai}(l:K.lookup f=aa ⟨oc,od,.func (fk x qual (gc st) (c7 st) (aN st) .none kV doc pm an aF ct),osl⟩)(c:pC K aF qual=ah) (k:jV K (.ref f)=ah):kT K x qual st f (fk x qual (gc st) (c7 st) (aN st) .none kV doc pm an aF ct):=⟨⟨oc,od,kV,doc,pm,an,aF,ct,osl,rfl,l,c⟩,k⟩
end
theorem Af{n:Nat}(h:n<=1000):n<bn:=Bj h (by decide)
section
variable{X:Cx}
theorem pv(i:Nat){x:Str}{pos:Pos}(hN:X.N[i]?=aa x:=by rfl)(hv:cx X.env.scope x:=by first|exact Or.inl rfl|exact Or.inr (Or.inl rfl)|exact Or.inr (Or.inr rfl))(hd:(x == ("__debug__" : Str))=aj:=by decide)(a8:(x == ("__classdict__" : Str))=aj:=by decide):PE X (.Name x pos) (FR i):=cF hN hv hd a8
theorem Kh:eG X (.builtin "len") (λxs H Q=>∃a kvs,xs=[V.ref a]/\H a=aa (.dK kvs)/\Q (.int kvs.length) H):=by
 intro ae s σ H xs us Q I r h;obtain⟨a,kvs,rfl,ha,q⟩:=h;obtain⟨u,rfl,ru⟩:=vals1 r;cases ru;exact O6 I (.inl ha) λt s' I'=>⟨.int kvs.length,H,I',⟨t,rfl⟩,q⟩
end
theorem lJ{A B:Prop}(h:B):if aj=ah then A else B:=by rw[if_neg fV];exact h
theorem lV{A B:Prop}(h:A):if ah=ah then A else B:=by rw[if_pos rfl];exact h
def Same(H H':Hp):Prop:=∀b o,H b=aa o->H' b=aa o
theorem Same.refl(H:Hp):Same H H:=λ_ _ h=>h
theorem Same.trans{H H1 H2:Hp}(a:Same H H1)(b:Same H1 H2):Same H H2:=λc o h=>b c o (a c o h)
theorem Same.free{H H':Hp}(e:Same H H'){l:ac}(h:H' l=Option.none):H l=Option.none:=by
 cases q:H l with
 |none=>rfl
 |some o=>
  rw[e l o q]at h;cases h
end L2
set_option maxHeartbeats 4000000
namespace L2
def g9(env:Env):List (Str×gI)->List (Str×ac)->List (Str×ac)
 |[],cs=>cs
 | (n,k)::r,cs=>if k == .free then g9 env r ((n,(env.cells.lookup n).getD 0)::cs)else g9 env r cs
theorem Pp{env:Env}{y:Str}{c:ac}(names:List (Str×gI))(cs:List (Str×ac))(hh:∀x∈names,x.2=.free->∃c,env.cells.lookup x.1=aa c)(h:(g9 env names cs).lookup y=aa c):cs.lookup y=aa c\/env.cells.lookup y=aa c:=by
 induction names generalizing cs with
 |nil=>exact .inl h
 |cons a r ih=>
  obtain⟨n,k⟩:=a;unfold g9 at h;have hr:∀x∈r,x.2=.free->∃c,env.cells.lookup x.1=aa c:=λx hx=>hh x (jw _ hx);split at h
  ·rename_i hk;obtain⟨c',iY⟩:=hh (n,k) (mi ..) (by simpa using hk);rcases ih _ hr h with q|q
   ·rw[ji]at q;split at q
    ·rename_i hb;have e:y=n:=by simpa using hb
     subst e;rw[iY]at q;exact .inr (by rw[iY];exact q)
    ·exact .inl q
   ·exact .inr q
  ·exact ih _ hr h
theorem Fl{α:Type}{n:Str}{v:α}{l:List (Str×α)}:((n,v)::l).lookup n=aa v:=by rw[ji];simp
theorem EJ{α:Type}{n y:Str}{v:α}{l:List (Str×α)}(h:∃c,l.lookup y=aa c):∃c,((n,v)::l).lookup y=aa c:=by
 rw[ji];split
 ·exact⟨_,rfl⟩
 ·exact h
theorem zY{env:Env}{y:Str}:∀(names:List (Str×gI)) (cs:List (Str×ac)),(∃c,cs.lookup y=aa c)->∃c,(g9 env names cs).lookup y=aa c
 |[],cs,h=>h
 | (n,k)::r,cs,h=>by
  unfold g9;split
  ·exact zY r _ (EJ h)
  ·exact zY r _ h
theorem yb{env:Env}{y:Str}:∀(names:List (Str×gI)) (cs:List (Str×ac)),(∃x∈names,x.1=y/\x.2=.free)->∃c,(g9 env names cs).lookup y=aa c
 |[],cs,⟨_,h,_⟩=>by simp at h
 | (n,k)::r,cs,⟨x,hx,e1,e2⟩=>by
  unfold g9;rcases bQ.mp hx with e|hx
  ·subst e;simp only at e1 e2;subst e1 e2;simp only[beq_self_eq_true,if_true];exact zY r _ ⟨_,Fl⟩
  ·split
   ·exact yb r _ ⟨x,hx,e1,e2⟩
   ·exact yb r _ ⟨x,hx,e1,e2⟩
theorem Aj{env:Env}:∀(names:List (Str×gI)) (cs:List (Str×ac)),(∀x∈names,x.2=.free->∃c,env.cells.lookup x.1=aa c) -> (forIn (m:=Sem) names cs λx r=>match x with | (name,kind)=>if(kind == NameKind.free)=ah then do let c ←cellOf env name;pure (ForInStep.yield ((name,c)::r))else pure (ForInStep.yield r))=pure (g9 env names cs)
 |[],cs,_=>rfl
 | (n,k)::r,cs,h=>by
  have hr:∀x∈r,x.2=.free->∃c,env.cells.lookup x.1=aa c:=λx hx=>h x (jw _ hx);rw[List.forIn_cons];unfold g9;by_cases hk:(k == NameKind.free)=ah
  ·obtain⟨c,hc⟩:=h (n,k) (mi ..) (by simpa using hk);simp only[hk,if_true];have e:cellOf env n=pure c:=by unfold cellOf;rw[hc]
   rw[e];simp only[pure_bind];rw[Aj r _ hr,hc];rfl
  ·simp only[hk,if_false,pure_bind];exact Aj r _ hr
theorem P3{scope:dO}{env:Env}(h:∀x∈scope.names,x.2=.free->∃c,env.cells.lookup x.1=aa c):closureFor scope env=pure (g9 env scope.names []):=by unfold closureFor;have q:=Aj scope.names [] h;simp only[bind_pure_comp]at q ⊢;rw[q];rfl
theorem w_{n c:Nat}(h1:n+1<=c)(h2:c<n):False:=∅
theorem yt:∀(names:List (Str×gI)) (n:Nat) (a b:List (Str×ac)),fK n names (a++b)=fK n names a++b
 |[],_,_,_=>rfl
 | (x,k)::r,n,a,b=>by
  unfold fK;split
  ·exact yt r (n+1) ((x,n)::a) b
  ·exact yt r n a b
theorem vy{y:Str}{c:ac}:∀(names:List (Str×gI)) (n:Nat) (a:List (Str×ac)),(y,c)∈fK n names a->(y,c)∈a\/(y,.cell)∈names
 |[],_,_,h=>.inl h
 | (x,k)::r,n,a,h=>by
  unfold fK at h;split at h
  ·rename_i hk;rcases vy r _ _ h with z|z
   ·rcases bQ.mp z with z|z
    ·cases z;have e:k=.cell:=by simpa using hk
     subst e;exact .inr (mi ..)
    ·exact .inl z
   ·exact .inr (jw _ z)
  ·rcases vy r _ _ h with z|z
   ·exact .inl z
   ·exact .inr (jw _ z)
theorem AD{y:Str}:∀(names:List (Str×gI)) (n:Nat) (a:List (Str×ac)),(∃c,a.lookup y=aa c)->∃c,(fK n names a).lookup y=aa c
 |[],_,_,h=>h
 | (x,k)::r,n,a,h=>by
  unfold fK;split
  ·exact AD r _ _ (EJ h)
  ·exact AD r _ _ h
theorem xw{y:Str}:∀(names:List (Str×gI)) (n:Nat) (a:List (Str×ac)),(y,.cell)∈names->∃c,(fK n names a).lookup y=aa c
 | (x,k)::r,n,a,h=>by
  unfold fK;rcases bQ.mp h with e|h
  ·cases e;exact AD r _ _ ⟨_,Fl⟩
  ·split
   ·exact xw r _ _ h
   ·exact xw r _ _ h
def kP(X:Cx)(scope:dO)(C:ac):List (Str×ac):=fK (C+1) scope.names (g9 X.env scope.names [])
theorem zT(X:Cx)(scope:dO)(C:ac):kP X scope C=fK (C+1) scope.names []++g9 X.env scope.names []:=yt scope.names (C+1) [] _
theorem Mt{M:Model}{A:a6}{E:ai->am->Prop}{s:am}{scope:dO}{globals:ac}{cl:List (Str×ac)}{qual:Str}{env:Env}{Q:Env->am->Prop}(hQ:Q (newEnv scope s.heap.objs.size globals (fK (s.heap.objs.size+1) scope.names cl) qual af .none (aa env) pr) {s with heap:=pushCells (s.heap.push {cls:=.type "dict",data:=.dict #[]}) scope.names}):au M A (newFunctionEnv scope globals cl [] qual af .none (aa env)) Q E s:=by
 simp only[newFunctionEnv,Option.isSome_some,if_true];refine ax (wpAny_alloc ?_);refine ax (wpAny_layCells _ (λname kind cells=>by cases hkc:kind == NameKind.cell <;> simp[hkc]) _ _ _ _ ?_);rw[show({s with heap:=s.heap.push {cls:=.type "dict",data:=.dict #[]}}:am).heap.objs.size=s.heap.objs.size+1 from uv ..];refine ax ?_;rw[List.forIn_nil];exact aV (aV hQ)
theorem Dp{s:am}{names:List (Str×gI)}{y:Str}{c:ac}(h:(y,c)∈fK (s.heap.objs.size+1) names []):(pushCells (s.heap.push {cls:=.type "dict",data:=.dict #[]}) names).IsCell c af/\s.heap.objs.size+1<=c/\∀z,(z,c)∈fK (s.heap.objs.size+1) names []->y=z:=by have ok:=cellsFrom_ok names (s.heap.push {cls:=.type "dict",data:=.dict #[]}) (s.heap.objs.size+1) [] ⟨λ_ _ hm=>(nomatch hm),List.Pairwise.nil⟩ (by rw[uv];exact bt _);rw[uv]at ok;exact⟨(ok.empty y c h).1,(ok.empty y c h).2,λz hz=>name_of_addr ok.apart h hz⟩
def bE(X:Cx)(scope:dO)(N':List Str)(C:ac)(s₀:am)(H₀:Hp)(ex:List ac)(pn:List (ac×Obj)):Cx where
 prog:=X.prog
 w:=X.w
 K:=X.K
 mg:=X.mg
 base:=X.base
 A:=X.A
 N:=N'
 s₀:=s₀
 H₀:=H₀
 env:=compEnvC scope (kP X scope C) C X.env
 outer:=X.stack
 stack:=X.stack
 ex:=ex
 fn:=λy=>scope.names.lookup y == aa .cell
 calm:=X.calm
 pn:=X.pn++pn
 xe:=λ_ _=>False
def fF(σ:St)(cap:List Nat):St:=cap.map λi=>(σ[i]?).join
structure iL(X:Cx)(scope:dO)(x:Str)(N':List Str)(cap:List Nat):Prop where
 kind:scope.kind=.function
 cells:∀y∈scope.names,y.2=.cell->scope.names.lookup y.1=aa .cell
 names:∀y∈scope.names,y.2=.local->scope.names.lookup y.1=aa .local
 loc:scope.names.lookup x=aa .local\/scope.names.lookup x=aa .cell
 free:∀y∈scope.names,y.2=.free->X.env.kindOf y.1=aa .cell\/X.env.kindOf y.1=aa .free
 nd:N'.Nodup
 hd:N'.head?=aa x
 len:N'.length=cap.length+1
 caps:∀i j y,N'[i+1]?=aa y->cap[i]?=aa j->(X.N[j]?=aa y/\scope.names.lookup y=aa .free)\/(X.N.length<=j/\scope.names.lookup y=aa .local)
theorem M5{names:List (Str×gI)}{y:Str}{k:gI}(h:names.lookup y=aa k):∃x∈names,x.1=y/\x.2=k:=⟨(y,k),kC h,rfl,rfl⟩
theorem zw{env:Env}{x:Str}:∀{names:List (Str×gI)}{k:gI}, (names.map λ(n,k)=>if(k == NameKind.free&&env.scope.kind == .function&&env.kindOf n == aa .cell)then(n,NameKind.cell)else(n,k)).lookup x=aa k -> ∃k',names.lookup x=aa k'/\(k=k'\/(k'=.free/\k=.cell))
 |[],_,h=>by simp at h
 | (n,k0)::r,k,h=>by
  change jh x ((if(k0 == NameKind.free&&env.scope.kind == .function&&env.kindOf n == aa .cell)=ah then(n,NameKind.cell)else(n,k0))::_)=_ at h;rw[ji];by_cases hc:(k0 == NameKind.free&&env.scope.kind == .function&&env.kindOf n == aa .cell)=ah
  ·rw[if_pos hc,ji]at h;split at h
   ·rename_i hb;cases h;have:k0=.free:=by simp at hc;exact hc.1.1
    exact⟨k0,rfl,.inr ⟨this,rfl⟩⟩
   ·exact zw h
  ·rw[if_neg hc,ji]at h;split at h
   ·rename_i hb;cases h;exact⟨k0,rfl,.inl rfl⟩
   ·exact zw h
theorem AG{env:Env}{x:Str}:∀{names:List (Str×gI)},names.lookup x=aa .free -> let q:=(names.map λ(n,k)=>if(k == NameKind.free&&env.scope.kind == .function&&env.kindOf n == aa .cell)then(n,NameKind.cell)else(n,k)).lookup x
  q=aa .cell\/q=aa .free
 |[],h=>by simp at h
 | (n,k0)::r,h=>by
  show jh x ((if(k0 == NameKind.free&&env.scope.kind == .function&&env.kindOf n == aa .cell)=ah then(n,NameKind.cell)else(n,k0))::_)=_\/jh x ((if(k0 == NameKind.free&&env.scope.kind == .function&&env.kindOf n == aa .cell)=ah then(n,NameKind.cell)else(n,k0))::_)=_;rw[ji]at h;by_cases hc:(k0 == NameKind.free&&env.scope.kind == .function&&env.kindOf n == aa .cell)=ah
  ·rw[if_pos hc,ji];cases hb:x == n with
   |true=>exact .inl rfl
   |false=>rw[hb]at h;exact AG h
  ·rw[if_neg hc,ji];cases hb:x == n with
   |true=>rw[hb]at h;cases h;exact .inr rfl
   |false=>rw[hb]at h;exact AG h
theorem v4{env:Env}{x:Str}:∀{names:List (Str×gI)},names.lookup x=aa .cell -> (names.map λ(n,k)=>if(k == NameKind.free&&env.scope.kind == .function&&env.kindOf n == aa .cell)then(n,NameKind.cell)else(n,k)).lookup x=aa .cell
 |[],h=>by simp at h
 | (n,k0)::r,h=>by
  show jh x ((if(k0 == NameKind.free&&env.scope.kind == .function&&env.kindOf n == aa .cell)=ah then(n,NameKind.cell)else(n,k0))::_)=_;rw[ji]at h;by_cases hc:(k0 == NameKind.free&&env.scope.kind == .function&&env.kindOf n == aa .cell)=ah
  ·rw[if_pos hc,ji];cases hb:x == n with
   |true=>rfl
   |false=>rw[hb]at h;exact v4 h
  ·rw[if_neg hc,ji];cases hb:x == n with
   |true=>rw[hb]at h;cases h;rfl
   |false=>rw[hb]at h;exact v4 h
section
variable{X:Cx}{ae:List (ac×Obj)}{σ:St}{H:Hp}{s:am}{scope:dO}{x:Str}{N':List Str}{cap:List Nat}
theorem Inv.freeHas(I:Inv X ae σ H s)(B:iL X scope x N' cap):∀y∈scope.names,y.2=.free->∃c,X.env.cells.lookup y.1=aa c:=λy hy e=>I.ok.has y.1 (B.free y hy e)
theorem Inv.clIn(I:Inv X ae σ H s)(B:iL X scope x N' cap){y:Str}{c:ac}(h:(g9 X.env scope.names []).lookup y=aa c):X.env.cells.lookup y=aa c:=by
 rcases Pp scope.names [] (I.freeHas B) h with q|q
 ·simp at q
 ·exact q
theorem Inv.cbIn(I:Inv X ae σ H s)(B:iL X scope x N' cap){C:ac}{y:Str}{c:ac}(h:(kP X scope C).lookup y=aa c):((y,c)∈fK (C+1) scope.names []/\scope.names.lookup y=aa .cell)\/((g9 X.env scope.names []).lookup y=aa c/\X.env.cells.lookup y=aa c):=by
 rw[zT,uz]at h;cases e:(fK (C+1) scope.names []).lookup y with
 |none=>rw[e]at h;exact .inr ⟨h,I.clIn B h⟩
 |some c'=>
  rw[e]at h;cases h;have m:=kC e;rcases vy _ _ _ m with z|z
  ·cases z
  ·exact .inl ⟨m,B.cells _ z rfl⟩
theorem Inv.cbOld(I:Inv X ae σ H s)(B:iL X scope x N' cap){C:ac}{y:Str}{c:ac}(h:(g9 X.env scope.names []).lookup y=aa c)(hk:scope.names.lookup y=aa .free):(kP X scope C).lookup y=aa c:=by
 rw[zT,uz];cases e:(fK (C+1) scope.names []).lookup y with
 |none=>exact h
 |some c'=>
  rcases vy _ _ _ (kC e)with z|z
  ·cases z
  ·have:=B.cells _ z rfl;rw[hk]at this;cases this
theorem Inv.block{fp:List ac}{h₁:aE}{m:Str->Option ai}{t':Nat}(hh:h₁=pushCells (s.heap.push {cls:=.type "dict",data:=.dict #[]}) scope.names)(I:Inv X ae σ H s)(B:iL X scope x N' cap)(uV:∀b∈fp,kt X ae H b)(hfo:∀b∈fp,∃o,s.heap.get? b=aa o)(r8:h₁.Ns s.heap.objs.size m)(old:∀b o,s.heap.get? b=aa o->h₁.get? b=aa o):Inv (bE X scope N' s.heap.objs.size s H fp ae) [] (af::fF σ cap) H {s with heap:=h₁,toks:=t'}:=by
 have ltC:∀x c,X.env.cells.lookup x=aa c->c<s.heap.objs.size:=λx c e=>(I.cell x c e).elim λv q=>q.lt;have ncell:∀{y:Str}{c:ac},(y,c)∈fK (s.heap.objs.size+1) scope.names []->h₁.IsCell c af/\s.heap.objs.size+1<=c/\∀z,(z,c)∈fK (s.heap.objs.size+1) scope.names []->y=z:=λh=>by rw[hh];exact Dp h
 have lk:∀y k,(compEnvC scope (kP X scope s.heap.objs.size) s.heap.objs.size X.env).kindOf y=aa k->∃k',scope.names.lookup y=aa k'/\(k=k'\/(k'=.free/\k=.cell)):=λy k h=>zw h;have fhas:∀y,scope.names.lookup y=aa .free->∃c,(g9 X.env scope.names []).lookup y=aa c:=λy h=>yb scope.names [] (M5 h);have nfs:∀b∈fD X.stack,b≠s.heap.objs.size:=λb hb e=>by
  rcases bQ.mp (I.stkSub b hb)with z|z
  ·exact absurd I.lt (by rw[←z,e];exact fj _)
  ·exact I.nofs (mq e.symm) z
 refine⟨⟨I.ok.mod,B.kind,I.ok.glob,I.ok.blt,bt _,λy z c h1 h2=>?_,λy hy=>?_,λy c h pV=>?_,I.ok.hd,I.ok.frames,.inl rfl,λb hb=>?_,λb o e=>I.bs b o e,dP I.ok.bsz I.sz,λb o e hb=>?_,λb hb hf=>?_,I.stack,(λb hb=>I.stkFree b hb),I.tab⟩,rfl,I.bare,Un.kept old,⟨m,r8,λi y v e1 e2 e3=>?_⟩,λy c h=>?_,I.hok.fresh (bt _),λy c h=>?_,λp hp=>?_,I.hok.kept old,?_⟩
 ·-- inj
  rcases I.cbIn B h1 with⟨a1,a2⟩|⟨a1,a2⟩ <;> rcases I.cbIn B h2 with⟨b1,b2⟩|⟨b1,b2⟩
  ·exact(ncell a1).2.2 z b1
  ·exact(w_ (ncell a1).2.1 (ltC _ _ b2)).elim
  ·exact(w_ (ncell b1).2.1 (ltC _ _ a2)).elim
  ·exact I.ok.inj y z c a2 b2
 ·-- has
  show ∃c,(kP X scope s.heap.objs.size).lookup y=aa c;have lr:scope.names.lookup y=aa .free->∃c,(kP X scope s.heap.objs.size).lookup y=aa c:=λq=>(fhas y q).imp λc hc=>I.cbOld B hc q;rcases hy with hy|hy
  ·obtain⟨k',q,z|⟨z,_⟩⟩:=lk y _ hy
   ·subst z;exact xw _ _ _ (kC q)
   ·subst z;exact lr q
  ·obtain⟨k',q,z|⟨_,z⟩⟩:=lk y _ hy
   ·subst z;exact lr q
   ·cases z
 ·-- cab
  have hk:scope.names.lookup y=aa .cell:=by simpa using(show(scope.names.lookup y == aa .cell)=ah from h)
  show s.heap.objs.size<=c;rcases I.cbIn B pV with⟨a1,a2⟩|⟨a1,a2⟩
  ·have:=(ncell a1).2.1;lia
  ·obtain⟨c',iY⟩:=xw (n:=s.heap.objs.size+1) (a:=[]) _ (kC hk);have e:(kP X scope s.heap.objs.size).lookup y=aa c':=by rw[zT,uz,iY];rfl
   have e2:(kP X scope s.heap.objs.size).lookup y=aa c:=pV;rw[e]at e2;cases e2;have:=(ncell (kC iY)).2.1;lia
 ·-- exf
  obtain⟨f0,f1,f2,f3,f4,f5⟩:=uV b hb;obtain⟨o,ho⟩:=hfo b hb;refine⟨λe=>absurd (bN ho) (by rw[e];exact fj _),λy c h=>?_⟩;rcases I.cbIn B h with⟨a1,a2⟩|⟨a1,a2⟩
  ·rintro rfl;exact w_ (ncell a1).2.1 (bN ho)
  ·exact f4 y c a2
 ·-- noex
  obtain⟨f0,f1,f2,f3,f4,f5⟩:=uV b hb;rcases f3 with z|z
  ·exact I.ok.noex b o e z
  ·exact absurd (gG (bN e) (dP I.ok.bsz z)) (fj _)
 ·-- exfs
  obtain⟨f0,f1,f2,f3,f4,f5⟩:=uV b hb;rcases bQ.mp (I.stkSub b hf)with z|z
  ·exact f1 z
  ·exact f2 z
 ·-- loc
  cases i with
  |zero=>simp at e2
  |succ i=>
   have om:(fF σ cap)[i]?=aa (aa v):=by simpa using e2
   unfold fF at om;rw[iT]at om;cases hj:cap[i]? with
   |none=>rw[hj]at om;cases om
   |some j=>
    rw[hj]at om;have e4:(σ[j]?).join=aa v:=fi om;have e5:σ[j]?=aa (aa v):=by
     cases hq:σ[j]? with
     |none=>rw[hq]at e4;cases e4
     |some o=>rw[hq]at e4;exact congrArg aa e4
    obtain⟨b1,b2⟩:=(B.caps i j y e1 hj).elim id λz=>by have:=(cO.mp e5).1;rw[I.len]at this;exact absurd this (Nat.not_lt.mpr z.1)
    obtain⟨mm,hn,hl⟩:=I.loc;have uK:=B.free _ (kC b2) rfl;have vis:cx X.env.scope y:=by
     rcases uK with z|z
     ·exact .inr (.inl z)
     ·exact .inr (.inr z)
    obtain⟨u,r,l⟩:=hl j y v b1 e5 vis;refine⟨u,r,.inr ⟨AG b2,?_⟩⟩;rcases l with⟨l,_⟩|⟨_,c,hc,xW⟩
    ·rcases uK with z|z
     ·rw[l]at z;cases z
     ·rw[l]at z;cases z
    ·obtain⟨c',iY⟩:=fhas y b2;have e6:=I.clIn B iY;rw[hc]at e6;cases e6;obtain⟨oo,ho,hd⟩:=xW;exact⟨c,I.cbOld B iY b2,oo,old c oo ho,hd⟩
 ·rcases I.cbIn B h with⟨a1,a2⟩|⟨a1,a2⟩
  ·exact⟨af,(ncell a1).1⟩
  ·obtain⟨v,oo,ho,hd⟩:=I.cell y c a2;exact⟨v,oo,old c oo ho,hd⟩
 ·rcases I.cbIn B h with⟨a1,a2⟩|⟨a1,a2⟩
  ·exact I.hok.fresh (dP (rA _) (ncell a1).2.1)
  ·exact I.freeC y c a2
 ·have gY:p∈X.pn++ae:=by simpa[bE]using hp
  obtain⟨e,n,ne,nf,d⟩:=I.pin p gY;refine⟨old _ _ e,n,dr (bN e),λhf=>?_,d⟩;rcases bQ.mp (I.stkSub p.1 hf)with z|z
  ·exact ne z
  ·exact nf z
 ·show(af::fF σ cap).length=N'.length;rw[B.len];simp[fF]
end
def qH(X:Cx)(ifs:List aw)(t:TT):Prop :=
 ∀(ae:List (ac×Obj)) (s:am) (σ:St) (H:Hp) (Q:Bool->Hp->Prop),Inv X ae σ H s->t σ H Q ->
  au (aB X.prog X.w) X.A (forIn ifs ah λc r=>if r=ah then do let ok ←mj c X.env (aG c X.env);pure (ForInStep.yield ok)else pure (ForInStep.yield r)) (TP X ae σ Q) X.xe s
theorem Kv{P:ba}{w:aP}{A:a6}{R:Result->am->Prop}{s:am}{elt tg iter:aw}{ifs:List aw}{scope:dO}{pos:Pos}{it bb:ai}{env:Env}(J:Nat->am->Prop)(turn:∀k s1,J k s1->au (aB P w) A (pyNext it) (λr s2=>match r with
   |none=>R (.ok .next) s2
   |some v=>au (aB P w) A (A4 tg it v) (λ_ s3=>au (aB P w) A (assign tg env v) (λ_ s4=>au (aB P w) A (forIn ifs ah λc r=>if r=ah then do let ok ←mj c env (aG c env);pure (ForInStep.yield ok)else pure (ForInStep.yield r)) (λb s5=>if b=ah then au (aB P w) A (aG elt env) (λy s6=>au (aB P w) A (call (.builtin "list.append") [bb,y]) (λ_ s7=>∃j,j<k/\J j s7) (λ_ _=>False) s6) (λ_ _=>False) s5 else ∃j,j<k/\J j s5) (λ_ _=>False) s4) (λ_ _=>False) s3) (λ_ _=>False) s2) (λ_ _=>False) s1) (k:Nat) (h:J k s) :
  jU (aB P w) A (.compLoop (.ListComp elt [⟨tg,iter,ifs,0⟩] scope pos) 0 it bb env) R s:=by
 refine codeAny_loop rfl J (λj s1 hJ=>?_) k h;show au _ A (Sem.onRaise (compTurn (.ListComp elt [⟨tg,iter,ifs,0⟩] scope pos) 0 it bb env) (λx=>do noteFrame x env;theTreesLotGoes x)) _ _ s1;refine wpAny_noted ?_;rw[compTurn_list];have no:∀(E':ai->am->Prop) (a:ai) (b:am),False->E' a b:=λ_ _ _ f=>f.elim;refine ax (wpAny_standAt (ax (d5 (turn j s1 hJ) (λr s2 h2=>?_) (no _))));cases r with
 |none=>exact aV h2
 |some v=>
  refine ax (d5 h2 (λ_ s3 h3=>ax (d5 h3 (λ_ s4 h4=>ax (d5 h4 (λb s5 h5=>?_) (no _))) (no _))) (no _));cases b with
  |true=>exact ax (ax (d5 h5 (λy s6 h6=>ax (d5 h6 (λ_ s7 h7=>aV (aV ⟨rfl,h7⟩)) (no _))) (no _)))
  |false=>exact aV ⟨rfl,h5⟩
def JW:TT:=λ_ H Q=>Q ah H
theorem Lf{X:Cx}:qH X [] JW:=λ_ _ _ H _ I h=>wpAny_tests_nil ⟨H,I,h⟩
theorem QQ{X:Cx}{c:aw}{t:TT}(h:PT X c t):qH X [c] t:=λae s σ H Q I hw=>wpAny_tests_one (h ae s σ H Q I hw)
def xn(wi:TI)(tgf:V->Hp->St->Prop)(k:Nat)(ts:TT)(te:TE)(cap:List Nat):TE:=λσ H Q=>wi σ H λJ H1=>∀l,H1 l=af->∃W:Nat->Nat->List V->Hp->Prop,(∃m,W 0 m [] (upd H1 l (.lst [])))/\∀i m ys H,W i m ys H ->
 (J.stop i H/\Q (.ref l) H)\/(J.go i H/\∀v H',J.yld i H v H'->∃vs,vs.length=k+1/\tgf v H' vs/\ts (vs++(fF σ cap).drop k) H' λb H2=>if b=ah then te (vs++(fF σ cap).drop k) H2 λy H3=>H3 l=aa (.lst ys)/\ys.length<bn/\∃m',m'<m/\W (i+1) m' (ys++[y]) (upd H3 l (.lst (ys++[y]))) else ∃m',m'<m/\W (i+1) m' ys H2)
def Gq:V->Hp->St->Prop:=λv _ vs=>vs=[aa v]
abbrev AR(wi:TI)(ts:TT)(te:TE)(cap:List Nat):TE:=xn wi Gq 0 ts te cap
section
variable{X:Cx}{ae:List (ac×Obj)}{σ:St}{H:Hp}{s:am}{scope:dO}{x:Str}{N':List Str}{cap:List Nat}
theorem Inv.unblock{fp:List ac}{H':Hp}{σ':St}{s':am}{lu:aE}(I:Inv X ae σ H s)(uV:∀b∈fp,kt X ae H b)(I':Inv (bE X scope N' s.heap.objs.size s H fp ae) [] σ' H' s') (sb:ku s.heap.objs.size s'.heap lu):Inv X ae σ H' {s' with heap:=lu}:=by
 have k:∀b o,b≠s.heap.objs.size->s'.heap.get? b=aa o->lu.get? b=aa o:=λb o hb e=>(sb.2 b hb).trans e;have nC:∀b o,s.heap.get? b=aa o->b≠s.heap.objs.size:=λb o e=>dr (bN e);have un:Un (fD X.stack) fp H H' s.heap lu:=by
  refine⟨λb o e n hb hx=>k b o (nC b o e) (I'.base.keep b o e n hb hx),λb o e n hb hx=>?_,λb o e n hx=>I'.base.free b o e n hx,λb o e hx=>?_,I'.base.tups,I'.base.frzs,I'.base.tbls⟩
  ·obtain⟨sl,q⟩:=I'.base.slot b o e n hb hx;exact⟨sl,k b _ (nC b o e) q⟩
  ·obtain⟨o',q⟩:=I'.base.there b o e hx;exact⟨o',k b o' (nC b o e) q⟩
 have hok:c0 X.prog X.w H' lu:=λb u e=>by
  have hCn:H' s.heap.objs.size=af:=I'.free;refine(I'.hok b u e).stay (λc v hc q=>k c v ?_ q) (λ_ q=>q) λ_ _ q=>q;rintro rfl;rcases hc with z|z
  ·rw[←z,hCn]at e;cases e
  ·rw[hCn]at z;cases z
 refine I.call' (s':={s' with heap:=lu}) (ch:=fp) I'.os un hok I'.bare λb hb=>?_;obtain⟨f0,f1,f2,f3,f4,f5⟩:=uV b hb;exact⟨f3,f1,f4,f5⟩
theorem Fx{elt iter tg:aw}{pos pos':Pos}{ifs:List aw}{wi:TI}{tgf:V->Hp->St->Prop}{k:Nat}{ts:TT}{te:TE}{use:Option (ai->Sem Unit)}{Q:ai->am->Prop}{Qp:VK}(B:iL X scope x N' cap)(hk:k<=cap.length)(hc:X.calm=ah)(hi:PI X tg iter wi)(fY:∀C s₀ H₀ ex pn,PG (bE X scope N' C s₀ H₀ ex pn) tg λv σ' H Q=>∃vs,vs.length=k+1/\σ'.length=N'.length/\tgf v H vs/\Q (vs++σ'.drop (k+1)) H)(ht:∀C s₀ H₀ ex pn,qH (bE X scope N' C s₀ H₀ ex pn) ifs ts) (he:∀C s₀ H₀ ex pn,PE (bE X scope N' C s₀ H₀ ex pn) elt te) (hs:∀x,nP iter X.env x=pure x) (I:Inv X ae σ H s) (h:xn wi tgf k ts te cap σ H Qp)(fin:∀{s3 s6:am}{H3 H5:Hp}{fp σ5 a f},Inv X ae σ H3 s3->(∀b∈fp,kt X ae H3 b)->Inv (bE X scope N' s3.heap.objs.size s3 H3 fp ae) [] σ5 H5 s6->Qp (.ref a) H5->compPost (aB X.prog X.w) X.A X.xe use Q (.ref a) s3.heap.objs.size (.ok f) s6):au (aB X.prog X.w) X.A (comprehension (.ListComp elt [⟨tg,iter,ifs,0⟩] scope pos) scope X.env pos' (newList []) aj (aG iter X.env) use) Q X.xe s:=by
 refine wpAny_comprehension_free (use:=use) rfl hs (P3 (I.freeHas B)) B.kind B.names (aQ (hi ae s σ H _ I h) λv s1 h1=>aQ h1 λitv s2 h2=>?_);obtain⟨it,fp,tn,J,H2,e,I2,T,st2,f2,h2⟩:=h2;subst e;refine mz ?_;have I3:Inv X ae σ (upd H2 s2.heap.objs.size (.lst [])) {s2 with heap:=s2.heap.push {cls:=.type "list",data:=.seq ([]:List ai).toArray},toks:=s2.toks}:=I2.lnew (its:=[]) (t':=s2.toks) .nil (mr _);obtain⟨W,⟨m0,w0⟩,turn⟩:=h2 s2.heap.objs.size I2.fresh;generalize hs3:({s2 with heap:=s2.heap.push {cls:=.type "list",data:=.seq ([]:List ai).toArray},toks:=s2.toks}:am)=s3 at I3;have hs3':({s2 with heap:=s2.heap.push {cls:=.type "list",data:=.seq ([]:List ai).toArray}}:am)=s3:=hs3;generalize hH3:upd H2 s2.heap.objs.size (.lst [])=H3 at I3 w0;have nl:∀b∈fp,b≠s2.heap.objs.size:=λb hb e=>by obtain⟨o,ho,_⟩:=T.obj _ _ st2 b hb;exact absurd (bN ho) (by rw[e];exact fj _)
 have k3:∀b o,s2.heap.get? b=aa o->s3.heap.get? b=aa o:=λb o e=>by rw[←hs3];exact bV _ e
 have f3:∀b∈fp,kt X ae H3 b:=λb hb=>⟨by rw[←hH3,bh (nl b hb)];exact(f2 b hb).1,(f2 b hb).2⟩
 have uP:tn 0 s3.heap:=T.keep _ _ _ st2 λb _ o e=>k3 b o e;have fo3:∀b∈fp,∃o,s3.heap.get? b=aa o:=λb hb=>(T.obj _ _ uP b hb).imp λo q=>q.1;refine Mt ?_;generalize hh:pushCells (s3.heap.push {cls:=.type "dict",data:=.dict #[]}) scope.names=h₁;have old:∀b o,s3.heap.get? b=aa o->h₁.get? b=aa o:=λb o e=>hh ▸ pushCells_keeps _ _ b o (bV _ e);have r8:h₁.Ns s3.heap.objs.size (λ_=>af):=hh ▸ (Heap.Ns.new s3.heap (.type "dict")).keeps (pushCells_keeps _ _);have I4:=Inv.block (t':=s3.toks) hh.symm I3 B f3 fo3 r8 old;have st4:tn 0 h₁:=T.keep _ _ _ uP λb _ o e=>old b o e;have statB:∀{H':Hp},(∀b∈fp,H' b=af)->∀b∈fp,kt (bE X scope N' s3.heap.objs.size s3 H3 fp ae) [] H' b:=λhn b hb=>by
  obtain⟨f0,f1,f2',f3',f4,f5⟩:=f3 b hb;refine⟨hn b hb,λe=>?_,λhf=>?_,.inl hb,λy c h=>?_,λp hp=>f5 p (by simpa[bE]using hp)⟩
  ·obtain⟨o,ho⟩:=fo3 b hb;exact absurd (bN ho) (by rw[show b=s3.heap.objs.size from e];exact fj _)
  ·rcases bQ.mp (I3.stkSub b hf)with z|z
   ·exact f1 z
   ·exact f2' z
  ·rcases I3.cbIn B h with⟨a1,a2⟩|⟨a1,a2⟩
   ·rintro rfl;obtain⟨o,ho⟩:=fo3 _ hb;exact w_ (Dp a1).2.1 (bN ho)
   ·exact f4 y c a2
 have loop:jU (aB X.prog X.w) X.A (.compLoop (.ListComp elt [⟨tg,iter,ifs,0⟩] scope pos) 0 (.ref it) (.ref s2.heap.objs.size) (compEnvC scope (kP X scope s3.heap.objs.size) s3.heap.objs.size X.env))
   (compPost (aB X.prog X.w) X.A X.xe use Q (.ref s2.heap.objs.size) s3.heap.objs.size) {s3 with heap:=h₁,toks:=s3.toks}:=by
  refine Kv (λn s'=>∃i ys σ' H',(∃pre:St,pre.length=k+1/\σ'=pre++(fF σ cap).drop k)/\Inv (bE X scope N' s3.heap.objs.size s3 H3 fp ae) [] σ' H' s'/\tn i s'.heap/\(∀b∈fp,H' b=af)/\W i n ys H') ?_ m0
   ⟨0,[],_,H3,⟨(af::fF σ cap).take (k+1),by simp[fF];lia,by rw[←List.drop_succ_cons (a:=af)];exact(xI _ _).symm⟩,I4,st4,λb hb=>(f3 b hb).1,w0⟩
  rintro n s5 ⟨i,ys,σ5,H5,⟨pre,uN,rfl⟩,I5,rZ,fr5,w5⟩;rcases turn i n ys H5 w5 with⟨stop,q⟩|⟨go,step⟩
  ·refine d5 (T.done (bE X scope N' s3.heap.objs.size s3 H3 fp ae) rfl rfl rfl hc i [] s5 _ H5 (λ_ _=>False) I5 (statB fr5) rZ stop) (λr s6 ⟨hr,I6⟩=>?_) (λ_ _ f=>f.elim);subst hr;exact fin I3 f3 I6 q
  ·refine d5 (T.item (bE X scope N' s3.heap.objs.size s3 H3 fp ae) rfl rfl rfl hc i [] s5 _ H5 (λ_ _=>False) I5 (statB fr5) rZ go) (λr s6 ⟨u,hr,h6⟩=>?_) (λ_ _ f=>f.elim);subst hr;refine d5 h6 (λ_ s7 ⟨v,H7,I7,r7,y7,st7,fr7⟩=>?_) (λ_ _ f=>f.elim);have I7':=I7.pinned (statB fr7) (T.obj _ _ st7);have back:∀{σ8:St}{H8:Hp}{s8:am},Inv (bE X scope N' s3.heap.objs.size s3 H3 fp ae) ([]++tX fp s7.heap) σ8 H8 s8->tn (i+1) s8.heap/\(∀b∈fp,H8 b=af):=λ{σ8 H8 s8} I8=>⟨T.keep _ _ _ st7 λb hb o e=>(I8.pin (b,o) (iR _ (iR _ (wK hb e)))).1,λb hb=>by obtain⟨o,e,d⟩:=T.obj _ _ st7 b hb;exact(I8.pin (b,o) (iR _ (iR _ (wK hb e)))).2.1⟩
   obtain⟨vs,dQ,htg,step⟩:=step v H7 y7;refine aQ (fY _ _ _ _ _ _ s7 _ H7 v u (λσ8 H8=>σ8=vs++(fF σ cap).drop k/\H8=H7) I7' r7 ⟨vs,dQ,I7'.len,htg,by rw[Bk ∅,List.drop_eq_nil_of_le ∅];rfl,rfl⟩) λ_ s8 ⟨σ8,H8,I8,e8,e8'⟩=>?_;subst e8 e8';refine aQ (ht _ _ _ _ _ _ s8 _ _ _ I8 step) λb s9 ⟨H9,I9,q9⟩=>?_;cases b with
   |false=>
    obtain⟨m',hm,w9⟩:=(show ∃m',m'<n/\W (i+1) m' ys H9 from q9)
    exact⟨m',hm,i+1,ys,_,H9,⟨vs,dQ,rfl⟩,I9.unpinned,(back I9).1,(back I9).2,w9⟩
   |true=>refine aQ (he _ _ _ _ _ _ s9 _ H9 _ I9 q9) λu10 s10 ⟨y,H10,I10,r10,hl10,hz10,m',hm,w10⟩=>?_;refine aQ (wj _ s10 _ H10 (.ref s2.heap.objs.size) [y] _ [u10] (λz H11=>H11=upd H10 s2.heap.objs.size (.lst (ys++[y]))) I10 rfl (.cons r10 .nil) ⟨_,ys,y,rfl,rfl,hl10,hz10,rfl⟩) λ_ s11 ⟨_,H11,I11,_,e11⟩=>?_;subst e11;exact⟨m',hm,i+1,ys++[y],_,_,⟨vs,dQ,rfl⟩,I11.unpinned,(back I11).1,(back I11).2,w10⟩
 exact codeAny_compStart_list loop (T.self _ 0 _ _ _ st4 loop)
theorem Ck{px:Pos}(B:iL X scope x N' cap):∀C s₀ H₀ ex pn,PG (bE X scope N' C s₀ H₀ ex pn) (.Name x px) λv σ' H Q=>∃vs,vs.length=0+1/\σ'.length=N'.length/\Gq v H vs/\Q (vs++σ'.drop (0+1)) H:=by
 intro C s₀ H₀ ex pn ae s σ' H v u Q I r h;obtain⟨vs,_,hl,hv,q⟩:=h;cases (show vs=[aa v] from hv);have BC:Loc (bE X scope N' C s₀ H₀ ex pn).env.scope x:=B.loc.elim (λh=>.inl (uA h)) (λh=>.inr (v4 h));have BG:(bE X scope N' C s₀ H₀ ex pn).fn x=ah\/(bE X scope N' C s₀ H₀ ex pn).env.scope.names.lookup x=aa .local:=B.loc.elim (λh=>.inr (uA h)) (λh=>.inl (by show(scope.names.lookup x == aa .cell)=ah;rw[h];rfl));have hN0:(bE X scope N' C s₀ H₀ ex pn).N[0]?=aa x:=by show N'[0]?=aa x;rw[←List.head?_eq_getElem?];exact B.hd
 refine ro B.nd hN0 BC BG ae s σ' H v u Q I r ?_;show Q (σ'.set 0 (aa v)) H;cases σ' with
 |nil=>rw[nX,B.len]at hl;lia
 |cons a r=>exact q
theorem L3{elt iter:aw}{px pos:Pos}{ifs:List aw}{wi:TI}{ts:TT}{te:TE}(B:iL X scope x N' cap)(hc:X.calm=ah)(hi:PI X (.Name x px) iter wi)(ht:∀C s₀ H₀ ex pn,qH (bE X scope N' C s₀ H₀ ex pn) ifs ts) (he:∀C s₀ H₀ ex pn,PE (bE X scope N' C s₀ H₀ ex pn) elt te) (hs:∀x,nP iter X.env x=pure x:=by intro _;rfl):PE X (.ListComp elt [⟨.Name x px,iter,ifs,0⟩] scope pos) (AR wi ts te cap):=by intro ae s σ H Q I h;rw[eval_ListComp];exact Fx (use:=af) B (mr _) hc hi (Ck B) ht he hs I h λI3 f3 I6 q=>by obtain⟨mm,hn6,_⟩:=I6.loc;exact⟨mm,hn6,λlu sb=>⟨.ref _,_,I3.unblock f3 I6 sb,rfl,q⟩⟩
end
def Walk(J:It)(xs:List V)(R:Hp->Prop):Prop :=
 ∀H,R H->∀i,(∀x,xs[i]?=aa x->J.go i H/\∀y H',J.yld i H y H'->H'=H/\y=x)/\(i=xs.length->J.stop i H)
theorem MV{K:aq}{a:ac}{xs:List V}:Walk (yF K a) xs (λH=>bZ K H a xs):=λH h i=>⟨λx hx=>⟨⟨xs,x,h,hx⟩,λy H' z=>⟨z.1,by have:=z.2 xs h;rw[hx]at this;exact(fi this).symm⟩⟩,λhi=>⟨xs,h,mq hi.symm⟩⟩
theorem Iw{K:aq}{a:ac}{xs:List V}:Walk (z6 K a) xs (λH=>cV K H a xs):=λH h i=>⟨λx hx=>⟨⟨xs,x,h,hx⟩,λy H' z=>⟨z.1,by have:=z.2 xs h;rw[hx]at this;exact(fi this).symm⟩⟩,λhi=>⟨xs,h,mq hi.symm⟩⟩
def qu(lo:Int)(n:Nat):List V:=(cW n).map λi=>V.int (lo+(i:Nat))
theorem yX(lo:Int)(n:Nat):(qu lo n).length=n:=by simp[qu]
theorem Lh{lo:Int}{n:Nat}:Walk (wg lo n) (qu lo n) (λ_=>True):=λH _ i=>by
 refine⟨λx hx=>?_,λhi=>by rw[yX]at hi;exact mq hi.symm⟩;have bO:i<n:=by have:=(cO.mp hx).1;rw[yX]at this;exact this
 refine⟨bO,λy H' z=>⟨z.1,?_⟩⟩;unfold qu at hx;rw[iT,List.getElem?_range bO]at hx;have kI:V.int (lo+(i:Nat))=x:=fi hx;rw[z.2,←kI]
def sg(c:Nat):V:=.str ⟨#[c]⟩
def ue(z:Str):It:=⟨λi _=>i<z.cps.size,λi H x H'=>H'=H/\∃c,z.cps[i]?=aa c/\x=sg c,λi _=>i=z.cps.size⟩
theorem ND{z:Str}:Walk (ue z) (z.cps.toList.map sg) (λ_=>True):=λH _ i=>by
 refine⟨λx hx=>?_,λhi=>by show i=z.cps.size;simpa using hi⟩;rw[iT]at hx;cases e:z.cps.toList[i]? with
 |none=>rw[e]at hx;cases hx
 |some c=>
  rw[e]at hx;have bO:i<z.cps.size:=by have:=(cO.mp e).1;simpa using this
  refine⟨bO,λy H' w=>⟨w.1,?_⟩⟩;obtain⟨c',e',rfl⟩:=w.2;have:z.cps[i]?=aa c:=by simpa using e
  rw[this]at e';cases e';exact(fi hx)
section
variable{X:Cx}{tg:aw}
theorem OI{P:ba}{w:aP}{K:aq}{z:Str}{it:ac}{St':Nat->aE->Prop} (oj:∀i h,St' i h->∃o n vs,h.get? it=aa o/\o.cls=.type n/\o.data=.fields vs /\ ["enumerate","zip","dict_itemiterator","dict_reverseitemiterator","odict_iterator","itertools.zip_longest","itertools.pairwise"].contains n=aj)(Q3:∀(A:a6) (i:Nat) (s:am) (Q:ai->am->Prop) (E:ai->am->Prop),St' i s.heap->Q (.ref it) s->au (aB P w) A (nO (.ref it)) Q E s)(hW:∀A:a6,A.handled=af->Walks P w A it [it] [it] z.cps.size (SignAt z) St'):qr P w K tg (ue z) [it] it St' where
 mem:=by simp
 obj:=λi h st b hb=>by
  have e:b=it:=by simpa using hb
  subst e;obtain⟨o,n,vs,h1,_,h3,_⟩:=oj i h st;exact⟨o,h1,λv q=>by rw[h3]at q;cases q⟩
 keep:=λi h h' st k=>by exact(hW ({}:a6) rfl).frame i h h' st k
 item:=by intro X hP hw hK hc i ae s σ H E I hf st hg;subst hP hw hK;obtain⟨f0,f1,f2,f3,f4,f5⟩:=hf it (by simp);refine(hW X.A (I.ok.hd hc)).item i s _ _ hg st λv h' tk hv iZ k=>?_;have I1:Inv X ae σ H {s with heap:=h',toks:=tk}:=I.turned (t':=tk) (λb o hb e=>k b o (by simpa using hb) e) f0 f1 f3 f4 f5;obtain⟨o,n,vs,h1,h2,h3,h4⟩:=oj _ _ iZ;obtain⟨c,u,e1,rfl⟩:=hv;exact⟨_,rfl,vi (s:={s with heap:=h',toks:=tk}) h1 h2 h3 h4 ⟨sg c,H,I1,⟨u,rfl⟩,⟨rfl,c,e1,rfl⟩,iZ,λb hb=>(hf b hb).1⟩⟩
 done:=by intro X hP hw hK hc i ae s σ H E I hf st hg;subst hP hw hK;obtain⟨f0,f1,f2,f3,f4,f5⟩:=hf it (by simp);have hg':i=z.cps.size:=hg;subst hg';exact(hW X.A (I.ok.hd hc)).done s _ _ st λh' tk k=>⟨rfl,I.turned (t':=tk) (λb o hb e=>k b o (by simpa using hb) e) f0 f1 f3 f4 f5⟩
 self:=Q3
theorem N9{J:It}{xs:List V}{R:Hp->Prop}{g:TG}{tb:TS}{D:ki}{σ:St}{H:Hp}(hJ:Walk J xs R)(Pv:Nat->St->Hp->Prop)(h0:Pv 0 σ H)(hl:∀i σ H,i<=xs.length->Pv i σ H->R H)(hs:∀i x σ H,xs[i]?=aa x->Pv i σ H->g x σ H λσ2 H2=>tb {D with nx:=Pv (i+1),ct:=Pv (i+1),bk:=D.nx} σ2 H2) (hd:∀σ H,Pv xs.length σ H->D.nx σ H):∃W:Nat->Nat->St->Hp->Prop,(∃m,W 0 m σ H)/\∀i m σ H,W i m σ H -> (J.stop i H/\D.nx σ H)\/(J.go i H/\∃N:St->Hp->Prop,(∀σ' H',N σ' H'->∃m',m'<m/\W (i+1) m' σ' H')/\∀x H',J.yld i H x H'->g x σ H' λσ2 H2=>tb {D with nx:=N,ct:=N,bk:=D.nx} σ2 H2):=by
 refine⟨λi m σ H=>m=xs.length-i/\i<=xs.length/\Pv i σ H,⟨xs.length,by simp,mr _,h0⟩,?_⟩;rintro i m σ H ⟨rfl,hi,p⟩;have q:=hJ H (hl i σ H hi p) i;by_cases bO:i<xs.length
 ·have hx:xs[i]?=aa xs[i]:=by simp[bO]
  obtain⟨go,yl⟩:=q.1 xs[i] hx;refine .inr ⟨go,Pv (i+1),λσ' H' p'=>⟨xs.length-(i+1),∅,rfl,bO,p'⟩,λx H' y=>?_⟩;obtain⟨rfl,rfl⟩:=yl x H' y;exact hs i _ σ _ hx p
 ·have e:i=xs.length:=∅
  subst e;exact .inl ⟨q.2 rfl,hd σ H p⟩
theorem Qf{α:Type}(l:List α)(f:α->Bool)(d:Nat->Bool)(hd:∀i x,l[i]?=aa x->d i=f x):(cW l.length).all d=l.all f:=by
 induction l generalizing d with
 |nil=>rfl
 |cons x r ih=>rw[eF,Bl,pG,uB,pG,hd 0 x rfl];congr 1;exact ih _ λi y h=>hd (i+1) y (by simpa using h)
theorem QB{bs:List Bool}{us:List ai}(r:bF (bs.map V.bl) us){i:Nat}{v:ai}(h:us.toArray[i]?=aa v):v=.bool (bs.getD i aj):=by
 have hl:=r.length;rw[c9]at hl;have hi:i<us.length:=by have:=(xJ.mp h).1;simpa using this
 have e:(bs.map V.bl)[i]?=aa (.bl (bs.getD i aj)):=by rw[iT,fL ∅];simp[List.getD,fL (show i<bs.length by lia)]
 obtain⟨u,e1,e2⟩:=r.get e;have:us[i]?=aa v:=by simpa using h
 rw[this]at e1;cases e1;exact e2
theorem u_{A:a6}(h:A.handled=af):A.in1.handled=af:=h
theorem wZ(hc:X.calm=ah):eG X (.builtin "all") (λxs H Q=>∃(p:ac) (bs:List Bool),xs=[.ref p]/\bZ X.K H p (bs.map V.bl)/\Q (.bl (bs.all id)) H):=by
 intro ae s σ H xs us Q I r h;obtain⟨p,bs,rfl,hq,q⟩:=h;obtain⟨u,rfl,ru⟩:=vals1 r;cases ru;obtain⟨its,rv,pl,hz⟩:=I.list hq;have hl:=rv.length;rw[c9]at hl;refine call_all_walk (GT pl.isList ?_);have dw:p≠s.heap.objs.size:=by obtain⟨o,ho,_⟩:=pl.isList;exact dr (bN ho)
 refine⟨s.heap.objs.size,_,_,_,_,_,λi=>bs.getD i aj,rfl,Walks.list (u_ (I.ok.hd hc)) s.heap.objs.size p dw its.toArray,⟨⟨_,dq _ rfl,rfl,rfl⟩,?_⟩,λi v s' Q' E' hv hQ=>?_,λh' tk k=>?_⟩
 ·obtain⟨o,ho,hc,hd⟩:=pl.isList;exact⟨o,bV _ ho,hc,hd⟩
 ·rw[QB rv hv];exact nN hQ
 ·have e:(cW its.toArray.size).all (λi=>bs.getD i aj)=bs.all id:=by
   rw[cX,←hl];exact Qf bs id _ λi x hx=>by simp[List.getD,hx]
  rw[e];have I1:Inv X ae σ H {s with heap:=s.heap.push {cls:=.type "list_iterator",data:=.fields #[.ref p,.int 0 0]},toks:=s.toks}:=I.kept (t':=s.toks) λb o e=>bV _ e;exact⟨.bl _,H,Inv.turned (t':=tk) I1 (it:=s.heap.objs.size) (λb o hb e=>k b o (by simpa using hb) e) I.fresh (pB I.lt) (.inr I.sz) (λx c e z=>by obtain⟨v,qq⟩:=I.cell x c e;exact absurd qq.lt (by rw[z];exact fj _)) (λpp hp z=>absurd (bN (I.pin pp hp).1) (by rw[z];exact fj _)),rfl,q⟩
end
section
variable{X:Cx}
def kR(z:Str)(lo hi:Option Int):Str:=⟨((z.cps.toList.drop (HT.sIx z.length 0 lo)).take (HT.sIx z.length z.length hi-HT.sIx z.length 0 lo)).toArray⟩
theorem N7(a b:Nat):sliceRange (a:Int) (b:Int) 1=(cW (b-a)).map λk=>a+k:=by
 unfold sliceRange;have e:(if(1:Int) > 0 then(if(a:Int)<(b:Int)then((b:Int)-a+1-1) / 1 else 0)else(if(a:Int) > b then((a:Int)-b-1-1) / (-1)else 0)).toNat=b-a:=by
  rw[if_pos (by decide)];split
  ·rw[Int.ediv_one];lia
  ·have:b-a=0:=∅
   rw[this];rfl
 show(cW (if(1:Int) > 0 then(if(a:Int)<(b:Int)then((b:Int)-a+1-1) / 1 else 0)else(if(a:Int) > b then((a:Int)-b-1-1) / (-1)else 0)).toNat).map _=_;rw[e];refine j0 λk _=>?_;lia
theorem Jf(lo hi:Option Int)(n:Nat):Builtin.Str.strSliceIndices lo hi 1 n=(cW (HT.sIx n n hi-HT.sIx n 0 lo)).map λk=>HT.sIx n 0 lo+k:=by
 rw[←N7];have p:(1:Int) > 0:=by decide
 cases lo <;> cases hi <;> (unfold Builtin.Str.strSliceIndices HT.sIx;simp only[p,if_true];congr 1 <;> (try split) <;> lia)
theorem KN{α:Type}(l:List α)(a k:Nat):((cW k).map λj=>a+j).filterMap (λi=>l[i]?)=(l.drop a).take k:=by
 induction k with
 |zero=>simp
 |succ k ih=>
  rw[uC,pK,List.filterMap_append,ih,List.take_succ];congr 1;simp[um];cases l[a+k]? <;> rfl
theorem KG(z:Str)(t:Tok)(l u:Option (Int×Tok)):∃m,sliceMade z t l u af=m/\(m=.val (.str z t)/\kR z (l.map (·.1)) (u.map (·.1))=z\/m=.str (kR z (l.map (·.1)) (u.map (·.1)))):=by
 refine⟨_,rfl,?_⟩;unfold sliceMade slicePicked;have e:=Jf (l.map (·.1)) (u.map (·.1)) z.length;simp only[Option.map_none,GO];rw[e];have pk:=KN z.cps.toList (HT.sIx z.length 0 (l.map (·.1))) (HT.sIx z.length z.length (u.map (·.1))-HT.sIx z.length 0 (l.map (·.1)));have pk':(((cW (HT.sIx z.length z.length (u.map (·.1))-HT.sIx z.length 0 (l.map (·.1)))).map λk=>HT.sIx z.length 0 (l.map (·.1))+k).filterMap (z.cps[·]?)).toArray=(kR z (l.map (·.1)) (u.map (·.1))).cps:=by unfold kR;rw[←pk];simp
 split
 ·rename_i h;left;refine⟨rfl,?_⟩;simp only[beq_self_eq_true,Bm,c9,GU,beq_iff_eq]at h;have h0:HT.sIx z.length z.length (u.map (·.1))<=z.length:=HT.sIx_le _ _ (bt _) _;have hl:z.cps.toList.length=z.length:=by simp[Str.length]
  have h1:HT.sIx z.length 0 (l.map (·.1))=0\/z.length=0:=∅
  unfold kR;rw[h];rcases h1 with h1|h1
  ·rw[h1,List.drop_zero,pL ∅]
  ·have:z.cps.toList=[]:=xK ∅;rw[this];cases z;rename_i c;simp at this;subst this;simp
 ·right;rw[show(⟨(((cW (HT.sIx z.length z.length (u.map (·.1))-HT.sIx z.length 0 (l.map (·.1)))).map λk=>HT.sIx z.length 0 (l.map (·.1))+k).filterMap (z.cps[·]?)).toArray⟩:Str)=kR z (l.map (·.1)) (u.map (·.1))from by rw[pk']]
def Ew:V->Option Int->Option Int->Hp->VK->Prop:=λx lo hi H Q=>∃z,x=.str z/\z.length<=bn/\Q (.str (kR z lo hi)) H
theorem PB(z:Str)(lo hi:Option Int):(kR z lo hi).length<=z.length:=by unfold kR Str.length;simp;lia
theorem part_of{v:ai}{o:Option Int}(p:mx v o):∃q:Option (Int×Tok),v=partValue q/\q.map (·.1)=o:=by
 cases p with
 |none=>exact⟨af,rfl,rfl⟩
 |int i t=>exact⟨aa (i,t),rfl,rfl⟩
theorem Q_:lO X Ew:=by
 intro ae s σ H x v vl vu lo hi sl Q I rx hs pl pu h;obtain⟨z,rfl,hz,q⟩:=h;obtain⟨t,rfl⟩:=rx;obtain⟨l,rfl,rfl⟩:=part_of pl;obtain⟨u,rfl,rfl⟩:=part_of pu;refine⟨"str",_,F.slot_str_getitem.lookup,typeIs_str s z t,?_⟩;obtain⟨m,em,hm⟩:=KG z t l u;refine getItem_meets (typeIs_str s z t) (by decide) F.slot_str_getitem F.entry_str_getitem (F.args_str_getitem_2 _ _) (meets_str_getitem_slice z t sl l u af (by decide)) ⟨hs,?_⟩;rw[em];rcases hm with⟨rfl,e⟩|rfl
 ·exact⟨.str z,H,I,⟨t,rfl⟩,by rw[e]at q;exact q⟩
 ·exact⟨dP (PB z _ _) hz,⟨.str _,H,I.tok _,⟨_,rfl⟩,q⟩⟩
def ir(K:aq)(H:Hp)(d:Nat)(x y:V)(k:Bool):Prop :=
 ∀(X:Cx),X.K=K->∀(ae:List (ac×Obj)) (σ:St) (s:am) (u v:ai) (A:a6),Inv X ae σ H s->RelV x u->RelV y v->A.units+d<cLine->xF A s u v k
theorem Ji{K:aq}{H:Hp}{d:Nat}{x y:V}(fx:fR x=ah)(fy:fR y=ah):ir K H d x y (dU x y):=λ_ _ _ _ _ _ _ _ _ rx ry _=>Ea rx ry fx fy
def gb(e:Nat->Bool)(n m:Nat):Bool:=(cW (min n m)).all e&&n == m
theorem Go{A:a6}:A.in1.units=A.units+1:=rfl
theorem zF{H:Hp}{d:Nat}{a b:ac}{xs ys:List V}{e:Nat->Bool}{ae:List (ac×Obj)}{σ:St}{s:am}{A:a6}(I:Inv X ae σ H s)(ha:bZ X.K H a xs)(hb:bZ X.K H b ys)(he:∀(j:Nat) x y,xs[j]?=aa x->ys[j]?=aa y->ir X.K H d x y (e j)) (hu:A.units+(d+1)<cLine):SeqAt.RcAt A s (.ref a) (.ref b) (gb e xs.length ys.length)/\SeqAt.RcNeAt A s (.ref a) (.ref b) (!gb e xs.length ys.length):=by
 obtain⟨us,ru,pu,_⟩:=I.list ha;obtain⟨vs,rv,pv',_⟩:=I.list hb;have mL:=ru.length;have lv:=rv.length;have hE:∀j (h1:j<us.toArray.size) (h2:j<vs.toArray.size),xF A.in1 s us.toArray[j] vs.toArray[j] (e j):=λj h1 h2=>by
  have h1':j<us.length:=by simpa using h1
  have h2':j<vs.length:=by simpa using h2
  have e1:xs[j]?=aa xs[j]:=fL ∅;have e2:ys[j]?=aa ys[j]:=fL ∅;obtain⟨u,q1,r1⟩:=ru.get e1;obtain⟨v,q2,r2⟩:=rv.get e2;have f1:us[j]=u:=by rw[fL h1']at q1;exact fi q1
  have f2:vs[j]=v:=by rw[fL h2']at q2;exact fi q2
  have:=he j xs[j] ys[j] e1 e2 X rfl ae σ s u v A.in1 I r1 r2 (by rw[Go];lia);simpa[f1,f2]using this
 by_cases hsz:xs.length=ys.length
 ·have hs:us.toArray.size=vs.toArray.size:=by simp;lia
  have e1:gb e xs.length ys.length=(cW us.toArray.size).all e:=by unfold gb;rw[hsz,Nat.min_self,beq_self_eq_true,Bool.and_true,cX,←mL,hsz]
  rw[e1];exact⟨.lists pu.isList pv'.isList hs ∅ hE,.lists pu.isList pv'.isList hs ∅ hE⟩
 ·have e1:gb e xs.length ys.length=aj:=by
   unfold gb;rw[beq_false_of_ne hsz,Bool.and_false]
  have hs:(us.toArray.size != vs.toArray.size)=ah:=by simp;lia
  rw[e1];exact⟨.lists_lengths pu.isList pv'.isList hs ∅,.lists_lengths pu.isList pv'.isList hs ∅⟩
theorem AH{H:Hp}{d:Nat}{a b:ac}{xs ys:List V}{e:Nat->Bool}{ae:List (ac×Obj)}{σ:St}{s:am}{A:a6}(I:Inv X ae σ H s)(ha:cV X.K H a xs)(hb:cV X.K H b ys)(he:∀(j:Nat) x y,xs[j]?=aa x->ys[j]?=aa y->ir X.K H d x y (e j)) (hu:A.units+(d+1)<cLine):SeqAt.RcAt A s (.ref a) (.ref b) (gb e xs.length ys.length)/\SeqAt.RcNeAt A s (.ref a) (.ref b) (!gb e xs.length ys.length):=by
 obtain⟨us,ru,pu,_⟩:=I.tuple ha;obtain⟨vs,rv,pv',_⟩:=I.tuple hb;have mL:=ru.length;have lv:=rv.length;have hE:∀j (h1:j<us.toArray.size) (h2:j<vs.toArray.size),xF A.in1 s us.toArray[j] vs.toArray[j] (e j):=λj h1 h2=>by
  have h1':j<us.length:=by simpa using h1
  have h2':j<vs.length:=by simpa using h2
  have e1:xs[j]?=aa xs[j]:=fL ∅;have e2:ys[j]?=aa ys[j]:=fL ∅;obtain⟨u,q1,r1⟩:=ru.get e1;obtain⟨v,q2,r2⟩:=rv.get e2;have f1:us[j]=u:=by rw[fL h1']at q1;exact fi q1
  have f2:vs[j]=v:=by rw[fL h2']at q2;exact fi q2
  have:=he j xs[j] ys[j] e1 e2 X rfl ae σ s u v A.in1 I r1 r2 (by rw[Go];lia);simpa[f1,f2]using this
 have e1:gb e xs.length ys.length=((cW (min us.toArray.size vs.toArray.size)).all e&&us.toArray.size == vs.toArray.size):=by unfold gb;rw[cX,cX,←mL,←lv]
 rw[e1];exact⟨.tuples pu pv' ∅ hE,.tuples pu pv' ∅ hE⟩
theorem HP{K:aq}{H:Hp}{d:Nat}{a b:ac}{xs ys:List V}{e:Nat->Bool}(ha:bZ K H a xs)(hb:bZ K H b ys)(dw:a≠b)(he:∀(j:Nat) x y,xs[j]?=aa x->ys[j]?=aa y->ir K H d x y (e j)):ir K H (d+1) (.ref a) (.ref b) (gb e xs.length ys.length):=λX hK ae σ s u v A I ru rv hu=>by
 subst hK;cases ru;cases rv;exact .of_refs dw (zF I ha hb he hu).1
theorem J4{K:aq}{H:Hp}{d:Nat}{a b:ac}{xs ys:List V}{e:Nat->Bool}(ha:cV K H a xs)(hb:cV K H b ys)(dw:a≠b)(he:∀(j:Nat) x y,xs[j]?=aa x->ys[j]?=aa y->ir K H d x y (e j)):ir K H (d+1) (.ref a) (.ref b) (gb e xs.length ys.length):=λX hK ae σ s u v A I ru rv hu=>by
 subst hK;cases ru;cases rv;exact .of_refs dw (AH I ha hb he hu).1
theorem Cp{K:aq}{H:Hp}{d:Nat}{a:ac}:ir K H d (.ref a) (.ref a) ah:=λX hK ae σ s u v A I ru rv hu=>by
 cases ru;cases rv;exact .same _
def sQ(K:aq)(neg:Bool):R2:=λx y H Q=>∃a b xs ys d e,x=.ref a/\y=.ref b/\((bZ K H a xs/\bZ K H b ys)\/(cV K H a xs/\cV K H b ys))/\d<=8 /\
 (∀(j:Nat) x y,xs[j]?=aa x->ys[j]?=aa y->ir K H d x y (e j))/\Q (.bl (if neg then !gb e xs.length ys.length else gb e xs.length ys.length)) H
theorem Ij(hu:X.A.units+64<cLine):bY X (d7 .Eq) (sQ X.K aj):=by
 intro ae s σ H x y v u Q I rx ry h;obtain⟨a,b,xs,ys,d,e,rfl,rfl,hs,hd,he,q⟩:=h;cases rx;cases ry;rcases hs with⟨h1,h2⟩|⟨h1,h2⟩
 ·exact(zF I h1 h2 he ∅).1 _ _ _ _ ⟨.bl _,H,I,rfl,q⟩
 ·exact(AH I h1 h2 he ∅).1 _ _ _ _ ⟨.bl _,H,I,rfl,q⟩
theorem NX(hu:X.A.units+64<cLine):bY X (d7 .NotEq) (sQ X.K ah):=by
 intro ae s σ H x y v u Q I rx ry h;obtain⟨a,b,xs,ys,d,e,rfl,rfl,hs,hd,he,q⟩:=h;cases rx;cases ry;rcases hs with⟨h1,h2⟩|⟨h1,h2⟩
 ·exact(zF I h1 h2 he ∅).2 _ _ _ _ ⟨.bl _,H,I,rfl,q⟩
 ·exact(AH I h1 h2 he ∅).2 _ _ _ _ ⟨.bl _,H,I,rfl,q⟩
def K4(K:aq):V->List V->Hp->VK->Prop:=λx vs H Q=>∃(p:ac) (xs:List V) (y:V),x=.ref p/\vs=[y]/\H p=aa (.lst xs)/\fR y=ah/\xs.all fR=ah/\Q (.int ((xs.countP λz=>dU z y:Nat):Int)) H
theorem At{y:V}:∀{xs:List V}{us:List ai},bF xs us->xs.all fR=ah->us.countP (je y)=xs.countP λz=>dU z y
 |_,_,.nil,_=>rfl
 |z::xs,u::us,.cons r t,f=>by rw[pG,fq]at f;rw[List.countP_cons,List.countP_cons,vH r f.1,At t f.2]
theorem Kt:rn X "list.count" (K4 X.K):=by
 intro ae s σ H x vs v us Q I rx rv h;obtain⟨p,xs,y,rfl,rfl,hH,fy,fx,q⟩:=h;cases rx;obtain⟨u,rfl,ru⟩:=rv.one;obtain⟨z,its,n,r,hl,e⟩:=I.lstM hH;refine uy F.slot_list_count ⟨_,e,rfl⟩ F.entry_list_count (F.args_list_count_2 _ _) (SeqAt.list_countAt p its.toArray n af #[] u (je y)) ⟨e,λw hw=>qh ru fy r fx w (by simpa using hw),?_⟩;exact⟨.int _,H,I.tok _,⟨_,by rw[GW,At r fx]⟩,q⟩
def KR(K:aq):V->List V->Hp->VK->Prop:=λx vs H Q=>∃(p:ac) (xs:List V) (y:V),x=.ref p/\vs=[y]/\cV K H p xs/\fR y=ah/\xs.all fR=ah/\Q (.int ((xs.countP λz=>dU z y:Nat):Int)) H
theorem HD:rn X "tuple.count" (KR X.K):=by
 intro ae s σ H x vs v us Q I rx rv h;obtain⟨p,xs,y,rfl,rfl,hH,fy,fx,q⟩:=h;cases rx;obtain⟨u,rfl,ru⟩:=rv.one;obtain⟨its,r,⟨⟨cls,dd,data,sl⟩,e,hc,n,hd⟩,hz⟩:=I.tuple hH;simp only at hc hd;subst hc hd;refine uy F.slot_tuple_count ⟨_,e,rfl⟩ F.entry_tuple_count (F.args_tuple_count_2 _ _) (SeqAt.tuple_countAt p its.toArray n dd sl u (je y)) ⟨e,λw hw=>qh ru fy r fx w (by simpa using hw),?_⟩;exact⟨.int _,H,I.tok _,⟨_,by rw[GW,At r fx]⟩,q⟩
def MK:V->List V->Hp->VK->Prop:=λx vs H Q=>∃(p:ac) (xs:List V) (y:V) (j:Nat),x=.ref p/\vs=[y]/\H p=aa (.lst xs)/\fR y=ah/\xs.all fR=ah/\j<xs.length /\
 (∀z,xs[j]?=aa z->dU z y=ah)/\(∀(i:Nat) z,i<j->xs[i]?=aa z->dU z y=aj)/\Q (.int j) H
theorem Nz:rn X "list.index" MK:=by
 intro ae s σ H x vs v us Q I rx rv h;obtain⟨p,xs,y,j,rfl,rfl,hH,fy,fx,hj,h1,h2,q⟩:=h;cases rx;obtain⟨u,rfl,ru⟩:=rv.one;obtain⟨z,its,n,r,hl,e⟩:=I.lstM hH;have hz:=sX;have at':∀(i:Nat) (hi:i<its.toArray.size),∃w,xs[i]?=aa w/\je y its.toArray[i]=dU w y:=λi hi=>by
  have hi':i<its.length:=by simpa using hi
  have e1:xs[i]?=aa xs[i]:=fL ∅;obtain⟨w,q1,r1⟩:=r.get e1;have f1:its[i]=w:=by rw[fL hi']at q1;exact fi q1
  refine⟨_,e1,?_⟩;have fl:fR xs[i]=ah:=mC.mp fx _ (GX _);rw[←vH r1 fl];simp[f1]
 refine uy F.slot_list_index ⟨_,e,rfl⟩ F.entry_list_index (F.args_list_index_2 _ _) (SeqAt.list_indexAt p its.toArray n af #[] u (je y) j (by simp;lia) ∅ ?_ ?_) ⟨e,λw hw=>qh ru fy r fx w (by simpa using hw),?_⟩
 ·obtain⟨w,q1,q2⟩:=at' j (by simp;lia);rw[q2];exact h1 w q1
 ·intro m hm hmj;obtain⟨w,q1,q2⟩:=at' m hm;rw[q2];exact h2 m w hmj q1
 ·exact⟨.int _,H,I.tok _,⟨_,rfl⟩,q⟩
end
abbrev Tx:=List Nat
def tS(l:Tx):Str:=⟨l.toArray⟩
def tV(l:Tx):V:=.str (tS l)
def dZ(ls:List Tx):List V:=ls.map tV
theorem o7(l:Tx):(tS l).cps.toList=l:=by simp[tS]
theorem kX(l:Tx):(tS l).length=l.length:=by simp[tS,Str.length]
theorem Ex(z:Str):tS z.cps.toList=z:=by cases z;simp[tS]
theorem qp{a b:Tx}(h:tS a=tS b):a=b:=by rw[←o7 a,h,o7]
theorem Lb{a b:Tx}(h:tV a=tV b):a=b:=qp (V.str.inj h)
theorem An(ls:List Tx):(dZ ls).length=ls.length:=c9 _
def dY(a b:Tx):Bool:=decide (a<=b)
def bf(ls:List Tx):List Tx:=ls.mergeSort dY
theorem DM(a b c:Tx)(h1:dY a b=ah)(h2:dY b c=ah):dY a c=ah:=by simp only[dY,decide_eq_true_eq]at *;exact List.le_trans h1 h2
theorem KC(a b:Tx):(dY a b||dY b a)=ah:=by simp only[dY,Bn,decide_eq_true_eq];exact List.le_total a b
theorem N2{a b:Tx}(h1:dY a b=ah)(h2:dY b a=ah):a=b:=by simp only[dY,decide_eq_true_eq]at *;exact List.le_antisymm h1 h2
theorem eY(ls:List Tx):(bf ls).Perm ls:=List.mergeSort_perm _ _
theorem o9(ls:List Tx):(bf ls).Pairwise (λa b=>dY a b=ah):=List.pairwise_mergeSort DM KC _
theorem Oc(ls:List Tx):(bf ls).length=ls.length:=(eY ls).length_eq
theorem wQ{ls ms:List Tx}(hp:ms.Perm ls)(hs:ms.Pairwise (λa b=>dY a b=ah)):ms=bf ls :=List.Perm.eq_of_pairwise (le:=λa b=>dY a b=ah) (λ_ _ _ _ h1 h2=>N2 h1 h2) hs (o9 ls) (hp.trans (eY ls).symm)
theorem Am{ls:List Tx}(hs:ls.Pairwise (λa b=>dY a b=ah)):bf ls=ls:=(wQ (Bo ls) hs).symm
theorem yB{ls ms:List Tx}(hp:ls.Perm ms):bf ls=bf ms:=wQ ((eY ls).trans hp) (o9 ls)
theorem DL:∀(p:Str) (l:List Str),risingS p l=ah->(p::l).Pairwise (λa b=>dY a.cps.toList b.cps.toList=ah)
 |p,[],_=>List.pairwise_singleton _ _
 |p,x::r,h=>by
  have h':(!ltCps x.cps.toList p.cps.toList&&risingS x r)=ah:=h;rw[fq,ltCps_eq]at h';have q:=DL x r h'.2;have px:dY p.cps.toList x.cps.toList=ah:=by simp only[dY,decide_eq_true_eq];intro bO;simp[bO]at h'
  refine List.pairwise_cons.mpr ⟨λy hy=>?_,q⟩;rcases bQ.mp hy with rfl|hy
  ·exact px
  ·exact DM _ _ _ px (List.rel_of_pairwise_cons q hy)
theorem Qh{ss:List Str}(h:sortedS ss=ah):(ss.map λz=>z.cps.toList).Pairwise (λa b=>dY a b=ah):=by
 rw[List.pairwise_map];cases ss with
 |nil=>exact List.Pairwise.nil
 |cons x r=>exact DL x r h
theorem yd:∀{ls:List Tx}{us:List ai},bF (dZ ls) us->gJ us (ls.map tS)
 |[],_,.nil=>.nil
 |l::ls,_::_,.cons ⟨t,e⟩ r=>by subst e;exact .cons _ t (yd (ls:=ls) r)
theorem E2:∀{ss:List Str}{us:List ai},gJ us ss->bF (dZ (ss.map λz=>z.cps.toList)) us
 |_,_,.nil=>.nil
 |_,_,.cons y t h=>.cons ⟨t,by rw[Ex]⟩ (E2 h)
section
variable{P:ba}{w:aP}{A:a6}{E:ai->am->Prop}{s:am}
theorem zf{v:ai}{Q:ai->am->Prop}(hc:au (aB P w) A.in1 (collect v) (λvs s1=>∃ss:List Str,gJ vs ss/\vs.length<64/\∀(h':aE) (out:Array ai) (aL:List Str) (e:Nat),(∀b o,s1.heap.get? b=aa o->h'.get? b=aa o) -> h'.get? s1.heap.objs.size=aa (seqObj "list" out e)->gJ out.toList aL->aL.Perm ss->sortedS aL=ah->Q (.ref s1.heap.objs.size) {s1 with heap:=h'}) E s):au (aB P w) A (call (.builtin "sorted") [v]) Q E s:=by refine Calls.call_function_entry kind_sorted plain_sorted entry_sorted (args_sorted1 _) ?_;unfold Builtin.«sorted»;refine ax (m:=checkCount "sorted" 1 1 _) (aV ?_);refine ax (aQ hc λvs s1 ⟨ss,hS,jC,fin⟩=>?_);refine ax (wpAny_newList ?_);have rY:(s1.heap.push (seqObj "list" vs.toArray 0)).get? s1.heap.objs.size=aa (seqObj "list" vs.toArray 0):=dq _ rfl;refine ax (pF (xE slot_list_sort ⟨_,rY,rfl⟩ entry_list_sort (list_sort_treeK strKind_oneLt rY hS.keysOf (λa b c e=>keyKind_strs (by rw[←e];exact hS)) jC λiZ hp hs=>⟨_,rfl,?_⟩) (args_list_sort _)));obtain⟨aL,a1,a2,a3⟩:=sorted_out_str hS hp hs;obtain⟨e,he⟩:=sortedHeap_at (out:=(arrOf iZ).map (·.2)) rY;refine aV ⟨_,rfl,fin _ _ aL e (λb o hb=>?_) he a1 a2 a3⟩;have bO:b<s1.heap.objs.size:=bN hb;rw[sortedHeap_old (dr bO) (by rw[j1];exact mD bO)];exact bV _ hb
end
section
variable{X:Cx}
theorem Inv.sorted{ae:List (ac×Obj)}{σ:St}{H:Hp}{s1:am}{ls:List Tx}{ss aL:List Str}{h':aE}{out:Array ai}{e:Nat}(I:Inv X ae σ H s1)(hl:ss=ls.map tS)(jC:ls.length<64)(k:∀b o,s1.heap.get? b=aa o->h'.get? b=aa o) (ho:h'.get? s1.heap.objs.size=aa (seqObj "list" out e)) (a1:gJ out.toList aL) (a2:aL.Perm ss) (a3:sortedS aL=ah):Inv X ae σ (upd H s1.heap.objs.size (.lst (dZ (bf ls)))) {s1 with heap:=h'}:=by
 have e1:aL.map (λz=>z.cps.toList)=bf ls:=by
  refine wQ ?_ (Qh a3);have:=a2.map λz=>z.cps.toList;rw[hl,fM]at this;have e2:(ls.map ((λz:Str=>z.cps.toList) ∘ tS))=ls:=by simp[Function.comp_def,o7]
  rw[e2]at this;exact this
 have hv:bF (dZ (bf ls)) out.toList:=by rw[←e1];exact E2 a1
 refine I.laid (t':=s1.toks) k (bt _) ⟨?_,out.toList,e,hv,?_⟩
 ·rw[An,Oc];exact pw (Af ∅)
 ·rw[Array.toArray_toList];exact ho
theorem qe:eG X (.builtin "sorted") (λxs H Q=>∃(p:ac) (ls:List Tx),xs=[.ref p]/\(bZ X.K H p (dZ ls)\/cV X.K H p (dZ ls))/\ls.length<64/\∀l,H l=af->Q (.ref l) (upd H l (.lst (dZ (bf ls))))):=by
 intro ae s σ H xs us Q I r h;obtain⟨p,ls,rfl,hq,jC,q⟩:=h;obtain⟨u,rfl,ru⟩:=vals1 r;cases ru;have core:∀(T:String) (o:Obj) (its:List ai) (n:Nat),(T = "list"\/T = "tuple")->s.heap.get? p=aa o->o.cls=.type T->o.data=.seq its.toArray n->bF (dZ ls) its ->
   au (aB X.prog X.w) X.A (call (.builtin "sorted") [Value.ref p]) (EP X ae σ Q) X.xe s:=λT o its n hT ho hc hd rv=>by
  have hl:=rv.length;rw[An]at hl;have h1000:=Af (n:=its.length) ∅;refine zf (wpAny_collect_seq p hT ho hc hd (λh1 k1=>?_) (by rw[cX];lia));have I1:=I.kept (t':=s.toks) k1;refine⟨_,yd rv,by rw[GW];lia,λh' out aL e k ho a1 a2 a3=>?_⟩;exact⟨.ref _,_,Inv.sorted I1 rfl jC k ho a1 a2 a3,rfl,q _ I1.fresh⟩
 rcases hq with hq|hq
 ·obtain⟨its,rv,pl,hz⟩:=I.list hq;obtain⟨o,e,hc,n,hd⟩:=pl.isList;exact core "list" o its n (.inl rfl) e hc hd rv
 ·obtain⟨its,rv,⟨o,e,hc,n,hd⟩,hz⟩:=I.tuple hq;exact core "tuple" o its n (.inr rfl) e hc hd rv
theorem LH(z:Tx)(n:Nat):Txt.mul (tS z) (n:Int)=tS (bG n z).flatten:=by
 unfold Txt.mul;cases n with
 |zero=>simp[tS,kx]
 |succ n=>
  rw[if_neg ∅];split
  ·rename_i h;simp only[Bn,beq_iff_eq]at h;rcases h with h|h
   ·have:n=0:=∅
    subst this;simp
   ·rw[kX]at h;have:z=[]:=xK h;subst this;simp
  ·unfold tS;congr 1;have gen:∀(k:Nat) (bb:Array Nat),(bG k z.toArray).foldl (·++·) bb=bb++(bG k z).flatten.toArray:=by
    intro k
    induction k with
    |zero=>intro bb;simp
    |succ k ih=>intro bb;rw[nW,nY,ih,nW,Bf];simp[Array.append_assoc]
   have e:=gen (n+1) #[];simp only[mw];simpa using e
theorem Nn:bY X (jT .Mult) (λx y H Q=>∃(z:Tx) (n:Nat),x=tV z/\y=.int n/\n<=100/\z.length<=100/\Q (tV (bG n z).flatten) H):=by
 intro ae s σ H x y v u Q I rx ry h;obtain⟨z,n,rfl,rfl,hn,hz,q⟩:=h;obtain⟨t,rfl⟩:=rx;obtain⟨t',rfl⟩:=ry;refine SB.mul ?_ λt2 k=>?_
 ·have hp:z.length*n<=10000:=dP (Nat.mul_le_mul hz hn) (by decide);refine⟨by rw[Bool.or_eq_false_iff];constructor <;> (apply decide_eq_false;lia),λh1 _=>?_,λh1 _=>?_⟩
  ·rw[kX];intro hgt;have h2:(2^63-1:Int) / n ≥ (2^63-1) / 100:=by
    have hn0:(0:Int)<n:=∅
    apply (Int.le_ediv_iff_mul_le hn0).mpr;have:((2^63-1:Int) / 100)*n<=((2^63-1) / 100)*100:=Int.mul_le_mul_of_nonneg_left ∅ (by decide);refine Int.le_trans this (by decide)
   have h3:((2^63-1:Int) / 100) > 1000:=by decide
   lia
  ·rw[kX,mw];unfold Builtin.Str.tooLong;apply decide_eq_false;have:10000<bn:=by rw[nQ];decide
   lia
 ·rw[LH];exact⟨tV _,H,I.tok _,⟨_,rfl⟩,q⟩
end
theorem LN(t:jx)(j:Nat):(t.put j).1.led=t.led/\(t.put j).1.plain=t.plain:=⟨rfl,rfl⟩
theorem HU(t:jx)(n:Nat):(t.orStandIn n).led=t.led/\((t.orStandIn n).plain=t.plain\/(t.orStandIn n).plain=aj):=by
 unfold SetTable.orStandIn;split
 ·exact⟨rfl,.inl rfl⟩
 ·exact⟨rfl,.inr rfl⟩
theorem Jb(t:jx)(es:Array (Int×ai))(h:Int)(x:ai):(layNew t es h x).2.1.led=t.led/\((layNew t es h x).2.1.plain=t.plain\/(layNew t es h x).2.1.plain=aj):=by
 unfold layNew;split
 ·rename_i slot wasDummy _;have h1:=LN t slot;have h2:=HU (t.put slot).1 (SetTable.insertAt es (t.put slot).2 (h,x)).size;exact⟨h2.1.trans h1.1,by rw[←h1.2];exact h2.2⟩
 ·exact⟨rfl,.inr rfl⟩
theorem M4(t:jx)(es:Array (Int×ai))(wanted:Nat)(hp:t.plain=aj):(rK t es wanted).2.1.led=t.led/\(rK t es wanted).2.1.plain=aj:=by
 unfold rK;split
 ·rename_i t' order e;have q:t'.led=t.led/\t'.plain=t.plain:=by
   unfold SetTable.relaid SetTable.laid at e;cases q:SetTable.layClean (SetTable.sizeAbove wanted-1) (es.map (·.1))with
   |none=>rw[q]at e;cases e
   |some ow=>rw[q]at e;cases e;exact⟨rfl,rfl⟩
  dsimp only;split
  ·exact⟨q.1,q.2.trans hp⟩
  ·exact⟨rfl,rfl⟩
 ·exact⟨rfl,rfl⟩
def ez(w:aP):Bool:=w.params.followText "set-order"
structure ju(P:ba)(w:aP)(h:aE)(a:ac)(ks:List Str):Prop where
 ex:∃(es:Array (Int×ai)) (ep:Nat) (t:jx) (ss:List Str),h.get? a=aa {cls:=.type "set",dict:=af,data:=.set es ep t}/\gJ (es.toList.map (·.2)) ss/\ss.Perm ks/\ElemsOf (jy P w) es.toList /\
  es.size<4090/\t.fits es.size=ah/\t.led=(!ez w)/\(ks≠[]->t.plain=aj)
theorem ju.at{P:ba}{w:aP}{h h':aE}{a:ac}{ks:List Str}(S:ju P w h a ks)(k:∀o,h.get? a=aa o->h'.get? a=aa o):ju P w h' a ks:=by obtain⟨es,ep,t,ss,e,r⟩:=S.ex;exact⟨es,ep,t,ss,k _ e,r⟩
theorem Ff:∀{vs:List ai}{ss:List Str},gJ vs ss->∀x,x∈ss↔∃t,Value.str x t∈vs
 |_,_,.nil,x=>by simp
 |_,_,.cons y t h,x=>by
  rw[bQ,Ff h x];constructor
  ·rintro(rfl|⟨t',q⟩)
   ·exact⟨t,mi ..⟩
   ·exact⟨t',jw _ q⟩
  ·rintro⟨t',q⟩;rcases bQ.mp q with q|q
   ·cases q;exact .inl rfl
   ·exact .inr ⟨t',q⟩
theorem y3:∀{us vs:List ai},us.Perm vs->∀{ss:List Str},gJ vs ss->∃aL,gJ us aL/\aL.Perm ss:=by intro us vs p ss h;refine⟨us.map strOf,strsAre_map us λv hv=>h.all v (p.mem_iff.mp hv),?_⟩;have:=p.map strOf;rwa[h.strs]at this
section
variable{P:ba}{w:aP}{A:a6}{E:ai->am->Prop}{s:am}
def jr(ks:List Str)(x:Str):List Str:=if x∈ks then ks else ks++[x]
theorem ju.put{h:aE}{a:ac}{es es':Array (Int×ai)}{ep:Nat}{t t':jx}(e:h.get? a=aa {cls:=.type "set",dict:=af,data:=.set es ep t}):(h.update a (Obj.putSet es' t')).get? a=aa {cls:=.type "set",dict:=af,data:=.set es' (ep+1) t'}:=by have:=pM (Obj.putSet es' t') e (by rw[putSet_of es' t' rfl];rfl);rw[putSet_of es' t' rfl]at this;exact this
theorem Jk{a:ac}{ks:List Str}{x:Str}{tk:Tok}{Q:Bool->am->Prop}(S:ju P w s.heap a ks)(hn:ks.length<4000)(h:∀h' b,ku a s.heap h'->ju P w h' a (jr ks x)->Q b {s with heap:=h'}):au (aB P w) A (setAddHashed a (.str x tk) ((jy P w).hash x)) Q E s:=by
 obtain⟨es,ep,t,ss,ho,hS,hp,hel,hsz,hf,pR,cz⟩:=S.ex;have isD:∀y t',(jy P w).is x (.str y t')=decide (y=x):=λy t'=>by
  show uj x (.str y t')=_;rw[mn];simp[uj]
  try exact eq_comm
 have rV:(jy P w).is x (.str x tk)=ah:=by rw[isD];simp
 have hb:es.size<scanBound:=Bg hsz (by decide);unfold setAddHashed setAddHashedIn;refine pF (ax (rL ho rfl hf ?_));dsimp only;rw[byScan_of (knd:=jy P w) (x:=.str x tk) rfl hb hel];simp only[if_true];unfold setAddByScan;refine ax (ax (wpAny_rule (ax (wpAny_setScan_of rV ho rfl hf hel ?_))));have memx:x∈ks↔∃e∈es.toList,(jy P w).is x e.2=ah:=by
  rw[←hp.mem_iff,Ff hS x];constructor
  ·rintro⟨t',q⟩;obtain⟨e,he,ee⟩:=cR.mp q;exact⟨e,he,by rw[ee,isD];simp⟩
  ·rintro⟨e,he,q⟩;obtain⟨y,t',ey⟩:=hS.all e.2 (cR.mpr ⟨e,he,rfl⟩);rw[ey,isD]at q;have:y=x:=of_decide_eq_true q;subst this;exact⟨t',cR.mpr ⟨e,he,ey⟩⟩
 have klen:ks.length=es.size:=by
  have e1:=hp.length_eq;have e2:ss.length=es.size:=by rw[←hS.strs];simp
  lia
 cases hr:List.findIdx? (λe=>(jy P w).is x e.2) es.toList with
 |some j=>dsimp only;obtain⟨hj,hpj,_⟩:=QW.mp hr;have hx:x∈ks:=memx.mpr ⟨_,GX hj,hpj⟩;refine aV (aV ?_);exact h s.heap _ (Heap.SameBut.refl a s.heap) (by unfold jr;rw[if_pos hx];exact S)
 |none=>
  dsimp only;have hx:¬x∈ks:=λhm=>by obtain⟨e,he,q⟩:=memx.mp hm;have:=List.findIdx?_eq_none_iff.mp hr e he;rw[q]at this;exact Bool.noConfusion this
  have hgw:∀(b:Bool) {s₁:am}{Q':Unit->am->Prop},Q' () s₁->au (aB P w) A (match b with|ah=>rule "set.scan.the-table-gave-way" |aj=>pure ()) Q' E s₁ :=
   λb s₁ Q' hq=>by cases b <;> first|exact aV hq|exact wpAny_rule hq
  have xY:=layNew_perm t es ((jy P w).hash x) (.str x tk);have xZ:=layNew_fits t es ((jy P w).hash x) (.str x tk);have hmk:=Jb t es ((jy P w).hash x) (.str x tk);generalize hL:layNew t es ((jy P w).hash x) (.str x tk)=L at xY xZ hmk ⊢;obtain⟨es1,t1,wasDummy,gave⟩:=L;dsimp only at xY xZ hmk ⊢;rw[Array.toList_push]at xY;have hel1:ElemsOf (jy P w) es1.toList:=(hel.push rV rfl).perm xY;have hsz1:es1.size=es.size+1:=by have:=xY.length_eq;simpa using this
  have hS1:∃uW,gJ (es1.toList.map (·.2)) uW/\uW.Perm (jr ks x):=by
   have p1:=xY.map (λe:Int×ai=>e.2);rw[pK]at p1;have q1:gJ (es.toList.map (·.2)++[Value.str x tk]) (ss++[x]):=by
    have gen:∀{vs:List ai}{zs:List Str},gJ vs zs->gJ (vs++[Value.str x tk]) (zs++[x]):=by
     intro vs zs hh
     induction hh with
     |nil=>exact .cons x tk .nil
     |cons y t _ ih=>exact .cons y t ih
    exact gen hS
   obtain⟨uW,r1,r2⟩:=y3 p1 q1;refine⟨uW,r1,r2.trans ?_⟩;unfold jr;rw[if_neg hx];exact hp.append_right _
  obtain⟨uW,r1,r2⟩:=hS1;have dw:jr ks x≠[]:=by unfold jr;rw[if_neg hx];simp
  have tail:∀t2:jx,t2.fits es1.size=ah->t2.led=(!ez w)->t2.plain=aj->au (aB P w) A (do
    storeSet a es1 t2
    if(!wasDummy&&t2.tooFull)=ah then do
      (match (rK t2 es1 (rM es1.size)).2.2 with|ah=>rule "set.scan.the-table-gave-way" |aj=>pure ())
      storeSet a (rK t2 es1 (rM es1.size)).1 (rK t2 es1 (rM es1.size)).2.1
      pure (aa ah)
     else pure (aa ah)) (λr s'=>∃h',r=aa ah/\s'={s with heap:=h'}/\ku a s.heap h'/\ju P w h' a (jr ks x)) E s:=by
   intro t2 hf2 lv kH;refine ax (wpAny_storeSet_of ho rfl ?_ (fits_of_scanBound (Bg (show es1.size<4090 by lia) (by decide))));have o1:=ju.put (es':=es1) (t':=t2) ho;have i3:=xL s.heap a (Obj.putSet es1 t2);split
   ·have hp3:=relayAll_perm t2 es1 (rM es1.size);have hf3:=relayAll_fits t2 es1 (rM es1.size);have hm3:=M4 t2 es1 (rM es1.size) kH;generalize hRl:rK t2 es1 (rM es1.size)=Rl at hp3 hf3 hm3 ⊢;obtain⟨es2,t3,gave2⟩:=Rl;dsimp only at hp3 hf3 hm3 ⊢;have hsz2:es2.size=es1.size:=by have:=hp3.length_eq;simpa using this
    refine ax (hgw _ ?_);refine ax (wpAny_storeSet_of o1 rfl ?_ (fits_of_scanBound (Bg (show es2.size<4090 by lia) (by decide))));obtain⟨ss2,u1,u2⟩:=y3 (hp3.map (λe:Int×ai=>e.2)) r1;refine aV ⟨_,rfl,rfl,i3.trans (xL _ a _),⟨es2,_,t3,ss2,ju.put o1,u1,u2.trans r2,hel1.perm hp3,∅,hf3,hm3.1.trans lv,λ_=>hm3.2⟩⟩
   ·exact aV ⟨_,rfl,rfl,i3,⟨es1,_,t2,uW,o1,r1,r2,hel1,∅,hf2,lv,λ_=>kH⟩⟩
  have Ho:t1.led=(!ez w):=hmk.1.trans pR;refine ax (hgw _ ?_);split
  ·refine ax ?_;rw[hashByValue_scannable 8 (x:=.str x tk) rfl];refine aV ?_;have hk:plainKind (.str x tk)=aj:=rfl;rw[hk];simp only[xM,if_false];refine aQ (tail {t1 with plain:=aj} (SetTable.fits_plain_off xZ) Ho rfl) λr s' ⟨h',e1,e2,e3,e4⟩=>?_;subst e1 e2;exact aV (h h' _ e3 e4)
  ·rename_i hpl1;refine ax (aV ?_);simp only[if_true];refine aQ (tail t1 xZ Ho (by simpa using hpl1)) λr s' ⟨h',e1,e2,e3,e4⟩=>?_;subst e1 e2;exact aV (h h' _ e3 e4)
end
def met(val:Nat->Str)(i:Nat):List Str:=((cW i).map val).foldl jr []
theorem Fe(val:Nat->Str)(i:Nat):met val (i+1)=jr (met val i) (val i):=by unfold met;rw[uC,pK,List.foldl_append];rfl
theorem Ef(val:Nat->Str){i:Nat}:∀{j:Nat},i<=j->(met val i).length<=(met val j).length
 |0,h=>by rw[show i=0 by lia];exact bt _
 |j+1,h=>by
  by_cases e:i=j+1
  ·subst e;exact bt _
  ·refine dP (Ef val (j:=j) ∅) ?_;rw[Fe];unfold jr;split
   ·exact bt _
   ·simp
section
variable{P:ba}{w:aP}{A:a6}{R:Result->am->Prop}{I:ac}{fp wr:List ac}{G:Array GenState->Array GenState->Prop}{n:Nat}{Pv:Nat->ai->Prop}{St:Nat->am->Prop}
theorem KQ(W:WalksS P w A.in1 I fp wr G n Pv St)(S:ac)(hSf:S∉fp){J:Nat->aE->Prop}(hJ:∀i h h',J i h->(∀b o,b∉wr->h.get? b=aa o->h'.get? b=aa o)->J i h')(kF:∀(i:Nat) (v:ai) (s:am) (E:ai->am->Prop) (Q:Bool->am->Prop),i<n->Pv i v->J i s.heap->(∀h' tk b,s.toks<=tk->ku S s.heap h'->J (i+1) h'->Q b {s with heap:=h',toks:=tk})->au (aB P w) A.in1 (setAdd S v) Q E s):∀(k i:Nat) (s:am),n-i=k->i<=n->St i s->J i s.heap -> (∀s',Moved (S::wr) G s s'->J n s'.heap->R (.ok (.ret .none)) s')->jU (aB P w) A (.builtin "set.update.loop" ⟨[.ref S,.ref I],[]⟩) R s:=by
 have hSw:S∉wr:=λh=>hSf (W.sub _ h);have oa:∀b∈wr,b∈S::wr:=λb hb=>jw _ hb;intro k
 induction k with
 |zero=>
  intro i s hk hi fY hS hR;obtain rfl:i=n:=∅
  refine uD QX ?_;rw[xN GY _];show au _ A.in1 (pyNext (.ref I) >>= _) _ _ s;refine ax (W.done s _ _ fY λs' hm=>?_);show au _ A.in1 (ret Value.none) _ _ s';exact aV (hR s' (hm.mono oa) (hJ _ _ _ hS λb o hb e=>hm.heap b o hb e))
 |succ k ih=>
  intro i s hk hi fY hS hR;have bO:i<n:=∅
  refine uD QX ?_;rw[xN GY _];show au _ A.in1 (pyNext (.ref I) >>= _) _ _ s;refine ax (W.item i s _ _ bO fY λv s' hP hst' hm=>?_);show au _ A.in1 (pA [v] (setAdd S v) >>= _) _ _ s';refine ax (pF (kF i v s' _ _ bO hP (hJ _ _ _ hS λb o hb e=>hm.heap b o hb e) λh' tk b uQ hsb lw=>?_));refine aV ⟨Bp GY _,ih (i+1) _ ∅ bO (W.frame _ s' _ _ hst' uQ λb hb o e=>?_) lw λs'' hm'' hS''=>?_⟩
  ·rw[hsb.2 b (λh:b=S=>hSf (by rw[←h];exact hb))];exact e
  ·refine hR s'' (Moved.trans W.gtrans ((hm.mono oa).then_heap uQ λb o hb e=>?_) hm'') hS'';rw[hsb.2 b (λh:b=S=>hb (by rw[h];exact mi))];exact e
end
section
variable{P:ba}{w:aP}{A:a6}{E:ai->am->Prop}{s:am}
theorem Ln(a:ai){Q:ai->am->Prop} (h:ju P w (s.heap.push {cls:=.type "set",dict:=af,data:=.set #[] 0 (.fresh 0 0 (!ez w))}) s.heap.objs.size [] -> Q (.ref s.heap.objs.size) {s with heap:=s.heap.push {cls:=.type "set",dict:=af,data:=.set #[] 0 (.fresh 0 0 (!ez w))}}):jU (aB P w) A (.call (.builtin "set.__new__") ⟨[.type "set",a],[]⟩) (wants Q E) s:=by
 refine codeAny_of_tree ?_;show au _ A.in1 (do GZ "set.__new__" ⟨[.type "set",a],[]⟩;again (.builtin "set.__new__" ⟨[.type "set",a],[]⟩)) _ _ s;refine ax (wpAny_of_eq (PySem.F.newCall_set_1 a) (aV ⟨Bp F.plain_set_new _,uD F.entry_set_new ?_⟩));rw[xN F.plain_set_new _];unfold Builtin.«set.__new__» Builtin.Frozenset.newClass;have oa:=sub_set_self;obtain⟨hp,g,d,tk,os⟩:=s;dsimp only
 wp_walk
 refine rN (aV ?_);dsimp only;simp only[newObj];refine ax (wpAny_alloc (aV ?_));refine aV (h ⟨#[],0,_,[],dq _ rfl,.nil,Bo _,λe he=>by simp at he,by decide,rfl,rfl,λh=>absurd rfl h⟩)
end
end L2
set_option maxHeartbeats 8000000
namespace L2
theorem HR:entryFor table "set.__iter__" = aa Builtin.«frozenset.__iter__»:=entryFor_alias (id':="frozenset.__iter__") (by kernel_rfl) rfl (by decide +kernel) (by kernel_rfl)
theorem Dj:Slot "set_iterator" "__next__" "set_iterator.__next__" :=
 .of (owner:="set_iterator") (n:="__next__") (by rw[typeLookup_type,builtinLookup_eq_fast];kernel_rfl) (by decide +kernel) (by decide +kernel) (by decide +kernel) (by first|exact .inl (by decide +kernel)|exact .inr (by decide +kernel)) (by rw[isSubtype_type];kernel_rfl)
theorem Lz:entryFor table "set_iterator.__next__" = aa Builtin.«set_iterator.__next__»:=entryFor_of_fast (by kernel_rfl)
theorem MF(a:ai):argsOk "set_iterator.__next__" ⟨[a],[]⟩:=by unfold argsOk;kernel_rfl
theorem BV:Slot "set_iterator" "__iter__" "set_iterator.__iter__" :=
 .of (owner:="set_iterator") (n:="__iter__") (by rw[typeLookup_type,builtinLookup_eq_fast];kernel_rfl) (by decide +kernel) (by decide +kernel) (by decide +kernel) (by first|exact .inl (by decide +kernel)|exact .inr (by decide +kernel)) (by rw[isSubtype_type];kernel_rfl)
theorem ME:entryFor table "set_iterator.__iter__" = aa Builtin.«dict_keyiterator.__iter__»:=entryFor_alias (id':="dict_keyiterator.__iter__") (by kernel_rfl) rfl (by decide +kernel) (by kernel_rfl)
theorem Hy(a:ai):argsOk "set_iterator.__iter__" ⟨[a],[]⟩:=by unfold argsOk;kernel_rfl
def iK(first:ai)(i:Nat)(a:ac)(n ep:Nat):Obj:={cls:=.type "set_iterator",data:=.fields #[first,.int i 0,.ref a,.int n 0,.int ep 0]}
section
variable{P:ba}{w:aP}{A:a6}{E:ai->am->Prop}{s:am}
theorem u0{I a:ac}{first:ai}{i n ep:Nat}{Q:ai->am->Prop}(h:s.heap.get? I=aa (iK first i a n ep))(hQ:Q (.ref I) s):au (aB P w) A (nO (.ref I)) Q E s:=by
 have hT:s.TypeIs (.ref I) "set_iterator":=⟨_,h,rfl⟩
 refine wpAny_pyIter_slot hT BV (xE BV hT ME ?_ (Hy _));show au _ _ (ret (.ref I)) _ _ s;exact aV ⟨_,rfl,"set_iterator",_,hT,Dj.lookup,hQ⟩
theorem oM{I a:ac}{first:ai}{i:Nat}{es:Array (Int×ai)}{ep:Nat}{t:jx}{Q:Option ai->am->Prop}(ha:s.heap.get? a=aa {cls:=.type "set",dict:=af,data:=.set es ep t})(hf:t.fits es.size=ah)(hI:s.heap.get? I=aa (iK first i a es.size ep))(h:au (aB P w) A.in1 (if let .int slot _:=first then do
    match ←mE a slot.toNat (i:Int).toNat (ep:Int).toNat with
    |some (x,next)=>do
     mF (.ref I) 0 (eL next)
     mF (.ref I) 1 (eL ((i:Int)+1))
     ret x
    |none=>do mF (.ref I) 2 .none;raiseNew (←newExc (.type "StopIteration") [])
   else do
    let aa places ←seqItems? first|unsupported "internal:set_iterator"
    match places[(i:Int).toNat]? with
    |some (.int place _)=>do
     let x ←setNextDrawn a place.toNat (ep:Int).toNat
     mF (.ref I) 1 (eL ((i:Int)+1))
     ret x
    |some _=>unsupported "internal:set_iterator"
    |none=>do mF (.ref I) 0 (eL 0);mF (.ref I) 2 .none;raiseNew (←newExc (.type "StopIteration") []))
   (λfin s'=>∃r,fin=.done (.ret r)/\Q (aa r) s') (λe s'=>au (aB P w) A (do if ←isInstance e (.type "StopIteration")then pure af else throw e) Q E s') s) :
  au (aB P w) A (pyNext (.ref I)) Q E s:=by
 have hT:s.TypeIs (.ref I) "set_iterator":=⟨_,hI,rfl⟩
 unfold pyNext;refine ax (wpAny_attempt (wpAny_callSpecial?_slot (name:=cI "__next__") hT Dj (xE Dj hT Lz ?_ (MF _))));unfold Builtin.«set_iterator.__next__» slotArgs;refine ax (aV ?_);refine ax (wpAny_fieldsOf hI rfl ?_);show au _ _ (setEntries a >>= _) _ _ s;refine ax (wpAny_setEntries_of ha rfl hf ?_);have e0:(((es.size:Nat):Int) != ((es.size:Nat):Int))=aj:=by simp
 rw[e0];simp only[xM,if_false];refine d5 ?_ (λfin s' q=>?_) (λe s' q=>q) (Q:=λfin s'=>∃r,fin=.done (.ret r)/\Q (aa r) s') (E:=λe s'=>au (aB P w) A (do if ←isInstance e (.type "StopIteration")then pure af else throw e) Q E s')
 ·exact h
 ·obtain⟨r,e1,e2⟩:=q;exact⟨r,e1,aV e2⟩
end
theorem Ay{α:Type}:∀{l:List α}{i:Nat} (h:i<l.length),(l[i]::l.eraseIdx i).Perm l
 |[],i,h=>by simp at h
 |x::r,0,h=>by simp
 |x::r,i+1,h=>by have q:=Ay (l:=r) (i:=i) (by simpa using h);simp only[List.getElem_cons_succ,List.eraseIdx_cons_succ];exact(List.Perm.swap x _ _).trans (List.Perm.cons x q)
theorem DP{α:Type}(next:Nat->Nat):∀(ft k:Nat) (left:List α) (out:Array α),ft=left.length->(pickOrder.go next ft k left out).toList.Perm (out.toList++left)
 |0,k,left,out,h=>by have:left=[]:=xK h.symm;subst this;simp[pickOrder.go]
 |ft+1,k,left,out,h=>by
  have bO:next k % left.length<left.length:=Nat.mod_lt _ ∅
  unfold pickOrder.go;rw[fL bO];dsimp only;have ih:=DP next ft (k+1) (left.eraseIdx (next k % left.length)) (out.push left[next k % left.length]) (by rw[List.length_eraseIdx,if_pos bO];lia)
  refine ih.trans ?_;rw[Array.toList_push,iU];exact G0 _ (Ay bO)
theorem Dv{α:Type}(next:Nat->Nat)(xs:Array α):(uE next xs).toList.Perm xs.toList:=by
 have:=DP next xs.size 0 xs.toList #[] (by simp)
 simpa[uE]using this
section
variable{P:ba}{w:aP}{A:a6}{E:ai->am->Prop}{s:am}
theorem NO{src:Source}{n:Nat}{Q:Nat->am->Prop}(hn:n≠0)(h:∀k d,k<n->Q k {s with drawn:=d}):au (aB P w) A (choose src n) Q E s:=λΓ p hΓ=>by unfold choose;rw[Sem.wp_choose];refine⟨hn,?_⟩;exact h _ _ (Nat.mod_lt _ (Nat.pos_of_ne_zero hn))
theorem DB{α:Type}:∀(n:Nat) (xs:List α) (s:am) (Q:List α->am->Prop),n=xs.length->(∀ys d,ys.Perm xs->Q ys {s with drawn:=d})->au (aB P w) A (drawOrder n xs) Q E s
 |0,[],s,Q,_,h=>by unfold drawOrder;exact aV (h [] s.drawn (Bo _))
 |0,x::xs,s,Q,hn,h=>by simp at hn
 |n+1,[],s,Q,hn,h=>by simp at hn
 |n+1,x::xs,s,Q,hn,h=>by unfold drawOrder;refine ax (NO (by simp) λk d hk=>?_);rw[fL hk];dsimp only;refine ax (DB n ((x::xs).eraseIdx k) _ _ (by rw[List.length_eraseIdx,if_pos hk];lia) λys d' hy=>?_);refine aV (h _ d' ?_);exact(List.Perm.cons _ hy).trans (Ay hk)
theorem vk{Q:Option ai->am->Prop}{R:Fin->am->Prop}(hh:A.handled=af)(hQ:∀h',(∀b o,s.heap.get? b=aa o->h'.get? b=aa o)->Q af {s with heap:=h'}):au (aB P w) A.in1 (do raiseNew (←newExc (.type "StopIteration") [])) R (λe s'=>au (aB P w) A (do if ←isInstance e (.type "StopIteration")then pure af else throw e) Q E s') s:=by
 refine ax ?_;simp only[newExc,newTuple];refine ax (mz ?_ (by size_fits));refine ax (m:=firstArgMember _ _) (wpAny_of_eq (a:=Value.none) (by first|rfl | (simp only[firstArgMember];rfl)) ?_);refine mz ?_ (by size_fits);simp only[raiseNew];refine ax (wpAny_handled ?_);rw[show A.in1.handled=af from hh];refine ax (aV (wpAny_throw ?_));refine ax (wpAny_isInstance (T:="StopIteration") (b:=ah) ⟨_,dq _ rfl,rfl⟩ isSubtype_stop ?_);exact aV (hQ _ λb o e=>bV _ (bV _ e))
theorem z7{I a:ac}{first f':ai}{i n ep:Nat}{Q:Unit->am->Prop}(hI:s.heap.get? I=aa (iK first i a n ep))(h:∀h',ku I s.heap h'->h'.get? I=aa (iK f' i a n ep)->Q () {s with heap:=h'}):au (aB P w) A (mF (.ref I) 0 f') Q E s:=by refine rO hI rfl (by simp[iK]) (h _ (xL ..) ?_);rw[pM _ hI (by rfl)];rfl
theorem y4{I a:ac}{first:ai}{i n ep:Nat}{Q:Unit->am->Prop}(hI:s.heap.get? I=aa (iK first i a n ep))(h:∀h',ku I s.heap h'->h'.get? I=aa (iK first (i+1) a n ep)->Q () {s with heap:=h'}):au (aB P w) A (mF (.ref I) 1 (eL ((i:Int)+1))) Q E s:=by refine rO hI rfl (by simp[iK]) (h _ (xL ..) ?_);rw[pM _ hI (by rfl)];rfl
theorem vX{I a:ac}{first:ai}{i n ep:Nat}{Q:Unit->am->Prop}(hI:s.heap.get? I=aa (iK first i a n ep))(h:∀h',ku I s.heap h'->(∃o,h'.get? I=aa o)->Q () {s with heap:=h'}):au (aB P w) A (mF (.ref I) 2 .none) Q E s:=by refine rO hI rfl (by simp[iK]) (h _ (xL ..) ⟨_,pM _ hI (by rfl)⟩)
abbrev oZ(es:Array (Int×ai))(ep:Nat)(t:jx):Obj:={cls:=.type "set",dict:=af,data:=.set es ep t}
theorem Nt{I a:ac}{es:Array (Int×ai)}{ep:Nat}{t:jx}(dw:a≠I)(hf:t.fits es.size=ah)(hb:ez w=ah)(hh:A.handled=af):Walks P w A I [I,a] [I] es.size (λi v=>((uE (w.params.setOrder a ep) es).toList.map (·.2))[i]?=aa v) (λi h=>h.get? I=aa (iK (eL 0) i a es.size ep)/\h.get? a=aa (oZ es ep t)):=by
 have hsz:(uE (w.params.setOrder a ep) es).size=es.size:=by have:=(Dv (w.params.setOrder a ep) es).length_eq;simpa using this
 have body:∀(s:am) (i:Nat) (Q:Option (ai×Nat)->am->Prop) (E:ai->am->Prop),s.heap.get? a=aa (oZ es ep t) ->
   Q (((uE (w.params.setOrder a ep) es)[i]?).map λe=>(e.2,0)) s->au (aB P w) A.in1 (mE a (0:Int).toNat (i:Int).toNat (ep:Int).toNat) Q E s:=λs i Q E ha hq=>by
  unfold mE;refine ax (rL ha rfl hf ?_);unfold xO;refine ax (ax (rN (aV ?_)));show au _ _ (if ez w=ah then _ else _) _ _ s;rw[if_pos hb];simp only[mw,bne_self_eq_false,xM,if_false];unfold setWalk;refine ax (ax (rL ha rfl hf ?_));unfold xO;refine ax (ax (rN (aV ?_)));show au _ _ (if ez w=ah then _ else _) _ _ s;rw[if_pos hb];refine ax (rN (aV (aV ?_)));exact hq
 refine⟨λb hb=>by simp at hb;simp[hb],λi h h' st k=>⟨k I (by simp) _ st.1,k a (by simp) _ st.2⟩,λi s Q E hi st hQ=>?_,λs Q E st hQ=>?_,λi s Q E st hQ=>u0 st.1 hQ⟩
 ·refine oM st.2 hf st.1 ?_;refine ax (body s i _ _ st.2 ?_);have bO:i<(uE (w.params.setOrder a ep) es).size:=∅
  rw[Bq bO];dsimp only[uF];refine ax (z7 st.1 λh1 i3 e1=>?_);refine ax (y4 (s:={s with heap:=h1}) e1 λh2 kJ e2=>?_);refine aV ⟨_,rfl,hQ _ h2 s.toks ?_ ⟨e2,?_⟩ λb o hb e=>?_⟩
  ·rw[iT];simp[Bq bO]
  ·exact(kJ.2 a dw).trans ((i3.2 a dw).trans st.2)
  ·exact(kJ.2 b (by simpa using hb)).trans ((i3.2 b (by simpa using hb)).trans e)
 ·refine oM st.2 hf st.1 ?_;refine ax (body s es.size _ _ st.2 ?_);rw[Array.getElem?_eq_none ∅];dsimp only[Option.map_none];refine ax (vX st.1 λh1 i3 _=>?_);exact vk (s:={s with heap:=h1}) hh λh2 k2=>hQ h2 s.toks λb o hb e=>k2 b o ((i3.2 b (by simpa using hb)).trans e)
theorem QO{I a T:ac}{es:Array (Int×ai)}{ep:Nat}{t:jx}{ord:List Nat}(dw:a≠I)(hT:T≠I)(hf:t.fits es.size=ah)(hp:ord.Perm (cW es.size))(hh:A.handled=af):Walks P w A I [I,a,T] [I] es.size (λi v=>(ord.filterMap λj=>(es[j]?).map (·.2))[i]?=aa v) (λi h=>h.get? I=aa (iK (.ref T) i a es.size ep)/\h.get? a=aa (oZ es ep t)/\h.get? T=aa {cls:=.type "tuple",data:=.seq (ord.map λ(k:Nat)=>eL k).toArray}):=by
 have hol:ord.length=es.size:=by simpa using hp.length_eq
 have hmem:∀j∈ord,j<es.size:=λj hj=>by simpa using hp.mem_iff.mp hj
 have fm:∀(l:List Nat),(∀j∈l,j<es.size)->∀(i j:Nat),l[i]?=aa j->∃e:Int×ai,es[j]?=aa e/\(l.filterMap λj=>(es[j]?).map (·.2))[i]?=aa e.2:=by
  intro l
  induction l with
  |nil=>intro _ i j h;simp at h
  |cons x r ih=>
   intro hl i j h;have hx:x<es.size:=hl x (mi ..);have ex:es[x]?=aa es[x]:=Bq hx;cases i with
   |zero=>simp at h;subst h;exact⟨_,ex,by rw[um,ex];rfl⟩
   |succ i=>obtain⟨e,q1,q2⟩:=ih (λj hj=>hl j (jw _ hj)) i j (by simpa using h);exact⟨e,q1,by rw[um,ex];simpa using q2⟩
 have tupR:∀(s:am) (Q:Option (Array ai)->am->Prop) (E:ai->am->Prop),s.heap.get? T=aa {cls:=.type "tuple",data:=.seq (ord.map λ(k:Nat)=>eL k).toArray}->Q (aa (ord.map λ(k:Nat)=>eL k).toArray) s->au (aB P w) A.in1 (seqItems? (.ref T)) Q E s:=λs Q E ht hq=>by exact wpAny_seqItems ht rfl hq
 refine⟨λb hb=>by simp at hb;simp[hb],λi h h' st k=>⟨k I (by simp) _ st.1,k a (by simp) _ st.2.1,k T (by simp) _ st.2.2⟩,λi s Q E hi st hQ=>?_,λs Q E st hQ=>?_,λi s Q E st hQ=>u0 st.1 hQ⟩
 ·refine oM st.2.1 hf st.1 ?_;refine ax (tupR s _ _ st.2.2 ?_);have bO:i<ord.length:=∅
  have e1:((ord.map λ(k:Nat)=>eL k).toArray)[(i:Int).toNat]?=aa (eL (ord[i]:Nat)):=by simp[bO]
  dsimp only;rw[e1];obtain⟨e,q1,q2⟩:=fm ord hmem i ord[i] (fL bO);show au _ _ (setNextDrawn a _ _ >>= _) _ _ s;refine ax ?_;unfold setNextDrawn;refine ax (rL st.2.1 rfl hf ?_);simp only[mw,bne_self_eq_false,xM,if_false];rw[q1];refine aV ?_;refine ax (y4 st.1 λh2 kJ e2=>?_);refine aV ⟨_,rfl,hQ _ h2 s.toks q2 ⟨e2,(kJ.2 a dw).trans st.2.1,(kJ.2 T hT).trans st.2.2⟩ λb o hb e=>(kJ.2 b (by simpa using hb)).trans e⟩
 ·refine oM st.2.1 hf st.1 ?_;refine ax (tupR s _ _ st.2.2 ?_);have e1:((ord.map λ(k:Nat)=>eL k).toArray)[(es.size:Int).toNat]?=af:=by simp[hol]
  dsimp only;rw[e1];refine ax (z7 st.1 λh1 i3 e1=>?_);refine ax (vX (s:={s with heap:=h1}) e1 λh2 kJ _=>?_);exact vk (s:={s with heap:=h2}) hh λh3 k3=>hQ h3 s.toks λb o hb e=>k3 b o ((kJ.2 b (by simpa using hb)).trans ((i3.2 b (by simpa using hb)).trans e))
theorem IP(j k:Nat):QY #[j] k=if j<k then 1 else 0:=by
 unfold QY;simp only[cX,eF,nX];unfold G1;simp;split
 ·rename_i h;unfold G1;simp
 ·unfold G1;simp
theorem Je{I a:ac}{es:Array (Int×ai)}{ep:Nat}{t:jx}(dw:a≠I)(hf:t.fits es.size=ah)(hb:ez w=aj)(pR:t.led=ah)(h1:es.size=1)(hh:A.handled=af):Walks P w A I [I,a] [I] 1 (λi v=>(es.toList.map (·.2))[i]?=aa v) (λi h=>h.get? I=aa (iK (eL (if i=0 then 0 else((t.place.getD 0 0:Nat):Int)+1)) i a es.size ep)/\h.get? a=aa (oZ es ep t)):=by
 have hps:t.place.size=1:=by simp only[SetTable.fits,fq,beq_iff_eq]at hf;lia
 obtain⟨j,hj⟩:∃j,t.place=#[j]:=by
  match hq:t.place,hps with
  |⟨[j]⟩,_=>exact⟨j,rfl⟩
 have gj:((t.place.getD 0 0:Nat):Int)=(j:Int):=by rw[hj];rfl
 obtain⟨e,he⟩:∃e,es=#[e]:=by
  match hq:es,h1 with
  |⟨[e]⟩,_=>exact⟨e,rfl⟩
 have body:∀(s:am) (slot:Nat) (i:Nat) (Q:Option (ai×Nat)->am->Prop) (E:ai->am->Prop),s.heap.get? a=aa (oZ es ep t) ->
   Q (if j<slot then af else aa (e.2,j+1)) s->au (aB P w) A.in1 (mE a slot i ep) Q E s:=λs slot i Q E ha hq=>by
  unfold mE;refine ax (rL ha rfl hf ?_);unfold xO;refine ax (ax (rN (aV ?_)));show au _ _ (if ez w=ah then _ else _) _ _ s;rw[if_neg (by rw[hb];decide)];refine xP (λhc=>absurd (show(!t.plain&&decide (es.size > 1))=ah from hc) (by rw[h1];simp)) (λ_=>?_);refine ax ?_;refine d5 (Q:=λ_ s'=>s'=s) (E:=E) ?_ (λ_ s' hs'=>?_) (λ_ _ x=>x)
  ·refine xP (λhc=>absurd (show(!t.led&&!es.isEmpty)=ah from hc) (by rw[pR];simp)) (λ_=>aV rfl)
  ·subst hs';rw[hj,IP,he];by_cases bO:j<slot
   ·rw[if_pos bO]at hq ⊢;exact aV hq
   ·rw[if_neg bO]at hq ⊢;exact aV hq
 refine⟨λb hb=>by simp at hb;simp[hb],λi h h' st k=>⟨k I (by simp) _ st.1,k a (by simp) _ st.2⟩,λi s Q E hi st hQ=>?_,λs Q E st hQ=>?_,λi s Q E st hQ=>u0 st.1 hQ⟩
 ·obtain rfl:i=0:=∅
  refine oM st.2 hf st.1 ?_;show au _ _ (mE a (0:Int).toNat ((0:Nat):Int).toNat (ep:Int).toNat >>= _) _ _ s;simp only[mw,Int.toNat_zero];refine ax (body s 0 0 _ _ st.2 ?_);rw[if_neg (Nat.not_lt_zero j)];dsimp only;refine ax (z7 st.1 λh1 i3 e1=>?_);refine ax (y4 (s:={s with heap:=h1}) e1 λh2 kJ e2=>?_);refine aV ⟨_,rfl,hQ _ h2 s.toks ?_ ⟨?_,?_⟩ λb o hb e=>?_⟩
  ·rw[he];rfl
  ·rw[e2,if_neg (by decide),gj];rfl
  ·exact(kJ.2 a dw).trans ((i3.2 a dw).trans st.2)
  ·exact(kJ.2 b (by simpa using hb)).trans ((i3.2 b (by simpa using hb)).trans e)
 ·refine oM st.2 hf st.1 ?_;rw[if_neg (by decide),gj];show au _ _ (mE a ((j:Int)+1).toNat ((1:Nat):Int).toNat (ep:Int).toNat >>= _) _ _ s;have e1:((j:Int)+1).toNat=j+1:=∅
  rw[e1,mw,mw];refine ax (body s (j+1) 1 _ _ st.2 ?_);rw[if_pos (kA j)];dsimp only;refine ax (vX st.1 λh1 i3 _=>?_);exact vk (s:={s with heap:=h1}) hh λh2 k2=>hQ h2 s.toks λb o hb e=>k2 b o ((i3.2 b (by simpa using hb)).trans e)
theorem E4:∀{vs:List ai}{ss:List Str} (i:Nat) (v:ai),gJ vs ss->vs[i]?=aa v->∃t,v=.str (ss.getD i kx) t
 |_,_,i,v,.nil,h=>by simp at h
 |_,_,0,v,.cons y t _,h=>by simp at h;exact⟨t,by rw[←h];rfl⟩
 |_,_,i+1,v,.cons y t hr,h=>by simp only[List.getElem?_cons_succ]at h;obtain⟨t',e⟩:=E4 i v hr h;exact⟨t',by rw[e];rfl⟩
set_option maxRecDepth 100000 in
theorem QK{l:ac}{items:Array ai}{Q:ai->am->Prop}(hh:A.handled=af)(hl:s.heap.IsList l items){J:Nat->aE->Prop}(hJ:∀i h h',J i h->(∀b o,b<=s.heap.objs.size->h.get? b=aa o->h'.get? b=aa o)->J i h') (hJ0:J 0 (s.heap.push {cls:=.type "set",dict:=af,data:=.set #[] 0 (.fresh 0 0 (!ez w))}))(kF:∀(i:Nat) (v:ai) (s1:am) (E:ai->am->Prop) (Q:Bool->am->Prop),i<items.size->items[i]?=aa v->J i s1.heap->(∀h' tk b,s1.toks<=tk->ku s.heap.objs.size s1.heap h'->J (i+1) h'->Q b {s1 with heap:=h',toks:=tk})->au (aB P w) A.in1.in1.in1 (setAdd s.heap.objs.size v) Q E s1)(h:∀(h':aE) (tk:Nat),J items.size h'->(∀b o,b<s.heap.objs.size->s.heap.get? b=aa o->h'.get? b=aa o)->Q (.ref s.heap.objs.size) {s with heap:=h',toks:=tk}):au (aB P w) A (call (.type "set") [.ref l]) Q E s:=by
 obtain⟨c,tl,hmro⟩:=F.called_set.mro;have hmade:=F.called_set.made;have oa:=F.called_set.sub;refine uw (codeAny_of_tree ?_);show au _ _ (callAny (.type "set") _) _ _ _;refine aV ⟨Code.quiet_builtin _ (by decide +kernel),uD F.entry_type_call ?_⟩;rw[Around.under_plain (weight_type_call_type "set" [.ref l] []) rfl];have h1:=F.called_set.notType;have h2:=F.called_set.canCreate;have hct:=PySem.F.typeCall_set_1 (.ref l)
 repeat any_goals (first|assumption|wp_step)
 refine nV (Ln (P:=P) (w:=w) (.ref l) (E:=E) (Q:=λobj s1=>obj=.ref s.heap.objs.size/\s1={s with heap:=s.heap.push {cls:=.type "set",dict:=af,data:=.set #[] 0 (.fresh 0 0 (!ez w))}}/\True) λS0=>⟨rfl,rfl,trivial⟩) λr s1 hr=>?_;cases r with
 |error e=>exact hr
 |ok fl=>
  cases fl with
  |ret obj=>
   obtain⟨rfl,rfl,S0⟩:=hr;have hS:=dq (h:=s.heap) (o:=({cls:=.type "set",dict:=af,data:=.set #[] 0 (.fresh 0 0 (!ez w))}:Obj));have hS':(s.heap.push {cls:=.type "set",dict:=af,data:=.set #[] 0 (.fresh 0 0 (!ez w))}).get? s.heap.objs.size=aa {cls:=.type "set",dict:=af,data:=.set #[] 0 (.fresh 0 0 (!ez w))}:=dq _ rfl;have hT:Shared.TypeIs {s with heap:=s.heap.push {cls:=.type "set",dict:=af,data:=.set #[] 0 (.fresh 0 0 (!ez w))}} (.ref s.heap.objs.size) "set":=⟨_,hS',rfl⟩
   have hli:=F.called_set.init.lookup;have hbi:=F.called_set.init.bind (.ref s.heap.objs.size)
   repeat any_goals (first|assumption|wp_step)
   refine nV (codeAny_call_builtin (R:=wants (λr s2=>r=.none/\∃h' tk,s2={s with heap:=h',toks:=tk}/\J items.size h' /\ (∀b o,b<s.heap.objs.size->s.heap.get? b=aa o->h'.get? b=aa o)) E) F.called_set.init.plain F.entry_set_init (check_set_init_1 hT ?_)) λr2 s2 hr2=>?_
   ·obtain⟨⟨ocls,odict,odata,oslots⟩,hol,pV,nl,hdl⟩:=hl;simp only at pV hdl;subst pV;subst hdl;have hol':(s.heap.push {cls:=.type "set",dict:=af,data:=.set #[] 0 (.fresh 0 0 (!ez w))}).get? l=aa {cls:=.type "list",dict:=odict,data:=.seq items nl,slots:=oslots}:=bV _ hol;have hsls:=PySem.F.sub_list_set;have hslf:=PySem.F.sub_list_frozenset;have dw:(Value.type "list" == Value.type "dict")=aj:=by decide
    have mL:(s.heap.push {cls:=.type "set",dict:=af,data:=.set #[] 0 (.fresh 0 0 (!ez w))}).IsList l items:=⟨_,hol',rfl,nl,rfl⟩
    unfold Builtin.«set.__init__» noKeywords Builtin.Frozenset.updateFrom;generalize hPI:nO=PI
    wp_walk
    subst hPI;refine GT mL (ax (wpAny_runValue ?_));have hlS:l<s.heap.objs.size:=bN hol;have hh3:A.in1.in1.in1.handled=af:=by simp[hh]
    have hsz:(s.heap.push {cls:=.type "set",dict:=af,data:=.set #[] 0 (.fresh 0 0 (!ez w))}).objs.size=s.heap.objs.size+1:=uv ..;have hneI:l≠(s.heap.push {cls:=.type "set",dict:=af,data:=.set #[] 0 (.fresh 0 0 (!ez w))}).objs.size:=by rw[hsz];exact dr (mD hlS)
    have hSf:s.heap.objs.size∉[(s.heap.push {cls:=.type "set",dict:=af,data:=.set #[] 0 (.fresh 0 0 (!ez w))}).objs.size,l]:=by rw[hsz];simp only[bQ,mG,iV,or_false,not_or];exact⟨dr (kA _),pB hlS⟩
    refine KQ ((Walks.list hh3 _ l hneI items).toS) s.heap.objs.size hSf (λi h h' hj k=>hJ i h h' hj λb o hb e=>k b o (by rw[hsz];simp only[mG];exact dr (Nat.lt_succ_of_le hb)) e) (λi v s1 E Q hi hv hj hq=>kF i v s1 E Q hi hv hj hq) (items.size-0) 0 _ ∅ (mr _)
     ⟨⟨_,dq _ rfl,rfl,rfl⟩,(mL.push _)⟩ (hJ 0 _ _ hJ0 λb o _ e=>bV _ e) ?_
    intro s' hm lw;obtain⟨h',g',d',tk',os'⟩:=s';obtain rfl:g'=s.gens:=hm.gens;obtain rfl:d'=s.drawn:=hm.drawn;obtain rfl:os'=s.os:=hm.os;show au _ _ _ _ _ _;refine aV ?_;show au _ _ (ret Value.none) _ _ _;refine aV ⟨rfl,h',tk',rfl,lw,λb o hb e=>hm.heap b o ?_ (bV _ (bV _ e))⟩;rw[hsz];simp only[bQ,mG,iV,or_false,not_or];exact⟨dr hb,dr (mD hb)⟩
   ·cases r2 with
    |error e=>exact hr2
    |ok fl2=>
     cases fl2 with
     |ret r=>
      obtain⟨rfl,h',tk,rfl,lw,hk'⟩:=hr2
      repeat any_goals (first|assumption|wp_step)
      exact h _ _ lw hk'
     |_=>exact hr2.elim
  |_=>exact hr.elim
theorem Mf{l:ac}{items:Array ai}{ss:List Str}{Q:ai->am->Prop}(hh:A.handled=af)(hl:s.heap.IsList l items)(hi:gJ items.toList ss)(hb:(met (λi=>ss.getD i kx) items.size).length<4000)(h:∀(h':aE) (tk:Nat),ju P w h' s.heap.objs.size (met (λi=>ss.getD i kx) items.size)->(∀b o,b<s.heap.objs.size->s.heap.get? b=aa o->h'.get? b=aa o)->Q (.ref s.heap.objs.size) {s with heap:=h',toks:=tk}):au (aB P w) A (call (.type "set") [.ref l]) Q E s:=by
 refine QK hh hl (J:=λi h=>ju P w h s.heap.objs.size (met (λi=>ss.getD i kx) i)) (λi h h' S k=>S.at λo e=>k _ o (bt _) e)
  ⟨#[],0,_,[],dq _ rfl,.nil,Bo _,λe he=>by simp at he,by decide,rfl,rfl,λh=>absurd rfl h⟩ (λi v s1 E Q hi' hv S q=>?_) h
 obtain⟨t,rfl⟩:=E4 i v hi (by rw[GQ];exact hv);unfold setAdd;refine pF ?_;have rV:(jy P w).is (ss.getD i kx) (.str (ss.getD i kx) t)=ah:=by show uj _ (.str _ t)=ah;simp[uj]
 refine ax ((jy P w).pyHash (k:=ss.getD i kx) rV ?_);refine Jk (s:={s1 with toks:=s1.toks+1}) S (Bj (Ef _ (pw hi')) hb) λh' b hsb lw=>?_;rw[←Fe (λi=>ss.getD i kx)]at lw;exact q h' _ b (rA _) hsb lw
end
theorem FP{n:Nat}(h:n<=4096):n<bn:=Bj h (by decide)
theorem Og:typeLookup (.type "set") "__len__" = pure (aa (.builtin "set.__len__")):=F.slot_set_len.lookup
section
variable{P:ba}{w:aP}{A:a6}{E:ai->am->Prop}{s:am}
def sV(w:aP)(h:aE)(a:ac)(es:Array (Int×ai)):Prop:=∃(ep:Nat) (t:jx),h.get? a=aa {cls:=.type "set",dict:=af,data:=.set es ep t}/\es.size<4090/\t.fits es.size=ah/\t.led=(!ez w)/\(es.size≠0->t.plain=aj)
theorem sV.at{w:aP}{h h':aE}{a:ac}{es:Array (Int×ai)}(S:sV w h a es)(k:∀o,h.get? a=aa o->h'.get? a=aa o):sV w h' a es:=by obtain⟨ep,t,e,r⟩:=S;exact⟨ep,t,k _ e,r⟩
theorem ju.e{h:aE}{a:ac}{ks:List Str}(S:ju P w h a ks):∃es ss,sV w h a es/\gJ (es.toList.map (·.2)) ss/\ss.Perm ks:=by
 obtain⟨es,ep,t,ss,ho,hS,hp,hel,hsz,hf,pR,cz⟩:=S.ex;refine⟨es,ss,⟨ep,t,ho,hsz,hf,pR,λh0=>cz λz=>h0 ?_⟩,hS,hp⟩;have e1:=hp.length_eq;have e2:ss.length=es.size:=by rw[←hS.strs];simp
 rw[z,nX]at e1;lia
structure EZ(P:ba)(w:aP)(s s':am)(a I:ac)(es:Array (Int×ai))(fp:List ac)(n:Nat)(Pv:Nat->ai->Prop)(St:Nat->aE->Prop):Prop where
 wk:∀A:a6,A.handled=af->Walks P w A I fp [I] n Pv St
 st:St 0 s'.heap
 old:∀b o,s.heap.get? b=aa o->s'.heap.get? b=aa o
 new:s.heap.objs.size<=I
 lt:∀b∈fp,b<s'.heap.objs.size
 rest:s'={s with heap:=s'.heap,drawn:=s'.drawn}
 ord:∀bb:Array ai,ItemsOf Pv bb n->bb.toList.Perm (es.toList.map (·.2))
 len:n<4090
 fps:∀b∈fp,b=a\/s.heap.objs.size<=b
theorem wm{l:List ai}{bb:Array ai}{n:Nat}(hl:l.length=n)(h:ItemsOf (λi v=>l[i]?=aa v) bb n):bb.toList=l:=by
 refine xQ λi=>?_;by_cases hi:i<n
 ·have:i<bb.size:=by rw[h.1];exact hi
  have q:=h.2 i bb[i] (Bq this);rw[q];simp[this]
 ·rw[pN (by rw[uq,h.1];lia),pN ∅]
theorem JD{I a:ac}{es:Array (Int×ai)}{ep:Nat}{t:jx}(dw:a≠I)(hf:t.fits es.size=ah)(hb:ez w=aj)(h1:es.size=0)(hh:A.handled=af):Walks P w A I [I,a] [I] 0 (λi v=>(es.toList.map (·.2))[i]?=aa v) (λi h=>h.get? I=aa (iK (eL 0) 0 a es.size ep)/\h.get? a=aa (oZ es ep t)):=by
 have he:es=#[]:=Array.eq_empty_of_size_eq_zero h1;have body:∀(s:am) (slot:Nat) (i:Nat) (Q:Option (ai×Nat)->am->Prop) (E:ai->am->Prop),s.heap.get? a=aa (oZ es ep t) ->
   Q af s->au (aB P w) A.in1 (mE a slot i ep) Q E s:=λs slot i Q E ha hq=>by
  unfold mE;refine ax (rL ha rfl hf ?_);unfold xO;refine ax (ax (rN (aV ?_)));show au _ _ (if ez w=ah then _ else _) _ _ s;rw[if_neg (by rw[hb];decide)];refine xP (λhc=>absurd (show(!t.plain&&decide (es.size > 1))=ah from hc) (by rw[h1];simp)) (λ_=>?_);refine ax ?_;refine d5 (Q:=λ_ s'=>s'=s) (E:=E) ?_ (λ_ s' hs'=>?_) (λ_ _ x=>x)
  ·refine xP (λhc=>absurd (show(!t.led&&!es.isEmpty)=ah from hc) (by rw[he];simp)) (λ_=>aV rfl)
  ·subst hs';rw[he];have e2:∀k:Nat,(#[]:Array (Int×ai))[k]?=af:=λk=>by simp
   dsimp only;rw[e2];exact aV hq
 refine⟨λb hb=>by simp at hb;simp[hb],λi h h' st k=>⟨k I (by simp) _ st.1,k a (by simp) _ st.2⟩,λi s Q E hi st hQ=>absurd hi (Nat.not_lt_zero i),λs Q E st hQ=>?_,λi s Q E st hQ=>u0 st.1 hQ⟩;refine oM st.2 hf st.1 ?_;show au _ _ (mE a (0:Int).toNat ((0:Nat):Int).toNat (ep:Int).toNat >>= _) _ _ s;simp only[mw,Int.toNat_zero];refine ax (body s 0 0 _ _ st.2 ?_);dsimp only;refine ax (vX st.1 λh1 i3 _=>?_);exact vk (s:={s with heap:=h1}) hh λh2 k2=>hQ h2 s.toks λb o hb e=>k2 b o ((i3.2 b (by simpa using hb)).trans e)
theorem LO{a:ac}{es:Array (Int×ai)}{Q:ai->am->Prop}(S:sV w s.heap a es)(h:∀s' I fp n Pv St,EZ P w s s' a I es fp n Pv St->Q (.ref I) s'):au (aB P w) A (nO (.ref a)) Q E s:=by
 obtain⟨ep,t,ho,hsz,hf,pR,cz⟩:=S;have hT:s.TypeIs (.ref a) "set":=⟨_,ho,rfl⟩
 have jI:=bN ho;refine wpAny_pyIter_slot hT F.slot_set_iter (xE F.slot_set_iter hT HR ?_ (F.args_set_iter_1 _));unfold Builtin.«frozenset.__iter__» Builtin.Frozenset.slot0 slotArgs Builtin.Frozenset.addrOf Builtin.Frozenset.sizeOf;refine ax (aV ?_);refine ax (ax (wpAny_setEntries_of ho rfl hf (aV ?_)));unfold setDrawn;refine ax (ax (rL ho rfl hf ?_));unfold xO;refine ax (ax (rN (aV ?_)));refine aV ?_;have fin:∀(first:ai) (s1:am) (fp:List ac) (n:Nat) (Pv:Nat->ai->Prop) (St:Nat->aE->Prop),s1.heap.get? a=aa {cls:=.type "set",dict:=af,data:=.set es ep t} ->
   EZ P w s {s1 with heap:=s1.heap.push (iK first 0 a es.size ep)} a s1.heap.objs.size es fp n Pv St ->
   au (aB P w) A.in1 (do
    let e ←setEpoch a
    let f ←newFields "set_iterator" [first,eL 0,Value.ref a,eL (es.size:Nat),eL (e:Nat)]
    ret f) (λfin s'=>∃v,fin=Fin.done (Flow.ret v)/\∃T' r,s'.TypeIs v T'/\typeLookup (Value.type T') (cI "__next__")=pure (aa r)/\Q v s') E s1:=λfirst s1 fp n Pv St ha W=>by
  refine ax (wpAny_setEpoch_of ha rfl hf ?_);refine ax (mz ?_);exact aV ⟨_,rfl,"set_iterator",_,⟨_,dq _ rfl,rfl⟩,Dj.lookup,h _ _ fp n Pv St W⟩
 refine xP (λhc=>?_) (λhc=>?_)
 ·have iY:(!ez w&&(!t.plain&&decide (es.size > 1)))=ah:=hc;refine ax (DB es.size (cW es.size) s _ (by simp) λys d hy=>?_);refine ax (wpAny_newTuple ?_ (hsz:=by rw[c9,hy.length_eq,GU];exact pw (FP ∅)));refine fin _ _ _ _ _ _ (bV _ ho) ⟨λA' hA=>QO (T:=s.heap.objs.size) (dr (by rw[j1];exact mD jI)) (dr (by rw[j1];exact kA _)) hf hy hA,⟨dq _ rfl,?_,?_⟩,?_,?_,?_,rfl,?_,hsz,?_⟩
  ·exact bV _ (bV _ ho)
  ·exact bV _ (dq _ rfl)
  ·exact λb o e=>bV _ (bV _ e)
  ·rw[j1];exact rA _
  ·intro b hb;simp only[bQ,iV,or_false]at hb;rw[j1,j1];rcases hb with rfl|rfl|rfl
   ·rw[j1];exact kA _
   ·exact mD (mD jI)
   ·exact mD (kA _)
  ·intro bb ln;have e0:(ys.filterMap λj=>(es[j]?).map (·.2))=(ys.filterMap λj=>es[j]?).map (·.2):=by rw[List.map_filterMap]
   have pl:(ys.filterMap λj=>es[j]?).Perm es.toList:=by have:=hy.filterMap λj=>es[j]?;rwa[filterMap_getElem?_range]at this
   rw[e0]at ln;rw[wm (by rw[c9,pl.length_eq];simp) ln];exact pl.map _
  ·intro b hb;simp only[bQ,iV,or_false]at hb;rcases hb with rfl|rfl|rfl
   ·rw[j1];exact .inr (rA _)
   ·exact .inl rfl
   ·exact .inr (bt _)
 ·have iY:¬(!ez w&&(!t.plain&&decide (es.size > 1)))=ah:=hc;refine ax (aV ?_);cases hb:ez w with
  |true=>
   refine fin _ _ _ _ _ _ ho ⟨λA' hA=>Nt (dr jI) hf hb hA,⟨dq _ rfl,bV _ ho⟩,λb o e=>bV _ e,bt _,?_,rfl,?_,hsz,λb hb=>?_⟩
   ·intro b hb;simp only[bQ,iV,or_false]at hb;rw[j1];rcases hb with rfl|rfl
    ·exact kA _
    ·exact mD jI
   ·intro bb ln;have pl:=Dv (w.params.setOrder a ep) es;rw[wm (by rw[c9,pl.length_eq];simp) ln];exact pl.map _
   ·simp only[bQ,iV,or_false]at hb;exact hb.elim (λz=>.inr (mq z.symm)) .inl
  |false=>
   have h01:es.size=1\/es.size=0:=by
    by_cases hk:es.size=0
    ·exact .inr hk
    ·rw[hb,cz hk]at iY;simp at iY;lia
   rcases h01 with h1|h1
   ·refine fin _ _ _ _ _ _ ho ⟨λA' hA=>Je (dr jI) hf hb (by rw[pR,hb];rfl) h1 hA,⟨dq _ rfl,bV _ ho⟩,λb o e=>bV _ e,bt _,?_,rfl,?_,by decide,λb hb=>?_⟩
    ·intro b hb;simp only[bQ,iV,or_false]at hb;rw[j1];rcases hb with rfl|rfl
     ·exact kA _
     ·exact mD jI
    ·intro bb ln;rw[wm (by simp[h1]) ln]
    ·simp only[bQ,iV,or_false]at hb;exact hb.elim (λz=>.inr (mq z.symm)) .inl
   ·refine fin _ _ _ _ _ _ ho ⟨λA' hA=>JD (dr jI) hf hb h1 hA,⟨dq _ rfl,bV _ ho⟩,λb o e=>bV _ e,bt _,?_,rfl,?_,by decide,λb hb=>?_⟩
    ·intro b hb;simp only[bQ,iV,or_false]at hb;rw[j1];rcases hb with rfl|rfl
     ·exact kA _
     ·exact mD jI
    ·intro bb ln;rw[wm (by simp[h1]) ln]
    ·simp only[bQ,iV,or_false]at hb;exact hb.elim (λz=>.inr (mq z.symm)) .inl
theorem Ix{a:ac}{es:Array (Int×ai)}{Q:List ai->am->Prop}(hh:A.handled=af)(S:sV w s.heap a es)(h:∀(s':am) (vs:List ai),vs.Perm (es.toList.map (·.2))->(∀b o,s.heap.get? b=aa o->s'.heap.get? b=aa o)->s'.gens=s.gens->s'.os=s.os->Q vs s'):au (aB P w) A (collect (.ref a)) Q E s:=by
 obtain⟨ep,t,ho,hsz,_⟩:=id S;have jI:=bN ho;unfold collect;refine ax (wpAny_runValue (uD F.entry_proto_collect ?_));rw[xN F.plain_proto_collect _];show au _ A.in1 (newList [] >>= λl=>again (.builtin "list.__iadd__" ⟨[l,.ref a],[]⟩)) _ _ s;refine ax (mz ?_);refine aV ⟨Bp F.plain_list_iadd _,uD F.entry_list_iadd ?_⟩;rw[xN F.plain_list_iadd _];show au _ A.in1 (Builtin.List.listExtendWith (.ref s.heap.objs.size) (.ref a) (.ref s.heap.objs.size)) _ _ _;unfold Builtin.List.listExtendWith;have hT:∀s1:am,s1.heap.get? a=aa {cls:=.type "set",dict:=af,data:=.set es ep t}->s1.TypeIs (.ref a) "set":=λs1 e=>⟨_,e,rfl⟩
 have r9:(s.heap.push {cls:=.type "list",data:=.seq ([]:List ai).toArray}).get? a=aa {cls:=.type "set",dict:=af,data:=.set es ep t}:=bV _ ho;refine ax (wpAny_typeOf (hT _ r9) ?_);have h1:Builtin.List.listSameRef (.ref s.heap.objs.size) (.ref a)=aj:=by have:¬(s.heap.objs.size=a):=pB jI;simp[Builtin.List.listSameRef,this]
 rw[if_neg (by rw[h1];decide)];refine ax (LO (S.at λo e=>bV _ e) λs2 I fp n Pv St W=>?_);have oh:=W.old a _ r9;refine ax (pF ?_);unfold Builtin.List.listLengthHint;refine ax (wpAny_specialOf (hT _ oh) Og ?_)
 wp_delta
 refine ax (wpAny_isInstance (T:="set") (b:=ah) (hT _ oh) (by rw[isSubtype_type];kernel_rfl) ?_);show au _ A.in1 (typeOf (Value.ref a) >>= _) _ _ _;refine ax (wpAny_typeOf (T:="set") (hT _ oh) ?_);refine aV ?_;rw[if_pos (by decide)];refine ax (wpAny_rule ?_);have hL:(s.heap.push {cls:=.type "list",data:=.seq ([]:List ai).toArray}).get? s.heap.objs.size=aa {cls:=.type "list",data:=.seq ([]:List ai).toArray}:=dq _ rfl;have hL2:=W.old _ _ hL;unfold Builtin.List.listTouch;refine ax (ax (listUpdate_at hL2 rfl ?_ (by decide) (by show 1<=bn+1;decide)));have hL3:=get?_update_seq hL2 (λa:Array ai=>a.push Value.none);refine listUpdate_at hL3 rfl ?_ (by show 1<=bn;decide) (by show 0<=bn+1;decide);have hL4:=get?_update_seq hL3 (λa:Array ai=>a.pop);have Hs:s.heap.objs.size∉fp:=λz=>by
  rcases W.fps _ z with q|q
  ·exact absurd jI (by rw[←q];exact fj _)
  ·rw[j1]at q;exact absurd (kA _) (Nat.not_lt.mpr q)
 have k4:∀b o,b≠s.heap.objs.size->s2.heap.get? b=aa o->(((s2.heap.update s.heap.objs.size (ux λa=>a.push Value.none)).update s.heap.objs.size (ux λa=>a.pop))).get? b=aa o:=λb o hb e=>by rw[Heap.get?_update_ne _ _ _ _ hb,Heap.get?_update_ne _ _ _ _ hb];exact e
 have st4:St 0 (((s2.heap.update s.heap.objs.size (ux λa=>a.push Value.none)).update s.heap.objs.size (ux λa=>a.pop))):=(W.wk A.in1 hh).frame 0 _ _ W.st λb hb o e=>k4 b o (λz=>Hs (z ▸ hb)) e;refine aV ⟨Bp F.plain_extend_loop _,codeAny_extend_loopS (W.wk A.in1 hh).toS (pw (FP (by have:=W.len;lia))) _ Hs _ n 0 _ _ _ rfl (mr _) st4 hL4 (ItemsOf.nil _) λs' acc' c' hm hS' ln=>?_⟩;show au _ A (load s.heap.objs.size >>= _) _ _ s';refine ax (wpAny_load hS' ?_);refine aV (h s' acc'.toList (W.ord acc' ln) (λb o e=>?_) ?_ ?_)
 ·have bO:=bN e;refine hm.heap b o (λhb=>?_) (k4 b o (dr bO) (W.old b o (bV _ e)));rcases bQ.mp hb with z|z
  ·exact absurd bO (by rw[z];exact fj _)
  ·rw[mG.mp z]at bO;have:=W.new;rw[j1]at this;exact absurd bO (Nat.not_lt.mpr (Nat.le_of_succ_le this))
 ·rw[hm.gens,W.rest]
 ·rw[hm.os,W.rest]
theorem Me{a:ac}{ks:List Str}{Q:List ai->am->Prop}(hh:A.handled=af)(S:ju P w s.heap a ks)(h:∀(s':am) (vs:List ai) (ss:List Str),gJ vs ss->ss.Perm ks->vs.length<4090->(∀b o,s.heap.get? b=aa o->s'.heap.get? b=aa o)->s'.gens=s.gens->s'.os=s.os->Q vs s'):au (aB P w) A (collect (.ref a)) Q E s:=by
 obtain⟨es,ss,S,hS,hp⟩:=S.e;have hsz:es.size<4090:=by obtain⟨_,_,_,z,_⟩:=S;exact z
 refine Ix hh S λs' vs pv k1 k2 k3=>?_;obtain⟨aL,q1,q2⟩:=y3 pv hS;exact h s' vs aL q1 (q2.trans hp) (by have:=pv.length_eq;simp at this;lia) k1 k2 k3
theorem LF{a:ac}{ks:List Str}{Q:List ai->am->Prop}(hh:A.handled=af)(S:ju P w s.heap a ks)(dw:ks≠[])(h:∀(s':am) (vs:List ai) (ss:List Str),gJ vs ss->ss.Perm ks->vs.length<4090->(∀b o,s.heap.get? b=aa o->s'.heap.get? b=aa o)->s'.gens=s.gens->s'.os=s.os->Q vs s'):au (aB P w) A (collect (.ref a)) Q E s:=Me hh S h
end
def fH(ls:List Tx):List Tx:=ls.foldl (λks x=>if x∈ks then ks else ks++[x]) []
theorem CB(ls:List Tx):met (λi=>(ls.map tS).getD i kx) ls.length=(fH ls).map tS:=by
 have gen:∀(l:List Tx) (bb:List Tx),(l.map tS).foldl jr (bb.map tS)=(l.foldl (λks x=>if x∈ks then ks else ks++[x]) bb).map tS:=by
  intro l
  induction l with
  |nil=>intro bb;rfl
  |cons x r ih=>
   intro bb;rw[cQ,nY,nY];have:jr (bb.map tS) (tS x)=(if x∈bb then bb else bb++[x]).map tS:=by
    unfold jr;have hm:tS x∈bb.map tS↔x∈bb:=by rw[cR];exact⟨λ⟨y,hy,e⟩=>by rw[←qp e];exact hy,λh=>⟨x,h,rfl⟩⟩
    by_cases h:x∈bb
    ·rw[if_pos h,if_pos (hm.mpr h)]
    ·rw[if_neg h,if_neg (λz=>h (hm.mp z)),pK];rfl
   rw[this,ih]
 have e:(cW ls.length).map (λi=>(ls.map tS).getD i kx)=ls.map tS:=by
  refine xQ λi=>?_;rw[iT];by_cases hi:i<ls.length
  ·rw[List.getElem?_range hi];simp[hi]
  ·rw[pN (by simpa using hi),pN (by simpa using hi)];rfl
 unfold met;rw[e];exact gen ls []
theorem EM(l bb:List Tx):(bb.Nodup->(l.foldl (λks x=>if x∈ks then ks else ks++[x]) bb).Nodup)/\∀x,x∈l.foldl (λks x=>if x∈ks then ks else ks++[x]) bb↔x∈bb\/x∈l:=by
 induction l generalizing bb with
 |nil=>exact⟨λh=>h,λx=>by simp⟩
 |cons y r ih=>
  rw[nY];obtain⟨h1,h2⟩:=ih (if y∈bb then bb else bb++[y]);refine⟨λh=>h1 ?_,λx=>?_⟩
  ·split
   ·exact h
   ·rename_i hy;rw[G2];exact⟨h,by simp,λa ha b hb=>by simp at hb;subst hb;exact λe=>hy (e ▸ ha)⟩
  ·rw[h2 x,bQ];split
   ·rename_i hy;constructor
    ·rintro(h|h)
     ·exact .inl h
     ·exact .inr (.inr h)
    ·rintro(h|rfl|h)
     ·exact .inl h
     ·exact .inl hy
     ·exact .inr h
   ·rw[nM,mG,or_assoc]
theorem Qk(l:List Tx):(fH l).Nodup:=(EM l []).1 List.nodup_nil
theorem s_(l:List Tx)(x:Tx):x∈fH l↔x∈l:=by rw[fH,(EM l []).2 x];simp
theorem N6(l:List Tx):(fH l).length<=l.length:=by
 have gen:∀(l bb:List Tx),(l.foldl (λks x=>if x∈ks then ks else ks++[x]) bb).length<=bb.length+l.length:=by
  intro l
  induction l with
  |nil=>intro bb;simp
  |cons x r ih=>intro bb;rw[nY];refine dP (ih _) ?_;split <;> simp <;> lia
 simpa[fH]using gen l []
section
variable{X:Cx}
def oB(X:Cx)(a:ac)(ls:List Tx):HO:=.ext λh=>ju X.prog X.w h a (ls.map tS)
theorem K7(hc:X.calm=ah):eG X (.type "set") (λxs H Q=>∃(p:ac) (ls:List Tx),xs=[.ref p]/\bZ X.K H p (dZ ls)/\(fH ls).length<4000/\∀a,H a=af->Q (.ref a) (upd H a (oB X a (fH ls)))):=by
 intro ae s σ H xs us Q I r h;obtain⟨p,ls,rfl,hq,h60,q⟩:=h;obtain⟨u,rfl,ru⟩:=vals1 r;cases ru;obtain⟨its,rv,pl,hz⟩:=I.list hq;have hl:=rv.length;rw[An]at hl;refine Mf (P:=X.prog) (w:=X.w) (I.ok.hd hc) pl.isList (by simpa using yd rv) (by rw[cX,show its.length=ls.length by lia,CB,c9];exact h60) λh' tk S k=>?_;have S':ju X.prog X.w h' s.heap.objs.size ((fH ls).map tS):=by
  have e:its.toArray.size=ls.length:=by rw[cX];lia
  rw[e,CB]at S;exact S
 refine⟨.ref s.heap.objs.size,_,I.laid (t':=tk) (o:=oB X s.heap.objs.size (fH ls)) (λb o e=>k b o (bN e) e) (bt _) ?_,rfl,q _ I.fresh⟩;obtain⟨es,ep,t,ss,e,_⟩:=S'.ex;exact⟨S',⟨_,e⟩,λh1 h2 q1 q2=>q1.at q2⟩
theorem ID(hc:X.calm=ah):eG X (.builtin "sorted") (λxs H Q=>∃(p:ac) (ls:List Tx),xs=[.ref p]/\H p=aa (oB X p ls)/\ls≠[]/\ls.length<64/\∀l,H l=af->Q (.ref l) (upd H l (.lst (dZ (bf ls))))):=by
 intro ae s σ H xs us Q I r h;obtain⟨p,ls,rfl,hq,dw,jC,q⟩:=h;obtain⟨u,rfl,ru⟩:=vals1 r;cases ru;obtain⟨S,_,_⟩:=(show dy X.prog X.w H s.heap p (oB X p ls)from I.hok p _ hq)
 refine zf (LF (u_ (I.ok.hd hc)) S (by cases ls with|nil=>exact absurd rfl dw|cons=>simp) λs' vs ss a1 a2 a3 k eg eo=>?_);obtain⟨h',g',d',t',o'⟩:=s';obtain rfl:g'=s.gens:=eg;obtain rfl:o'=s.os:=eo;have I1:Inv X ae σ H {s with heap:=h',drawn:=d',toks:=t'}:=by have:=Inv.call (ch:=[]) I (g':=s.gens) (d':=d') (t':=t') (Un.kept (fs:=fD X.stack) (ex:=[]) k) (I.hok.kept k) I.bare (λb hb=>absurd hb (by simp));exact this
 refine⟨ss,a1,by have e1:=a1.length;have e2:=a2.length_eq;rw[c9]at e2;lia,λh2 out aL e k2 ho b1 b2 b3=>?_⟩;exact⟨.ref _,_,Inv.sorted (s1:={s with heap:=h',drawn:=d',toks:=t'}) (ss:=ls.map tS) I1 rfl jC k2 ho b1 (b2.trans a2) b3,rfl,q _ I1.fresh⟩
end
structure cp(K:aq)(mg:Str->Option ai)(x:Str)(st:aR):Prop where
 ex:∃f fd,mg x=aa (.ref f)/\kT K x x st f fd
theorem Fc{H:Hp}{p:ac}{o:HO}(h:H p=af):Same H (upd H p o):=λb u q=>by rw[bh (lL q h)];exact q
theorem wG{α:Type}{xs:List α}{k:Int}(h0:0<=k)(h:k.toNat<xs.length):f_ xs k=aa xs[k.toNat]:=by
 have e:((k.toNat:Nat):Int)=k:=∅
 have q:=Om (xs:=xs) (j:=k.toNat) (v:=xs[k.toNat]) (by simp[h]);rwa[e]at q
def Do(N:List Str)(sc scope:dO)(x:Str)(N':List Str)(cap:List Nat):Bool :=
 decide (scope.kind=.function)&&scope.names.all (λy=>(decide (y.2≠.cell)||decide (scope.names.lookup y.1=aa .cell))&&(decide (y.2≠.local)||decide (scope.names.lookup y.1=aa .local))&&(decide (y.2≠.free)||decide (sc.names.lookup y.1=aa .cell)||decide (sc.names.lookup y.1=aa .free)))
 && (decide (scope.names.lookup x=aa .local)||decide (scope.names.lookup x=aa .cell))&&decide N'.Nodup&&decide (N'.head?=aa x)&&decide (N'.length=cap.length+1)&&(cap.zip N'.tail).all λp=>(decide (N[p.1]?=aa p.2)&&decide (scope.names.lookup p.2=aa .free))||(decide (N.length<=p.1)&&decide (scope.names.lookup p.2=aa .local))
theorem iL.of{X:Cx}{scope:dO}{x:Str}{N':List Str}{cap:List Nat}(N:List Str)(sc:dO)(hN:X.N=N)(hsc:X.env.scope=sc)(h:Do N sc scope x N' cap=ah):iL X scope x N' cap:=by
 subst hN hsc;simp only[Do,fq,decide_eq_true_eq,mC,Bn]at h;obtain⟨⟨⟨⟨⟨⟨h1,h2⟩,h3⟩,h4⟩,h5⟩,h6⟩,h7⟩:=h;refine⟨h1,λy hy e=>(h2 y hy).1.1.elim (λz=>absurd e z) λz=>z,λy hy e=>?_,h3,λy hy e=>?_,h4,h5,h6,λi j y e1 e2=>?_⟩
 ·rcases(h2 y hy).1.2 with z|z
  ·exact absurd e z
  ·exact z
 ·rcases(h2 y hy).2 with(z|z)|z
  ·exact absurd e z
  ·exact .inl z
  ·exact .inr z
 ·have hm:(j,y)∈cap.zip N'.tail:=by
   refine List.mem_iff_getElem?.mpr ⟨i,?_⟩;rw[List.getElem?_zip_eq_some];refine⟨e2,?_⟩;rw[←List.drop_one,G3,Nat.add_comm];exact e1
  exact h7 _ hm
theorem AI(a b:Tx):dU (tV a) (tV b)=decide (a=b):=by show(tS a == tS b)=_;rw[mn];simp only[beq_iff_eq,decide_eq_true_eq];exact⟨qp,λh=>by rw[h]⟩
theorem JE(ls:List Tx)(x:Tx):((dZ ls).countP λz=>dU z (tV x))=ls.count x:=by unfold dZ List.count;rw[List.countP_map];refine List.countP_congr λy _=>?_;simp only[Function.comp_apply,AI,decide_eq_true_eq,beq_iff_eq]
end L2
namespace Pu
open L2
abbrev St:=L2.St
inductive PV where
 |non|bl (b:Bool)|int (i:Int)|str (x:Tx)|tup (xs:List PV)|lst (xs:List PV)|raw (v:V)|exc (c:ai)
def lN(a:ac)(c:ai):HO:=.ext λh=>∃o vs,h.get? a=aa o/\o.cls=c/\o.data=.fields vs/\o.dict=af
def bC:Nat:=1000000
theorem kf:bC<=bn:=by rw[nQ];decide
def cy:HO->Prop
 |.lst _=>True
 |.dK _=>True
 |.dT _=>True
 |.ins _ _ _=>True
 |.own _=>True
 |_=>False
mutual
def aU(K:aq)(H:Hp)(F:ac->Prop):PV->V->Prop
 |.non,v=>v=.non
 |.bl b,v=>v=.bl b
 |.int i,v=>v=.int i
 |.str x,v=>v=tV x/\x.length<=bC
 |.tup xs,v=>∃a vs,v=.ref a/\H a=aa (.tup vs)/\bj K H F xs vs
 |.lst xs,v=>∃a vs,v=.ref a/\Rd H a (.lst vs)/\F a/\bj K H F xs vs
 |.raw u,v=>v=u
 |.exc c,v=>∃a,v=.ref a/\H a=aa (lN a c)
def bj(K:aq)(H:Hp)(F:ac->Prop):List PV->List V->Prop
 |[],vs=>vs=[]
 |x::xs,vs=>∃v r,vs=v::r/\aU K H F x v/\bj K H F xs r
end
section
variable{K:aq}{H H':Hp}{F F':ac->Prop}
mutual
theorem aU.mono(hF:∀a,F a->F' a)(hL:∀a xs,F a->Rd H a (.lst xs)->Rd H' a (.lst xs))(hT:∀a o,H a=aa o->¬cy o->H' a=aa o):∀(x:PV) (v:V),aU K H F x v->aU K H' F' x v
 |.non,_,h=>h
 |.bl _,_,h=>h
 |.int _,_,h=>h
 |.str _,_,h=>h
 |.raw _,_,h=>h
 |.exc _,_,⟨a,e,h⟩=>⟨a,e,hT a _ h id⟩
 |.tup xs,_,⟨a,vs,e,h1,h2⟩=>⟨a,vs,e,hT a _ h1 id,bj.mono hF hL hT xs vs h2⟩
 |.lst xs,_,⟨a,vs,e,h1,h0,h2⟩=>⟨a,vs,e,hL a vs h0 h1,hF a h0,bj.mono hF hL hT xs vs h2⟩
theorem bj.mono(hF:∀a,F a->F' a)(hL:∀a xs,F a->Rd H a (.lst xs)->Rd H' a (.lst xs))(hT:∀a o,H a=aa o->¬cy o->H' a=aa o):∀(xs:List PV) (vs:List V),bj K H F xs vs->bj K H' F' xs vs
 |[],_,h=>h
 |x::xs,_,⟨v,r,e,h1,h2⟩=>⟨v,r,e,aU.mono hF hL hT x v h1,bj.mono hF hL hT xs r h2⟩
end
theorem bj.len:∀{xs:List PV}{vs:List V},bj K H F xs vs->vs.length=xs.length
 |[],_,h=>by rw[show _=[] from h];rfl
 |_::_,_,⟨_,_,e,_,h2⟩=>by rw[e,eF,eF,bj.len h2]
theorem bj.get:∀{xs:List PV}{vs:List V}{i:Nat}{x:PV},bj K H F xs vs->xs[i]?=aa x->∃v,vs[i]?=aa v/\aU K H F x v
 |[],_,_,_,_,e=>by simp at e
 |x::xs,_,0,y,⟨v,r,e,h1,_⟩,q=>by simp at q;subst q;subst e;exact⟨v,rfl,h1⟩
 |x::xs,_,i+1,y,⟨v,r,e,_,h2⟩,q=>by obtain⟨w,a,b⟩:=bj.get (i:=i) (x:=y) h2 (by simpa using q);subst e;exact⟨w,by simpa using a,b⟩
theorem bj.back:∀{xs:List PV}{vs:List V}{i:Nat}{v:V},bj K H F xs vs->vs[i]?=aa v->∃x,xs[i]?=aa x/\aU K H F x v
 |[],_,_,_,h,e=>by rw[show _=[] from h]at e;simp at e
 |x::xs,_,0,y,⟨v,r,e,h1,_⟩,q=>by subst e;simp at q;subst q;exact⟨x,rfl,h1⟩
 |x::xs,_,i+1,y,⟨v,r,e,_,h2⟩,q=>by subst e;obtain⟨w,a,b⟩:=bj.back (i:=i) (v:=y) h2 (by simpa using q);exact⟨w,by simpa using a,b⟩
theorem bj.app:∀{xs ys:List PV}{vs ws:List V},bj K H F xs vs->bj K H F ys ws->bj K H F (xs++ys) (vs++ws)
 |[],_,_,_,h,g=>by rw[show _=[] from h];exact g
 |x::xs,_,_,_,⟨v,r,e,h1,h2⟩,g=>by subst e;exact⟨v,_,rfl,h1,bj.app h2 g⟩
theorem bj.one{x:PV}{v:V}(h:aU K H F x v):bj K H F [x] [v]:=⟨v,[],rfl,h,rfl⟩
theorem bj.drop:∀(n:Nat) {xs:List PV}{vs:List V},bj K H F xs vs->bj K H F (xs.drop n) (vs.drop n)
 |0,_,_,h=>h
 |_+1,[],_,h=>by rw[show _=[] from h];rfl
 |n+1,_::_,_,⟨_,_,e,_,h2⟩=>by subst e;exact bj.drop n h2
theorem bj.take:∀(n:Nat) {xs:List PV}{vs:List V},bj K H F xs vs->bj K H F (xs.take n) (vs.take n)
 |0,_,_,_=>by rw[List.take_zero,List.take_zero];rfl
 |_+1,[],_,h=>by rw[show _=[] from h];rfl
 |n+1,_::_,_,⟨v,_,e,h1,h2⟩=>by subst e;exact⟨v,_,rfl,h1,bj.take n h2⟩
end
structure bd(O O' F F':ac->Prop)(H H':Hp):Prop where
 fro:∀a,F a->F' a
 keep:∀b o,H b=aa o->¬O b->H' b=aa o
 there:∀b o,H b=aa o->∃o',H' b=aa o'
 fnew:∀a,F' a->F a\/H a=af\/O a
 onew:∀a,O' a->O a\/H a=af
theorem bd.refl(O F:ac->Prop)(H:Hp):bd O O F F H H:=⟨λ_ h=>h,λ_ _ h _=>h,λ_ o h=>⟨o,h⟩,λ_ h=>.inl h,λ_ h=>.inl h⟩
theorem bd.trans{O O1 O2 F F1 F2:ac->Prop}{H H1 H2:Hp}(g:bd O O1 F F1 H H1)(k:bd O1 O2 F1 F2 H1 H2):bd O O2 F F2 H H2 where
 fro:=λa h=>k.fro a (g.fro a h)
 keep:=λb o h n=>k.keep b o (g.keep b o h n) λz=>(g.onew b z).elim n λq=>by rw[q]at h;cases h
 there:=λb o h=>let ⟨o',h'⟩:=g.there b o h;k.there b o' h'
 fnew:=λa h=>by
  have back:H1 a=af->H a=af\/O a:=λz=>by
   cases q:H a with
   |none=>exact .inl rfl
   |some o=>obtain⟨o',h'⟩:=g.there a o q;rw[z]at h';cases h'
  rcases k.fnew a h with z|z|z
  ·exact g.fnew a z
  ·exact .inr (back z)
  ·exact .inr ((g.onew a z).symm)
 onew:=λa h=>by
  rcases k.onew a h with z|z
  ·exact g.onew a z
  ·cases q:H a with
   |none=>exact .inr rfl
   |some o=>obtain⟨o',h'⟩:=g.there a o q;rw[z]at h';cases h'
def jo(O F:ac->Prop)(H:Hp):Prop:=∀b,O b->¬F b/\∃o,H b=aa o/\cy o
section
variable{K:aq}{O O' F F':ac->Prop}{H H':Hp}
theorem bd.imm(g:bd O O' F F' H H')(f:jo O F H){a:ac}{o:HO}(h:H a=aa o)(n:¬cy o):H' a=aa o :=
 g.keep _ _ h λz=>by
  obtain⟨_,o',e',n'⟩:=f a z;rw[h]at e';cases e';exact n n'
theorem bd.lst(g:bd O O' F F' H H')(f:jo O F H){a:ac}{xs:List V}(hF:F a)(h:Rd H a (.lst xs)):Rd H' a (.lst xs):=by
 have no:¬O a:=λz=>(f a z).1 hF;rcases h with h|⟨o,h⟩
 ·exact .inl (g.keep _ _ h no)
 ·exact .inr ⟨o,g.keep _ _ h no⟩
theorem aU.grow(g:bd O O' F F' H H')(f:jo O F H){x:PV}{v:V}(h:aU K H F x v):aU K H' F' x v:=aU.mono g.fro (λ_ _ hF q=>g.lst f hF q) (λ_ _ q n=>g.imm f q n) x v h
theorem bj.grow(g:bd O O' F F' H H')(f:jo O F H){x:List PV}{v:List V}(h:bj K H F x v):bj K H' F' x v:=bj.mono g.fro (λ_ _ hF q=>g.lst f hF q) (λ_ _ q n=>g.imm f q n) x v h
end
theorem _root_.L2.Same.rd{H H':Hp}{a:ac}{u:HO}(e:Same H H')(h:Rd H a u):Rd H' a u:=h.elim (λz=>.inl (e _ _ z)) λ⟨o,z⟩=>.inr ⟨o,e _ _ z⟩
structure Al(F F':ac->Prop)(H H':Hp):Prop where
 fro:∀a,F a->F' a
 same:Same H H'
 fnew:∀a,F' a->F a\/(H a=af/\∃o,H' a=aa o)
theorem Al.refl(F:ac->Prop)(H:Hp):Al F F H H:=⟨λ_ h=>h,Same.refl H,λ_ h=>.inl h⟩
theorem Al.grow{F F' O:ac->Prop}{H H':Hp}(a:Al F F' H H'):bd O O F F' H H' :=⟨a.fro,λb o h _=>a.same b o h,λb o h=>⟨o,a.same b o h⟩,λb h=>(a.fnew b h).imp id λz=>.inl z.1,λ_ h=>.inl h⟩
theorem Al.rep{K:aq}{F F':ac->Prop}{H H':Hp}(a:Al F F' H H'){x:PV}{v:V}(h:aU K H F x v):aU K H' F' x v:=aU.mono a.fro (λ_ _ _ q=>a.same.rd q) (λ_ _ q _=>a.same _ _ q) x v h
theorem Al.reps{K:aq}{F F':ac->Prop}{H H':Hp}(a:Al F F' H H'){x:List PV}{v:List V}(h:bj K H F x v):bj K H' F' x v:=bj.mono a.fro (λ_ _ _ q=>a.same.rd q) (λ_ _ q _=>a.same _ _ q) x v h
theorem Al.trans{F F1 F2:ac->Prop}{H H1 H2:Hp}(a:Al F F1 H H1)(b:Al F1 F2 H1 H2):Al F F2 H H2 :=
 ⟨λc h=>b.fro c (a.fro c h),a.same.trans b.same,λc h=>by
  rcases b.fnew c h with z|⟨z,w⟩
  ·rcases a.fnew c z with y|⟨y,o,q⟩
   ·exact .inl y
   ·exact .inr ⟨y,o,b.same _ _ q⟩
  ·exact .inr ⟨a.same.free z,w⟩⟩
theorem Al.new{F:ac->Prop}{H:Hp}{l:ac}{o:HO}(h:H l=af):Al F (λa=>F a\/a=l) H (upd H l o) :=⟨λ_ h=>.inl h,Fc h,λa z=>z.imp id λe=>by subst e;exact⟨h,o,upd_same⟩⟩
theorem Al.new0{F:ac->Prop}{H:Hp}{l:ac}{o:HO}(h:H l=af):Al F F H (upd H l o):=⟨λ_ h=>h,Fc h,λa z=>.inl z⟩
inductive PO where
 |lst (xs:List PV)|dK (kvs:List (aO×PV))|lls (jk:List (List PV))|ins (C:ac) (fs:List (Str×PV))|dT (kvs:List (List aO×PV))|inl (C:ac) (fs:List (Str×PV)) (y:Str) (xs:List PV)
def fQ:PO->Bool
 |.lls _=>aj
 |.inl ..=>aj
 |_=>ah
inductive Slot where
 |none|val (v:PV)|own (o:PO)
abbrev ag:=List Slot
def gW(K:aq)(H:Hp)(F:ac->Prop)(kvs:List (aO×PV))(ws:List (aO×V)):Prop:=lj (λ(p:aO×PV) (q:aO×V)=>p.1=q.1/\aU K H F p.2 q.2) kvs ws
def g_(K:aq)(H:Hp)(F:ac->Prop)(fs:List (Str×PV))(ws:List (Str×V)):Prop:=lj (λ(p:Str×PV) (q:Str×V)=>p.1=q.1/\aU K H F p.2 q.2) fs ws
def wV(K:aq)(H:Hp)(F:ac->Prop)(kvs:List (List aO×PV))(ws:List (List aO×V)):Prop:=lj (λ(p:List aO×PV) (q:List aO×V)=>p.1=q.1/\aU K H F p.2 q.2) kvs ws
def xj(K:aq)(H:Hp)(F:ac->Prop)(jk:List (List PV))(as:List ac):Prop:=lj (λ(xs:List PV) (b:ac)=>∃vs,H b=aa (.lst vs)/\bj K H F xs vs) jk as
def dJ(K:aq)(H:Hp)(F:ac->Prop)(po:PO)(a:ac)(S:ac->Prop):Prop :=
 match po with
 |.lst xs=>(∃vs,H a=aa (.lst vs)/\bj K H F xs vs)/\∀b,S b↔b=a
 |.dK kvs=>(∃ws,H a=aa (.dK ws)/\gW K H F kvs ws)/\∀b,S b↔b=a
 |.lls jk=>∃as,H a=aa (.lst (as.map .ref))/\xj K H F jk as/\as.Nodup/\a∉as/\∀b,S b↔b=a\/b∈as
 |.ins C fs=>(∃dx ws,H a=aa (.ins C dx ws)/\g_ K H F fs ws)/\∀b,S b↔b=a
 |.dT kvs=>(∃ws,H a=aa (.dT ws)/\wV K H F kvs ws)/\∀b,S b↔b=a
 |.inl C fs y xs=>∃dx ws b vs,H a=aa (.ins C dx (ws++[(y,.ref b)]))/\g_ K H F fs ws/\fs.lookup y=af/\H b=aa (.lst vs)/\bj K H F xs vs/\a≠b/\∀c,S c↔c=a\/c=b
structure aI(K:aq)(F:ac->Prop)(S:Nat->ac->Prop)(ε:ag)(σ:St)(H:Hp):Prop where
 len:ε.length=σ.length
 ex:∀a,F a->∃o,H a=aa o
 val:∀(i:Nat) (pv:PV),ε[i]?=aa (.val pv)->∃v,σ[i]?=aa (aa v)/\aU K H F pv v
 own:∀(i:Nat) (po:PO),ε[i]?=aa (.own po)->∃a,σ[i]?=aa (aa (.ref a))/\dJ K H F po a (S i)
 foot:∀(i:Nat) (b:ac),S i b->(∃po,ε[i]?=aa (.own po))/\¬F b/\∃o,H b=aa o/\cy o
 dist:∀(i j:Nat) (b:ac),S i b->S j b->i=j
def U(S:Nat->ac->Prop)(b:ac):Prop:=∃i,S i b
section
variable{K:aq}{F F':ac->Prop}{S:Nat->ac->Prop}{ε:ag}{σ:St}{H H':Hp}
theorem aI.fit(r:aI K F S ε σ H):jo (U S) F H:=λb ⟨i,h⟩=>(r.foot i b h).2
theorem gW.mono{kvs:List (aO×PV)}{ws:List (aO×V)}(hF:∀x v,aU K H F x v->aU K H' F' x v)(h:gW K H F kvs ws):gW K H' F' kvs ws:=by
 unfold gW at h ⊢
 induction h with
 |nil=>exact .nil
 |cons r _ ih=>exact .cons ⟨r.1,hF _ _ r.2⟩ ih
theorem g_.mono{fs:List (Str×PV)}{ws:List (Str×V)}(hF:∀x v,aU K H F x v->aU K H' F' x v)(h:g_ K H F fs ws):g_ K H' F' fs ws:=by
 unfold g_ at h ⊢
 induction h with
 |nil=>exact .nil
 |cons r _ ih=>exact .cons ⟨r.1,hF _ _ r.2⟩ ih
theorem wV.mono{kvs:List (List aO×PV)}{ws:List (List aO×V)}(hF:∀x v,aU K H F x v->aU K H' F' x v)(h:wV K H F kvs ws):wV K H' F' kvs ws:=by
 unfold wV at h ⊢
 induction h with
 |nil=>exact .nil
 |cons r _ ih=>exact .cons ⟨r.1,hF _ _ r.2⟩ ih
theorem xj.mono{jk:List (List PV)}{as:List ac}(uX:∀x v,bj K H F x v->bj K H' F' x v)(ha:∀b o,b∈as->H b=aa o->H' b=aa o)(h:xj K H F jk as):xj K H' F' jk as:=by
 unfold xj at h ⊢
 induction h with
 |nil=>exact .nil
 |cons r _ ih=>obtain⟨vs,h1,h2⟩:=r;exact .cons ⟨vs,ha _ _ (by simp) h1,uX _ _ h2⟩ (ih λb o hb=>ha b o (by simp[hb]))
theorem dJ.mono{po:PO}{a:ac}{Sa:ac->Prop}(hF:∀x v,aU K H F x v->aU K H' F' x v)(uX:∀x v,bj K H F x v->bj K H' F' x v)(ha:∀b o,Sa b->H b=aa o->H' b=aa o)(h:dJ K H F po a Sa):dJ K H' F' po a Sa:=by
 cases po with
 |lst xs=>obtain⟨⟨vs,e,q⟩,w⟩:=h;exact⟨⟨vs,ha a _ ((w a).mpr rfl) e,uX _ _ q⟩,w⟩
 |dK kvs=>obtain⟨⟨ws,e,q⟩,w⟩:=h;exact⟨⟨ws,ha a _ ((w a).mpr rfl) e,q.mono hF⟩,w⟩
 |lls jk=>obtain⟨as,e,q,n1,n2,w⟩:=h;exact⟨as,ha a _ ((w a).mpr (.inl rfl)) e,q.mono uX λb o hb=>ha b o ((w b).mpr (.inr hb)),n1,n2,w⟩
 |ins C fs=>obtain⟨⟨dx,ws,e,q⟩,w⟩:=h;exact⟨⟨dx,ws,ha a _ ((w a).mpr rfl) e,q.mono hF⟩,w⟩
 |dT kvs=>obtain⟨⟨ws,e,q⟩,w⟩:=h;exact⟨⟨ws,ha a _ ((w a).mpr rfl) e,q.mono hF⟩,w⟩
 |inl C fs y xs=>obtain⟨dx,ws,b,vs,e,q,n,e2,q2,ne,w⟩:=h;exact⟨dx,ws,b,vs,ha a _ ((w a).mpr (.inl rfl)) e,q.mono hF,n,ha b _ ((w b).mpr (.inr rfl)) e2,uX _ _ q2,ne,w⟩
theorem aI.al(r:aI K F S ε σ H)(a:Al F F' H H'):aI K F' S ε σ H' where
 len:=r.len
 ex:=λb h=>(a.fnew b h).elim (λz=>let ⟨o,q⟩:=r.ex b z;⟨o,a.same _ _ q⟩) λz=>z.2
 val:=λi pv e=>let ⟨v,h1,h2⟩:=r.val i pv e;⟨v,h1,a.rep h2⟩
 own:=λi po e=>let ⟨b,h1,h2⟩:=r.own i po e;⟨b,h1,h2.mono (λ_ _ q=>a.rep q) (λ_ _ q=>a.reps q) λc o _ q=>a.same _ _ q⟩
 foot:=λi b h=>by
  obtain⟨h1,h2,o,h3,h4⟩:=r.foot i b h;refine⟨h1,λz=>?_,o,a.same _ _ h3,h4⟩;rcases a.fnew b z with y|⟨y,_⟩
  ·exact h2 y
  ·rw[h3]at y;cases y
 dist:=r.dist
end
inductive R(α:Type) where
 |ok (a:α) (ε:ag)|er (c:ai) (ε:ag)|no
def R.bind{α β:Type}(r:R α)(k:α->ag->R β):R β:=match r with
 |.ok a ε=>k a ε
 |.er c ε=>.er c ε
 |.no=>.no
def aC{α:Type}(o:Option α)(ε:ag):R α:=match o with
 |some a=>.ok a ε
 |none=>.no
@[simp] theorem R.bind_ok{α β:Type}(a:α)(ε:ag)(k:α->ag->R β):(R.ok a ε).bind k=k a ε:=rfl
@[simp] theorem R.bind_er{α β:Type}(c:ai)(ε:ag)(k:α->ag->R β):(R.er c ε:R α).bind k=.er c ε:=rfl
@[simp] theorem R.bind_no{α β:Type}(k:α->ag->R β):(R.no:R α).bind k=.no:=rfl
@[simp] theorem bw{α:Type}(a:α)(ε:ag):aC (aa a) ε=.ok a ε:=rfl
@[simp] theorem Rp{α:Type}(ε:ag):aC (af:Option α) ε=.no:=rfl
def Ok(K:aq)(E:XK)(σ:St)(F:ac->Prop)(S:Nat->ac->Prop)(H:Hp){α:Type}(r:R α)(C:α->ag->(ac->Prop)->(Nat->ac->Prop)->Hp->Prop):Prop:=match r with
 |.ok a ε'=>∀F' S' H',aI K F' S' ε' σ H'->bd (U S) (U S') F F' H H'->C a ε' F' S' H'
 |.er c ε'=>∀x F' S' H',aI K F' S' ε' σ H'->bd (U S) (U S') F F' H H'->E c x H'
 |.no=>False
section
variable{K:aq}{E:XK}{σ:St}{F:ac->Prop}{S:Nat->ac->Prop}{H:Hp}{α β:Type}{C C':α->ag->(ac->Prop)->(Nat->ac->Prop)->Hp->Prop}{D:β->ag->(ac->Prop)->(Nat->ac->Prop)->Hp->Prop}
theorem Ok.imp{r:R α}(h:Ok K E σ F S H r C)(f:∀a ε' F' S' H',aI K F' S' ε' σ H'->bd (U S) (U S') F F' H H'->C a ε' F' S' H'->C' a ε' F' S' H'):Ok K E σ F S H r C':=by
 cases r with
 |ok a ε'=>exact λF' S' H' r g=>f a ε' F' S' H' r g (h F' S' H' r g)
 |er c ε'=>exact h
 |no=>exact h
theorem Ok.from{r:R β}{F1:ac->Prop}{S1:Nat->ac->Prop}{H1:Hp}(h:Ok K E σ F S H r D)(g:bd (U S) (U S1) F F1 H H1):Ok K E σ F1 S1 H1 r D:=by
 cases r with
 |ok a ε'=>exact λF' S' H' r' g'=>h F' S' H' r' (g.trans g')
 |er c ε'=>exact λx F' S' H' r' g'=>h x F' S' H' r' (g.trans g')
 |no=>exact h
theorem Ok.bind{r:R α}{k:α->ag->R β}(h:Ok K E σ F S H (r.bind k) D):Ok K E σ F S H r (λa ε1 F1 S1 H1=>Ok K E σ F1 S1 H1 (k a ε1) D):=by
 cases r with
 |ok a ε'=>exact λF' S' H' r g=>Ok.from h g
 |er c ε'=>exact h
 |no=>exact h
end
structure Bx(p:Prop):Prop where
 run:p
def f9(X:Cx)(e:aw):TE:=λσ H Q=>Bx (∀ae s,Inv X ae σ H s->au (aB X.prog X.w) X.A (aG e X.env) (EP X ae σ Q) X.xe s)
def yo(X:Cx)(e:aw):TT:=λσ H Q=>Bx (∀ae s,Inv X ae σ H s->au (aB X.prog X.w) X.A (mj e X.env (aG e X.env)) (TP X ae σ Q) X.xe s)
def wpS(X:Cx)(st:aR):TS:=λD σ H=>Bx (∀ae s,Inv X ae σ H s->au (aB X.prog X.w) X.A (exec st X.env) (SP X ae D) X.xe s)
def oN(X:Cx)(st:List aR):TS:=λD σ H=>Bx (∀ae s,Inv X ae σ H s->au (aB X.prog X.w) X.A (execs st X.env) (SP X ae D) X.xe s)
section
variable{X:Cx}{e:aw}{st:aR}{sts:List aR}
theorem bB:PE X e (f9 X e):=λae s _ _ _ I h=>h.run ae s I
theorem lS:PT X e (yo X e):=λae s _ _ _ I h=>h.run ae s I
theorem y0:PS X st (wpS X st):=λae s _ _ _ I h=>h.run ae s I
theorem o8:ko X sts (oN X sts):=λae s _ _ _ I h=>h.run ae s I
theorem bJ{t:TE}(h:PE X e t){σ:St}{H:Hp}{Q:VK}(q:t σ H Q):f9 X e σ H Q:=⟨λae s I=>h ae s σ H Q I q⟩
theorem pc{t:TT}(h:PT X e t){σ:St}{H:Hp}{Q:Bool->Hp->Prop}(q:t σ H Q):yo X e σ H Q:=⟨λae s I=>h ae s σ H Q I q⟩
theorem fI{t:TS}(h:PS X st t){σ:St}{H:Hp}{D:ki}(q:t D σ H):wpS X st D σ H:=⟨λae s I=>h ae s σ H D I q⟩
theorem wM{t:TS}(h:ko X sts t){σ:St}{H:Hp}{D:ki}(q:t D σ H):oN X sts D σ H:=⟨λae s I=>h ae s σ H D I q⟩
end
def DE(X:Cx)(E:XK)(e:aw)(d:ag->R PV):Prop :=
 ∀F S ε σ H Q,aI X.K F S ε σ H->Ok X.K E σ F S H (d ε) (λpv _ F' _ H'=>∀v,aU X.K H' F' pv v->Q v H')->f9 X e σ H Q
def DN(X:Cx)(E:XK)(e:aw)(d:ag->R PO):Prop :=
 ∀F S ε σ H Q,aI X.K F S ε σ H->Ok X.K E σ F S H (d ε) (λpo _ F' S' H'=>∀a Sa,dJ X.K H' F' po a Sa->(∀b,Sa b->H b=af/\¬F' b/\¬U S' b/\∃o,H' b=aa o/\cy o)->Q (.ref a) H')->f9 X e σ H Q
def DT(X:Cx)(E:XK)(e:aw)(d:ag->R Bool):Prop :=
 ∀F S ε σ H Q,aI X.K F S ε σ H->Ok X.K E σ F S H (d ε) (λb _ _ _ H'=>Q b H')->yo X e σ H Q
end Pu
namespace Pu
open L2
section
variable{X:Cx}{E:XK}{a b c:aw}{da db dc:ag->R PV}{pos:Pos}
def dC(pv:PV):ag->R PV:=λε=>.ok pv ε
theorem aZ{i j pos}:DE X E (.Constant (.int i) j pos) (dC (.int i)):=λF S ε σ H Q r h=>bJ Qc (h F S H r (bd.refl ..) _ rfl)
theorem kh{i j pos}:DE X E (.Constant (.bool i) j pos) (dC (.bl i)):=λF S ε σ H Q r h=>bJ Nd (h F S H r (bd.refl ..) _ rfl)
theorem mR{j pos}:DE X E (.Constant .none j pos) (dC .non):=λF S ε σ H Q r h=>bJ Nx (h F S H r (bd.refl ..) _ rfl)
theorem dH(l:Tx){x:Str}{j pos}(hx:x=tS l:=by decide +kernel)(hl:l.length<=bC:=by decide):DE X E (.Constant (.str x) j pos) (dC (.str l)):=λF S ε σ H Q r h=>bJ Md (h F S H r (bd.refl ..) _ (by rw[hx];exact⟨rfl,hl⟩))
def dV(i:Nat):ag->R PV:=λε=>match ε[i]? with
 |some (.val pv)=>.ok pv ε
 |_=>.no
theorem ao(i:Nat){x:Str}{pos:Pos}(hN:X.N[i]?=aa x:=by rfl)(hv:cx X.env.scope x:=by first|exact Or.inl rfl|exact Or.inr (Or.inl rfl)|exact Or.inr (Or.inr rfl))(hd:(x == ("__debug__" : Str))=aj:=by decide)(a8:(x == ("__classdict__" : Str))=aj:=by decide):DE X E (.Name x pos) (dV i):=λF S ε σ H Q r h=>by
 unfold dV at h;split at h
 ·rename_i p e;obtain⟨v,e1,e2⟩:=r.val i p e;exact bJ (cF hN hv hd a8) ⟨v,e1,h F S H r (bd.refl ..) v e2⟩
 ·exact h.elim
theorem wW{x:Str}{i:Int}{pos:Pos}(h:∃t,X.mg x=aa (.int i t))(hg:Gl X x:=by rfl)(hd:(x == ("__debug__" : Str))=aj:=by decide):DE X E (.Name x pos) (dC (.int i)):=λF S ε σ H Q r q=>by obtain⟨t,e⟩:=h;exact bJ (zV (v:=.int i) hg e ⟨t,rfl⟩ hd) (q F S H r (bd.refl ..) _ rfl)
theorem qV{x:Str}{l:Tx}{pos:Pos}(h:∃t,X.mg x=aa (.str (tS l) t))(hg:Gl X x:=by rfl)(hl:l.length<=bC:=by decide)(hd:(x == ("__debug__" : Str))=aj:=by decide):DE X E (.Name x pos) (dC (.str l)):=λF S ε σ H Q r q=>by obtain⟨t,e⟩:=h;exact bJ (zV (v:=tV l) hg e ⟨t,rfl⟩ hd) (q F S H r (bd.refl ..) _ ⟨rfl,hl⟩)
def aI.frz{K:aq}{F:ac->Prop}{S:Nat->ac->Prop}{ε:ag}{σ:St}{H:Hp}{i:Nat}{xs:List PV}(r:aI K F S ε σ H)(e:ε[i]?=aa (.own (.lst xs))):∃a F' S',aI K F' S' (ε.set i (.val (.lst xs))) σ H/\bd (U S) (U S') F F' H H/\σ[i]?=aa (aa (.ref a))/\aU K H F' (.lst xs) (.ref a):=by
 obtain⟨a,e1,⟨vs,ha,hr⟩,hS⟩:=r.own i _ e;have hi:i<ε.length:=(cO.mp e).1;have sub:∀b,F b->F b\/b=a:=λb h=>.inl h;have mono:∀x v,aU K H F x v->aU K H (λb=>F b\/b=a) x v:=aU.mono sub (λ_ _ _ q=>q) (λ_ _ q _=>q);have monos:∀x v,bj K H F x v->bj K H (λb=>F b\/b=a) x v:=bj.mono sub (λ_ _ _ q=>q) (λ_ _ q _=>q);have rp:aU K H (λb=>F b\/b=a) (.lst xs) (.ref a):=⟨a,vs,rfl,.inl ha,.inr rfl,monos _ _ hr⟩
 refine⟨a,λb=>F b\/b=a,λj b=>S j b/\j≠i,⟨by rw[gK];exact r.len,λb h=>?_,λj pv q=>?_,λj po q=>?_,λj b h=>?_,λj k b h1 h2=>r.dist j k b h1.1 h2.1⟩,?_,e1,rp⟩
 ·rcases h with h|rfl
  ·exact r.ex b h
  ·exact⟨_,ha⟩
 ·by_cases hj:i=j
  ·subst hj;rw[cP hi]at q;cases q;exact⟨_,e1,rp⟩
  ·rw[cu hj]at q;obtain⟨v,q1,q2⟩:=r.val j pv q;exact⟨v,q1,mono _ _ q2⟩
 ·by_cases hj:i=j
  ·subst hj;rw[cP hi]at q;cases q
  ·rw[cu hj]at q;obtain⟨v,q1,q2⟩:=r.own j po q;refine⟨v,q1,?_⟩;have q3:=q2.mono (H':=H) mono monos λ_ _ _ z=>z;have eS:(λb=>S j b/\j≠i)=S j:=by funext b;simp[c8 hj]
   rw[eS];exact q3
 ·obtain⟨⟨po,q1⟩,q2,q3⟩:=r.foot j b h.1;refine⟨⟨po,by rw[cu (c8 h.2)];exact q1⟩,λz=>?_,q3⟩;rcases z with z|rfl
  ·exact q2 z
  ·exact h.2 (r.dist j i b h.1 ((hS b).mpr rfl))
 ·refine⟨λ_ h=>.inl h,λb o h _=>h,λb o h=>⟨o,h⟩,λb h=>?_,λb ⟨j,h⟩=>.inl ⟨j,h.1⟩⟩;rcases h with h|rfl
  ·exact .inl h
  ·exact .inr (.inr ⟨i,(hS b).mpr rfl⟩)
def dM(i:Nat):ag->R PV:=λε=>match ε[i]? with
 |some (.own (.lst xs))=>.ok (.lst xs) (ε.set i (.val (.lst xs)))
 |_=>.no
theorem xg(i:Nat){x:Str}{pos:Pos}(hN:X.N[i]?=aa x:=by rfl)(hv:cx X.env.scope x:=by first|exact Or.inl rfl|exact Or.inr (Or.inl rfl)|exact Or.inr (Or.inr rfl))(hd:(x == ("__debug__" : Str))=aj:=by decide)(a8:(x == ("__classdict__" : Str))=aj:=by decide):DE X E (.Name x pos) (dM i):=λF S ε σ H Q r h=>by
 unfold dM at h;split at h
 ·rename_i p e;obtain⟨a,F',S',r',g,e1,e2⟩:=r.frz e;exact bJ (cF hN hv hd a8) ⟨_,e1,h F' S' H r' g _ e2⟩
 ·exact h.elim
def P2(K:aq)(r:R2)(f:PV->PV->Option PV):Prop:=∀(F:ac->Prop) (H:Hp) (x y:PV) (v u:V) (Q:VK) (pv:PV),aU K H F x v->aU K H F y u->f x y=aa pv->(∀w F' H',Al F F' H H'->aU K H' F' pv w->Q w H')->r v u H Q
def d2(f:PV->PV->Option PV)(da db:ag->R PV):ag->R PV:=λε=>(da ε).bind λx ε1=>(db ε1).bind λy ε2=>aC (f x y) ε2
theorem wY{r:R2}{f:PV->PV->Option PV}(hp:P2 X.K r f)(ha:DE X E a da)(hb:DE X E b db){F:ac->Prop}{S:Nat->ac->Prop}{ε:ag}{σ:St}{H:Hp}{Q:VK}(rl:aI X.K F S ε σ H)(h:Ok X.K E σ F S H (d2 f da db ε) (λpv _ F' _ H'=>∀v,aU X.K H' F' pv v->Q v H')):f9 X a σ H λx H1=>f9 X b σ H1 λy H2=>r x y H2 Q:=by
 refine ha F S ε σ H _ rl ((Ok.bind h).imp λx ε1 F1 S1 H1 r1 g1 h1 v rv=>?_);refine hb F1 S1 ε1 σ H1 _ r1 ((Ok.bind h1).imp λy ε2 F2 S2 H2 r2 g2 h2 u ru=>?_);cases e:f x y with
 |none=>rw[e]at h2;exact h2.elim
 |some pv=>rw[e]at h2;exact hp F2 H2 x y v u Q pv (rv.grow g2 r1.fit) ru e λw F' H' al rw'=>h2 F' S2 H' (r2.al al) al.grow w rw'
theorem b0{op:Operator}{r:R2}{f:PV->PV->Option PV}(ho:bY X (jT op) r)(hp:P2 X.K r f)(ha:DE X E a da)(hb:DE X E b db):DE X E (.BinOp a op b pos) (d2 f da db):=λF S ε σ H Q rl h=>bJ (BM ho bB bB) (wY hp ha hb rl h)
theorem lf{op:CmpOp}{r:R2}{f:PV->PV->Option PV}(ho:bY X (d7 op) r)(hp:P2 X.K r f)(ha:DE X E a da)(hb:DE X E b db)(hm:ml op b=aj):DE X E (.Compare a [op] [b] pos) (d2 f da db):=λF S ε σ H Q rl h=>bJ (Oq ho bB bB hm) (wY hp ha hb rl h)
def lD:PV->Option Bool
 |.bl b=>aa b
 |_=>af
def dB(d:ag->R PV):ag->R Bool:=λε=>(d ε).bind λx ε1=>aC (lD x) ε1
theorem FX{K:aq}{H:Hp}{F:ac->Prop}{x:PV}{v:V}{k:Bool}(h:aU K H F x v)(e:lD x=aa k):v=.bl k:=by
 cases x <;> simp[lD]at e;subst e;exact h
theorem oz{F:ac->Prop}{S:Nat->ac->Prop}{ε:ag}{σ:St}{H:Hp}{Q:Bool->Hp->Prop}{d:ag->R PV}(h:Ok X.K E σ F S H (dB d ε) (λk _ _ _ H'=>Q k H')):Ok X.K E σ F S H (d ε) (λpv _ F' _ H'=>∀v,aU X.K H' F' pv v->∃k,v=.bl k/\Q k H'):=by
 refine(Ok.bind h).imp λx ε1 F1 S1 H1 r1 g1 h1 v rv=>?_;cases e:lD x with
 |none=>rw[e]at h1;exact h1.elim
 |some k=>rw[e]at h1;exact⟨k,FX rv e,h1 F1 S1 H1 r1 (bd.refl ..)⟩
theorem c_{op:CmpOp}{r:R2}{f:PV->PV->Option PV}(ho:bY X (d7 op) r)(hp:P2 X.K r f)(ha:DE X E a da)(hb:DE X E b db)(hm:ml op b=aj):DT X E (.Compare a [op] [b] pos) (dB (d2 f da db)):=λF S ε σ H Q rl h=>pc (za ho bB bB hm) (wY (Q:=λx H'=>∃k,x=.bl k/\Q k H') hp ha hb rl (oz h))
theorem jS{e:aw}{d:ag->R PV}(hd:DE X E e d)(he:∀fX,mj e X.env fX=(do let v ←fX;standAt e.pos;pA [v] (truthy v)):=by intro _;rfl):DT X E e (dB d):=λF S ε σ H Q rl h=>pc (Ox bB he) (hd F S ε σ H _ rl (oz h))
def m9(f g:PV->PV->Option PV)(da db dc:ag->R PV):ag->R PV:=λε=>(da ε).bind λx ε1=>(db ε1).bind λy ε2=>(aC ((f x y).bind lD) ε2).bind λk ε2=>
 match k with
 |true=>(dc ε2).bind λz ε3=>aC (g y z) ε3
 |false=>.ok (.bl aj) ε2
theorem FK{r r':R2}{f g:PV->PV->Option PV}(hp:P2 X.K r f)(gY:P2 X.K r' g)(ha:DE X E a da)(hb:DE X E b db)(hc:DE X E c dc){F:ac->Prop}{S:Nat->ac->Prop}{ε:ag}{σ:St}{H:Hp}{Q:VK}(rl:aI X.K F S ε σ H)(h:Ok X.K E σ F S H (m9 f g da db dc ε) (λpv _ F' _ H'=>∀v,aU X.K H' F' pv v->Q v H')):yP r r' (f9 X a) (f9 X b) (f9 X c) σ H Q:=by
 refine ha F S ε σ H _ rl ((Ok.bind h).imp λx ε1 F1 S1 H1 r1 g1 h1 v rv=>?_);refine hb F1 S1 ε1 σ H1 _ r1 ((Ok.bind h1).imp λy ε2 F2 S2 H2 r2 g2 h2 u ru=>?_);cases e:f x y with
 |none=>rw[e]at h2;exact h2.elim
 |some pv=>
  rw[e]at h2;refine hp F2 H2 x y v u _ pv (rv.grow g2 r1.fit) ru e λw F' H' al rw'=>?_;cases e2:lD pv with
  |none=>rw[jj,e2]at h2;exact h2.elim
  |some k=>
   rw[jj,e2]at h2;refine⟨k,FX rw' e2,?_⟩;have r3:=r2.al al;cases k with
   |false=>exact lJ (Ok.from h2 al.grow F' S2 H' r3 (bd.refl ..) _ rfl)
   |true=>
    have h3:Ok X.K E σ F2 S2 H2 ((dc ε2).bind λz ε3=>aC (g y z) ε3) (λpv _ F' _ H'=>∀v,aU X.K H' F' pv v->Q v H'):=h2;refine lV (hc F' S2 ε2 σ H' _ r3 ((Ok.bind (Ok.from h3 al.grow)).imp λz ε4 F4 S4 H4 r4 g4 h4 u4 ru4=>?_));cases e4:g y z with
    |none=>rw[e4]at h4;exact h4.elim
    |some pz=>rw[e4]at h4;exact gY F4 H4 y z u u4 Q pz ((al.rep ru).grow g4 r3.fit) ru4 e4 λw5 F5 H5 al5 rw5=>h4 F5 S4 H5 (r4.al al5) al5.grow w5 rw5
theorem Qg{op op':CmpOp}{r r':R2}{f g:PV->PV->Option PV}(ho:bY X (d7 op) r)(iX:bY X (d7 op') r')(hp:P2 X.K r f)(gY:P2 X.K r' g)(ha:DE X E a da)(hb:DE X E b db)(hc:DE X E c dc)(hm:lastMarks [op,op'] [b,c]=aj:=by with_unfolding_all rfl):DE X E (.Compare a [op,op'] [b,c] pos) (m9 f g da db dc):=λF S ε σ H Q rl h=>bJ (Np ho iX bB bB bB hm) (FK hp gY ha hb hc rl h)
theorem Ju{op op':CmpOp}{r r':R2}{f g:PV->PV->Option PV}(ho:bY X (d7 op) r)(iX:bY X (d7 op') r')(hp:P2 X.K r f)(gY:P2 X.K r' g)(ha:DE X E a da)(hb:DE X E b db)(hc:DE X E c dc)(hm:lastMarks [op,op'] [b,c]=aj:=by with_unfolding_all rfl):DT X E (.Compare a [op,op'] [b,c] pos) (dB (m9 f g da db dc)):=λF S ε σ H Q rl h=>pc (NY ho iX bB bB bB hm) (FK (Q:=λx H'=>∃k,x=.bl k/\Q k H') hp gY ha hb hc rl (oz h))
variable{ta tb:ag->R Bool}{rest:List aw}
def DW(X:Cx)(E:XK)(e:aw)(d:ag->R Bool):Prop:=∀F S ε σ H Q,aI X.K F S ε σ H->Ok X.K E σ F S H (d ε) (λb _ _ _ H'=>Q b H')->∀(fX:Sem ai) ae s,Inv X ae σ H s->au (aB X.prog X.w) X.A (mj e X.env fX) (TP X ae σ Q) X.xe s
def J_(X:Cx)(e:aw):TT:=λσ H Q=>∀(fX:Sem ai) ae s,Inv X ae σ H s->au (aB X.prog X.w) X.A (mj e X.env fX) (TP X ae σ Q) X.xe s
theorem FM{e:aw}:PW X e (J_ X e):=λfX ae s _ _ _ I h=>h fX ae s I
theorem DW.dt{e:aw}{d:ag->R Bool}(h:DW X E e d):DT X E e d:=λF S ε σ H Q rl q=>⟨λae s I=>h F S ε σ H Q rl q _ ae s I⟩
def j5(ta tb:ag->R Bool):ag->R Bool:=λε=>(ta ε).bind λk ε1=>match k with
 |true=>tb ε1
 |false=>.ok aj ε1
def fu(ta tb:ag->R Bool):ag->R Bool:=λε=>(ta ε).bind λk ε1=>match k with
 |true=>.ok ah ε1
 |false=>tb ε1
def fO(ta:ag->R Bool):ag->R Bool:=λε=>(ta ε).bind λk ε1=>.ok (!k) ε1
theorem B2(h:DT X E a ta):DW X E (.BoolOp .And [a] pos) ta:=λF S ε σ H Q rl q fX ae s I=>Nb lS fX ae s σ H Q I (h F S ε σ H Q rl q)
theorem qg(h:DT X E a ta):DW X E (.BoolOp .Or [a] pos) ta:=λF S ε σ H Q rl q fX ae s I=>LP lS fX ae s σ H Q I (h F S ε σ H Q rl q)
theorem D8(ha:DT X E a ta)(hb:DW X E (.BoolOp .And (b::rest) pos) tb):DW X E (.BoolOp .And (a::b::rest) pos) (j5 ta tb):=λF S ε σ H Q rl q fX ae s I=>by
 refine LD lS FM fX ae s σ H Q I (ha F S ε σ H _ rl ((Ok.bind q).imp λk ε1 F1 S1 H1 r1 g1 h1=>?_));cases k with
 |true=>exact lV (hb F1 S1 ε1 σ H1 Q r1 h1)
 |false=>exact lJ (h1 F1 S1 H1 r1 (bd.refl ..))
theorem oE(ha:DT X E a ta)(hb:DW X E (.BoolOp .Or (b::rest) pos) tb):DW X E (.BoolOp .Or (a::b::rest) pos) (fu ta tb):=λF S ε σ H Q rl q fX ae s I=>by
 refine No lS FM fX ae s σ H Q I (ha F S ε σ H _ rl ((Ok.bind q).imp λk ε1 F1 S1 H1 r1 g1 h1=>?_));cases k with
 |true=>exact lV (h1 F1 S1 H1 r1 (bd.refl ..))
 |false=>exact lJ (hb F1 S1 ε1 σ H1 Q r1 h1)
theorem j6(ha:DT X E a ta):DT X E (.UnaryOp .Not a pos) (fO ta):=λF S ε σ H Q rl q=>pc (JO lS) (ha F S ε σ H _ rl ((Ok.bind q).imp λk ε1 F1 S1 H1 r1 g1 h1=>h1 F1 S1 H1 r1 (bd.refl ..)))
def gx(da db:ag->R PV):ag->R PV:=λε=>(dB da ε).bind λk ε1=>match k with
 |true=>db ε1
 |false=>.ok (.bl aj) ε1
def zS(da db:ag->R PV):ag->R PV:=λε=>(dB da ε).bind λk ε1=>match k with
 |true=>.ok (.bl ah) ε1
 |false=>db ε1
def t6(da:ag->R PV):ag->R PV:=λε=>(dB da ε).bind λk ε1=>.ok (.bl (!k)) ε1
theorem FL{d:ag->R PV}{β:Type}{D:β->ag->(ac->Prop)->(Nat->ac->Prop)->Hp->Prop}{k:Bool->ag->R β}{F:ac->Prop}{S:Nat->ac->Prop}{ε:ag}{σ:St}{H:Hp}{P:Bool->Hp->Prop}(h:Ok X.K E σ F S H ((dB d ε).bind k) D) (f:∀c ε1 F1 S1 H1,aI X.K F1 S1 ε1 σ H1->bd (U S) (U S1) F F1 H H1->Ok X.K E σ F1 S1 H1 (k c ε1) D->P c H1):Ok X.K E σ F S H (d ε) (λpv _ F' _ H'=>∀v,aU X.K H' F' pv v->∃c,v=.bl c/\P c H'):=by have h2:=(Ok.bind h).imp (C':=λc ε1 F1 S1 H1=>P c H1) λc ε1 F1 S1 H1 r1 g1 h1=>f c ε1 F1 S1 H1 r1 g1 h1;exact oz h2
theorem p_{op}{d:ag->R PV}(h:DE X E a d):DE X E (.BoolOp op [a] pos) d:=λF S ε σ H Q rl q=>bJ (KS bB) (h F S ε σ H Q rl q)
theorem nz(ha:DE X E a da)(hb:DE X E (.BoolOp .And (b::rest) pos) db):DE X E (.BoolOp .And (a::b::rest) pos) (gx da db):=λF S ε σ H Q rl q=>by
 refine bJ (HQ bB bB) (ha F S ε σ H _ rl (FL q λk ε1 F1 S1 H1 r1 g1 h1=>?_));cases k with
 |true=>exact lV (hb F1 S1 ε1 σ H1 Q r1 h1)
 |false=>exact lJ (h1 F1 S1 H1 r1 (bd.refl ..) _ rfl)
theorem Ou(ha:DE X E a da):DE X E (.UnaryOp .Not a pos) (t6 da):=λF S ε σ H Q rl q=>bJ (OT bB) (ha F S ε σ H _ rl (FL q λk ε1 F1 S1 H1 r1 g1 h1=>h1 F1 S1 H1 r1 (bd.refl ..) _ rfl))
def bi{α:Type}(t:ag->R Bool)(da db:ag->R α):ag->R α:=λε=>(t ε).bind λk ε1=>match k with
 |true=>da ε1
 |false=>db ε1
theorem wo(hc:DT X E c ta)(ha:DE X E a da)(hb:DE X E b db):DE X E (.IfExp c a b pos) (bi ta da db):=λF S ε σ H Q rl q=>by
 refine bJ (LI lS bB bB) (hc F S ε σ H _ rl ((Ok.bind q).imp λk ε1 F1 S1 H1 r1 g1 h1=>?_));cases k with
 |true=>exact lV (ha F1 S1 ε1 σ H1 Q r1 h1)
 |false=>exact lJ (hb F1 S1 ε1 σ H1 Q r1 h1)
def P1(K:aq)(r:V->Hp->VK->Prop)(f:PV->Option PV):Prop:=∀(F:ac->Prop) (H:Hp) (x:PV) (v:V) (Q:VK) (pv:PV),aU K H F x v->f x=aa pv->(∀w F' H',Al F F' H H'->aU K H' F' pv w->Q w H')->r v H Q
def d1(f:PV->Option PV)(da:ag->R PV):ag->R PV:=λε=>(da ε).bind λx ε1=>aC (f x) ε1
theorem NC{r:V->Hp->VK->Prop}{f:PV->Option PV}(hp:P1 X.K r f)(ha:DE X E a da){F:ac->Prop}{S:Nat->ac->Prop}{ε:ag}{σ:St}{H:Hp}{Q:VK}(rl:aI X.K F S ε σ H)(h:Ok X.K E σ F S H (d1 f da ε) (λpv _ F' _ H'=>∀v,aU X.K H' F' pv v->Q v H')):f9 X a σ H λx H1=>r x H1 Q:=by
 refine ha F S ε σ H _ rl ((Ok.bind h).imp λx ε1 F1 S1 H1 r1 g1 h1 v rv=>?_);cases e:f x with
 |none=>rw[e]at h1;exact h1.elim
 |some pv=>rw[e]at h1;exact hp F1 H1 x v Q pv rv e λw F' H' al rw'=>h1 F' S1 H' (r1.al al) al.grow w rw'
theorem nj{op:UnaryOp}{r:V->Hp->VK->Prop}{f:PV->Option PV}(ho:xq X (unaryOp op) r)(hp:P1 X.K r f)(ha:DE X E a da):DE X E (.UnaryOp op a pos) (d1 f da):=λF S ε σ H Q rl h=>bJ (OK ho bB) (NC hp ha rl h)
end
def oy(X:Cx)(es:List aw):TA:=λσ H Q=>Bx (∀pos ae s,Inv X ae σ H s->au (aB X.prog X.w) X.A (spliced (bU pos (aH es X.env))) (AP X ae σ Q) X.xe s)
def DA(X:Cx)(E:XK)(es:List aw)(d:ag->R (List PV)):Prop :=
 ∀F S ε σ H Q,aI X.K F S ε σ H->Ok X.K E σ F S H (d ε) (λpvs _ F' _ H'=>∀vs,bj X.K H' F' pvs vs->Q vs H')->oy X es σ H Q
section
variable{X:Cx}{E:XK}{a b c e:aw}{es:List aw}{da db dc d:ag->R PV}{ds:ag->R (List PV)}{pos:Pos}
theorem gP{es:List aw}:PA X es (oy X es):=λpos ae s _ _ _ I h=>h.run pos ae s I
theorem oG{t:TA}(h:PA X es t){σ:St}{H:Hp}{Q:List V->Hp->Prop}(q:t σ H Q):oy X es σ H Q:=⟨λpos ae s I=>h pos ae s σ H Q I q⟩
def aA:ag->R (List PV):=λε=>.ok [] ε
def ar(d:ag->R PV)(ds:ag->R (List PV)):ag->R (List PV):=λε=>(d ε).bind λx ε1=>(ds ε1).bind λxs ε2=>.ok (x::xs) ε2
theorem aT:DA X E [] aA:=λF S ε σ H Q rl h=>oG gB (h F S H rl (bd.refl ..) _ rfl)
theorem Mc(ha:DE X E e d)(hr:DA X E es ds)(hs:aH (e::es) X.env=(aj,aG e X.env)::aH es X.env:=by rfl):DA X E (e::es) (ar d ds):=λF S ε σ H Q rl h=>by refine oG (ff bB gP hs) (ha F S ε σ H _ rl ((Ok.bind h).imp λx ε1 F1 S1 H1 r1 g1 h1 v rv=>?_));refine hr F1 S1 ε1 σ H1 _ r1 ((Ok.bind h1).imp λxs ε2 F2 S2 H2 r2 g2 h2 vs jD=>?_);exact h2 F2 S2 H2 r2 (bd.refl ..) _ ⟨v,vs,rfl,rv.grow g2 r1.fit,jD⟩
theorem aI.more{K:aq}{F N:ac->Prop}{S:Nat->ac->Prop}{ε:ag}{σ:St}{H:Hp}(r:aI K F S ε σ H)(hn:∀b,N b->¬U S b/\∃o,H b=aa o):aI K (λb=>F b\/N b) S ε σ H:=by
 have mono:∀x v,aU K H F x v->aU K H (λb=>F b\/N b) x v:=aU.mono (λ_ h=>.inl h) (λ_ _ _ q=>q) (λ_ _ q _=>q);have monos:∀x v,bj K H F x v->bj K H (λb=>F b\/N b) x v:=bj.mono (λ_ h=>.inl h) (λ_ _ _ q=>q) (λ_ _ q _=>q);refine⟨r.len,λb h=>h.elim (r.ex b) λz=>(hn b z).2,λi pv e=>?_,λi po e=>?_,λi b h=>?_,r.dist⟩
 ·obtain⟨v,h1,h2⟩:=r.val i pv e;exact⟨v,h1,mono _ _ h2⟩
 ·obtain⟨v,h1,h2⟩:=r.own i po e;exact⟨v,h1,h2.mono mono monos λ_ _ _ z=>z⟩
 ·obtain⟨h1,h2,h3⟩:=r.foot i b h;exact⟨h1,λz=>z.elim h2 λw=>(hn b w).1 ⟨i,h⟩,h3⟩
def sN:PO->Option PV
 |.lst xs=>aa (.lst xs)
 |_=>af
def dF(d:ag->R PO):ag->R PV:=λε=>(d ε).bind λpo ε1=>aC (sN po) ε1
theorem DN.de{d:ag->R PO}(h:DN X E e d):DE X E e (dF d):=λF S ε σ H Q rl q=>by
 unfold dF at q;refine h F S ε σ H Q rl ?_;cases e0:d ε with
 |no=>rw[e0]at q;exact q.elim
 |er c ε'=>rw[e0]at q;exact q
 |ok po ε1=>
  rw[e0]at q;intro F1 S1 H1 r1 g1 a Sa ow fr;cases po with
  |dK kvs=>exact q.elim
  |lls jk=>exact q.elim
  |ins C fs=>exact q.elim
  |dT kvs=>exact q.elim
  |inl C fs y xs=>exact q.elim
  |lst xs=>
   have hN:∀b,Sa b->¬U S1 b/\∃o,H1 b=aa o:=λb z=>let ⟨_,_,x3,o,x4,_⟩:=fr b z;⟨x3,o,x4⟩
   obtain⟨⟨vs,ha,hr⟩,hS⟩:=ow;have g2:bd (U S) (U S1) F (λb=>F1 b\/Sa b) H H1:=⟨λb z=>.inl (g1.fro b z),g1.keep,g1.there,λb z=>z.elim (g1.fnew b) λw=>.inr (.inl (fr b w).1),g1.onew⟩
   exact q _ S1 H1 (r1.more hN) g2 _ ⟨a,vs,rfl,.inl ha,.inr ((hS a).mpr rfl),bj.mono (λ_ z=>.inl z) (λ_ _ _ z=>z) (λ_ _ z _=>z) _ _ hr⟩
def eu(xs:List PV):Option PV:=if xs.length<=1000 then aa (.tup xs)else af
def bX(xs:List PV):Option PO:=if xs.length<=1000 then aa (.lst xs)else af
def dL{α:Type}(f:List PV->Option α)(ds:ag->R (List PV)):ag->R α:=λε=>(ds ε).bind λxs ε1=>aC (f xs) ε1
def PL(K:aq)(r:List V->Hp->VK->Prop)(f:List PV->Option PV):Prop:=∀(F:ac->Prop) (H:Hp) (xs:List PV) (vs:List V) (Q:VK) (pv:PV),bj K H F xs vs->f xs=aa pv->(∀w F' H',Al F F' H H'->aU K H' F' pv w->Q w H')->r vs H Q
def j9(K:aq)(r:List V->Hp->VK->Prop)(f:List PV->Option PO):Prop:=∀(F:ac->Prop) (H:Hp) (xs:List PV) (vs:List V) (Q:VK) (po:PO),(∀a,F a->∃o,H a=aa o)->bj K H F xs vs->f xs=aa po ->
 (∀a F' H' Sa,Al F F' H H'->dJ K H' F' po a Sa->(∀b,Sa b->H b=af/\¬F' b/\∃o,H' b=aa o/\cy o)->Q (.ref a) H')->r vs H Q
theorem zZ{r:List V->Hp->VK->Prop}{f:List PV->Option PV}(hp:PL X.K r f)(hd:DA X E es ds){F:ac->Prop}{S:Nat->ac->Prop}{ε:ag}{σ:St}{H:Hp}{Q:VK}(rl:aI X.K F S ε σ H)(h:Ok X.K E σ F S H (dL f ds ε) (λpv _ F' _ H'=>∀v,aU X.K H' F' pv v->Q v H')):oy X es σ H λxs H1=>r xs H1 Q:=by
 refine hd F S ε σ H _ rl ((Ok.bind h).imp λxs ε1 F1 S1 H1 r1 g1 h1 vs jD=>?_);cases e:f xs with
 |none=>rw[e]at h1;exact h1.elim
 |some pv=>rw[e]at h1;exact hp F1 H1 xs vs Q pv jD e λw F' H' al rw'=>h1 F' S1 H' (r1.al al) al.grow w rw'
theorem j7{O O' F F':ac->Prop}{H H':Hp}(g:bd O O' F F' H H'){b:ac}(h:H' b=af):H b=af:=by
 cases q:H b with
 |none=>rfl
 |some o=>obtain⟨o',e⟩:=g.there b o q;rw[h]at e;cases e
theorem wd{r:List V->Hp->VK->Prop}{f:List PV->Option PO}(hp:j9 X.K r f)(hd:DA X E es ds){F:ac->Prop}{S:Nat->ac->Prop}{ε:ag}{σ:St}{H:Hp}{Q:VK}(rl:aI X.K F S ε σ H)(h:Ok X.K E σ F S H (dL f ds ε) (λpo _ F' S' H'=>∀a Sa,dJ X.K H' F' po a Sa->(∀b,Sa b->H b=af/\¬F' b/\¬U S' b/\∃o,H' b=aa o/\cy o)->Q (.ref a) H')):oy X es σ H λxs H1=>r xs H1 Q:=by
 refine hd F S ε σ H _ rl ((Ok.bind h).imp λxs ε1 F1 S1 H1 r1 g1 h1 vs jD=>?_);cases e:f xs with
 |none=>rw[e]at h1;exact h1.elim
 |some po=>
  rw[e]at h1;refine hp F1 H1 xs vs Q po r1.ex jD e λa F' H' Sa al ow fr=>h1 F' S1 H' (r1.al al) al.grow a Sa ow λb z=>?_;obtain⟨z1,z2,o,z3,z4⟩:=fr b z;refine⟨j7 g1 z1,z2,λ⟨i,w⟩=>?_,o,z3,z4⟩;obtain⟨_,_,o',w1,_⟩:=r1.foot i b w;rw[z1]at w1;cases w1
theorem zo{n:Nat}(h:n<=1000):n<=bn:=pw (Af h)
theorem Lg{K:aq}:PL K (λxs H Q=>xs.length<=bn/\∀p,H p=af->Q (.ref p) (upd H p (.tup xs))) eu:=λF H xs vs Q pv rs e q=>by
 unfold eu at e;split at e
 ·cases e;refine⟨by rw[rs.len];exact zo (by assumption),λp hp=>q _ F _ (Al.new0 hp) ⟨p,vs,rfl,upd_same,(Al.new0 hp).reps rs⟩⟩
 ·cases e
theorem vR{K:aq}{F:ac->Prop}{H:Hp}{l:ac}{xs:List PV}{vs:List V}(hl:H l=af)(rs:bj K H F xs vs):dJ K (upd H l (.lst vs)) F (.lst xs) l (λb=>b=l):=⟨⟨vs,upd_same,(Al.new0 hl).reps rs⟩,λb=>nZ⟩
theorem wc{F:ac->Prop}{H:Hp}{l:ac}{o:HO}(hl:H l=af)(hF:∀a,F a->∃o,H a=aa o)(hn:cy o):∀b,b=l->H b=af/\¬F b/\∃o',(upd H l o) b=aa o'/\cy o':=λb z=>by
 subst z;exact⟨hl,(λw=>by obtain⟨o,q⟩:=hF b w;rw[hl]at q;cases q),o,upd_same,hn⟩
theorem Pg{K:aq}:j9 K (λxs H Q=>xs.length<=bn/\∀p,H p=af->Q (.ref p) (upd H p (.lst xs))) bX:=λF H xs vs Q po hF rs e q=>by
 unfold bX at e;split at e
 ·cases e;exact⟨by rw[rs.len];exact zo (by assumption),λp hp=>q p F _ _ (Al.new0 hp) (vR hp rs) (wc hp hF trivial)⟩
 ·cases e
theorem jn{x1}(h:DA X E es ds):DE X E (.Tuple es x1 pos) (dL eu ds):=λF S ε σ H Q rl q=>bJ (JG gP) (zZ Lg h rl q)
theorem j_(h:DA X E es ds):DN X E (.List es pos) (dL bX ds):=λF S ε σ H Q rl q=>bJ (FZ gP) (wd Pg h rl q)
theorem jP(h:DA X E es ds):DE X E (.List es pos) (dF (dL bX ds)):=(j_ h).de
variable{x:Str}{p:Pos}{id T:String}{r:List V->Hp->VK->Prop}{f:List PV->Option PV}{fn:List PV->Option PO}
theorem ci(hc:eG X (.builtin id) r)(hp:PL X.K r f)(hm:X.mg x=af)(hv:eE x=aa (.builtin id))(ha:DA X E (e::es) ds)(hg:Gl X x:=by rfl)(hn:x≠"__name__":=by decide)(eX:(x == ("__debug__" : Str))=aj:=by decide)(he:aH (e::es) X.env=(aj,aG e X.env)::aH es X.env:=by rfl) (cz:(bU pos (aH es X.env)).any (·.1)=aj:=by rfl):DE X E (.Call (.Name x p) (e::es) [] pos) (dL f ds):=λF S ε σ H Q rl q=>bJ (l9 hc hg hm hv gP hn eX he cz) (zZ hp ha rl q)
theorem CN(hc:eG X (.builtin id) r)(hp:j9 X.K r fn)(hm:X.mg x=af)(hv:eE x=aa (.builtin id))(ha:DA X E (e::es) ds)(hg:Gl X x:=by rfl)(hn:x≠"__name__":=by decide)(eX:(x == ("__debug__" : Str))=aj:=by decide)(he:aH (e::es) X.env=(aj,aG e X.env)::aH es X.env:=by rfl) (cz:(bU pos (aH es X.env)).any (·.1)=aj:=by rfl):DN X E (.Call (.Name x p) (e::es) [] pos) (dL fn ds):=λF S ε σ H Q rl q=>bJ (l9 hc hg hm hv gP hn eX he cz) (wd hp ha rl q)
theorem rh(hc:eG X (.type T) r)(hp:PL X.K r f)(hm:X.mg x=af)(hv:eE x=aa (.type T))(ha:DA X E (e::es) ds)(hg:Gl X x:=by rfl)(hn:x≠"__name__":=by decide)(eX:(x == ("__debug__" : Str))=aj:=by decide)(he:aH (e::es) X.env=(aj,aG e X.env)::aH es X.env:=by rfl) (cz:(bU pos (aH es X.env)).any (·.1)=aj:=by rfl):DE X E (.Call (.Name x p) (e::es) [] pos) (dL f ds):=λF S ε σ H Q rl q=>bJ (wO hc hg hm hv gP hn eX he cz) (zZ hp ha rl q)
theorem Ek(hc:eG X (.type T) r)(hp:j9 X.K r fn)(hm:X.mg x=af)(hv:eE x=aa (.type T))(ha:DA X E (e::es) ds)(hg:Gl X x:=by rfl)(hn:x≠"__name__":=by decide)(eX:(x == ("__debug__" : Str))=aj:=by decide)(he:aH (e::es) X.env=(aj,aG e X.env)::aH es X.env:=by rfl) (cz:(bU pos (aH es X.env)).any (·.1)=aj:=by rfl):DN X E (.Call (.Name x p) (e::es) [] pos) (dL fn ds):=λF S ε σ H Q rl q=>bJ (wO hc hg hm hv gP hn eX he cz) (wd hp ha rl q)
theorem gZ{r:R2}{f:PV->PV->Option PV}(hr:ly X r)(hp:P2 X.K r f)(ha:DE X E a da)(hb:DE X E b db)(hs:ET b:=by exact λ_ _=>rfl):DE X E (.Subscript a b pos) (d2 f da db):=λF S ε σ H Q rl h=>bJ (Lx hr bB bB hs) (wY hp ha hb rl h)
def zW(X:Cx)(e:Option aw):TO:=λσ H Q=>Bx (∀ae s,Inv X ae σ H s->au (aB X.prog X.w) X.A (evalPart e X.env) (λu s'=>∃o H',Inv X ae σ H' s'/\mx u o/\Q o H') X.xe s)
theorem B8{o:Option aw}:L2.PO X o (zW X o):=λae s _ _ _ I h=>h.run ae s I
theorem Gb{o:Option aw}{t:TO}(h:L2.PO X o t){σ:St}{H:Hp}{Q:Option Int->Hp->Prop}(q:t σ H Q):zW X o σ H Q:=⟨λae s I=>h ae s σ H Q I q⟩
def DO(X:Cx)(E:XK)(e:Option aw)(d:ag->R (Option Int)):Prop:=∀F S ε σ H Q,aI X.K F S ε σ H->Ok X.K E σ F S H (d ε) (λo _ _ _ H'=>Q o H')->zW X e σ H Q
def dD:ag->R (Option Int):=λε=>.ok af ε
def lc:PV->Option Int
 |.int i=>aa i
 |_=>af
def cG(d:ag->R PV):ag->R (Option Int):=λε=>(d ε).bind λx ε1=>aC ((lc x).map aa) ε1
theorem jK:DO X E af dD:=λF S ε σ H Q rl h=>Gb Lo (h F S H rl (bd.refl ..))
theorem i5(he:DE X E e d):DO X E (aa e) (cG d):=λF S ε σ H Q rl h=>by
 refine Gb (M6 bB) (he F S ε σ H _ rl ((Ok.bind h).imp λx ε1 F1 S1 H1 r1 g1 h1 v rv=>?_));cases x <;> first|exact(show False from h1).elim|skip
 rename_i i;exact⟨i,rv,h1 F1 S1 H1 r1 (bd.refl ..)⟩
def cS{α:Type}(f:PV->Option Int->Option Int->Option α)(d:ag->R PV)(dl du:ag->R (Option Int)):ag->R α:=λε=>(d ε).bind λx ε1=>(dl ε1).bind λl ε2=>(du ε2).bind λu ε3=>aC (f x l u) ε3
def EC(K:aq)(r:V->Option Int->Option Int->Hp->VK->Prop)(f:PV->Option Int->Option Int->Option PV):Prop:=∀(F:ac->Prop) (H:Hp) (x:PV) (lo hi:Option Int) (v:V) (Q:VK) (pv:PV),aU K H F x v->f x lo hi=aa pv->(∀w F' H',Al F F' H H'->aU K H' F' pv w->Q w H')->r v lo hi H Q
theorem js{r:V->Option Int->Option Int->Hp->VK->Prop}{f:PV->Option Int->Option Int->Option PV}{lo hi:Option aw}{dl du:ag->R (Option Int)}{p2:Pos}(hr:lO X r)(hp:EC X.K r f)(he:DE X E e d)(hl:DO X E lo dl)(hu:DO X E hi du):DE X E (.Subscript e (.Slice lo hi af p2) pos) (cS f d dl du):=λF S ε σ H Q rl h=>by
 refine bJ (Mm hr bB B8 B8) (he F S ε σ H _ rl ((Ok.bind h).imp λx ε1 F1 S1 H1 r1 g1 h1 v rv=>?_));refine hl F1 S1 ε1 σ H1 _ r1 ((Ok.bind h1).imp λl ε2 F2 S2 H2 r2 g2 h2=>?_);refine hu F2 S2 ε2 σ H2 _ r2 ((Ok.bind h2).imp λu ε3 F3 S3 H3 r3 g3 h3=>?_);cases e3:f x l u with
 |none=>rw[e3]at h3;exact h3.elim
 |some pv=>rw[e3]at h3;exact hp F3 H3 x l u v Q pv ((rv.grow g2 r1.fit).grow g3 r2.fit) e3 λw F' H' al rw'=>h3 F' S3 H' (r3.al al) al.grow w rw'
end
inductive aK where
 |next|ret (s:Slot)|brk|cont
def jO(K:aq)(H:Hp)(F:ac->Prop)(s:Slot)(v:V)(Sr:ac->Prop):Prop:=match s with
 |.val pv=>aU K H F pv v/\∀b,¬Sr b
 |.own po=>∃a,v=.ref a/\dJ K H F po a Sr
 |.none=>False
def iH(pin:List Nat)(σ σ':St):Prop:=∀i∈pin,σ'[i]?=σ[i]?
theorem iH.refl(pin:List Nat)(σ:St):iH pin σ σ:=λ_ _=>rfl
theorem iH.trans{pin:List Nat}{σ σ1 σ2:St}(a:iH pin σ σ1)(b:iH pin σ1 σ2):iH pin σ σ2:=λi h=>(b i h).trans (a i h)
theorem iH.set{pin:List Nat}{σ:St}{i:Nat}{x:Option V}(h:i∉pin):iH pin σ (σ.set i x):=λj hj=>by rw[cu (by rintro rfl;exact h hj)]
def qW(F':ac->Prop)(S':Nat->ac->Prop)(H':Hp)(Sr:ac->Prop):Prop:=∀b,Sr b->¬F' b/\¬U S' b/\∃o,H' b=aa o/\cy o
def gT(K:aq)(E:XK)(pin:List Nat)(σ:St)(F:ac->Prop)(S:Nat->ac->Prop)(H:Hp)(r:R aK)(D:ki):Prop:=match r with
 |.ok .next ε'=>∀F' S' σ' H',aI K F' S' ε' σ' H'->bd (U S) (U S') F F' H H'->iH pin σ σ'->D.nx σ' H'
 |.ok .brk ε'=>∀F' S' σ' H',aI K F' S' ε' σ' H'->bd (U S) (U S') F F' H H'->iH pin σ σ'->D.bk σ' H'
 |.ok .cont ε'=>∀F' S' σ' H',aI K F' S' ε' σ' H'->bd (U S) (U S') F F' H H'->iH pin σ σ'->D.ct σ' H'
 |.ok (.ret s) ε'=>∀v F' S' σ' H' Sr,aI K F' S' ε' σ' H'->bd (U S) (λb=>U S' b\/Sr b) F F' H H'->iH pin σ σ'->jO K H' F' s v Sr->qW F' S' H' Sr->D.rt v H'
 |.er c ε'=>∀x F' S' σ' H',aI K F' S' ε' σ' H'->bd (U S) (U S') F F' H H'->iH pin σ σ'->E c x H'
 |.no=>False
def DS(X:Cx)(E:XK)(pin:List Nat)(st:aR)(d:ag->R aK):Prop:=∀F S ε σ H D,aI X.K F S ε σ H->gT X.K E pin σ F S H (d ε) D->wpS X st D σ H
def fc(X:Cx)(E:XK)(pin:List Nat)(st:List aR)(d:ag->R aK):Prop:=∀F S ε σ H D,aI X.K F S ε σ H->gT X.K E pin σ F S H (d ε) D->oN X st D σ H
section
variable{K:aq}{E:XK}{pin:List Nat}{σ σ1:St}{F F1:ac->Prop}{S S1:Nat->ac->Prop}{H H1:Hp}{D:ki}
theorem gT.from{r:R aK}(h:gT K E pin σ F S H r D)(g:bd (U S) (U S1) F F1 H H1)(p:iH pin σ σ1):gT K E pin σ1 F1 S1 H1 r D:=by
 cases r with
 |no=>exact h
 |er c ε'=>exact λx F' S' σ' H' r' g' p'=>h x F' S' σ' H' r' (g.trans g') (p.trans p')
 |ok f ε'=>
  cases f with
  |next=>exact λF' S' σ' H' r' g' p'=>h F' S' σ' H' r' (g.trans g') (p.trans p')
  |brk=>exact λF' S' σ' H' r' g' p'=>h F' S' σ' H' r' (g.trans g') (p.trans p')
  |cont=>exact λF' S' σ' H' r' g' p'=>h F' S' σ' H' r' (g.trans g') (p.trans p')
  |ret s=>exact λv F' S' σ' H' Sr r' g' p'=>h v F' S' σ' H' Sr r' (g.trans g') (p.trans p')
theorem gT.bindE{α:Type}{r:R α}{k:α->ag->R aK}(h:gT K E pin σ F S H (r.bind k) D):Ok K E σ F S H r (λa ε1 F1 S1 H1=>gT K E pin σ F1 S1 H1 (k a ε1) D):=by
 cases r with
 |no=>exact h
 |er c ε'=>exact λx F' S' H' r' g'=>h x F' S' σ H' r' g' (iH.refl _ _)
 |ok a ε'=>exact λF' S' H' r' g'=>h.from g' (iH.refl _ _)
end
section
variable{X:Cx}{E:XK}{pin:List Nat}{st:aR}{rest:List aR}{d d1 d2:ag->R aK}{e:aw}{de:ag->R PV}{pos:Pos}
def bS:ag->R aK:=λε=>.ok .next ε
theorem d8:fc X E pin [] bS:=λF S ε σ H D rl h=>wM Jq (h F S σ H rl (bd.refl ..) (iH.refl _ _))
def ay(d1 d2:ag->R aK):ag->R aK:=λε=>match d1 ε with
 |.ok .next ε1=>d2 ε1
 |r=>r
theorem aY(h1:DS X E pin st d1)(h2:fc X E pin rest d2):fc X E pin (st::rest) (ay d1 d2):=λF S ε σ H D rl h=>by
 refine wM (H_ y0 o8) (h1 F S ε σ H {D with nx:=oN X rest D} rl ?_);unfold ay at h;split at h
 ·rename_i ε1 e1;rw[e1];exact λF' S' σ' H' r' g' p'=>h2 F' S' ε1 σ' H' D r' (h.from g' p')
 ·rename_i r dw;generalize d1 ε=r1 at h dw;cases r1 with
  |no=>exact h
  |er c ε'=>exact h
  |ok f ε'=>
   cases f with
   |next=>exact absurd rfl (dw ε')
   |brk=>exact h
   |cont=>exact h
   |ret s=>exact h
theorem aX(h1:DS X E pin st d1):fc X E pin [st] d1:=λF S ε σ H D rl h=>wM (CL y0) (h1 F S ε σ H D rl h)
def ug(f:aK):ag->R aK:=λε=>.ok f ε
def Az(d:ag->R PV):ag->R aK:=λε=>(d ε).bind λ_ ε1=>.ok .next ε1
def bH(d:ag->R PV):ag->R aK:=λε=>(d ε).bind λx ε1=>.ok (.ret (.val x)) ε1
theorem bd.cup{O O' F F':ac->Prop}{H H':Hp}(g:bd O O' F F' H H'):bd O (λb=>O' b\/False) F F' H H':=⟨g.fro,g.keep,g.there,g.fnew,λa h=>h.elim (g.onew a) fW⟩
theorem cM(he:DE X E e de):DS X E pin (.Return (aa e) pos) (bH de):=λF S ε σ H D rl h=>fI (sO bB) (he F S ε σ H _ rl (h.bindE.imp λx ε1 F1 S1 H1 r1 g1 h1 v rv=>h1 v F1 S1 σ H1 (λ_=>False) r1 (bd.refl ..).cup (iH.refl _ _) ⟨rv,λ_ z=>z⟩ λ_ z=>z.elim))
theorem PQ:DS X E pin (.Return af pos) (ug (.ret (.val .non))):=λF S ε σ H D rl h=>fI Qu (h _ F S σ H (λ_=>False) rl (bd.refl ..).cup (iH.refl _ _) ⟨rfl,λ_ z=>z⟩ λ_ z=>z.elim)
def lA(d:ag->R PO):ag->R aK:=λε=>(d ε).bind λx ε1=>.ok (.ret (.own x)) ε1
theorem zt{dn:ag->R PO}(he:DN X E e dn):DS X E pin (.Return (aa e) pos) (lA dn):=λF S ε σ H D rl h=>by
 refine fI (sO bB) (he F S ε σ H _ rl ?_);unfold lA at h;cases e0:dn ε with
 |no=>rw[e0]at h;exact h.elim
 |er c ε'=>rw[e0]at h;exact λx F' S' H' r' g'=>h x F' S' σ H' r' g' (iH.refl _ _)
 |ok po ε1=>rw[e0]at h;intro F1 S1 H1 r1 g1 a Sa ow fr;exact h _ F1 S1 σ H1 Sa r1 ⟨g1.fro,g1.keep,g1.there,g1.fnew,λb z=>z.elim (g1.onew b) λw=>.inr (fr b w).1⟩ (iH.refl _ _) ⟨a,rfl,ow⟩ λb z=>let ⟨_,x2,x3,x4⟩:=fr b z;⟨x2,x3,x4⟩
def jN(i:Nat):ag->R aK:=λε=>match ε[i]? with
 |some (.own po)=>.ok (.ret (.own po)) (ε.set i .none)
 |_=>.no
theorem aI.drop{K:aq}{F:ac->Prop}{S:Nat->ac->Prop}{ε:ag}{σ:St}{H:Hp}(r:aI K F S ε σ H)(i:Nat):aI K F (λj b=>S j b/\j≠i) (ε.set i .none) σ H:=by
 have no:∀{j s},(ε.set i .none)[j]?=aa s->s≠.none->j≠i/\ε[j]?=aa s:=λ{j s} e hs=>by
  by_cases hj:i=j
  ·subst hj;by_cases hi:i<ε.length
   ·rw[cP hi]at e;exact absurd (fi e).symm hs
   ·rw[pN (by rw[gK];lia)]at e;cases e
  ·rw[cu hj]at e;exact⟨c8 hj,e⟩
 refine⟨by rw[gK];exact r.len,r.ex,λj pv e=>r.val j pv (no e (by intro z;cases z)).2,λj po e=>?_,λj b h=>?_,λj k b h1 h2=>r.dist j k b h1.1 h2.1⟩
 ·obtain⟨hj,e⟩:=no e (by intro z;cases z);obtain⟨a,h1,h2⟩:=r.own j po e;have eS:(λb=>S j b/\j≠i)=S j:=by funext b;simp[hj]
  exact⟨a,h1,by rw[eS];exact h2⟩
 ·obtain⟨⟨po,q1⟩,q2⟩:=r.foot j b h.1;exact⟨⟨po,by rw[cu (c8 h.2)];exact q1⟩,q2⟩
theorem ww(i:Nat){x:Str}{p:Pos}(hN:X.N[i]?=aa x:=by rfl)(hv:cx X.env.scope x:=by first|exact Or.inl rfl|exact Or.inr (Or.inl rfl)|exact Or.inr (Or.inr rfl))(hd:(x == ("__debug__" : Str))=aj:=by decide)(a8:(x == ("__classdict__" : Str))=aj:=by decide):DS X E pin (.Return (aa (.Name x p)) pos) (jN i):=λF S ε σ H D rl h=>by
 unfold jN at h;split at h
 ·rename_i po e;obtain⟨a,e1,ow⟩:=rl.own i po e;refine fI (sO (cF hN hv hd a8)) ⟨_,e1,h _ F (λj b=>S j b/\j≠i) σ H (S i) (rl.drop i) ⟨λ_ z=>z,λ_ _ z _=>z,λ_ o z=>⟨o,z⟩,λ_ z=>.inl z,λb z=>?_⟩ (iH.refl _ _) ⟨a,rfl,ow⟩ λb z=>?_⟩
  ·rcases z with⟨j,z,_⟩|z
   ·exact .inl ⟨j,z⟩
   ·exact .inl ⟨i,z⟩
  ·exact⟨(rl.foot i b z).2.1,λ⟨j,w,hj⟩=>hj (rl.dist j i b w z),(rl.foot i b z).2.2⟩
 ·exact h.elim
theorem aI.set{K:aq}{F:ac->Prop}{S:Nat->ac->Prop}{ε:ag}{σ:St}{H:Hp}{i:Nat}{pv:PV}{v:V}(r:aI K F S ε σ H)(h:aU K H F pv v):aI K F (λj b=>S j b/\j≠i) (ε.set i (.val pv)) (σ.set i (aa v)) H:=by
 have r0:=r.drop i;have len:(ε.set i (.val pv)).length=(σ.set i (aa v)).length:=by rw[gK,gK];exact r.len
 refine⟨len,r.ex,λj p e=>?_,λj po e=>?_,λj b h=>?_,r0.dist⟩
 ·by_cases hj:i=j
  ·subst hj;have hi:i<ε.length:=by have:=(cO.mp e).1;rw[gK]at this;exact this
   rw[cP hi]at e;cases e;exact⟨v,cP (by rw[←r.len];exact hi),h⟩
  ·rw[cu hj]at e;obtain⟨w,h1,h2⟩:=r.val j p e;exact⟨w,by rw[cu hj];exact h1,h2⟩
 ·have hj:i≠j:=by
   rintro rfl;have hi:i<ε.length:=by have:=(cO.mp e).1;rw[gK]at this;exact this
   rw[cP hi]at e;cases e
  rw[cu hj]at e;obtain⟨a,h1,h2⟩:=r.own j po e;have eS:(λb=>S j b/\j≠i)=S j:=by funext b;simp[c8 hj]
  exact⟨a,by rw[cu hj];exact h1,by rw[eS];exact h2⟩
 ·obtain⟨⟨po,q1⟩,q2⟩:=r0.foot j b h;refine⟨⟨po,?_⟩,q2⟩;rw[cu (c8 h.2)]at q1 ⊢;exact q1
theorem bd.less{S:Nat->ac->Prop}{F:ac->Prop}{H:Hp}(i:Nat):bd (U S) (U λj b=>S j b/\j≠i) F F H H:=⟨λ_ z=>z,λ_ _ z _=>z,λ_ o z=>⟨o,z⟩,λ_ z=>.inl z,λb ⟨j,z⟩=>.inl ⟨j,z.1⟩⟩
theorem aI.setOwn{K:aq}{F:ac->Prop}{S:Nat->ac->Prop}{ε:ag}{σ:St}{H:Hp}{i:Nat}{po:PO}{a:ac}{Sa:ac->Prop}(r:aI K F S ε σ H)(hi:i<ε.length)(h:dJ K H F po a Sa)(fr:qW F S H Sa):aI K F (λj b=>(S j b/\j≠i)\/(j=i/\Sa b)) (ε.set i (.own po)) (σ.set i (aa (.ref a))) H:=by
 have r0:=r.drop i;refine⟨by rw[gK,gK];exact r.len,r.ex,λj p e=>?_,λj po' e=>?_,λj b h=>?_,λj k b h1 h2=>?_⟩
 ·have hj:i≠j:=by rintro rfl;rw[cP hi]at e;cases e
  rw[cu hj]at e;obtain⟨w,h1,h2⟩:=r.val j p e;exact⟨w,by rw[cu hj];exact h1,h2⟩
 ·by_cases hj:i=j
  ·subst hj;rw[cP hi]at e;cases e;have eS:(λb=>(S i b/\i≠i)\/(i=i/\Sa b))=Sa:=by funext b;simp
   exact⟨a,cP (by rw[←r.len];exact hi),by rw[eS];exact h⟩
  ·rw[cu hj]at e;obtain⟨a',h1,h2⟩:=r.own j po' e;have eS:(λb=>(S j b/\j≠i)\/(j=i/\Sa b))=S j:=by funext b;simp[c8 hj]
   exact⟨a',by rw[cu hj];exact h1,by rw[eS];exact h2⟩
 ·rcases h with h|⟨rfl,h⟩
  ·obtain⟨⟨po',q1⟩,q2⟩:=r0.foot j b h;refine⟨⟨po',?_⟩,q2⟩;rw[cu (c8 h.2)]at q1 ⊢;exact q1
  ·obtain⟨x1,x2,x3⟩:=fr b h;exact⟨⟨po,cP hi⟩,x1,x3⟩
 ·rcases h1 with h1|⟨rfl,h1⟩ <;> rcases h2 with h2|⟨rfl,h2⟩
  ·exact r.dist j k b h1.1 h2.1
  ·exact absurd ⟨j,h1.1⟩ (fr b h2).2.1
  ·exact absurd ⟨k,h2.1⟩ (fr b h1).2.1
  ·rfl
def a9(i:Nat)(d:ag->R PV):ag->R aK:=λε=>(d ε).bind λx ε1=>.ok .next (ε1.set i (.val x))
theorem cK(i:Nat){x:Str}{p:Pos}(hN:X.N.Nodup)(he:DE X E e de)(hp:i∉pin:=by decide)(hi:X.N[i]?=aa x:=by rfl)(hx:Loc X.env.scope x:=by first|exact Or.inl rfl|exact Or.inr rfl)(hs:ik e (aa (.Name x p)) pos.line X.env=pure aj:=by rfl)(hf:X.fn x=ah\/X.env.scope.names.lookup x=aa .local:=by first|exact .inl rfl|exact .inr rfl):DS X E pin (.Assign [.Name x p] e pos) (a9 i de):=λF S ε σ H D rl h=>fI (F6 hN hi hx bB hs hf) (he F S ε σ H _ rl (h.bindE.imp λx ε1 F1 S1 H1 r1 g1 h1 v rv=>h1 F1 _ _ H1 (r1.set rv) (bd.less i) (iH.set hp)))
def cg(i:Nat)(d:ag->R PO):ag->R aK:=λε=>(d ε).bind λx ε1=>if i<ε1.length then .ok .next (ε1.set i (.own x))else .no
theorem iP(i:Nat){x:Str}{p:Pos}{dn:ag->R PO}(hN:X.N.Nodup)(he:DN X E e dn)(hp:i∉pin:=by decide)(hi:X.N[i]?=aa x:=by rfl)(hx:Loc X.env.scope x:=by first|exact Or.inl rfl|exact Or.inr rfl)(hs:ik e (aa (.Name x p)) pos.line X.env=pure aj:=by rfl)(hf:X.fn x=ah\/X.env.scope.names.lookup x=aa .local:=by first|exact .inl rfl|exact .inr rfl):DS X E pin (.Assign [.Name x p] e pos) (cg i dn):=λF S ε σ H D rl h=>by
 refine fI (F6 hN hi hx bB hs hf) (he F S ε σ H _ rl ?_);unfold cg at h;cases e0:dn ε with
 |no=>rw[e0]at h;exact h.elim
 |er c ε'=>rw[e0]at h;exact λx F' S' H' r' g'=>h x F' S' σ H' r' g' (iH.refl _ _)
 |ok po ε1=>
  rw[e0]at h;simp only[R.bind_ok]at h;intro F1 S1 H1 r1 g1 a Sa ow fr;by_cases hl:i<ε1.length
  ·rw[if_pos hl]at h;refine h F1 _ _ H1 (r1.setOwn hl ow λb z=>(fr b z).2) ⟨g1.fro,g1.keep,g1.there,g1.fnew,λb ⟨j,z⟩=>?_⟩ (iH.set hp);rcases z with z|⟨_,z⟩
   ·exact g1.onew b ⟨j,z.1⟩
   ·exact .inr (fr b z).1
  ·rw[if_neg hl]at h;exact h.elim
theorem dG{c:aw}{a b:List aR}{t:ag->R Bool}(hc:DT X E c t)(ha:fc X E pin a d1)(hb:fc X E pin b d2):DS X E pin (.If c a b pos) (bi t d1 d2):=λF S ε σ H D rl h=>by
 refine fI (P6 lS o8 o8) (hc F S ε σ H _ rl (h.bindE.imp λk ε1 F1 S1 H1 r1 g1 h1=>?_));cases k with
 |true=>exact lV (ha F1 S1 ε1 σ H1 D r1 h1)
 |false=>exact lJ (hb F1 S1 ε1 σ H1 D r1 h1)
def Ed:ag->R aK:=λ_=>.no
theorem P0{sts:List aR}:fc X E pin sts Ed:=λ_ _ _ _ _ _ _ h=>h.elim
def cA(r:R aK):R aK:=match r with
 |.er _ _=>.no
 |r=>r
theorem kb(h:DS X.nox E0 pin st d):DS X E pin st (λε=>cA (d ε)):=λF S ε σ H D rl q=>Bx.mk λae s I=>by
 have q:gT X.K E pin σ F S H (cA (d ε)) D:=q;have q':gT X.K E0 pin σ F S H (d ε) D:=by
  cases e:d ε with
  |no=>rw[e]at q;exact q
  |er c ε'=>rw[e]at q;exact q.elim
  |ok f ε'=>rw[e]at q;cases f <;> exact q
 exact d5 ((h F S ε σ H D rl q').run ae s (I.wish _)) (λ_ _ z=>z.unwish) λ_ _ z=>z.elim
def l_(X:Cx)(tg iter:aw):TI:=λσ H Rr=>Bx (∀ae s,Inv X ae σ H s->au (aB X.prog X.w) X.A (aG iter X.env) (λv s1=>au (aB X.prog X.w) X.A (nO v) (vq X ae σ tg Rr) X.xe s1) X.xe s)
theorem xr{tg iter:aw}:PI X tg iter (l_ X tg iter):=λae s _ _ _ I h=>h.run ae s I
theorem KF{tg iter:aw}{t:TI}(h:PI X tg iter t){σ:St}{H:Hp}{Rr:It->Hp->Prop}(q:t σ H Rr):l_ X tg iter σ H Rr:=⟨λae s I=>h ae s σ H Rr I q⟩
def DI(X:Cx)(E:XK)(tg iter:aw)(d:ag->R (List PV)):Prop:=∀F S ε σ H Rr,aI X.K F S ε σ H ->
 Ok X.K E σ F S H (d ε) (λpvs _ F' S' H'=>∀J vs RR,bj X.K H' F' pvs vs->vs.length<=bn->Walk J vs RR->(∀S'' F'' H'',bd (U S') (U S'') F' F'' H' H''->RR H'')->Rr J H')->l_ X tg iter σ H Rr
def dm(i:Nat)(db:ag->R aK):List PV->ag->R aK
 |[],ε=>.ok .next ε
 |x::xs,ε=>match db (ε.set i (.val x))with
  |.ok .next ε'=>dm i db xs ε'
  |.ok .cont ε'=>dm i db xs ε'
  |.ok .brk ε'=>.ok .next ε'
  |r=>r
def bR(i:Nat)(di:ag->R (List PV))(db:ag->R aK):ag->R aK:=λε=>(di ε).bind λxs ε1=>dm i db xs ε1
theorem iM(i:Nat){x:Str}{p:Pos}{iter:aw}{body:List aR}{di:ag->R (List PV)}{db:ag->R aK}(hpo:A3 (aB X.prog X.w) X.A X.env X.xe)(hc:X.calm=ah)(hN:X.N.Nodup)(hi:DI X E (.Name x p) iter di)(hb:fc X E pin body db)(hp:i∉pin:=by decide) (hx:X.N[i]?=aa x:=by rfl) (hl:Loc X.env.scope x:=by first|exact Or.inl rfl|exact Or.inr rfl) (hs:∀x,nP iter X.env x=pure x:=by intro _;rfl)(hf:X.fn x=ah\/X.env.scope.names.lookup x=aa .local:=by first|exact .inl rfl|exact .inr rfl):DS X E pin (.For (.Name x p) iter body [] pos) (bR i di db):=λF S ε σ H D rl h=>by
 refine fI (Mp hpo hc xr (ro hN hx hl hf) o8 hs) (hi F S ε σ H _ rl (h.bindE.imp λxs ε1 F1 S1 H1 r1 g1 h1 J vs RR rs hz hw keep=>?_));refine N9 hw (λk σ' H'=>∃F' S' ε',aI X.K F' S' ε' σ' H'/\bd (U S1) (U S') F1 F' H1 H'/\gT X.K E pin σ' F' S' H' (dm i db (xs.drop k) ε') D) ⟨F1,S1,ε1,r1,bd.refl ..,h1⟩ (λk σ' H' _ ⟨F',S',ε',_,g,_⟩=>keep S' F' H' g) ?_ ?_
 ·rintro k v σ' H' hv ⟨F',S',ε',r',g',q⟩;obtain⟨x,hx,rx⟩:=rs.back hv;have hk:k<xs.length:=(cO.mp hx).1;have ed:xs.drop k=x::xs.drop (k+1):=by rw[G4 hk];congr 1;exact(cO.mp hx).2
  rw[ed]at q;have rx':=rx.grow g' r1.fit;have r2:=r'.set (i:=i) rx';have gl:bd (U S') (U λj b=>S' j b/\j≠i) F' F' H' H':=bd.less i;show oN X body _ (σ'.set i (aa v)) H';refine hb F' _ _ _ H' _ r2 ?_;unfold dm at q;have q:=q.from gl (iH.set (x:=aa v) hp);cases e:db (ε'.set i (.val x))with
  |no=>rw[e]at q;exact q
  |er c ε3=>rw[e]at q;exact q
  |ok f ε3=>
   rw[e]at q;cases f with
   |next=>exact λF3 S3 σ3 H3 r3 g3 p3=>⟨F3,S3,ε3,r3,(g'.trans gl).trans g3,q.from g3 p3⟩
   |cont=>exact λF3 S3 σ3 H3 r3 g3 p3=>⟨F3,S3,ε3,r3,(g'.trans gl).trans g3,q.from g3 p3⟩
   |brk=>exact q
   |ret s=>exact q
 ·rintro σ' H' ⟨F',S',ε',r',g',q⟩;have hl:vs.length=xs.length:=rs.len;rw[hl,G5]at q;exact q F' S' σ' H' r' (bd.refl ..) (iH.refl _ _)
def iE(t:ag->R Bool)(db:ag->R aK):Nat->ag->R aK
 |0,_=>.no
 |n+1,ε=>(t ε).bind λk ε1=>match k with
  |false=>.ok .next ε1
  |true=>match db ε1 with
   |.ok .next ε'=>iE t db n ε'
   |.ok .cont ε'=>iE t db n ε'
   |.ok .brk ε'=>.ok .next ε'
   |r=>r
theorem L9{c:aw}{body:List aR}{t:ag->R Bool}{db:ag->R aK}(ft:ag->Nat)(hpo:A3 (aB X.prog X.w) X.A X.env X.xe)(hc:DT X E c t)(hb:fc X E pin body db):DS X E pin (.While c body [] pos) (λε=>iE t db (ft ε) ε):=λF S ε σ H D rl h=>by
 refine fI (Pj hpo lS o8) ⟨λm σ' H'=>∃F' S' ε',aI X.K F' S' ε' σ' H'/\gT X.K E pin σ' F' S' H' (iE t db m ε') D,⟨ft ε,F,S,ε,rl,h⟩,?_⟩;rintro m σ1 H1 ⟨F1,S1,ε1,r1,q⟩;cases m with
 |zero=>exact q.elim
 |succ m=>
  refine hc F1 S1 ε1 σ1 H1 _ r1 (q.bindE.imp λk ε2 F2 S2 H2 r2 g2 q2=>?_);cases k with
  |false=>exact lJ (q2 F2 S2 σ1 H2 r2 (bd.refl ..) (iH.refl _ _))
  |true=>
   refine lV ⟨λσ' H'=>∃F' S' ε',aI X.K F' S' ε' σ' H'/\gT X.K E pin σ' F' S' H' (iE t db m ε') D,λσ' H' w=>⟨m,kA m,w⟩,hb F2 S2 ε2 σ1 H2 _ r2 ?_⟩;have q2:gT X.K E pin σ1 F2 S2 H2 (match db ε2 with
    |.ok .next ε'=>iE t db m ε'
    |.ok .cont ε'=>iE t db m ε'
    |.ok .brk ε'=>.ok .next ε'
    |r=>r) D:=q2
   cases e:db ε2 with
   |no=>rw[e]at q2;exact q2
   |er c ε3=>rw[e]at q2;exact q2
   |ok f ε3=>
    rw[e]at q2;cases f with
    |next=>exact λF3 S3 σ3 H3 r3 g3 p3=>⟨F3,S3,ε3,r3,q2.from g3 p3⟩
    |cont=>exact λF3 S3 σ3 H3 r3 g3 p3=>⟨F3,S3,ε3,r3,q2.from g3 p3⟩
    |brk=>exact q2
    |ret s=>exact q2
end
def wS(K:aq)(E:XK)(vs:List V)(F:ac->Prop)(S:Nat->ac->Prop)(H:Hp)(r:R Slot)(Q:VK):Prop:=match r with
 |.ok s aL=>∀v F' S' H' Sr,aI K F' S' aL (vs.map aa) H'->bd (U S) (λb=>U S' b\/Sr b) F F' H H'->jO K H' F' s v Sr->qW F' S' H' Sr->(∀b,Sr b->H b=af)->Q v H'
 |.er c aL=>∀x F' S' H',aI K F' S' aL (vs.map aa) H'->bd (U S) (U S') F F' H H'->E c x H'
 |.no=>False
def bp(K:aq)(g:ag->R Slot):Sp:=λvs H Q E=>∃F S ss,aI K F S ss (vs.map aa) H/\wS K E vs F S H (g ss) Q
structure cC(CX:eI)(P:ba)(w:aP)(K:aq)(mg:Str->Option ai)(base:aE)(x:Str)(k:Nat)(ps:List Str)(sp:Sp):Prop where
 ex:∃f fd,mg x=aa (.ref f)/\gL P w K mg base CX k f fd ps sp/\Binds K fd ps []/\jV K (.ref f)=ah
def back:ag->ag->Option ag
 |[],_=>aa []
 |.own _::ss,.own po::es=>(back ss es).map (.own po::·)
 |.own _::_,_=>af
 |s::ss,_::es=>(back ss es).map (s::·)
 |_::_,[]=>af
theorem v_:∀{ss es aL:ag},back ss es=aa aL->aL.length=ss.length/\∀(i:Nat) (s:Slot),aL[i]?=aa s->(∃po po',ss[i]?=aa (.own po)/\es[i]?=aa (.own po')/\s=.own po')\/(ss[i]?=aa s/\∀po,s≠.own po)
 |[],_,aL,h=>by cases h;exact⟨rfl,λi s e=>by simp at e⟩
 |.own po::ss,.own po'::es,aL,h=>by
  unfold back at h;cases e:back ss es with
  |none=>rw[e]at h;cases h
  |some r=>
   rw[e]at h;cases h;obtain⟨l,q⟩:=v_ e;refine⟨by simp[l],λi s hi=>?_⟩;cases i with
   |zero=>simp at hi;subst hi;exact .inl ⟨po,po',rfl,rfl,rfl⟩
   |succ i=>simpa using q i s (by simpa using hi)
 |.own po::ss,.none::es,aL,h=>by cases h
 |.own po::ss,.val _::es,aL,h=>by cases h
 |.own po::ss,[],aL,h=>by cases h
 |.none::ss,[],aL,h=>by cases h
 |.val _::ss,[],aL,h=>by cases h
 |.none::ss,x::es,aL,h=>by
  have h:(back ss es).map (Slot.none::·)=aa aL:=by unfold back at h;cases x <;> exact h
  cases e:back ss es with
  |none=>rw[e]at h;cases h
  |some r=>
   rw[e]at h;cases h;obtain⟨l,q⟩:=v_ e;refine⟨by simp[l],λi s hi=>?_⟩;cases i with
   |zero=>simp at hi;subst hi;exact .inr ⟨rfl,λ_ z=>by cases z⟩
   |succ i=>simpa using q i s (by simpa using hi)
 |.val pv::ss,x::es,aL,h=>by
  have h:(back ss es).map (Slot.val pv::·)=aa aL:=by unfold back at h;cases x <;> exact h
  cases e:back ss es with
  |none=>rw[e]at h;cases h
  |some r=>
   rw[e]at h;cases h;obtain⟨l,q⟩:=v_ e;refine⟨by simp[l],λi s hi=>?_⟩;cases i with
   |zero=>simp at hi;subst hi;exact .inr ⟨rfl,λ_ z=>by cases z⟩
   |succ i=>simpa using q i s (by simpa using hi)
def bq(n:Nat)(d:ag->R aK):ag->R Slot:=λss=>match d (ss++bG n .none)with
 |.ok (.ret r) ε'=>(aC (back ss ε') []).bind λaL _=>.ok r aL
 |.ok .next ε'=>(aC (back ss ε') []).bind λaL _=>.ok (.val .non) aL
 |.er c ε'=>(aC (back ss ε') []).bind λaL _=>.er c aL
 |_=>.no
section
variable{K:aq}{F F':ac->Prop}{S S':Nat->ac->Prop}{ss ε' aL:ag}{σ':St}{H H':Hp}{vs:List V}
theorem aI.start(r:aI K F S ss (vs.map aa) H)(n:Nat):aI K F S (ss++bG n .none) (vs.map aa++bG n af) H:=by
 have hl:ss.length=(vs.map aa).length:=r.len;have no:∀{j:Nat}{s:Slot},(ss++bG n Slot.none)[j]?=aa s->s≠.none->ss[j]?=aa s:=λ{j s} e hs=>by
  by_cases hj:j<ss.length
  ·rw[iS hj]at e;exact e
  ·rw[rE ∅,List.getElem?_replicate]at e;split at e
   ·exact absurd (fi e).symm hs
   ·cases e
 have up:∀{j:Nat}{v:Option V},(vs.map aa)[j]?=aa v->(vs.map aa++bG n af)[j]?=aa v:=λ{j v} e=>by rw[iS (cO.mp e).1];exact e
 refine⟨by simp[hl],r.ex,λj pv e=>?_,λj po e=>?_,λj b h=>?_,r.dist⟩
 ·obtain⟨v,h1,h2⟩:=r.val j pv (no e (by intro z;cases z));exact⟨v,up h1,h2⟩
 ·obtain⟨v,h1,h2⟩:=r.own j po (no e (by intro z;cases z));exact⟨v,up h1,h2⟩
 ·obtain⟨⟨po,q⟩,q2⟩:=r.foot j b h;exact⟨⟨po,by rw[iS (cO.mp q).1];exact q⟩,q2⟩
theorem Dr{po:PO}{a:ac}{Sa:ac->Prop}(h:dJ K H F po a Sa)(hf:fQ po=ah):∀b,Sa b↔b=a:=by
 cases po with
 |lst xs=>exact h.2
 |dK kvs=>exact h.2
 |lls jk=>cases hf
 |ins C fs=>exact h.2
 |dT kvs=>exact h.2
 |inl C fs y xs=>cases hf
theorem Lp{po:PO}{a:ac}{Sa:ac->Prop}(h:dJ K H F po a Sa):Sa a:=by
 cases po with
 |lst xs=>exact(h.2 a).mpr rfl
 |dK kvs=>exact(h.2 a).mpr rfl
 |lls jk=>obtain⟨as,_,_,_,_,w⟩:=h;exact(w a).mpr (.inl rfl)
 |ins C fs=>exact(h.2 a).mpr rfl
 |dT kvs=>exact(h.2 a).mpr rfl
 |inl C fs y xs=>obtain⟨_,_,_,_,_,_,_,_,_,_,w⟩:=h;exact(w a).mpr (.inl rfl)
theorem aI.back{O':ac->Prop}{pin:List Nat}{n:Nat}(r0:aI K F S ss (vs.map aa) H)(r:aI K F' S' ε' σ' H')(g:bd (U S) O' F F' H H')(p:iH pin (vs.map aa++bG n af) σ')(jB:∀(i:Nat) (po:PO),ss[i]?=aa (.own po)->i∈pin)(hb:back ss ε'=aa aL):∃S'',aI K F' S'' aL (vs.map aa) H'/\(∀b,U S'' b->U S' b)/\((∀(i:Nat) (po:PO),ss[i]?=aa (.own po)->fQ po=ah)->∀b,U S b->U S'' b):=by
 obtain⟨hl,hg⟩:=v_ hb;have inj:∀(i:Nat) (po:PO),ss[i]?=aa (.own po)->∃a,(vs.map aa)[i]?=aa (aa (.ref a))/\σ'[i]?=aa (aa (.ref a))/\dJ K H F po a (S i):=λi po e=>by obtain⟨a,h1,h2⟩:=r0.own i po e;refine⟨a,h1,?_,h2⟩;rw[p i (jB i po e),iS (cO.mp h1).1];exact h1
 have bk:∀(i:Nat) (po:PO),ss[i]?=aa (.own po)->∃po',aL[i]?=aa (.own po')/\ε'[i]?=aa (.own po'):=λi po e=>by
  have hi:i<aL.length:=by rw[hl];exact(cO.mp e).1
  rcases hg i aL[i] (by simp[hi])with⟨p1,p2,q1,q2,q3⟩|⟨q1,q2⟩
  ·exact⟨p2,by rw[fL hi,q3],q2⟩
  ·rw[e]at q1;exact absurd (fi q1).symm (q2 po)
 refine⟨λi b=>S' i b/\∃po,ss[i]?=aa (.own po),⟨by rw[hl];exact r0.len,r.ex,λi pv e=>?_,λi po e=>?_,λi b h=>?_,λi j b h1 h2=>r.dist i j b h1.1 h2.1⟩,λb ⟨i,h⟩=>⟨i,h.1⟩,λoq b ⟨i,h⟩=>?_⟩
 ·rcases hg i _ e with⟨_,_,_,_,z⟩|⟨q1,_⟩
  ·cases z
  ·obtain⟨v,h1,h2⟩:=r0.val i pv q1;exact⟨v,h1,h2.grow g r0.fit⟩
 ·rcases hg i _ e with⟨p1,p2,q1,q2,q3⟩|⟨_,q2⟩
  ·cases q3;obtain⟨a,h1,h2,h3⟩:=inj i p1 q1;obtain⟨a',h4,h5⟩:=r.own i po q2;rw[h2]at h4;cases h4;refine⟨a,h1,?_⟩;have eS:(λb=>S' i b/\∃po,ss[i]?=aa (.own po))=S' i:=by funext b;exact propext ⟨λz=>z.1,λz=>⟨z,p1,q1⟩⟩
   rw[eS];exact h5
  ·exact absurd rfl (q2 po)
 ·obtain⟨po,q⟩:=h.2;obtain⟨po',z1,z2⟩:=bk i po q;exact⟨⟨po',z1⟩,(r.foot i b h.1).2⟩
 ·obtain⟨⟨po,q⟩,_⟩:=r0.foot i b h;obtain⟨a,h1,h2,h3⟩:=inj i po q;obtain⟨po',z1,z2⟩:=bk i po q;obtain⟨a',h4,h5⟩:=r.own i po' z2;rw[h2]at h4;cases h4;have e:b=a:=(Dr h3 (oq i po q) b).mp h;exact⟨i,e ▸ Lp h5,po,q⟩
end
theorem tW{K:aq}{E:XK}{vs:List V}{F:ac->Prop}{S:Nat->ac->Prop}{H:Hp}{r:R Slot}{Q:VK}(h:wS K E vs F S H r Q):r≠.no:=λz=>by rw[z]at h;exact h
theorem yw{K:aq}{g:ag->R Slot}{m:Nat}(aS:∀ss,g ss≠.no->ss.length=m):∀vs H Q E,bp K g vs H Q E->vs.length=m:=λvs H Q E ⟨F,S,ss,rl,ok⟩=>by have:=aS ss (tW ok);have h2:=rl.len;rw[c9]at h2;lia
theorem Ge{X:Cx}{E:XK}{body:List aR}{N ps:List Str}{vs:List V}{H:Hp}{Q:VK}{n:Nat}{g:ag->R Slot}{d:ag->R aK}{pin:List Nat}(hn:N.length=ps.length+n)(aS:∀ss,g ss≠.no->ss.length=ps.length) (jB:∀ss,g ss≠.no->∀(i:Nat) po,ss[i]?=aa (.own po)->i∈pin) (oq:∀ss rs aL,g ss=.ok rs aL->(∃pv,rs=.val pv)\/∀(i:Nat) po,ss[i]?=aa (.own po)->fQ po=ah) (hg:∀ss,g ss≠.no->bq n d ss=g ss)(hb:fc X E pin body d) (io:bp X.K g vs H Q E):oN X body {nx:=λ_ H'=>Q .non H',rt:=Q} (L2.start N vs) H:=by
 obtain⟨F,S,ss,rl,ok⟩:=io;have hl:=aS ss (tW ok);have h2:=rl.len;rw[c9]at h2;have es:L2.start N vs=vs.map aa++bG n af:=by unfold L2.start;rw[show N.length-vs.length=n by lia]
 rw[es];refine hb F S _ _ H _ (rl.start n) ?_;have Hq:=jB ss (tW ok);have hg':=hg ss (tW ok);have x8:=oq ss;rw[←hg']at ok x8;unfold bq at ok x8;generalize d (ss++bG n .none)=r at ok x8 ⊢;cases r with
 |no=>exact ok
 |er c ε'=>
  intro x F' S' σ' H' r' g' p';have ok:wS X.K E vs F S H ((aC (back ss ε') []).bind λaL _=>.er c aL) Q:=ok;cases e:back ss ε' with
  |none=>rw[e]at ok;exact ok.elim
  |some aL=>rw[e]at ok;obtain⟨S'',r'',sub,_⟩:=rl.back r' g' p' Hq e;exact ok x F' S'' H' r'' ⟨g'.fro,g'.keep,g'.there,g'.fnew,λb z=>g'.onew b (sub b z)⟩
 |ok fl ε'=>
  have fin:∀(rs:Slot),(∀aL,back ss ε'=aa aL->(∃pv,rs=.val pv)\/∀(i:Nat) po,ss[i]?=aa (.own po)->fQ po=ah)->wS X.K E vs F S H ((aC (back ss ε') []).bind λaL _=>.ok rs aL) Q->∀(v:V) F' S' σ' H' Sr,aI X.K F' S' ε' σ' H'->bd (U S) (λb=>U S' b\/Sr b) F F' H H'->iH pin (vs.map aa++bG n af) σ'->jO X.K H' F' rs v Sr->qW F' S' H' Sr->Q v H':=by
   intro rs hrs ok v F' S' σ' H' Sr r' g' p' hv lo;cases e:back ss ε' with
   |none=>rw[e]at ok;exact ok.elim
   |some aL=>
    rw[e]at ok;obtain⟨S'',r'',sub,up⟩:=rl.back r' g' p' Hq e;refine ok v F' S'' H' Sr r'' ⟨g'.fro,g'.keep,g'.there,g'.fnew,λb z=>g'.onew b (z.imp (sub b) id)⟩ hv (λb z=>⟨(lo b z).1,λw=>(lo b z).2.1 (sub b w),(lo b z).2.2⟩) λb z=>?_;rcases hrs aL e with⟨pv,rfl⟩|hf
    ·exact absurd z (hv.2 b)
    rcases g'.onew b (.inr z)with w|w
    ·exact absurd (sub b (up hf b w)) (lo b z).2.1
    ·exact w
  cases fl with
  |brk=>exact ok.elim
  |cont=>exact ok.elim
  |ret rs=>exact fin rs (λaL e=>x8 rs aL (by show(aC (back ss ε') []).bind _=_;rw[e];rfl)) ok
  |next=>exact λF' S' σ' H' r' g' p'=>fin (.val .non) (λ_ _=>.inl ⟨_,rfl⟩) ok .non F' S' σ' H' (λ_=>False) r' ⟨g'.fro,g'.keep,g'.there,g'.fnew,λb z=>z.elim (g'.onew b) fW⟩ p' ⟨rfl,λ_ z=>z⟩ λ_ z=>z.elim
theorem Ch{f:ac}{fd:gn}{CX:eI}{P:ba}{w:aP}{K:aq}{mg:Str->Option ai}{base:aE}{x qual:Str}{st:aR}{N ps:List Str}{k n:Nat}{g:ag->R Slot}{d:ag->R aK}{pin:List Nat}(Fn:kT K x qual st f fd)(Sc:bI N ps (aN st))(hn:N.length=ps.length+n)(hb:∀(kV doc pm:ai) (an:Option ac) (aF ct:ai) (us:List ai),us.length=ps.length->eV (fk x qual (gc st) (c7 st) (aN st) .none kV doc pm an aF ct) ⟨us,[]⟩=pure (ps.zip us))(aS:∀ss,g ss≠.no->ss.length=ps.length) (jB:∀ss,g ss≠.no->∀(i:Nat) po,ss[i]?=aa (.own po)->i∈pin) (oq:∀ss rs aL,g ss=.ok rs aL->(∃pv,rs=.val pv)\/∀(i:Nat) po,ss[i]?=aa (.own po)->fQ po=ah) (hg:∀ss,g ss≠.no->bq n d ss=g ss)(eW:∀(A:a6) (outer:List Env) (s:am) (H:Hp) (E:XK),cB k (A.deeper (gu qual (aN st) s.heap.objs.size f fd.code))->fc (gd CX P w K mg base N qual (aN st) f fd.code A outer s H E) E pin (c7 st) d):gL P w K mg base CX (k+1) f fd ps (bp K g):=by obtain⟨oc,od,kV,doc,pm,an,aF,ct,osl,rfl,lk,a8⟩:=Fn.ex;exact BX lk a8 Sc (yw aS) λA outer s H vs Q E hr io=>⟨_,o8,Ge hn aS jB oq hg (eW A outer s H E hr) io⟩
theorem EB{f:ac}{fd:gn}{CX:eI}{P:ba}{w:aP}{K:aq}{mg:Str->Option ai}{base:aE}{x qual:Str}{st:aR}{N ps:List Str}{k n:Nat}{g:ag->R Slot}{d:ag->R aK}{pin:List Nat}(Fn:kT K x qual st f fd)(Sc:bI N ps (aN st))(hn:N.length=ps.length+n)(hb:∀(kV doc pm:ai) (an:Option ac) (aF ct:ai) (us:List ai),us.length=ps.length->eV (fk x qual (gc st) (c7 st) (aN st) .none kV doc pm an aF ct) ⟨us,[]⟩=pure (ps.zip us))(aS:∀ss,g ss≠.no->ss.length=ps.length) (jB:∀ss,g ss≠.no->∀(i:Nat) po,ss[i]?=aa (.own po)->i∈pin/\fQ po=ah) (hg:∀ss,g ss≠.no->bq n d ss=g ss)(eW:∀(f:ac) (aF:ai) (A:a6) (outer:List Env) (s:am) (H:Hp) (E:XK),cB k (A.deeper (gu qual (aN st) s.heap.objs.size f aF))->fc (gd CX P w K mg base N qual (aN st) f aF A outer s H E) E pin (c7 st) d):gL P w K mg base CX (k+1) f fd ps (bp K g):=Ch Fn Sc hn hb aS (λss h i po e=>(jB ss h i po e).1) (λss rs aL h=>.inr λi po e=>(jB ss (by rw[h];exact nofun) i po e).2) hg λA outer s H E=>eW f fd.code A outer s H E
theorem QM{CX:eI}{P:ba}{w:aP}{K:aq}{mg:Str->Option ai}{base:aE}{x:Str}{st:aR}{N ps:List Str}{k n:Nat}{g:ag->R Slot}{d:ag->R aK}{pin:List Nat}(D:cp K mg x st)(Sc:bI N ps (aN st))(hn:N.length=ps.length+n)(hb:∀(kV doc pm:ai) (an:Option ac) (aF ct:ai) (us:List ai),us.length=ps.length->eV (fk x x (gc st) (c7 st) (aN st) .none kV doc pm an aF ct) ⟨us,[]⟩=pure (ps.zip us))(aS:∀ss,g ss≠.no->ss.length=ps.length) (jB:∀ss,g ss≠.no->∀(i:Nat) po,ss[i]?=aa (.own po)->i∈pin/\fQ po=ah) (hg:∀ss,g ss≠.no->bq n d ss=g ss)(eW:∀(f:ac) (aF:ai) (A:a6) (outer:List Env) (s:am) (H:Hp) (E:XK),cB k (A.deeper (gu x (aN st) s.heap.objs.size f aF))->fc (gd CX P w K mg base N x (aN st) f aF A outer s H E) E pin (c7 st) d):cC CX P w K mg base x (k+1) ps (bp K g):=by obtain⟨f,fd,hm,Fn⟩:=D.ex;exact⟨f,fd,hm,EB Fn Sc hn hb aS jB hg eW,Fn.binds hb,Fn.kp⟩
abbrev bL:=Sum PV Nat
def eO(K:aq)(σ:St)(F:ac->Prop)(H:Hp):List bL->List V->Prop
 |[],vs=>vs=[]
 |.inl pv::as,vs=>∃v r,vs=v::r/\aU K H F pv v/\eO K σ F H as r
 |.inr i::as,vs=>∃v r,vs=v::r/\σ[i]?=aa (aa v)/\eO K σ F H as r
def DG(X:Cx)(E:XK)(es:List aw)(d:ag->R (List bL)):Prop :=
 ∀F S ε σ H Q,aI X.K F S ε σ H->Ok X.K E σ F S H (d ε) (λas _ F' _ H'=>∀vs,eO X.K σ F' H' as vs->Q vs H')->oy X es σ H Q
section
variable{X:Cx}{E:XK}{e:aw}{es:List aw}{de:ag->R PV}{dg:ag->R (List bL)}{pos:Pos}
def bK:ag->R (List bL):=λε=>.ok [] ε
def gV(d:ag->R PV)(dg:ag->R (List bL)):ag->R (List bL):=λε=>(d ε).bind λx ε1=>(dg ε1).bind λxs ε2=>.ok (.inl x::xs) ε2
def gO(i:Nat)(dg:ag->R (List bL)):ag->R (List bL):=λε=>match ε[i]? with
 |some (.own _)=>(dg ε).bind λxs ε2=>.ok (.inr i::xs) ε2
 |_=>.no
theorem bP:DG X E [] bK:=λF S ε σ H Q rl h=>oG gB (h F S H rl (bd.refl ..) _ rfl)
theorem Jv(ha:DE X E e de)(hr:DG X E es dg)(hs:aH (e::es) X.env=(aj,aG e X.env)::aH es X.env:=by rfl):DG X E (e::es) (gV de dg):=λF S ε σ H Q rl h=>by refine oG (ff bB gP hs) (ha F S ε σ H _ rl ((Ok.bind h).imp λx ε1 F1 S1 H1 r1 g1 h1 v rv=>?_));refine hr F1 S1 ε1 σ H1 _ r1 ((Ok.bind h1).imp λxs ε2 F2 S2 H2 r2 g2 h2 vs jD=>?_);exact h2 F2 S2 H2 r2 (bd.refl ..) _ ⟨v,vs,rfl,rv.grow g2 r1.fit,jD⟩
theorem iq(i:Nat){x:Str}{p:Pos}(hr:DG X E es dg)(hN:X.N[i]?=aa x:=by rfl)(hv:cx X.env.scope x:=by first|exact Or.inl rfl|exact Or.inr (Or.inl rfl)|exact Or.inr (Or.inr rfl))(hd:(x == ("__debug__" : Str))=aj:=by decide)(a8:(x == ("__classdict__" : Str))=aj:=by decide) (hs:aH (.Name x p::es) X.env=(aj,aG (.Name x p) X.env)::aH es X.env:=by rfl):DG X E (.Name x p::es) (gO i dg):=λF S ε σ H Q rl h=>by
 unfold gO at h;split at h
 ·rename_i po e;obtain⟨a,e1,_⟩:=rl.own i po e;refine oG (ff (cF hN hv hd a8) gP hs) ⟨_,e1,hr F S ε σ H _ rl ((Ok.bind h).imp λxs ε2 F2 S2 H2 r2 g2 h2 vs jD=>?_)⟩;exact h2 F2 S2 H2 r2 (bd.refl ..) _ ⟨_,vs,rfl,e1,jD⟩
 ·exact h.elim
end
def bW(ε:ag):List bL->Option ag
 |[]=>aa []
 |.inl pv::as=>(bW ε as).map (.val pv::·)
 |.inr i::as=>match ε[i]? with
  |some (.own po)=>(bW ε as).map (.own po::·)
  |_=>af
def cf:ag->List bL->ag->ag
 |ε,.inl _::as,_::ss=>cf ε as ss
 |ε,.inr i::as,s::ss=>cf (ε.set i s) as ss
 |ε,_,_=>ε
def bu:List bL->List Nat
 |[]=>[]
 |.inl _::as=>bu as
 |.inr i::as=>i::bu as
theorem Eh:∀{as:List bL}{i:Nat},i∈bu as↔∃k:Nat,as[k]?=aa (.inr i)
 |[],i=>by simp[bu]
 |.inl _::as,i=>by
  unfold bu;rw[Eh];constructor
  ·rintro⟨k,h⟩;exact⟨k+1,by simpa using h⟩
  ·rintro⟨k,h⟩;cases k with
   |zero=>simp at h
   |succ k=>exact⟨k,by simpa using h⟩
 |.inr j::as,i=>by
  unfold bu;rw[bQ,Eh];constructor
  ·rintro(rfl|⟨k,h⟩)
   ·exact⟨0,rfl⟩
   ·exact⟨k+1,by simpa using h⟩
  ·rintro⟨k,h⟩;cases k with
   |zero=>simp at h;exact .inl h.symm
   |succ k=>exact .inr ⟨k,by simpa using h⟩
theorem wC{ε:ag}:∀{as:List bL}{ss:ag},bW ε as=aa ss->ss.length=as.length/\∀(k:Nat) (s:Slot),ss[k]?=aa s->(∃pv,as[k]?=aa (.inl pv)/\s=.val pv)\/∃i po,as[k]?=aa (.inr i)/\ε[i]?=aa (.own po)/\s=.own po
 |[],ss,h=>by cases h;exact⟨rfl,λk s e=>by simp at e⟩
 |.inl pv::as,ss,h=>by
  unfold bW at h;cases e:bW ε as with
  |none=>rw[e]at h;cases h
  |some r=>
   rw[e]at h;cases h;obtain⟨l,q⟩:=wC e;refine⟨by simp[l],λk s hk=>?_⟩;cases k with
   |zero=>simp at hk;exact .inl ⟨pv,rfl,hk.symm⟩
   |succ k=>simpa using q k s (by simpa using hk)
 |.inr i::as,ss,h=>by
  unfold bW at h;split at h
  ·rename_i po ei;cases e:bW ε as with
   |none=>rw[e]at h;cases h
   |some r=>
    rw[e]at h;cases h;obtain⟨l,q⟩:=wC e;refine⟨by simp[l],λk s hk=>?_⟩;cases k with
    |zero=>simp at hk;exact .inr ⟨i,po,rfl,ei,hk.symm⟩
    |succ k=>simpa using q k s (by simpa using hk)
  ·cases h
theorem vC:∀(as:List bL) (ε ss:ag),(cf ε as ss).length=ε.length
 |[],ε,ss=>by cases ss <;> rfl
 |.inl _::as,ε,[]=>rfl
 |.inr _::as,ε,[]=>rfl
 |.inl _::as,ε,s::ss=>vC as ε ss
 |.inr i::as,ε,s::ss=>by show(cf (ε.set i s) as ss).length=_;rw[vC,gK]
theorem qS:∀(as:List bL) (ε ss:ag) (j:Nat),j∉bu as->(cf ε as ss)[j]?=ε[j]?
 |[],ε,ss,j,_=>by cases ss <;> rfl
 |.inl _::as,ε,[],j,_=>rfl
 |.inr _::as,ε,[],j,_=>rfl
 |.inl _::as,ε,s::ss,j,h=>qS as ε ss j h
 |.inr i::as,ε,s::ss,j,h=>by
  have h1:¬(j=i\/j∈bu as):=by simpa[bu]using h
  show(cf (ε.set i s) as ss)[j]?=_;rw[qS as _ ss j λz=>h1 (.inr z),cu λz=>h1 (.inl z.symm)]
theorem so:∀(as:List bL) (ε ss:ag) (j k:Nat) (s:Slot),(bu as).Nodup->j<ε.length->as[k]?=aa (.inr j)->ss[k]?=aa s->(cf ε as ss)[j]?=aa s
 |[],ε,ss,j,k,s,_,_,h,_=>by simp at h
 |_::as,ε,[],j,k,s,_,_,_,h=>by simp at h
 |.inl _::as,ε,t::ss,j,0,s,_,_,h,_=>by simp at h
 |.inl _::as,ε,t::ss,j,k+1,s,nd,hj,h,g=>so as ε ss j k s nd hj (by simpa using h) (by simpa using g)
 |.inr i::as,ε,t::ss,j,0,s,nd,hj,h,g=>by simp at h g;subst h g;have nd':i∉bu as:=(jY.mp nd).1;show(cf (ε.set i t) as ss)[i]?=_;rw[qS as _ ss i nd',cP hj]
 |.inr i::as,ε,t::ss,j,k+1,s,nd,hj,h,g=>so as (ε.set i t) ss j k s (jY.mp nd).2 (by rw[gK];exact hj) (by simpa using h) (by simpa using g)
theorem eO.len{K:aq}{σ:St}{F:ac->Prop}{H:Hp}:∀{as:List bL}{vs:List V},eO K σ F H as vs->vs.length=as.length
 |[],_,h=>by rw[show _=[] from h];rfl
 |.inl _::as,_,⟨v,r,e,_,h⟩=>by rw[e,eF,eF,eO.len h]
 |.inr _::as,_,⟨v,r,e,_,h⟩=>by rw[e,eF,eF,eO.len h]
theorem eO.val{K:aq}{σ:St}{F:ac->Prop}{H:Hp}:∀{as:List bL}{vs:List V}{k:Nat}{pv:PV},eO K σ F H as vs->as[k]?=aa (.inl pv)->∃v,vs[k]?=aa v/\aU K H F pv v
 |[],_,k,_,_,e=>by simp at e
 |.inl x::as,_,0,pv,⟨v,r,e,h,_⟩,q=>by simp at q;subst q e;exact⟨v,rfl,h⟩
 |.inr _::as,_,0,pv,_,q=>by simp at q
 |.inl x::as,_,k+1,pv,⟨v,r,e,_,h⟩,q=>by obtain⟨w,a,b⟩:=eO.val (k:=k) h (by simpa using q);subst e;exact⟨w,by simpa using a,b⟩
 |.inr x::as,_,k+1,pv,⟨v,r,e,_,h⟩,q=>by obtain⟨w,a,b⟩:=eO.val (k:=k) h (by simpa using q);subst e;exact⟨w,by simpa using a,b⟩
theorem eO.own{K:aq}{σ:St}{F:ac->Prop}{H:Hp}:∀{as:List bL}{vs:List V}{k i:Nat},eO K σ F H as vs->as[k]?=aa (.inr i)->∃v,vs[k]?=aa v/\σ[i]?=aa (aa v)
 |[],_,k,_,_,e=>by simp at e
 |.inr x::as,_,0,pv,⟨v,r,e,h,_⟩,q=>by simp at q;subst q e;exact⟨v,rfl,h⟩
 |.inl _::as,_,0,pv,_,q=>by simp at q
 |.inl x::as,_,k+1,pv,⟨v,r,e,_,h⟩,q=>by obtain⟨w,a,b⟩:=eO.own (k:=k) h (by simpa using q);subst e;exact⟨w,by simpa using a,b⟩
 |.inr x::as,_,k+1,pv,⟨v,r,e,_,h⟩,q=>by obtain⟨w,a,b⟩:=eO.own (k:=k) h (by simpa using q);subst e;exact⟨w,by simpa using a,b⟩
section
variable{K:aq}{F F':ac->Prop}{S S':Nat->ac->Prop}{ε ss aL:ag}{σ:St}{H H':Hp}{as:List bL}{vs:List V}
def kj(as:List bL)(S:Nat->ac->Prop)(k:Nat)(b:ac):Prop:=∃i,as[k]?=aa (.inr i)/\S i b
theorem wf(b:ac)(h:U (kj as S) b):U S b:=let ⟨_,i,_,h⟩:=h;⟨i,h⟩
theorem xm:∀{as:List bL}{i k l:Nat},(bu as).Nodup->as[k]?=aa (.inr i)->as[l]?=aa (.inr i)->k=l
 |[],_,_,_,_,h,_=>by simp at h
 |.inl _::as,i,0,_,_,h,_=>by simp at h
 |.inl _::as,i,_,0,_,_,h=>by simp at h
 |.inl _::as,i,k+1,l+1,nd,h1,h2=>by rw[xm (as:=as) (i:=i) (k:=k) (l:=l) nd (by simpa using h1) (by simpa using h2)]
 |.inr j::as,i,0,0,_,_,_=>rfl
 |.inr j::as,i,0,l+1,nd,h1,h2=>by simp at h1;subst h1;exact absurd (Eh.mpr ⟨l,by simpa using h2⟩) (jY.mp nd).1
 |.inr j::as,i,k+1,0,nd,h1,h2=>by simp at h2;subst h2;exact absurd (Eh.mpr ⟨k,by simpa using h1⟩) (jY.mp nd).1
 |.inr j::as,i,k+1,l+1,nd,h1,h2=>by rw[xm (as:=as) (i:=i) (k:=k) (l:=l) (jY.mp nd).2 (by simpa using h1) (by simpa using h2)]
theorem aI.cal(r:aI K F S ε σ H)(ha:eO K σ F H as vs)(hs:bW ε as=aa ss)(nd:(bu as).Nodup):aI K F (kj as S) ss (vs.map aa) H:=by
 obtain⟨hl,hg⟩:=wC hs;have up:∀{k:Nat}{v:V},vs[k]?=aa v->(vs.map aa)[k]?=aa (aa v):=λ{k v} e=>by rw[iT,e];rfl
 refine⟨by rw[hl,c9,ha.len],r.ex,λk pv e=>?_,λk po e=>?_,λk b h=>?_,λk l b h1 h2=>?_⟩
 ·rcases hg k _ e with⟨p,q1,q2⟩|⟨_,_,_,_,z⟩
  ·cases q2;obtain⟨v,a1,a2⟩:=ha.val q1;exact⟨v,up a1,a2⟩
  ·cases z
 ·rcases hg k _ e with⟨_,_,z⟩|⟨i,p,q1,q2,q3⟩
  ·cases z
  ·cases q3;obtain⟨v,a1,a2⟩:=ha.own q1;obtain⟨a,b1,b2⟩:=r.own i po q2;rw[a2]at b1;cases b1;have eS:kj as S k=S i:=by
    funext b;exact propext ⟨λ⟨j,h1,h2⟩=>by rw[q1]at h1;cases h1;exact h2,λh=>⟨i,q1,h⟩⟩
   exact⟨a,up a1,by rw[eS];exact b2⟩
 ·obtain⟨i,h1,h2⟩:=h;obtain⟨⟨po,q⟩,q2⟩:=r.foot i b h2;have hk:k<ss.length:=by rw[hl];exact(cO.mp h1).1
  refine⟨?_,q2⟩;rcases hg k ss[k] (by simp[hk])with⟨_,z,_⟩|⟨j,p,z1,z2,z3⟩
  ·rw[h1]at z;cases z
  ·exact⟨p,by rw[fL hk,z3]⟩
 ·obtain⟨i,a1,a2⟩:=h1;obtain⟨j,b1,b2⟩:=h2;have:=r.dist i j b a2 b2;subst this;exact xm nd a1 b1
theorem aI.called{O':ac->Prop}(r:aI K F S ε σ H)(ha:eO K σ F H as vs)(hs:bW ε as=aa ss)(nd:(bu as).Nodup)(r':aI K F' S' aL (vs.map aa) H')(g:bd (U (kj as S)) O' F F' H H')(hO:∀b,U S' b->O' b)(hso:∀(k:Nat) i,as[k]?=aa (.inr i)->∃po,aL[k]?=aa (.own po)):∃S2,aI K F' S2 (cf ε as aL) σ H'/\bd (U S) (U S2) F F' H H'/\∀b,U S2 b->U S' b\/U S b:=by
 have up:∀{k:Nat}{v:V},(vs.map aa)[k]?=aa (aa v)->vs[k]?=aa v:=λ{k v} e=>by
  rw[iT]at e;cases q:vs[k]? with
  |none=>rw[q]at e;cases e
  |some x=>rw[q]at e;cases e;rfl
 have fit:jo (U (kj as S)) F H:=λb h=>r.fit b (wf b h);have slen:∀i po,ε[i]?=aa (.own po)->i<ε.length:=λi po e=>(cO.mp e).1;have lt:∀(k:Nat) i,as[k]?=aa (.inr i)->i<ε.length:=λk i e=>by
  obtain⟨hl,hg⟩:=wC hs;have hk:k<ss.length:=by rw[hl];exact(cO.mp e).1
  rcases hg k ss[k] (by simp[hk])with⟨_,z,_⟩|⟨j,p,z1,z2,z3⟩
  ·rw[e]at z;cases z
  ·rw[e]at z1;cases z1;exact slen _ _ z2
 refine⟨λj b=>(∃k:Nat,as[k]?=aa (.inr j)/\S' k b)\/(j∉bu as/\S j b),⟨by rw[vC];exact r.len,r'.ex,λj pv e=>?_,λj po e=>?_,λj b h=>?_,λi j b h1 h2=>?_⟩,⟨g.fro,λb o e n=>g.keep b o e λz=>n (wf b z),g.there,λa z=>(g.fnew a z).imp id λw=>w.imp id (wf a),λb ⟨j,z⟩=>?_⟩,λb ⟨j,z⟩=>?_⟩
 ·by_cases hj:j∈bu as
  ·obtain⟨k,hk⟩:=Eh.mp hj;obtain⟨po,q⟩:=hso k j hk;rw[so as ε aL j k _ nd (lt k j hk) hk q]at e;cases e
  ·rw[qS as ε aL j hj]at e;obtain⟨v,h1,h2⟩:=r.val j pv e;exact⟨v,h1,h2.grow g fit⟩
 ·by_cases hj:j∈bu as
  ·obtain⟨k,hk⟩:=Eh.mp hj;obtain⟨po',q⟩:=hso k j hk;rw[so as ε aL j k _ nd (lt k j hk) hk q]at e;cases e;obtain⟨a,h1,h2⟩:=r'.own k po q;obtain⟨v,a1,a2⟩:=ha.own hk;rw[up h1]at a1;cases a1;have eS:(λb=>(∃k:Nat,as[k]?=aa (.inr j)/\S' k b)\/(j∉bu as/\S j b))=S' k:=by
    funext b;refine propext ⟨λz=>?_,λz=>.inl ⟨k,hk,z⟩⟩;rcases z with⟨l,z1,z2⟩|⟨z,_⟩
    ·rw[xm nd hk z1];exact z2
    ·exact absurd hj z
   exact⟨a,a2,by rw[eS];exact h2⟩
  ·rw[qS as ε aL j hj]at e;obtain⟨a,h1,h2⟩:=r.own j po e;have eS:(λb=>(∃k:Nat,as[k]?=aa (.inr j)/\S' k b)\/(j∉bu as/\S j b))=S j:=by
    funext b;refine propext ⟨λz=>?_,λz=>.inr ⟨hj,z⟩⟩;rcases z with⟨l,z1,z2⟩|⟨_,z⟩
    ·exact absurd (Eh.mpr ⟨l,z1⟩) hj
    ·exact z
   have h3:dJ K H' F' po a (S j):=by refine h2.mono (λ_ _ q=>q.grow g fit) (λ_ _ q=>q.grow g fit) λb o z q=>g.keep b o q λ⟨l,i,w1,w2⟩=>?_;have:=r.dist i j b w2 z;subst this;exact hj (Eh.mpr ⟨l,w1⟩)
   exact⟨a,h1,by rw[eS];exact h3⟩
 ·rcases h with⟨k,h1,h2⟩|⟨h1,h2⟩
  ·obtain⟨⟨po,q⟩,q2⟩:=r'.foot k b h2;exact⟨⟨po,so as ε aL j k _ nd (lt k j h1) h1 q⟩,q2⟩
  ·obtain⟨⟨po,q⟩,q2,o,q3,q4⟩:=r.foot j b h2;have no:¬U (kj as S) b:=λ⟨l,i,w1,w2⟩=>by have:=r.dist i j b w2 h2;subst this;exact h1 (Eh.mpr ⟨l,w1⟩)
   refine⟨⟨po,by rw[qS as ε aL j h1];exact q⟩,λz=>?_,o,g.keep b o q3 no,q4⟩;rcases g.fnew b z with w|w|w
   ·exact q2 w
   ·rw[q3]at w;cases w
   ·exact no w
 ·have cross:∀{i j:Nat}{b:ac},(∃k:Nat,as[k]?=aa (.inr i)/\S' k b)->(j∉bu as/\S j b)->False:=λ{i j b} ⟨k,w1,w2⟩ ⟨w3,w4⟩=>by
   obtain⟨_,_,o,q3,_⟩:=r.foot j b w4;rcases g.onew b (hO b ⟨k,w2⟩)with⟨l,i',z1,z2⟩|z
   ·have:=r.dist i' j b z2 w4;subst this;exact w3 (Eh.mpr ⟨l,z1⟩)
   ·rw[q3]at z;cases z
  rcases h1 with h1|h1 <;> rcases h2 with h2|h2
  ·obtain⟨k,a1,a2⟩:=h1;obtain⟨l,b1,b2⟩:=h2;have:=r'.dist k l b a2 b2;subst this;rw[a1]at b1;cases b1;rfl
  ·exact(cross h1 h2).elim
  ·exact(cross h2 h1).elim
  ·exact r.dist i j b h1.2 h2.2
 ·rcases z with⟨k,_,z⟩|⟨_,z⟩
  ·rcases g.onew b (hO b ⟨k,z⟩)with w|w
   ·exact .inl (wf b w)
   ·exact .inr w
  ·exact .inl ⟨j,z⟩
 ·rcases z with⟨k,_,z⟩|⟨_,z⟩
  ·exact .inl ⟨k,z⟩
  ·exact .inr ⟨j,z⟩
end
def DR(X:Cx)(E:XK)(e:aw)(d:ag->R Slot):Prop :=
 ∀F S ε σ H Q,aI X.K F S ε σ H->Ok X.K E σ F S H (d ε) (λs _ F' S' H'=>∀v Sr,jO X.K H' F' s v Sr->(∀b,Sr b->H b=af/\¬F' b/\¬U S' b/\∃o,H' b=aa o/\cy o)->Q v H')->f9 X e σ H Q
def b_:List bL->ag->Bool
 |[],_=>ah
 |.inl _::as,_::ss=>b_ as ss
 |.inr _::as,.own _::ss=>b_ as ss
 |_,_=>aj
theorem k8:∀{as:List bL}{ss:ag},b_ as ss=ah->∀(k:Nat) i,as[k]?=aa (.inr i)->∃po,ss[k]?=aa (.own po)
 |[],_,_,k,i,h=>by simp at h
 |.inl _::as,s::ss,q,0,i,h=>by simp at h
 |.inl _::as,s::ss,q,k+1,i,h=>by simpa using k8 (as:=as) (ss:=ss) (by unfold b_ at q;exact q) k i (by simpa using h)
 |.inr _::as,.own po::ss,q,0,i,h=>⟨po,rfl⟩
 |.inr _::as,.own po::ss,q,k+1,i,h=>by simpa using k8 (as:=as) (ss:=ss) (by unfold b_ at q;exact q) k i (by simpa using h)
 |.inr _::as,.val _::ss,q,k,i,h=>by cases q
 |.inr _::as,.none::ss,q,k,i,h=>by cases q
 |.inl _::as,[],q,k,i,h=>by cases q
 |.inr _::as,[],q,k,i,h=>by cases q
def cb{α:Type}(ε:ag)(as:List bL)(r:R α):R α:=match r with
 |.ok s aL=>if b_ as aL then .ok s (cf ε as aL)else .no
 |.er c aL=>if b_ as aL then .er c (cf ε as aL)else .no
 |.no=>.no
def aM(g:ag->R Slot)(dg:ag->R (List bL)):ag->R Slot:=λε=>(dg ε).bind λas ε1=>(aC (if(bu as).Nodup then bW ε1 as else af) ε1).bind λss ε1=>cb ε1 as (g ss)
section
variable{CX:eI}{X:Cx}{E:XK}{pin:List Nat}{e:aw}{es:List aw}{dg:ag->R (List bL)}{pos:Pos}{x:Str}{k:Nat}{ps:List Str}{g:ag->R Slot}{p:Pos}{d:ag->R Slot}
theorem Fs{K:aq}{F0 F1:ac->Prop}{S0 S1:Nat->ac->Prop}{ε1:ag}{σ:St}{H H1:Hp}{as:List bL}{vs:List V}{Q:VK}(r1:aI K F1 S1 ε1 σ H1)(g1:bd (U S0) (U S1) F0 F1 H H1)(av:eO K σ F1 H1 as vs)(q:Ok K E σ F1 S1 H1 ((aC (if(bu as).Nodup then bW ε1 as else af) ε1).bind λss ε1=>cb ε1 as (g ss)) λs _ F' S' H'=>∀v Sr,jO K H' F' s v Sr->(∀b,Sr b->H b=af/\¬F' b/\¬U S' b/\∃o,H' b=aa o/\cy o)->Q v H'):bp K g vs H1 Q E:=by
 have q:=Ok.bind q;by_cases nd:(bu as).Nodup
 ·rw[if_pos nd]at q;cases es:bW ε1 as with
  |none=>rw[es]at q;exact q.elim
  |some ss=>
   rw[es]at q;have q:=q F1 S1 H1 r1 (bd.refl ..);dsimp only at q;refine⟨F1,kj as S1,ss,r1.cal av es nd,?_⟩;cases eg:g ss with
   |no=>rw[eg]at q;exact q.elim
   |er cv aL=>
    rw[eg]at q;intro y F' S' H' r' g';unfold cb at q;dsimp only at q;by_cases kp:b_ as aL=ah
    ·rw[if_pos kp]at q;obtain⟨S2,r2,g2,_⟩:=r1.called av es nd r' g' (λ_ z=>z) (k8 kp);exact q y F' S2 H' r2 g2
    ·rw[if_neg kp]at q;exact q.elim
   |ok s aL=>
    rw[eg]at q;intro v F' S' H' Sr r' g' rv lo fr;unfold cb at q;dsimp only at q;by_cases kp:b_ as aL=ah
    ·rw[if_pos kp]at q;obtain⟨S2,r2,g2,u2⟩:=r1.called av es nd r' g' (λ_ z=>.inl z) (k8 kp);refine q F' S2 H' r2 g2 v Sr rv λb z=>⟨j7 g1 (fr b z),(lo b z).1,λw=>?_,(lo b z).2.2⟩
     rcases u2 b w with w|⟨i,w⟩
     ·exact(lo b z).2.1 w
     ·obtain⟨_,_,o,y1,_⟩:=r1.foot i b w;rw[fr b z]at y1;cases y1
    ·rw[if_neg kp]at q;exact q.elim
 ·rw[if_neg nd]at q;exact q.elim
theorem b8(c:cC CX X.prog X.w X.K X.mg X.base x k ps (bp X.K g))(hr:cB k X.A)(hx:jL CX X E)(ha:DG X E (e::es) dg)(hg:Gl X x:=by rfl)(hd:(x == ("__debug__" : Str))=aj:=by decide) (h1:aH (e::es) X.env=(aj,aG e X.env)::aH es X.env:=by rfl) (h2:(bU pos (aH es X.env)).any (·.1)=aj:=by rfl):DR X E (.Call (.Name x p) (e::es) [] pos) (aM g dg):=λF S ε σ H Q rl h=>by obtain⟨f,fd,hm,Fn,hb,hk⟩:=c.ex;refine bJ (yW Fn hr hg hm hk hb .nil hx gP hd h1 h2) (ha F S ε σ H _ rl ((Ok.bind h).imp λas ε1 F1 S1 H1 r1 g1 q vs av=>?_));rw[gq];exact Fs r1 g1 av q
def t7:Slot->Option PV
 |.val pv=>aa pv
 |.own (.lst xs)=>aa (.lst xs)
 |_=>af
def aW(d:ag->R Slot):ag->R PV:=λε=>(d ε).bind λs ε1=>aC (t7 s) ε1
def tN:Slot->Option PO
 |.own po=>aa po
 |_=>af
def ix(d:ag->R Slot):ag->R PO:=λε=>(d ε).bind λs ε1=>aC (tN s) ε1
theorem DR.dn(h:DR X E e d):DN X E e (ix d):=λF S ε σ H Q rl q=>by
 unfold ix at q;refine h F S ε σ H Q rl ?_;cases e0:d ε with
 |no=>rw[e0]at q;exact q.elim
 |er c ε'=>rw[e0]at q;exact q
 |ok s ε1=>
  rw[e0]at q;cases s with
  |none=>exact q.elim
  |val pv=>exact q.elim
  |own po=>intro F1 S1 H1 r1 g1 v Sr rv fr;obtain⟨a,rfl,ow⟩:=rv;exact q F1 S1 H1 r1 g1 a Sr ow fr
theorem DR.de(h:DR X E e d):DE X E e (aW d):=λF S ε σ H Q rl q=>by
 unfold aW at q;cases e0:d ε with
 |no=>rw[e0]at q;exact q.elim
 |er c ε'=>refine h F S ε σ H Q rl ?_;rw[e0]at q ⊢;exact q
 |ok s ε1=>
  cases s with
  |none=>rw[e0]at q;exact q.elim
  |val pv=>refine h F S ε σ H Q rl ?_;rw[e0]at q ⊢;exact λF1 S1 H1 r1 g1 v Sr rv fr=>q F1 S1 H1 r1 g1 v rv.1
  |own po=>
   refine h.dn.de F S ε σ H Q rl ?_;unfold dF ix;rw[e0]at q ⊢;cases po with
   |lst xs=>exact q
   |dK kvs=>exact q
   |lls jk=>exact q
   |ins C fs=>exact q
   |dT kvs=>exact q
   |inl C fs y xs=>exact q
def lF(d:ag->R Slot):ag->R aK:=λε=>(d ε).bind λs ε1=>.ok (.ret s) ε1
theorem vf(he:DR X E e d):DS X E pin (.Return (aa e) pos) (lF d):=λF S ε σ H D rl h=>by
 refine fI (sO bB) (he F S ε σ H _ rl ?_);unfold lF at h;cases e0:d ε with
 |no=>rw[e0]at h;exact h.elim
 |er c ε'=>rw[e0]at h;exact λx F' S' H' r' g'=>h x F' S' σ H' r' g' (iH.refl _ _)
 |ok s ε1=>rw[e0]at h;intro F1 S1 H1 r1 g1 v Sr rv fr;exact h v F1 S1 σ H1 Sr r1 ⟨g1.fro,g1.keep,g1.there,g1.fnew,λb z=>z.elim (g1.onew b) λw=>.inr (fr b w).1⟩ (iH.refl _ _) rv λb z=>(fr b z).2
def kr(d:ag->R Slot):ag->R aK:=λε=>(d ε).bind λ_ ε1=>.ok .next ε1
theorem sv(he:DR X E e d)(hs:ik e af pos.line X.env=pure aj:=by rfl):DS X E pin (.Expr e pos) (kr d):=λF S ε σ H D rl h=>fI (tG bB hs) (he F S ε σ H _ rl (h.bindE.imp λx ε1 F1 S1 H1 r1 g1 h1 v Sr rv fr=>h1 F1 S1 σ H1 r1 (bd.refl ..) (iH.refl _ _)))
end
end Pu
namespace L2
section
variable{X:Cx}{ae:List (ac×Obj)}{σ:St}{H:Hp}{s:am}{scope:dO}{x:Str}{N':List Str}{cap:List Nat}
theorem Ep{elt iter tg:aw}{y:Str}{py pos spos:Pos}{i₀ k:Nat}{tgf:V->Hp->St->Prop}{ifs:List aw}{wi:TI}{ts:TT}{te:TE}(B:iL X scope x N' cap)(hk:k<=cap.length)(hc:X.calm=ah)(hi:PI X tg iter wi)(fY:∀C s₀ H₀ ex pn,PG (bE X scope N' C s₀ H₀ ex pn) tg λv σ' H Q=>∃vs,vs.length=k+1/\σ'.length=N'.length/\tgf v H vs/\Q (vs++σ'.drop (k+1)) H)(ht:∀C s₀ H₀ ex pn,qH (bE X scope N' C s₀ H₀ ex pn) ifs ts) (he:∀C s₀ H₀ ex pn,PE (bE X scope N' C s₀ H₀ ex pn) elt te) (hN:X.N.Nodup) (pW:X.N[i₀]?=aa y) (hxy:Loc X.env.scope y) (pX:ik (.ListComp elt [⟨tg,iter,ifs,0⟩] scope pos) (aa (.Name y py)) spos.line X.env=pure ah) (hf:X.fn y=ah\/X.env.scope.names.lookup y=aa .local) (hs:∀x,nP iter X.env x=pure x):PS X (.Assign [.Name y py] (.ListComp elt [⟨tg,iter,ifs,0⟩] scope pos) spos) (λD σ H=>xn wi tgf k ts te cap σ H λv H'=>D.nx (σ.set i₀ (aa v)) H'):=by
 intro ae s σ H D I h;rw[exec_Assign_Name_used _ _ _ _ pX];refine ax (wpAny_standAt (ax ?_));show au _ X.A (do let _ ←comprehension (.ListComp elt [⟨tg,iter,ifs,0⟩] scope pos) scope X.env _ (newList []) aj (aG iter X.env) (aa (assign (.Name y py) X.env))) _ _ s;refine ax (d5 (?_:au _ X.A _ (λ_ s'=>SP X ae D .next s') X.xe s) (λ_ s' hq=>aV (aV hq)) λ_ _ e=>e);refine Fx (use:=aa (assign (.Name y py) X.env)) B hk hc hi fY ht he hs I h λ{s3 s6 H3 H5 fp σ5 a f} I3 f3 I6 q=>?_;obtain⟨mm,hn6,_⟩:=I6.loc;have J6:Inv X ae σ _ _:=I3.unblock f3 I6 (Heap.SameBut.refl _ _);have nlc:s3.heap.objs.size≠X.env.locals:=λe=>absurd I3.lt (by rw[←e];exact fj _);have nce:∀z c,X.env.cells.lookup z=aa c->c≠s3.heap.objs.size:=λz c e e2=>by obtain⟨vv,oo,ho,_⟩:=I3.cell z c e;exact absurd (bN ho) (by rw[e2];exact fj _)
 refine wpAny_assign_Name (Ft (v:=.ref a) J6 hN pW hxy rfl (λs7 I7 ⟨a7,sb7,ha7⟩=>?_) hf);have na7:s3.heap.objs.size≠a7:=by
  rcases ha7 with z|z
  ·rw[z];exact nlc
  ·exact(nce _ _ z).symm
 refine⟨mm,hn6.sameBut sb7 na7,λlu sb=>⟨_,_,?_,q⟩⟩;have hC5:H5 s3.heap.objs.size=af:=I6.free;refine I7.call' (s':={s7 with heap:=lu}) (ch:=[s3.heap.objs.size]) rfl ⟨λb o e n hb hx=>?_,λb o e n hb hx=>?_,λb o e n hx=>n,λb o e hx=>?_,λb xs e=>e,λb o u e=>e,λb ps e=>e⟩ ?_ I7.bare λb hb=>?_
 ·exact(sb.2 b (by simpa using hx)).trans e
 ·exact⟨o.slots,(sb.2 b (by simpa using hx)).trans (by simpa using e)⟩
 ·exact⟨o,(sb.2 b (by simpa using hx)).trans e⟩
 ·intro b u e;refine(I7.hok b u e).stay (λc v hc q=>(sb.2 c ?_).trans q) (λ_ q=>q) λ_ _ q=>q;rintro rfl;rcases hc with z|z
  ·rw[←z,hC5]at e;cases e
  ·rw[hC5]at z;cases z
 ·have e:b=s3.heap.objs.size:=by simpa using hb
  subst e;refine⟨.inr I3.sz,nlc,nce,λp hp e2=>?_⟩;obtain⟨e3,_⟩:=I3.pin p hp;exact absurd (bN e3) (by rw[e2];exact fj _)
theorem P8{elt iter:aw}{y:Str}{px py pos spos:Pos}{i₀:Nat}{ifs:List aw}{wi:TI}{ts:TT}{te:TE}(B:iL X scope x N' cap)(hc:X.calm=ah)(hi:PI X (.Name x px) iter wi)(ht:∀C s₀ H₀ ex pn,qH (bE X scope N' C s₀ H₀ ex pn) ifs ts) (he:∀C s₀ H₀ ex pn,PE (bE X scope N' C s₀ H₀ ex pn) elt te) (hN:X.N.Nodup) (pW:X.N[i₀]?=aa y) (hxy:Loc X.env.scope y) (pX:ik (.ListComp elt [⟨.Name x px,iter,ifs,0⟩] scope pos) (aa (.Name y py)) spos.line X.env=pure ah) (hf:X.fn y=ah\/X.env.scope.names.lookup y=aa .local) (hs:∀x,nP iter X.env x=pure x):PS X (.Assign [.Name y py] (.ListComp elt [⟨.Name x px,iter,ifs,0⟩] scope pos) spos) (λD σ H=>AR wi ts te cap σ H λv H'=>D.nx (σ.set i₀ (aa v)) H'):=Ep B (mr _) hc hi (Ck B) ht he hN pW hxy pX hf hs
end
end L2
namespace Pu
open L2
def dz(ε:ag):List Nat->Option (List bL)
 |[]=>aa []
 |j::cap=>match ε[j]? with
  |some (.val pv)=>(dz ε cap).map (.inl pv::·)
  |some (.own _)=>(dz ε cap).map (.inr j::·)
  |_=>af
def dN{α:Type}(cap:List Nat)(d:ag->R α)(x:PV):ag->R α:=λε=>(aC (dz ε cap) ε).bind λas _=>(aC (if(bu as).Nodup then bW ε (.inl x::as)else af) ε).bind λss _=>cb ε (.inl x::as) (d ss)
def bA{α:Type}(r:R α):R α:=match r with
 |.er _ _=>.no
 |r=>r
def lY(cap:List Nat)(dt:ag->R Bool)(de:ag->R PV):List PV->List PV->ag->R (List PV)
 |[],bb,ε=>.ok bb ε
 |x::xs,bb,ε=>(bA (dN cap dt x ε)).bind λk ε1=>match k with
  |true=>(bA (dN cap de x ε1)).bind λy ε2=>lY cap dt de xs (bb++[y]) ε2
  |false=>lY cap dt de xs bb ε1
def cq(cap:List Nat)(di:ag->R (List PV))(dt:ag->R Bool)(de:ag->R PV):ag->R PO:=λε=>(di ε).bind λxs ε1=>(lY cap dt de xs [] ε1).bind λys ε2=>.ok (.lst ys) ε2
theorem ve{K:aq}{F:ac->Prop}{S:Nat->ac->Prop}{ε:ag}{σ:St}{H:Hp}(r:aI K F S ε σ H):∀{cap:List Nat}{as:List bL},dz ε cap=aa as->∃vs,eO K σ F H as vs/\fF σ cap=vs.map aa
 |[],as,h=>by cases h;exact⟨[],rfl,rfl⟩
 |j::cap,as,h=>by
  unfold dz at h;split at h
  ·rename_i pv e;cases q:dz ε cap with
   |none=>rw[q]at h;cases h
   |some bs=>
    rw[q]at h;cases h;obtain⟨vs,h1,h2⟩:=ve r q;obtain⟨v,e1,e2⟩:=r.val j pv e;refine⟨v::vs,⟨v,vs,rfl,e2,h1⟩,?_⟩;show(σ[j]?).join::fF σ cap=_;rw[e1,h2];rfl
  ·rename_i po e;cases q:dz ε cap with
   |none=>rw[q]at h;cases h
   |some bs=>
    rw[q]at h;cases h;obtain⟨vs,h1,h2⟩:=ve r q;obtain⟨a,e1,e2⟩:=r.own j po e;refine⟨.ref a::vs,⟨_,vs,rfl,e1,h1⟩,?_⟩;show(σ[j]?).join::fF σ cap=_;rw[e1,h2];rfl
  ·cases h
theorem Cs{K:aq}{E:XK}{F:ac->Prop}{S:Nat->ac->Prop}{ε:ag}{σ:St}{H:Hp}{α:Type}{cap:List Nat}{d:ag->R α}{x:PV}{v:V}{C:α->ag->(ac->Prop)->(Nat->ac->Prop)->Hp->Prop}(r:aI K F S ε σ H) (rx:aU K H F x v) (h:Ok K E σ F S H (bA (dN cap d x ε)) C):∃Sb ss,aI K F Sb ss (aa v::fF σ cap) H/\Ok K E0 (aa v::fF σ cap) F Sb H (d ss) (λa _ F' _ H'=>∃ε' S',aI K F' S' ε' σ H'/\bd (U S) (U S') F F' H H'/\C a ε' F' S' H'):=by
 unfold dN at h;cases ec:dz ε cap with
 |none=>rw[ec]at h;exact h.elim
 |some as=>
  rw[ec]at h;simp only[bw,R.bind_ok]at h;by_cases nd:(bu as).Nodup
  ·rw[if_pos nd]at h;cases es:bW ε (.inl x::as)with
   |none=>rw[es]at h;exact h.elim
   |some ss=>
    rw[es]at h;simp only[bw,R.bind_ok]at h;obtain⟨vs,av,ev⟩:=ve r ec;have av':eO K σ F H (.inl x::as) (v::vs):=⟨v,vs,rfl,rx,av⟩
    have eσ:aa v::fF σ cap=(v::vs).map aa:=by rw[ev];rfl
    have nd':(bu (.inl x::as)).Nodup:=nd;refine⟨kj (.inl x::as) S,ss,by rw[eσ];exact r.cal av' es nd',?_⟩;rw[eσ];cases ed:d ss with
    |no=>rw[ed]at h;exact h.elim
    |er c aL=>
     rw[ed]at h;unfold cb at h;dsimp only at h;by_cases kp:b_ (.inl x::as) aL=ah
     ·rw[if_pos kp]at h;exact h.elim
     ·rw[if_neg kp]at h;exact h.elim
    |ok a aL=>
     rw[ed]at h;intro F' S' H' r' g';unfold cb at h;dsimp only at h;by_cases kp:b_ (.inl x::as) aL=ah
     ·rw[if_pos kp]at h;obtain⟨S2,r2,g2,_⟩:=r.called av' es nd' r' g' (λ_ z=>z) (k8 kp);exact⟨_,S2,r2,g2,h F' S2 H' r2 g2⟩
     ·rw[if_neg kp]at h;exact h.elim
  ·rw[if_neg nd]at h;exact h.elim
def oS(X:Cx)(ifs:List aw):TT:=λσ H Q=>Bx (∀ae s,Inv X ae σ H s->au (aB X.prog X.w) X.A (forIn ifs ah λc r=>if r=ah then do let ok ←mj c X.env (aG c X.env);pure (ForInStep.yield ok)else pure (ForInStep.yield r)) (TP X ae σ Q) X.xe s)
def DF(X:Cx)(E:XK)(ifs:List aw)(d:ag->R Bool):Prop:=∀F S ε σ H Q,aI X.K F S ε σ H->Ok X.K E σ F S H (d ε) (λb _ _ _ H'=>Q b H')->oS X ifs σ H Q
def ef:ag->R Bool:=λε=>.ok ah ε
theorem oF{X:Cx}{E:XK}:DF X E [] ef:=λF S ε σ H Q rl h=>⟨λae s I=>Lf ae s σ H Q I (h F S H rl (bd.refl ..))⟩
theorem tw{X:Cx}{E:XK}{c:aw}{d:ag->R Bool}(h:DT X E c d):DF X E [c] d:=λF S ε σ H Q rl q=>⟨λae s I=>QQ lS ae s σ H Q I (h F S ε σ H Q rl q)⟩
theorem Ok.bindB{K:aq}{E:XK}{σ:St}{F F1:ac->Prop}{S S1:Nat->ac->Prop}{H H1:Hp}{α β:Type}{D:β->ag->(ac->Prop)->(Nat->ac->Prop)->Hp->Prop}{r:R α}{k:α->ag->R β}(h:Ok K E σ F S H (r.bind k) D)(g:bd (U S) (U S1) F F1 H H1):Ok K E σ F1 S1 H1 r (λa ε1 _ _ _=>Ok K E σ F S H (k a ε1) D):=by
 cases r with
 |no=>exact h
 |er c ε'=>exact λx F' S' H' r' g'=>h x F' S' H' r' (g.trans g')
 |ok a ε'=>exact λF' S' H' r' g'=>h
section
variable{X:Cx}{E:XK}{scope:dO}{x:Str}{N':List Str}{cap:List Nat}
theorem bd.stay{O O' F F':ac->Prop}{H H':Hp}(g:bd O O' F F' H H'){l:ac}{o:HO}(e:H l=aa o)(n:¬O l)(nF:¬F l):H' l=aa o/\¬F' l/\¬O' l :=
 ⟨g.keep l o e n,λz=>(g.fnew l z).elim nF λw=>w.elim (λq=>by rw[e]at q;cases q) n,λz=>(g.onew l z).elim n λq=>by rw[e]at q;cases q⟩
theorem Er{elt iter:aw}{px:Pos}{ifs:List aw}{di:ag->R (List PV)}{dt:ag->R Bool}{de:ag->R PV}(hi:DI X E (.Name x px) iter di)(ht:∀C s₀ H₀ ex pn,DF (bE X scope N' C s₀ H₀ ex pn) E0 ifs dt) (he:∀C s₀ H₀ ex pn,DE (bE X scope N' C s₀ H₀ ex pn) E0 elt de){F:ac->Prop}{S:Nat->ac->Prop}{ε:ag}{σ:St}{H:Hp}{Q:VK} (rl:aI X.K F S ε σ H) (h:Ok X.K E σ F S H (cq cap di dt de ε) (λpo _ F' S' H'=>∀a Sa,dJ X.K H' F' po a Sa->(∀b,Sa b->H b=af/\¬F' b/\¬U S' b/\∃o,H' b=aa o/\cy o)->Q (.ref a) H')):AR (l_ X (.Name x px) iter) (λσ H Q=>∀C s₀ H₀ ex pn,oS (bE X scope N' C s₀ H₀ ex pn) ifs σ H Q) (λσ H Q=>∀C s₀ H₀ ex pn,f9 (bE X scope N' C s₀ H₀ ex pn) elt σ H Q) cap σ H Q:=by
 refine hi F S ε σ H _ rl ((Ok.bind h).imp λxs ε1 F1 S1 H1 r1 g1 h1 J vs RR rs hz hw keep l hl=>?_);have h1:=h1.bind;have hvl:vs.length=xs.length:=rs.len;have a0:Al F1 F1 H1 (upd H1 l (.lst [])):=Al.new0 hl;have nF1:¬F1 l:=λz=>by obtain⟨o,q⟩:=r1.ex l z;rw[hl]at q;cases q
 have nS1:¬U S1 l:=λ⟨i,z⟩=>by obtain⟨_,_,o,q,_⟩:=r1.foot i l z;rw[hl]at q;cases q
 have hH:H l=af:=j7 g1 hl;refine⟨λi m ys H'=>m=xs.length-i/\i<=xs.length/\∃F' S' ε' bb,aI X.K F' S' ε' σ H'/\bd (U S1) (U S') F1 F' H1 H'/\H' l=aa (.lst ys)/\¬F' l/\¬U S' l/\bj X.K H' F' bb ys/\ys.length<=i /\ Ok X.K E σ F1 S1 H1 (lY cap dt de (xs.drop i) bb ε') (λys' ε2 F2 S2 H2=>Ok X.K E σ F2 S2 H2 (R.ok (PO.lst ys') ε2) (λpo _ F' S' H'=>∀a Sa,dJ X.K H' F' po a Sa->(∀b,Sa b->H b=af/\¬F' b/\¬U S' b/\∃o,H' b=aa o/\cy o)->Q (.ref a) H')),⟨_,rfl,mr _,F1,S1,ε1,[],r1.al a0,a0.grow,upd_same,nF1,nS1,rfl,bt _,h1⟩,?_⟩;rintro i m ys H2 ⟨rfl,hi,F2,S2,ε2,bb,r2,g2,el,nF2,nS2,racc,hyl,q2⟩;have RH:=keep S2 F2 H2 g2;by_cases bO:i<xs.length
 ·obtain⟨v,hv⟩:∃v,vs[i]?=aa v:=⟨_,fL ∅⟩
  obtain⟨go,yl⟩:=(hw H2 RH i).1 v hv;refine .inr ⟨go,λv' H' y=>⟨[aa v'],rfl,rfl,?_⟩⟩;obtain⟨e1,e2⟩:=yl v' H' y;subst e1 e2;obtain⟨px',hx,rx⟩:=rs.back hv;have ed:xs.drop i=px'::xs.drop (i+1):=by rw[G4 bO];congr 1;exact(cO.mp hx).2
  rw[ed]at q2;have rx2:=rx.grow g2 r1.fit;have q3:=Ok.bindB q2 g2;obtain⟨Sb,ss,rb,okb⟩:=Cs r2 rx2 q3;intro C s₀ H₀ ex pn;refine ht C s₀ H₀ ex pn F2 Sb ss _ H' _ rb (okb.imp λb _ F3 _ H3 _ _ ⟨ε3,S3,r3,g3,q4⟩=>?_);obtain⟨el3,nF3,nS3⟩:=g3.stay el nS2 nF2;cases b with
  |false=>exact lJ ⟨_,∅,rfl,bO,F3,S3,ε3,bb,r3,g2.trans g3,el3,nF3,nS3,racc.grow g3 r2.fit,∅,q4⟩
  |true=>
   refine lV ?_;have q5:Ok X.K E σ F1 S1 H1 ((bA (dN cap de px' ε3)).bind λy ε2=>lY cap dt de (xs.drop (i+1)) (bb++[y]) ε2) _:=q4;obtain⟨Sc,sc,rc,okc⟩:=Cs r3 (rx2.grow g3 r2.fit) (Ok.bindB q5 (g2.trans g3));intro C s₀ H₀ ex pn;refine he C s₀ H₀ ex pn F3 Sc sc _ H3 _ rc (okc.imp λy _ F4 _ H4 _ _ ⟨ε4,S4,r4,g4,q6⟩ u ru=>?_);obtain⟨el4,nF4,nS4⟩:=g4.stay el3 nS3 nF3;have racc4:=(racc.grow g3 r2.fit).grow g4 r3.fit;have gl:bd (λb=>U S4 b\/b=l) (U S4) F4 F4 H4 (upd H4 l (.lst (ys++[u]))):=⟨λ_ z=>z,λb o e n=>by rw[bh λz=>n (.inr z)];exact e,λb o e=>by
    by_cases hb:b=l
    ·subst hb;exact⟨_,upd_same⟩
    ·exact⟨o,by rw[bh hb];exact e⟩,λ_ z=>.inl z,λ_ z=>.inl (.inl z)⟩
   have fit4:jo (λb=>U S4 b\/b=l) F4 H4:=λb z=>by
    rcases z with z|rfl
    ·exact r4.fit b z
    ·exact⟨nF4,_,el4,trivial⟩
   have r5:aI X.K F4 S4 ε4 σ (upd H4 l (.lst (ys++[u]))):=by
    refine⟨r4.len,λb z=>let ⟨o,q⟩:=r4.ex b z;gl.there b o q,λj pv e=>?_,λj po e=>?_,λj b z=>?_,r4.dist⟩
    ·obtain⟨w,x1,x2⟩:=r4.val j pv e;exact⟨w,x1,x2.grow gl fit4⟩
    ·obtain⟨w,x1,x2⟩:=r4.own j po e;refine⟨w,x1,x2.mono (λ_ _ q=>q.grow gl fit4) (λ_ _ q=>q.grow gl fit4) λb o z q=>?_⟩;rw[bh (by rintro rfl;exact nS4 ⟨j,z⟩)];exact q
    ·obtain⟨x1,x2,o,x3,x4⟩:=r4.foot j b z;exact⟨x1,x2,o,by rw[bh (by rintro rfl;exact nS4 ⟨j,z⟩)];exact x3,x4⟩
   have g5:bd (U S1) (U S4) F1 F4 H1 (upd H4 l (.lst (ys++[u]))):=by
    have gg:=(g2.trans g3).trans g4;refine⟨gg.fro,λb o e n=>?_,λb o e=>?_,gg.fnew,gg.onew⟩
    ·rw[bh (by rintro rfl;rw[hl]at e;cases e)];exact gg.keep b o e n
    ·obtain⟨o',q⟩:=gg.there b o e;exact gl.there b o' q
   refine⟨el4,?_,_,∅,rfl,bO,F4,S4,ε4,bb++[y],r5,g5,upd_same,nF4,nS4,(racc4.grow gl fit4).app (.one (ru.grow gl fit4)),by simp;lia,q6⟩;lia
 ·have e:i=xs.length:=∅
  subst e;refine .inl ⟨(hw H2 RH _).2 hvl.symm,?_⟩;rw[G5]at q2;exact q2 F2 S2 H2 r2 g2 F2 S2 H2 r2 (bd.refl ..) l (λb=>b=l) ⟨⟨ys,el,racc⟩,λb=>nZ⟩ λb z=>by subst z;exact⟨hH,nF2,nS2,_,el,trivial⟩
theorem kK{elt iter:aw}{px pos:Pos}{ifs:List aw}{di:ag->R (List PV)}{dt:ag->R Bool}{de:ag->R PV}(B:iL X scope x N' cap)(hc:X.calm=ah)(hi:DI X E (.Name x px) iter di)(ht:∀C s₀ H₀ ex pn,DF (bE X scope N' C s₀ H₀ ex pn) E0 ifs dt) (he:∀C s₀ H₀ ex pn,DE (bE X scope N' C s₀ H₀ ex pn) E0 elt de) (hs:∀x,nP iter X.env x=pure x:=by intro _;rfl):DN X E (.ListComp elt [⟨.Name x px,iter,ifs,0⟩] scope pos) (cq cap di dt de):=λF S ε σ H Q rl h=>bJ (L3 (wi:=l_ X (.Name x px) iter) (ts:=λσ H Q=>∀C s₀ H₀ ex pn,oS (bE X scope N' C s₀ H₀ ex pn) ifs σ H Q) (te:=λσ H Q=>∀C s₀ H₀ ex pn,f9 (bE X scope N' C s₀ H₀ ex pn) elt σ H Q) (pos:=pos) B hc xr (λC s₀ H₀ ex pn ae s σ H Q I h=>(h C s₀ H₀ ex pn).run ae s I) (λC s₀ H₀ ex pn ae s σ H Q I h=>(h C s₀ H₀ ex pn).run ae s I) hs) (Er hi ht he rl h)
end
theorem JR(x y:Tx):tS x++tS y=tS (x++y):=by
 show(⟨x.toArray++y.toArray⟩:Str)=⟨(x++y).toArray⟩
 simp
def bg:PV->PV->Option PV
 |.int i,.int j=>aa (.int (i+j))
 |.str x,.str y=>if(x++y).length<=bC then aa (.str (x++y))else af
 |.tup xs,.tup ys=>if xs≠[]/\ys≠[]/\xs.length+ys.length<=1000 then aa (.tup (xs++ys))else af
 |.lst xs,.lst ys=>if xs.length+ys.length<=bC then aa (.lst (xs++ys))else af
 |_,_=>af
def gR:PV->PV->Option PV
 |.int i,.int j=>aa (.int (i-j))
 |_,_=>af
def nH(i:Int):Bool:=decide (-(2^64)<i/\i<2^64)
def eC:PV->PV->Option PV
 |.int i,.int j=>if nH i||nH j then aa (.int (i*j))else af
 |.str x,.int j=>if 0<=j/\j<=100/\x.length<=100 then aa (.str (bG j.toNat x).flatten)else af
 |_,_=>af
def i8:PV->PV->Option PV
 |.int i,.int j=>if 0<j then aa (.int (i % j))else af
 |_,_=>af
def fG:PV->Option PV
 |.int i=>aa (.int (-i))
 |_=>af
def EQ:R2:=λx y H Q=>∃l b xs zs,x=.ref l/\y=.ref b/\Rd H l (.lst xs)/\Rd H b (.lst zs)/\xs.length+zs.length<=bn/\∀p,H p=af->Q (.ref p) (upd H p (.lst (xs++zs)))
def DY(K:aq):R2:=λx y H Q=>((kM λi j=>V.int (i+j)) x y H Q\/∃i j,x=.str i/\y=.str j/\i.length+j.length<=bn/\Q (.str (i++j)) H)\/(Df K x y H Q\/EQ x y H Q)
def E3:R2:=λx y H Q=>rI zX (λi j=>.int (i*j)) x y H Q\/∃(z:Tx) (n:Nat),x=tV z/\y=.int n/\n<=100/\z.length<=100/\Q (tV (bG n z).flatten) H
section
variable{X:Cx}{K:aq}
theorem qc:P2 K (kM λi j=>.int (i-j)) gR:=λF H x y v u Q pv rx ry e q=>by
 unfold gR at e;split at e
 ·cases e;exact⟨_,_,rx,ry,q _ F H (Al.refl ..) rfl⟩
 ·cases e
theorem xt:P2 K (rI (λ_ j=>0<j) λi j=>.int (i % j)) i8:=λF H x y v u Q pv rx ry e q=>by
 unfold i8 at e;split at e
 ·split at e
  ·cases e;exact⟨_,_,rx,ry,by assumption,q _ F H (Al.refl ..) rfl⟩
  ·cases e
 ·cases e
theorem nK:P1 K (rU λi=>.int (-i)) fG:=λF H x v Q pv rx e q=>by
 unfold fG at e;split at e
 ·cases e;exact⟨_,rx,q _ F H (Al.refl ..) rfl⟩
 ·cases e
theorem Ai{ae:List (ac×Obj)}{σ:St}{H:Hp}{s:am}{l:ac}{xs:List V}(I:Inv X ae σ H s)(h:Rd H l (.lst xs)):∃(its:List ai) (n:Nat),bF xs its/\s.heap.get? l=aa {cls:=.type "list",data:=.seq its.toArray n}/\xs.length<=bn:=by obtain⟨z,its,n,r,e⟩:=h.ok I.hok;exact⟨its,n,r,e,z⟩
theorem Dq:bY X (jT .Add) EQ:=by
 intro ae s σ H x y v u Q I rx ry h;obtain⟨l,b,xs,zs,rfl,rfl,hl,hb,hz,q⟩:=h;cases rx;cases ry;obtain⟨its,n,r,e,_⟩:=Ai I hl;obtain⟨its2,n2,r2,e2,_⟩:=Ai I hb;have hl:=r.length;have lv:=r2.length;refine PySem.P.add_list e e2 ?_ (by rw[cX,cX];lia);have ea:its.toArray++its2.toArray=(its++its2).toArray:=by simp
 rw[ea];exact⟨.ref _,_,I.lnew (t':=s.toks) (r.append r2) (by rw[dI];lia),rfl,q _ I.fresh⟩
theorem eT:bY X (jT .Add) (DY X.K):=(Ro.or Ku).or (Rh.or Dq)
theorem eN:P2 K (DY K) bg:=λF H x y v u Q pv rx ry e q=>by
 unfold bg at e;split at e
 ·cases e;exact .inl (.inl ⟨_,_,rx,ry,q _ F H (Al.refl ..) rfl⟩)
 ·rename_i x y;split at e
  ·rename_i hl;cases e;refine .inl (.inr ⟨_,_,rx.1,ry.1,?_,?_⟩)
   ·rw[kX,kX];rw[dI]at hl;exact dP hl kf
   ·exact q _ F H (Al.refl ..) ⟨by rw[JR];rfl,hl⟩
  ·cases e
 ·rename_i xs ys;split at e
  ·rename_i hl;cases e;obtain⟨a,vs,rfl,ha,ra⟩:=rx;obtain⟨b,ws,rfl,hb,rb⟩:=ry;have la:=ra.len;have lb:=rb.len;refine .inr (.inl ⟨a,b,vs,ws,rfl,rfl,cV.of ha,cV.of hb,λz=>hl.1 (by rw[z]at la;exact xK la.symm),by rw[la,lb];exact zo hl.2.2,λz=>absurd (by rw[z]at lb;exact xK lb.symm) hl.2.1,λ_ p hp=>?_⟩);exact q _ F _ (Al.new0 hp) ⟨p,_,rfl,upd_same,(Al.new0 hp).reps (ra.app rb)⟩
  ·cases e
 ·rename_i xs ys;split at e
  ·rename_i hl;cases e;obtain⟨a,vs,rfl,ha,fa,ra⟩:=rx;obtain⟨b,ws,rfl,hb,fb,rb⟩:=ry;have la:=ra.len;have lb:=rb.len;refine .inr (.inr ⟨a,b,vs,ws,rfl,rfl,ha,hb,by rw[la,lb];exact dP hl kf,λp hp=>?_⟩);exact q _ _ _ (Al.new hp) ⟨p,_,rfl,.inl upd_same,.inr rfl,(Al.new hp).reps (ra.app rb)⟩
  ·cases e
 ·cases e
theorem lR:bY X (jT .Mult) E3:=Ra.or Nn
theorem lM:P2 K E3 eC:=λF H x y v u Q pv rx ry e q=>by
 unfold eC at e;split at e
 ·rename_i i j;split at e
  ·rename_i h;cases e;refine .inl ⟨_,_,rx,ry,?_,q _ F H (Al.refl ..) rfl⟩;rw[Bn]at h;exact h.imp of_decide_eq_true of_decide_eq_true
  ·cases e
 ·rename_i x j;split at e
  ·rename_i h;cases e;refine .inr ⟨x,j.toNat,rx.1,?_,∅,h.2.2,q _ F H (Al.refl ..) ⟨rfl,?_⟩⟩
   ·rw[show u=V.int j from ry];congr 1;lia
   ·rw[Mo];have h1:j.toNat<=100:=∅
    exact dP (Nat.mul_le_mul h1 h.2.2) (by decide)
  ·cases e
 ·cases e
def cc(f:Int->Int->Bool):PV->PV->Option PV
 |.int i,.int j=>aa (.bl (f i j))
 |_,_=>af
theorem iA{f:Int->Int->Bool}:P2 K (kM λi j=>.bl (f i j)) (cc f):=λF H x y v u Q pv rx ry e q=>by
 unfold cc at e;split at e
 ·cases e;exact⟨_,_,rx,ry,q _ F H (Al.refl ..) rfl⟩
 ·cases e
def cT:PV->Option V
 |.non=>aa .non
 |.bl b=>aa (.bl b)
 |.int i=>aa (.int i)
 |.str x=>aa (tV x)
 |_=>af
theorem i6{H:Hp}{F:ac->Prop}{x:PV}{v w:V}(r:aU K H F x v)(e:cT x=aa w):v=w:=by
 cases x <;> simp[cT]at e <;> subst e
 ·exact r
 ·exact r
 ·exact r
 ·exact r.1
theorem p7{x:PV}{w:V}(e:cT x=aa w):fR w=ah:=by
 cases x <;> simp[cT]at e <;> subst e <;> rfl
mutual
def cL:PV->PV->Option Bool
 |.tup xs,y=>match y with
  |.tup ys=>gf xs ys
  |_=>af
 |.lst xs,y=>match y with
  |.lst ys=>gf xs ys
  |_=>af
 |.non,y=>(cT y).map (dU .non)
 |.bl b,y=>(cT y).map (dU (.bl b))
 |.int i,y=>(cT y).map (dU (.int i))
 |.str x,y=>(cT y).map (dU (tV x))
 |.raw _,_=>af
 |.exc _,_=>af
def gf:List PV->List PV->Option Bool
 |[],ys=>aa ys.isEmpty
 |x::xs,ys=>match ys with
  |[]=>aa aj
  |y::ys=>(cL x y).bind λa=>(gf xs ys).map λb=>a&&b
end
mutual
def iB:PV->Nat
 |.tup xs=>gX xs+1
 |.lst xs=>gX xs+1
 |_=>0
def gX:List PV->Nat
 |[]=>0
 |x::xs=>max (iB x) (gX xs)
end
theorem Gp{H:Hp}{d d':Nat}{x y:V}{k:Bool}(h:ir K H d x y k)(hd:d<=d'):ir K H d' x y k:=λX hK ae σ s u v A I ru rv hu=>h X hK ae σ s u v A I ru rv ∅
theorem wl{H:Hp}{F:ac->Prop}{w:V}{y:PV}{u:V}{k:Bool}{d:Nat}(fw:fR w=ah)(e:(cT y).map (dU w)=aa k)(ry:aU K H F y u):ir K H d w u k:=by
 cases q:cT y with
 |none=>rw[q]at e;cases e
 |some z=>
  rw[q]at e;cases e;rw[i6 ry q];exact Ji fw (p7 q)
theorem IL{H:Hp}{a:ac}{xs ys:List V}(h:Rd H a (.lst xs))(g:Rd H a (.lst ys)):xs=ys:=by
 rcases h with h|⟨o,h⟩ <;> rcases g with g|⟨o',g⟩ <;> rw[h]at g <;> cases g <;> rfl
theorem QC{a:Bool}{e:Nat->Bool}{n m:Nat}:gb (λj=>if j=0 then a else e (j-1)) (n+1) (m+1)=(a&&gb e n m):=by
 unfold gb;rw[show min (n+1) (m+1)=min n m+1 by lia,Bl,pG,uB,if_pos rfl,Bool.and_assoc];congr 1;congr 1
 ·simp
mutual
theorem zg{H:Hp}{F:ac->Prop}:∀(x y:PV) {v:V}{k:Bool},cL x y=aa k->aU K H F x v->aU K H F y v->k=ah
 |.tup xs,y,v,k,e,rx,ry=>by
  unfold cL at e;split at e
  ·obtain⟨a,vs,rfl,ha,ra⟩:=rx;obtain⟨b,ws,eb,hb,rb⟩:=ry;cases eb;rw[ha]at hb;cases hb;exact Aa xs _ e ra rb
  ·cases e
 |.lst xs,y,v,k,e,rx,ry=>by
  unfold cL at e;split at e
  ·obtain⟨a,vs,rfl,ha,_,ra⟩:=rx;obtain⟨b,ws,eb,hb,_,rb⟩:=ry;cases eb;rw[IL ha hb]at ra;exact Aa xs _ e ra rb
  ·cases e
 |.non,y,v,k,e,rx,ry=>by
  unfold cL at e;cases q:cT y with
  |none=>rw[q]at e;cases e
  |some z=>rw[q]at e;cases e;rw[←i6 ry q,show v=V.non from rx];rfl
 |.bl b,y,v,k,e,rx,ry=>by
  unfold cL at e;cases q:cT y with
  |none=>rw[q]at e;cases e
  |some z=>rw[q]at e;cases e;rw[←i6 ry q,show v=V.bl b from rx];exact beq_self_eq_true b
 |.int b,y,v,k,e,rx,ry=>by
  unfold cL at e;cases q:cT y with
  |none=>rw[q]at e;cases e
  |some z=>rw[q]at e;cases e;rw[←i6 ry q,show v=V.int b from rx];exact beq_self_eq_true b
 |.str b,y,v,k,e,rx,ry=>by
  unfold cL at e;cases q:cT y with
  |none=>rw[q]at e;cases e
  |some z=>rw[q]at e;cases e;rw[←i6 ry q,show v=tV b from rx.1];exact beq_self_eq_true (tS b)
 |.raw _,_,_,_,e,_,_=>by unfold cL at e;cases e
 |.exc _,_,_,_,e,_,_=>by unfold cL at e;cases e
theorem Aa{H:Hp}{F:ac->Prop}:∀(xs ys:List PV) {vs:List V}{k:Bool},gf xs ys=aa k->bj K H F xs vs->bj K H F ys vs->k=ah
 |[],ys,vs,k,e,rx,ry=>by
  unfold gf at e;rw[show vs=[] from rx]at ry;have:=ry.len;cases ys with
  |nil=>cases e;rfl
  |cons=>simp at this
 |x::xs,ys,vs,k,e,rx,ry=>by
  unfold gf at e;obtain⟨v,r,rfl,h1,h2⟩:=rx;cases ys with
  |nil=>have:=ry.len;simp at this
  |cons y ys=>
   obtain⟨v',r',ev,g1,g2⟩:=ry;cases ev;simp only at e;cases q1:cL x y with
   |none=>rw[q1]at e;cases e
   |some a=>
    cases q2:gf xs ys with
    |none=>rw[q1,q2]at e;cases e
    |some b=>
     rw[q1,q2]at e;cases e;rw[zg x y q1 h1 g1,Aa xs ys q2 h2 g2];rfl
end
mutual
theorem QR{H:Hp}{F:ac->Prop}:∀(x y:PV) {v u:V}{k:Bool},cL x y=aa k->aU K H F x v->aU K H F y u->ir K H (iB x) v u k
 |.tup xs,y,v,u,k,e,rx,ry=>by
  have e0:=e;unfold cL at e;split at e
  ·rename_i ys;obtain⟨a,vs,rfl,ha,ra⟩:=id rx;obtain⟨b,ws,rfl,hb,rb⟩:=id ry;by_cases fZ:a=b
   ·subst fZ;rw[zg _ _ e0 rx ry];exact Cp
   ·obtain⟨f,hf,rfl⟩:=tJ xs ys e ra rb;unfold iB;exact J4 (cV.of ha) (cV.of hb) fZ hf
  ·cases e
 |.lst xs,y,v,u,k,e,rx,ry=>by
  have e0:=e;unfold cL at e;split at e
  ·rename_i ys;obtain⟨a,vs,rfl,ha,_,ra⟩:=id rx;obtain⟨b,ws,rfl,hb,_,rb⟩:=id ry;by_cases fZ:a=b
   ·subst fZ;rw[zg _ _ e0 rx ry];exact Cp
   ·obtain⟨f,hf,rfl⟩:=tJ xs ys e ra rb;unfold iB;exact HP (.inl ha) (.inl hb) fZ hf
  ·cases e
 |.non,y,v,u,k,e,rx,ry=>by unfold cL at e;rw[show v=V.non from rx];exact wl rfl e ry
 |.bl b,y,v,u,k,e,rx,ry=>by unfold cL at e;rw[show v=V.bl b from rx];exact wl rfl e ry
 |.int b,y,v,u,k,e,rx,ry=>by unfold cL at e;rw[show v=V.int b from rx];exact wl rfl e ry
 |.str b,y,v,u,k,e,rx,ry=>by unfold cL at e;rw[show v=tV b from rx.1];exact wl rfl e ry
 |.raw _,_,_,_,_,e,_,_=>by unfold cL at e;cases e
 |.exc _,_,_,_,_,e,_,_=>by unfold cL at e;cases e
theorem tJ{H:Hp}{F:ac->Prop}:∀(xs ys:List PV) {vs us:List V}{k:Bool},gf xs ys=aa k->bj K H F xs vs->bj K H F ys us -> ∃f:Nat->Bool,(∀(j:Nat) x y,vs[j]?=aa x->us[j]?=aa y->ir K H (gX xs) x y (f j))/\k=gb f vs.length us.length
 |[],ys,vs,us,k,e,rx,ry=>by
  unfold gf at e;rw[show vs=[] from rx];refine⟨λ_=>ah,λj x y h=>by simp at h,?_⟩;have:=ry.len;cases e;unfold gb;cases ys with
  |nil=>simp at this;simp[this]
  |cons=>rw[this];simp
 |x::xs,ys,vs,us,k,e,rx,ry=>by
  unfold gf at e;obtain⟨v,r,rfl,h1,h2⟩:=rx;cases ys with
  |nil=>
   cases e;rw[show us=[] from ry];exact⟨λ_=>ah,λj x y _ h=>by simp at h,by simp[gb]⟩
  |cons y ys=>
   obtain⟨u,r',rfl,g1,g2⟩:=ry;simp only at e;cases q1:cL x y with
   |none=>rw[q1]at e;cases e
   |some a=>
    cases q2:gf xs ys with
    |none=>rw[q1,q2]at e;cases e
    |some b=>
     rw[q1,q2]at e;cases e;obtain⟨f,hf,rfl⟩:=tJ xs ys q2 h2 g2;refine⟨λj=>if j=0 then a else f (j-1),λj p q hp hq=>?_,by rw[eF,eF,QC]⟩;cases j with
     |zero=>simp at hp hq;subst hp hq;show ir K H _ _ _ (if(0:Nat)=0 then a else f (0-1));rw[if_pos rfl];exact Gp (QR x y q1 h1 g1) (by unfold gX;exact Nat.le_max_left _ _)
     |succ j=>show ir K H _ _ _ (if j+1=0 then a else f (j+1-1));rw[if_neg ∅];exact Gp (hf j p q (by simpa using hp) (by simpa using hq)) (show gX xs<=max (iB x) (gX xs)from Nat.le_max_right _ _)
end
def eqT(neg:Bool)(x y:PV):Option PV:=match cT x,cT y with
 |some v,aa u=>if oX v u then aa (.bl (neg^^decide (v=u)))else af
 |none,af=>if iB x<=8 then(cL x y).map λk=>.bl (neg^^k)else af
 |_,_=>af
def FH(K:aq):R2:=λx y H Q=>EU x y H Q\/sQ K aj x y H Q
def Cm(K:aq):R2:=λx y H Q=>D4 x y H Q\/sQ K ah x y H Q
theorem gD(hu:X.A.units+64<cLine):bY X (d7 .Eq) (FH X.K):=Rj.or (Ij hu)
theorem lG(hu:X.A.units+64<cLine):bY X (d7 .NotEq) (Cm X.K):=Rz.or (NX hu)
theorem FJ{H:Hp}{F:ac->Prop}{x y:PV}{v u:V}{k:Bool}{Q:VK}{neg:Bool}(hx:cT x=af)(e:cL x y=aa k)(hd:iB x<=8)(rx:aU K H F x v)(ry:aU K H F y u)(q:Q (.bl (neg^^k)) H):sQ K neg v u H Q:=by
 have fin:∀{k':Bool},k=k'->Q (.bl (if neg=ah then !k' else k')) H:=λ{k'} z=>by subst z;cases neg <;> simpa using q
 cases x with
 |tup xs=>
  unfold cL at e;split at e
  ·rename_i ys;obtain⟨a,vs,rfl,ha,ra⟩:=rx;obtain⟨b,ws,rfl,hb,rb⟩:=ry;obtain⟨f,hf,ek⟩:=tJ xs ys e ra rb;unfold iB at hd;exact⟨a,b,vs,ws,gX xs,f,rfl,rfl,.inr ⟨cV.of ha,cV.of hb⟩,∅,hf,fin ek⟩
  ·cases e
 |lst xs=>
  unfold cL at e;split at e
  ·rename_i ys;obtain⟨a,vs,rfl,ha,_,ra⟩:=rx;obtain⟨b,ws,rfl,hb,_,rb⟩:=ry;obtain⟨f,hf,ek⟩:=tJ xs ys e ra rb;unfold iB at hd;exact⟨a,b,vs,ws,gX xs,f,rfl,rfl,.inl ⟨.inl ha,.inl hb⟩,∅,hf,fin ek⟩
  ·cases e
 |raw _=>unfold cL at e;cases e
 |exc _=>unfold cL at e;cases e
 |non=>cases hx
 |bl _=>cases hx
 |int _=>cases hx
 |str _=>cases hx
theorem gy:P2 K (FH K) (eqT aj):=λF H x y v u Q pv rx ry e q=>by
 unfold eqT at e;split at e
 ·rename_i a b ea eb;split at e
  ·rename_i hs;cases e;rw[i6 rx ea,i6 ry eb];refine .inl ⟨hs,?_⟩;have:=q (.bl (decide (a=b))) F H (Al.refl ..) (by simp[aU]);exact this
  ·cases e
 ·rename_i ea eb;split at e
  ·rename_i hd;cases ek:cL x y with
   |none=>rw[ek]at e;cases e
   |some k=>
    rw[ek]at e;cases e;exact .inr (FJ (neg:=aj) ea ek hd rx ry (q _ F H (Al.refl ..) rfl))
  ·cases e
 ·cases e
theorem lZ:P2 K (Cm K) (eqT ah):=λF H x y v u Q pv rx ry e q=>by
 unfold eqT at e;split at e
 ·rename_i a b ea eb;split at e
  ·rename_i hs;cases e;rw[i6 rx ea,i6 ry eb];refine .inl ⟨hs,?_⟩;have:=q (.bl (!decide (a=b))) F H (Al.refl ..) (by simp[aU]);exact this
  ·cases e
 ·rename_i ea eb;split at e
  ·rename_i hd;cases ek:cL x y with
   |none=>rw[ek]at e;cases e
   |some k=>
    rw[ek]at e;cases e;exact .inr (FJ (neg:=ah) ea ek hd rx ry (q _ F H (Al.refl ..) rfl))
  ·cases e
 ·cases e
end
end Pu
namespace Pu
open L2
section
variable{X:Cx}{K:aq}
def u3(i j:Tx):Bool:=!(GE (tS j) (tS i) 0 (tS j).length 1).isEmpty
def iz:List PV->Option (List V)
 |[]=>aa []
 |x::xs=>(cT x).bind λv=>(iz xs).map λr=>v::r
theorem sD{H:Hp}{F:ac->Prop}:∀{xs:List PV}{vs ws:List V},bj K H F xs vs->iz xs=aa ws->vs=ws/\ws.all fR=ah
 |[],_,_,r,e=>by cases e;exact⟨r,rfl⟩
 |x::xs,_,ws,⟨v,r,rfl,h1,h2⟩,e=>by
  unfold iz at e;cases q:cT x with
  |none=>rw[q]at e;cases e
  |some w=>
   cases q2:iz xs with
   |none=>rw[q,q2]at e;cases e
   |some wr=>
    rw[q,q2]at e;cases e;obtain⟨e1,e2⟩:=sD h2 q2;exact⟨by rw[i6 h1 q,e1],by rw[pG,p7 q,e2];rfl⟩
def jF(neg:Bool):PV->PV->Option PV
 |.str x,.str y=>aa (.bl (neg^^u3 x y))
 |x,.lst ys=>(cT x).bind λv=>(iz ys).map λws=>.bl (neg^^sZ v ws)
 |x,.tup ys=>(cT x).bind λv=>(iz ys).map λws=>.bl (neg^^sZ v ws)
 |_,_=>af
def F_(K:aq):R2:=λx y H Q=>(∃i j,x=.str i/\y=.str j/\Q (.bl (!(GE j i 0 j.length 1).isEmpty)) H)\/zA K aj x y H Q
theorem FD:bY X (d7 .In) (F_ X.K):=Rf.or O3
theorem Dg{H:Hp}{F:ac->Prop}{x:PV}{ys:List PV}{v:V}{p:ac}{us:List V}{Q:VK}{neg:Bool}{pv:PV}(rx:aU K H F x v)(hp:bZ K H p us\/cV K H p us)(ru:bj K H F ys us)(e:((cT x).bind λv=>(iz ys).map λws=>PV.bl (neg^^sZ v ws))=aa pv) (q:∀w,aU K H F pv w->Q w H):zA K neg v (.ref p) H Q:=by
 cases q1:cT x with
 |none=>rw[q1]at e;cases e
 |some w=>
  cases q2:iz ys with
  |none=>rw[q1,q2]at e;cases e
  |some ws=>
   rw[q1,q2]at e;cases e;obtain⟨rfl,hf⟩:=sD ru q2;rw[i6 rx q1];refine⟨p,us,rfl,hp,p7 q1,hf,?_⟩;have:=q _ rfl;cases neg <;> simpa using this
theorem B0:P2 K (F_ K) (jF aj):=λF H x y v u Q pv rx ry e q=>by
 unfold jF at e;split at e
 ·cases e;exact .inl ⟨_,_,rx.1,ry.1,by have:=q _ F H (Al.refl ..) rfl;simpa[u3]using this⟩
 ·obtain⟨a,us,rfl,ha,_,ra⟩:=ry;exact .inr (Dg (neg:=aj) rx (.inl (.inl ha)) ra e λw rw'=>q w F H (Al.refl ..) rw')
 ·obtain⟨a,us,rfl,ha,ra⟩:=ry;exact .inr (Dg (neg:=aj) rx (.inr (cV.of ha)) ra e λw rw'=>q w F H (Al.refl ..) rw')
 ·cases e
def ka(neg:Bool):PV->PV->Option PV
 |x,.non=>match x with
  |.non=>aa (.bl (neg^^ah))
  |.raw _=>af
  |_=>aa (.bl (neg^^aj))
 |_,_=>af
theorem Ie{H:Hp}{F:ac->Prop}{x:PV}{v:V}(r:aU K H F x v)(h:x≠.non)(h2:∀w,x≠.raw w):decide (v=V.non)=aj:=by
 refine decide_eq_false λz=>?_;subst z;cases x with
 |non=>exact h rfl
 |raw w=>exact h2 w rfl
 |bl _=>cases r
 |int _=>cases r
 |str _=>cases r.1
 |tup _=>obtain⟨a,vs,e,_⟩:=r;cases e
 |lst _=>obtain⟨a,vs,e,_⟩:=r;cases e
 |exc _=>obtain⟨a,e,_⟩:=r;cases e
theorem HV{H:Hp}{F:ac->Prop}{x y:PV}{v u:V}{Q:VK}{pv:PV}{neg:Bool}(rx:aU K H F x v)(ry:aU K H F y u)(e:ka neg x y=aa pv)(q:∀w F' H',Al F F' H H'->aU K H' F' pv w->Q w H'):u=.non/\Q (.bl (neg^^decide (v=V.non))) H:=by
 unfold ka at e;split at e
 ·refine⟨ry,?_⟩;split at e
  ·cases e;rw[show v=V.non from rx];exact q _ F H (Al.refl ..) rfl
  ·cases e
  ·rename_i h1 h2;cases e;rw[Ie rx (λz=>h1 z) (λw z=>h2 w z)];exact q _ F H (Al.refl ..) rfl
 ·cases e
theorem FG:P2 K (λx y H Q=>y=.non/\Q (.bl (decide (x=.non))) H) (ka aj):=λF H x y v u Q pv rx ry e q=>by have:=HV rx ry e q;simpa using this
def bc:List PV->Option PV
 |[.str x]=>aa (.int x.length)
 |[.lst xs]=>aa (.int xs.length)
 |[.tup xs]=>aa (.int xs.length)
 |_=>af
theorem iN{H:Hp}{F:ac->Prop}{x:PV}{vs:List V}(r:bj K H F [x] vs):∃v,vs=[v]/\aU K H F x v:=by obtain⟨v,r',rfl,h1,h2⟩:=r;rw[show r'=[] from h2];exact⟨v,rfl,h1⟩
theorem eD:PL K (λxs H Q=>∃x n,xs=[x]/\C4 K x H n/\Q (.int n) H) bc:=λF H xs vs Q pv rs e q=>by
 unfold bc at e;split at e
 ·cases e;obtain⟨v,rfl,rv⟩:=iN rs;rw[rv.1];exact⟨_,_,rfl,⟨by rw[kX];exact dP rv.2 kf,rfl⟩,by rw[kX];exact q _ F H (Al.refl ..) rfl⟩
 ·cases e;obtain⟨v,rfl,a,us,rfl,ha,_,ra⟩:=iN rs;exact⟨_,_,rfl,.inl ⟨us,.inl ha,rfl⟩,by rw[ra.len];exact q _ F H (Al.refl ..) rfl⟩
 ·cases e;obtain⟨v,rfl,a,us,rfl,ha,ra⟩:=iN rs;exact⟨_,_,rfl,.inr ⟨us,cV.of ha,rfl⟩,by rw[ra.len];exact q _ F H (Al.refl ..) rfl⟩
 ·cases e
def nk:List PV->Option PO
 |[.lst xs]=>aa (.lst xs)
 |[.tup xs]=>aa (.lst xs)
 |_=>af
theorem zQ:j9 K (λxs H Q=>∃p ys,xs=[.ref p]/\(bZ K H p ys\/cV K H p ys)/\∀l,H l=af->Q (.ref l) (upd H l (.lst ys))) nk:=λF H xs vs Q po hF rs e q=>by
 unfold nk at e;split at e
 ·cases e;obtain⟨v,rfl,a,us,rfl,ha,_,ra⟩:=iN rs;exact⟨a,us,rfl,.inl (.inl ha),λl hl=>q l F _ _ (Al.new0 hl) (vR hl ra) (wc hl hF trivial)⟩
 ·cases e;obtain⟨v,rfl,a,us,rfl,ha,ra⟩:=iN rs;exact⟨a,us,rfl,.inr (cV.of ha),λl hl=>q l F _ _ (Al.new0 hl) (vR hl ra) (wc hl hF trivial)⟩
 ·cases e
def i_:List PV->Option PV
 |[.lst xs]=>aa (.tup xs)
 |[.tup xs]=>aa (.tup xs)
 |_=>af
theorem qQ:PL K (λxs H Q=>∃p ys,xs=[.ref p]/\((bZ K H p ys/\∀l,H l=af->Q (.ref l) (upd H l (.tup ys)))\/(cV K H p ys/\Q (.ref p) H))) i_:=λF H xs vs Q pv rs e q=>by
 unfold i_ at e;split at e
 ·cases e;obtain⟨v,rfl,a,us,rfl,ha,_,ra⟩:=iN rs;exact⟨a,us,rfl,.inl ⟨.inl ha,λl hl=>q _ F _ (Al.new0 hl) ⟨l,us,rfl,upd_same,(Al.new0 hl).reps ra⟩⟩⟩
 ·cases e;obtain⟨v,rfl,a,us,rfl,ha,ra⟩:=iN rs;exact⟨a,us,rfl,.inr ⟨cV.of ha,q _ F H (Al.refl ..) ⟨a,us,rfl,ha,ra⟩⟩⟩
 ·cases e
def jf:List PV->Option (List Tx)
 |[]=>aa []
 |.str x::xs=>(jf xs).map (x::·)
 |_=>af
def ak(ls:List Tx):List PV:=ls.map .str
theorem vA(ls:List Tx):jf (ak ls)=aa ls:=by
 induction ls with
 |nil=>rfl
 |cons x ls ih=>show(jf (ak ls)).map (x::·)=_;rw[ih];rfl
theorem yj:∀{xs:List PV}{ls:List Tx},jf xs=aa ls->xs=ak ls
 |[],ls,e=>by cases e;rfl
 |.str x::xs,ls,e=>by
  unfold jf at e;cases q:jf xs with
  |none=>rw[q]at e;cases e
  |some r=>rw[q]at e;cases e;rw[yj q];rfl
 |.non::_,_,e=>by cases e
 |.bl _::_,_,e=>by cases e
 |.int _::_,_,e=>by cases e
 |.tup _::_,_,e=>by cases e
 |.lst _::_,_,e=>by cases e
 |.raw _::_,_,e=>by cases e
 |.exc _::_,_,e=>by cases e
theorem Rb{H:Hp}{F:ac->Prop}:∀{ls:List Tx}{vs:List V},bj K H F (ak ls) vs↔vs=dZ ls/\∀x∈ls,x.length<=bC
 |[],vs=>by simp[ak,bj,dZ]
 |x::ls,vs=>by
  show(∃v r,vs=v::r/\(v=tV x/\x.length<=bC)/\bj K H F (ak ls) r)↔_;constructor
  ·rintro⟨v,r,rfl,⟨rfl,h1⟩,h2⟩;obtain⟨rfl,h3⟩:=Rb.mp h2;exact⟨rfl,λy hy=>by
    rcases bQ.mp hy with rfl|hy
    ·exact h1
    ·exact h3 y hy⟩
  ·rintro⟨rfl,h⟩;exact⟨tV x,dZ ls,rfl,⟨rfl,h x (by simp)⟩,Rb.mpr ⟨rfl,λy hy=>h y (by simp[hy])⟩⟩
def jc:List PV->Option PO
 |[.lst xs]=>(jf xs).bind λls=>if ls.length<64 then aa (.lst (ak (bf ls)))else af
 |[.tup xs]=>(jf xs).bind λls=>if ls.length<64 then aa (.lst (ak (bf ls)))else af
 |_=>af
theorem ql:j9 K (λxs H Q=>∃(p:ac) (ls:List Tx),xs=[.ref p]/\(bZ K H p (dZ ls)\/cV K H p (dZ ls))/\ls.length<64/\∀l,H l=af->Q (.ref l) (upd H l (.lst (dZ (bf ls))))) jc:=λF H xs vs Q po hF rs e q=>by
 have fin:∀{ys:List PV}{us:List V}{a:ac},((jf ys).bind λls=>if ls.length<64 then aa (PO.lst (ak (bf ls)))else af)=aa po->bj K H F ys us->(bZ K H a us\/cV K H a us) ->
   ∃(p:ac) (ls:List Tx),[V.ref a]=[.ref p]/\(bZ K H p (dZ ls)\/cV K H p (dZ ls))/\ls.length<64/\∀l,H l=af->Q (.ref l) (upd H l (.lst (dZ (bf ls)))):=λ{ys us a} e ra hs=>by
  cases q1:jf ys with
  |none=>rw[q1]at e;cases e
  |some ls=>
   rw[q1]at e;simp only[jj]at e;split at e
   ·rename_i jC;cases e;rw[yj q1]at ra;obtain⟨rfl,hm⟩:=Rb.mp ra;refine⟨a,ls,rfl,hs,jC,λl hl=>q l F _ _ (Al.new0 hl) (vR hl (Rb.mpr ⟨rfl,λx hx=>hm x ((eY ls).mem_iff.mp hx)⟩)) (wc hl hF trivial)⟩
   ·cases e
 unfold jc at e;split at e
 ·obtain⟨v,rfl,a,us,rfl,ha,_,ra⟩:=iN rs;exact fin e ra (.inl (.inl ha))
 ·obtain⟨v,rfl,a,us,rfl,ha,ra⟩:=iN rs;exact fin e ra (.inr (cV.of ha))
 ·cases e
def lC:List PV->Option (List Bool)
 |[]=>aa []
 |.bl b::xs=>(lC xs).map (b::·)
 |_=>af
theorem Es{H:Hp}{F:ac->Prop}:∀{xs:List PV}{vs:List V}{bs:List Bool},bj K H F xs vs->lC xs=aa bs->vs=bs.map V.bl
 |[],_,_,r,e=>by cases e;exact r
 |.bl b::xs,_,bs,⟨v,r,rfl,h1,h2⟩,e=>by
  unfold lC at e;cases q:lC xs with
  |none=>rw[q]at e;cases e
  |some r'=>rw[q]at e;cases e;rw[Es h2 q,show v=V.bl b from h1];rfl
 |.non::_,_,_,_,e=>by cases e
 |.str _::_,_,_,_,e=>by cases e
 |.int _::_,_,_,_,e=>by cases e
 |.tup _::_,_,_,_,e=>by cases e
 |.lst _::_,_,_,_,e=>by cases e
 |.raw _::_,_,_,_,e=>by cases e
 |.exc _::_,_,_,_,e=>by cases e
def lX:List PV->Option PV
 |[.lst xs]=>(lC xs).map λbs=>.bl (bs.all id)
 |_=>af
theorem xz:PL K (λxs H Q=>∃(p:ac) (bs:List Bool),xs=[.ref p]/\bZ K H p (bs.map V.bl)/\Q (.bl (bs.all id)) H) lX:=λF H xs vs Q pv rs e q=>by
 unfold lX at e;split at e
 ·rename_i ys;cases q1:lC ys with
  |none=>rw[q1]at e;cases e
  |some bs=>
   rw[q1]at e;cases e;obtain⟨v,rfl,a,us,rfl,ha,_,ra⟩:=iN rs;rw[Es ra q1]at ha;exact⟨a,bs,rfl,.inl ha,q _ F H (Al.refl ..) rfl⟩
 ·cases e
def pd:PV->Option String
 |.non=>aa "NoneType"
 |.bl _=>aa "bool"
 |.int _=>aa "int"
 |.str _=>aa "str"
 |.tup _=>aa "tuple"
 |.lst _=>aa "list"
 |_=>af
def gk:List PV->Option PV
 |[x,.raw (.ty T)]=>(pd x).bind λt=>(gH [] (.type t) (.type T)).map λb=>.bl b
 |_=>af
theorem oA:eG X (.builtin "isinstance") (λxs H Q=>∃x t T b,xs=[x,.ty T]/\iF X.K H x (.type t)/\gH X.K (.type t) (.type T)=aa b/\Q (.bl b) H):=by
 intro ae s σ H xs us Q I r h;obtain⟨x,t,T,b,rfl,ty,e,q⟩:=h;cases r with
 |cons r1 r2=>
  cases r2 with
  |cons r3 r4=>
   cases r4;cases r3;exact La I r1 ty e λtk=>⟨.bl b,H,I.tok _,rfl,q⟩
theorem LM{H:Hp}{F:ac->Prop}{x:PV}{v:V}{t:String}(r:aU K H F x v)(e:pd x=aa t):iF K H v (.type t):=by
 cases x with
 |non=>cases e;rw[show v=V.non from r];exact .non
 |bl b=>cases e;rw[show v=V.bl b from r];exact .bl b
 |int b=>cases e;rw[show v=V.int b from r];exact .int b
 |str b=>cases e;rw[show v=tV b from r.1];exact .str _
 |tup xs=>cases e;obtain⟨a,vs,rfl,ha,_⟩:=r;exact .tup ha
 |lst xs=>
  cases e;obtain⟨a,vs,rfl,ha,_⟩:=r;rcases ha with ha|⟨o,ha⟩
  ·exact .lst ha
  ·exact .frz ha
 |raw _=>cases e
 |exc _=>cases e
theorem oP:PL K (λxs H Q=>∃x t T b,xs=[x,.ty T]/\iF K H x (.type t)/\gH K (.type t) (.type T)=aa b/\Q (.bl b) H) gk:=λF H xs vs Q pv rs e q=>by
 unfold gk at e;split at e
 ·rename_i x T;cases q1:pd x with
  |none=>rw[q1]at e;cases e
  |some t=>
   cases q2:gH [] (.type t) (.type T)with
   |none=>rw[q1,jj,q2]at e;cases e
   |some b=>
    rw[q1,jj,q2]at e;cases e;obtain⟨v,r',rfl,h1,h2⟩:=rs;obtain⟨u,rfl,h3⟩:=iN h2;rw[show u=V.ty T from h3];exact⟨v,t,T,b,rfl,LM h1 q1,q2,q _ F H (Al.refl ..) rfl⟩
 ·cases e
theorem oC{E:XK}{x:Str}{T:String}{pos:Pos}(hm:X.mg x=af)(hv:eE x=aa (.type T))(hg:Gl X x:=by rfl)(hn:x≠"__name__":=by decide)(hd:(x == ("__debug__" : Str))=aj:=by decide):DE X E (.Name x pos) (dC (.raw (.ty T))):=λF S ε σ H Q r q=>bJ (LC (v:=.ty T) hg hm hv rfl hn hd) (q F S H r (bd.refl ..) _ rfl)
def b7:PV->PV->Option PV
 |.lst xs,.int i=>f_ xs i
 |.tup xs,.int i=>f_ xs i
 |.str x,.int i=>(f_ x i).map λc=>.str [c]
 |_,_=>af
theorem Cy{H:Hp}{F:ac->Prop}{xs:List PV}{vs:List V}{i:Int}{x:PV}(r:bj K H F xs vs)(e:f_ xs i=aa x):∃v,f_ vs i=aa v/\aU K H F x v:=by
 unfold f_ at e ⊢;rw[r.len];cases q:oJ xs.length i with
 |none=>rw[q]at e;cases e
 |some j=>rw[q]at e;exact r.get e
theorem ij:P2 K (FC K) b7:=λF H x y v u Q pv rx ry e q=>by
 unfold b7 at e;split at e
 ·rename_i xs i;obtain⟨a,us,rfl,ha,_,ra⟩:=rx;obtain⟨w,e1,e2⟩:=Cy ra e;exact .inl ⟨a,us,i,w,rfl,ry,.inl ha,e1,q _ F H (Al.refl ..) e2⟩
 ·rename_i xs i;obtain⟨a,us,rfl,ha,ra⟩:=rx;obtain⟨w,e1,e2⟩:=Cy ra e;exact .inr (.inl ⟨a,us,i,w,rfl,ry,cV.of ha,e1,q _ F H (Al.refl ..) e2⟩)
 ·rename_i x i;cases q1:f_ x i with
  |none=>rw[q1]at e;cases e
  |some c=>
   rw[q1]at e;cases e;rw[rx.1];exact .inr (.inr ⟨_,i,c,rfl,ry,by rw[kX];exact dP rx.2 kf,by rw[o7];exact q1,q _ F H (Al.refl ..) ⟨rfl,by show 1<=bC;decide⟩⟩)
 ·cases e
def gC{α:Type}(xs:List α)(lo hi:Option Int):List α:=(xs.drop (HT.sIx xs.length 0 lo)).take (HT.sIx xs.length xs.length hi-HT.sIx xs.length 0 lo)
theorem MY{α:Type}(xs:List α)(lo hi:Option Int):(gC xs lo hi).length<=xs.length:=by unfold gC;rw[rD,my];lia
def df:PV->Option Int->Option Int->Option PV
 |.str x,lo,hi=>aa (.str (gC x lo hi))
 |.lst xs,lo,hi=>aa (.lst (gC xs lo hi))
 |.tup xs,lo,hi=>if HT.sIx xs.length 0 lo=0/\HT.sIx xs.length xs.length hi=xs.length then af else aa (.tup (gC xs lo hi))
 |_,_,_=>af
def Eg(K:aq):V->Option Int->Option Int->Hp->VK->Prop:=λx lo hi H Q=>Ew x lo hi H Q\/(D_ K x lo hi H Q\/Fj K x lo hi H Q)
theorem jv:lO X (Eg X.K):=Q_.or (Rc.or K5)
theorem CZ{H:Hp}{F:ac->Prop}{xs:List PV}{vs:List V}(r:bj K H F xs vs)(lo hi:Option Int):bj K H F (gC xs lo hi) (mU vs lo hi):=by unfold gC mU;rw[r.len];exact(r.drop _).take _
theorem jt:EC K (Eg K) df:=λF H x lo hi v Q pv rx e q=>by
 unfold df at e;split at e
 ·cases e;rw[rx.1];refine .inl ⟨_,rfl,by rw[kX];exact dP rx.2 kf,?_⟩;refine q _ F H (Al.refl ..) ⟨?_,dP (MY ..) rx.2⟩;unfold kR gC;rw[kX,o7];rfl
 ·cases e;obtain⟨a,us,rfl,ha,_,ra⟩:=rx;exact .inr (.inl ⟨a,us,rfl,.inl ha,λp hp=>q _ _ _ (Al.new hp) ⟨p,_,rfl,.inl upd_same,.inr rfl,(Al.new hp).reps (CZ ra lo hi)⟩⟩)
 ·split at e
  ·cases e
  ·rename_i hw;cases e;obtain⟨a,us,rfl,ha,ra⟩:=rx;exact .inr (.inr ⟨a,us,rfl,cV.of ha,by rw[ra.len];exact hw,λp hp=>q _ _ _ (Al.new0 hp) ⟨p,_,rfl,upd_same,(Al.new0 hp).reps (CZ ra lo hi)⟩⟩)
 ·cases e
variable{E:XK}{tg l a b:aw}{d:ag->R PV}{ds:ag->R (List PV)}{p pos:Pos}
def iC:PV->Option (List PV)
 |.lst xs=>aa xs
 |.tup xs=>aa xs
 |.str x=>aa (x.map λc=>.str [c])
 |_=>af
def bo(d:ag->R PV):ag->R (List PV):=λε=>(d ε).bind λx ε1=>aC (iC x) ε1
theorem DD{H:Hp}{F:ac->Prop}:∀(x:Tx),bj K H F (x.map λc=>PV.str [c]) (x.map sg)
 |[]=>rfl
 |c::x=>⟨sg c,x.map sg,rfl,⟨rfl,by show 1<=bC;decide⟩,DD x⟩
theorem fU(he:DE X E l d):DI X E tg l (bo d):=λF S ε σ H Rr rl h=>Bx.mk λae s I=>by
 have w:=he F S ε σ H (λv H1=>∃F1 S1 ε1 x,aI X.K F1 S1 ε1 σ H1/\aU X.K H1 F1 x v/\Ok X.K E σ F1 S1 H1 (aC (iC x) ε1) (λpvs _ F' S' H'=>∀J vs RR,bj X.K H' F' pvs vs->vs.length<=bn->Walk J vs RR->(∀S'' F'' H'',bd (U S') (U S'') F' F'' H' H''->RR H'')->Rr J H')) rl
  ((Ok.bind h).imp λx ε1 F1 S1 H1 r1 g1 h1 v rv=>⟨F1,S1,ε1,x,r1,rv,h1⟩)
 refine aQ (w.run ae s I) λv s1 ⟨x,H1,I1,rx,F1,S1,ε1,pv,r1,rv,h1⟩=>?_;cases pv with
 |lst xs=>
  obtain⟨a,us,rfl,ha,hF,ra⟩:=rv;cases rx;obtain⟨its,rr,pp,hz⟩:=I1.list (.inl ha);refine GT pp.isList ?_;refine⟨s1.heap.objs.size,[s1.heap.objs.size],_,_,H1,rfl,I1.kept (t':=s1.toks) λb o e=>bV _ e,MH a _,⟨_,dq _ rfl,rfl,rfl⟩,λb hb=>?_,h1 F1 S1 H1 r1 (bd.refl ..) (yF X.K a) us (λH=>bZ X.K H a us) ra hz MV λS2 F2 H2 g2=>.inl (g2.lst r1.fit hF ha)⟩;have e:b=s1.heap.objs.size:=by simpa using hb
  subst e;exact I1.fpOk (bt _) (I1.hok.fresh (bt _))
 |tup xs=>
  obtain⟨a,us,rfl,ha,ra⟩:=rv;cases rx;obtain⟨its,rr,pp,hz⟩:=I1.tuple (cV.of ha);refine wpAny_pyIter_tuple (show s1.heap.IsTuple a its.toArray from pp) ?_;refine⟨s1.heap.objs.size,[s1.heap.objs.size],_,_,H1,rfl,I1.kept (t':=s1.toks) λb o e=>bV _ e,OV a _,⟨_,dq _ rfl,rfl,rfl⟩,λb hb=>?_,h1 F1 S1 H1 r1 (bd.refl ..) (z6 X.K a) us (λH=>cV X.K H a us) ra hz Iw λS2 F2 H2 g2=>cV.of (g2.imm r1.fit ha id)⟩;have e:b=s1.heap.objs.size:=by simpa using hb
  subst e;exact I1.fpOk (bt _) (I1.hok.fresh (bt _))
 |str z=>
  obtain⟨rfl,hz⟩:=rv;obtain⟨t,rfl⟩:=rx;have qq:Rr (ue (tS z)) H1:=h1 F1 S1 H1 r1 (bd.refl ..) (ue (tS z)) (z.map sg) (λ_=>True) (DD z) (by rw[c9];exact dP hz kf) (by have:=ND (z:=tS z);rw[o7]at this;exact this) λ_ _ _ _=>trivial;have fin:∀(n:String) (St':Nat->aE->Prop),(∀i h,St' i h->∃o n vs,h.get? s1.heap.objs.size=aa o/\o.cls=.type n/\o.data=.fields vs /\ ["enumerate","zip","dict_itemiterator","dict_reverseitemiterator","odict_iterator","itertools.zip_longest","itertools.pairwise"].contains n=aj) ->
    (∀(A:a6) (i:Nat) (s:am) (Q:ai->am->Prop) (E:ai->am->Prop),St' i s.heap->Q (.ref s1.heap.objs.size) s->au (aB X.prog X.w) A (nO (.ref s1.heap.objs.size)) Q E s) ->
    (∀A:a6,A.handled=af->Walks X.prog X.w A s1.heap.objs.size [s1.heap.objs.size] [s1.heap.objs.size] (tS z).cps.size (SignAt (tS z)) St') ->
    St' 0 (s1.heap.push {cls:=.type n,data:=.fields #[.str (tS z) t,.int 0 0]}) ->
    vq X ae σ tg Rr (.ref s1.heap.objs.size) {s1 with heap:=s1.heap.push {cls:=.type n,data:=.fields #[.str (tS z) t,.int 0 0]}}:=λn St' h1 h2 h3 h4=>by
   refine⟨s1.heap.objs.size,[s1.heap.objs.size],St',ue (tS z),H1,rfl,I1.kept (t':=s1.toks) λb o e=>bV _ e,OI h1 h2 h3,h4,λb hb=>?_,qq⟩;have e:b=s1.heap.objs.size:=by simpa using hb
   subst e;exact I1.fpOk (bt _) (I1.hok.fresh (bt _))
  cases ha:(tS z).cps.all (· < 128)
  ·refine wpAny_pyIter_wide ha (fin "str_iterator" (λi h=>h.IsStrIter s1.heap.objs.size "str_iterator" (tS z) t i) (λi h ⟨o,e1,e2,e3⟩=>⟨o,_,_,e1,e2,e3,by decide⟩) (λA i s Q E st h=>wpAny_pyIter_striter_wide st h) (λA' hA=>Walks.strWide hA _ (tS z) t) ⟨_,dq _ rfl,rfl,rfl⟩)
  ·refine wpAny_pyIter_ascii ha (fin "str_ascii_iterator" (λi h=>h.IsStrIter s1.heap.objs.size "str_ascii_iterator" (tS z) t i) (λi h ⟨o,e1,e2,e3⟩=>⟨o,_,_,e1,e2,e3,by decide⟩) (λA i s Q E st h=>wpAny_pyIter_striter_ascii st h) (λA' hA=>Walks.strAscii hA _ (tS z) t) ⟨_,dq _ rfl,rfl,rfl⟩)
 |non=>exact(show False from h1).elim
 |bl _=>exact(show False from h1).elim
 |int _=>exact(show False from h1).elim
 |raw _=>exact(show False from h1).elim
 |exc _=>exact(show False from h1).elim
def e_(lo:Int)(n:Nat):List PV:=(cW n).map λi=>PV.int (lo+(i:Nat))
theorem Jg{H:Hp}{F:ac->Prop}(lo:Int)(n:Nat):bj K H F (e_ lo n) (qu lo n):=by
 unfold e_ qu
 induction (cW n)with
 |nil=>rfl
 |cons x xs ih=>exact⟨_,_,rfl,rfl,ih⟩
def iO:List PV->Option (List PV)
 |[.int j]=>if j<=1000000/\-1000000<=j then aa (e_ 0 j.toNat)else af
 |_=>af
theorem sJ(hm:X.mg "range" = af)(ha:DA X E [a] ds)(hg:Gl X "range":=by rfl)(hs:aH [a] X.env=[(aj,aG a X.env)]:=by rfl):DI X E tg (.Call (.Name "range" p) [a] [] pos) (dL iO ds):=λF S ε σ H Rr rl h=>by
 refine KF (Qy hg hm gP hs) (ha F S ε σ H _ rl ((Ok.bind h).imp λxs ε1 F1 S1 H1 r1 g1 h1 vs jD=>?_));unfold iO at h1;split at h1
 ·rename_i j;split at h1
  ·rename_i hj;obtain⟨v,rfl,rv⟩:=iN jD;refine⟨j,by rw[show v=V.int j from rv],∅,∅,h1 F1 S1 H1 r1 (bd.refl ..) _ _ _ (Jg 0 j.toNat) (by rw[yX,nQ];lia) Lh λ_ _ _ _=>trivial⟩
  ·exact h1.elim
 ·exact h1.elim
end
section
variable{K:aq}{F:ac->Prop}{S:Nat->ac->Prop}{ε:ag}{σ:St}{H:Hp}{i:Nat}{xs xs':List PV}{vs':List V}{a:ac}
theorem aI.lstAt(r:aI K F S ε σ H)(e:ε[i]?=aa (.own (.lst xs))):∃a vs,σ[i]?=aa (aa (.ref a))/\H a=aa (.lst vs)/\bj K H F xs vs/\S i a/\∀b,S i b->b=a:=by obtain⟨a,e1,⟨vs,h1,h2⟩,h3⟩:=r.own i _ e;exact⟨a,vs,e1,h1,h2,(h3 a).mpr rfl,λb h=>(h3 b).mp h⟩
theorem aI.upd(r:aI K F S ε σ H)(e:ε[i]?=aa (.own (.lst xs)))(ea:σ[i]?=aa (aa (.ref a)))(h:bj K H F xs' vs'):aI K F S (ε.set i (.own (.lst xs'))) σ (upd H a (.lst vs'))/\bd (U S) (U S) F F H (upd H a (.lst vs')):=by
 obtain⟨a',vs,e1,h1,h2,h3,h4⟩:=r.lstAt e;rw[ea]at e1;cases e1;have hi:i<ε.length:=(cO.mp e).1;have g:bd (U S) (U S) F F H (L2.upd H a (.lst vs')):=⟨λ_ z=>z,λb o q n=>by rw[bh (by rintro rfl;exact n ⟨i,h3⟩)];exact q,λb o q=>by
  by_cases hb:b=a
  ·subst hb;exact⟨_,upd_same⟩
  ·exact⟨o,by rw[bh hb];exact q⟩,λ_ z=>.inl z,λ_ z=>.inl z⟩
 refine⟨⟨by rw[gK];exact r.len,λb z=>let ⟨o,q⟩:=r.ex b z;g.there b o q,λj pv q=>?_,λj po q=>?_,λj b z=>?_,r.dist⟩,g⟩
 ·have hj:i≠j:=by rintro rfl;rw[cP hi]at q;cases q
  rw[cu hj]at q;obtain⟨v,q1,q2⟩:=r.val j pv q;exact⟨v,q1,q2.grow g r.fit⟩
 ·by_cases hj:i=j
  ·subst hj;rw[cP hi]at q;cases q;exact⟨a,ea,⟨vs',upd_same,h.grow g r.fit⟩,λb=>⟨h4 b,λz=>by rw[z];exact h3⟩⟩
  ·rw[cu hj]at q;obtain⟨c,q1,q2⟩:=r.own j po q;refine⟨c,q1,q2.mono (λ_ _ z=>z.grow g r.fit) (λ_ _ z=>z.grow g r.fit) λb o z w=>?_⟩;rw[bh (by rintro rfl;exact hj (r.dist i j b h3 z))];exact w
 ·obtain⟨⟨po,q1⟩,q2,o,q3,q4⟩:=r.foot j b z;by_cases hj:i=j
  ·subst hj;rw[h4 b z];exact⟨⟨_,cP hi⟩,by rw[←h4 b z];exact q2,_,upd_same,trivial⟩
  ·exact⟨⟨po,by rw[cu hj];exact q1⟩,q2,o,by rw[bh (by rintro rfl;exact hj (r.dist i j b h3 z))];exact q3,q4⟩
end
section
variable{X:Cx}{E:XK}{pin:List Nat}{e b:aw}{de db:ag->R PV}{pos:Pos}
def cm(ε:ag)(i:Nat):Option (List PV):=match ε[i]? with
 |some (.own (.lst xs))=>aa xs
 |_=>af
theorem hZ{ε:ag}{i:Nat}{xs:List PV}(h:cm ε i=aa xs):ε[i]?=aa (.own (.lst xs)):=by
 unfold cm at h;split at h
 ·cases h;assumption
 ·cases h
def ge(i:Nat)(de:ag->R PV):ag->R aK:=λε=>(aC (cm ε i) ε).bind λ_ ε=>(de ε).bind λy ε1=>(aC (cm ε1 i) ε1).bind λxs ε1=>if xs.length<bC then .ok .next (ε1.set i (.own (.lst (xs++[y]))))else .no
theorem tE(i:Nat){x:Str}{p apos cpos:Pos}(he:DE X E e de)(hN:X.N[i]?=aa x:=by rfl)(hv:cx X.env.scope x:=by first|exact Or.inl rfl|exact Or.inr (Or.inl rfl)|exact Or.inr (Or.inr rfl))(hd:(x == ("__debug__" : Str))=aj:=by decide)(a8:(x == ("__classdict__" : Str))=aj:=by decide) (h1:e9 (.Name x p) "append" X.env (aG (.Name x p) X.env)=aG (.Name x p) X.env:=by rfl)(h2:((bU cpos (aH [e] X.env)).all (λx=>!x.1)&&(jW cpos (jX [] X.env)).all (λx=>x.1.isSome)&&decide ([e].length+([]:List im).length+(if([]:List im).isEmpty then 0 else 1)<30))=ah:=by rfl)(h3:(apos.endLine == cpos.line)=ah:=by rfl) (h4:aH [e] X.env=(aj,aG e X.env)::aH [] X.env:=by rfl) (h5:(bU cpos (aH [] X.env)).any (·.1)=aj:=by rfl)(hs:ik (.Call (.Attribute (.Name x p) "append" apos) [e] [] cpos) af pos.line X.env=pure aj:=by rfl):DS X E pin (.Expr (.Call (.Attribute (.Name x p) "append" apos) [e] [] cpos) pos) (ge i de):=λF S ε σ H D rl h=>by
 unfold ge at h;cases e0:cm ε i with
 |none=>rw[e0]at h;exact h.elim
 |some xs0=>
  rw[e0]at h;simp only[bw,R.bind_ok]at h;obtain⟨a,vs0,ea,ha,_,_,_⟩:=rl.lstAt (hZ e0);refine fI (tG (qO pO G6 G7 wj (cF hN hv hd a8) (ff bB gB h4) h1 h2 h3 h4 h5) hs) ⟨.ref a,ea,.inl ⟨rfl,_,bZ.of ha⟩,?_⟩;refine he F S ε σ H _ rl (h.bindE.imp λy ε1 F1 S1 H1 r1 g1 q v rv=>?_);cases e1:cm ε1 i with
  |none=>rw[e1]at q;exact q.elim
  |some xs=>
   rw[e1]at q;simp only[bw,R.bind_ok]at q;obtain⟨a',vs,ea',pY,ra,_,_⟩:=r1.lstAt (hZ e1);rw[ea]at ea';cases ea';split at q
   ·rename_i hl;obtain⟨r2,g2⟩:=r1.upd (hZ e1) ea (ra.app (.one rv));exact⟨a,vs,v,rfl,rfl,pY,by rw[ra.len];exact gG hl kf,q F1 S1 σ _ r2 g2 (iH.refl _ _)⟩
   ·exact q.elim
def MD:V->List V->Hp->VK->Prop:=λx vs H Q=>∃l b xs zs,x=.ref l/\vs=[.ref b]/\H l=aa (.lst xs)/\Rd H b (.lst zs)/\xs.length+zs.length<=bn/\Q .non (L2.upd H l (.lst (xs++zs)))
theorem M8:rn X "list.extend" MD:=by
 intro ae s σ H x vs v us Q I rx rv h;obtain⟨l,b,xs,zs,rfl,rfl,hH,hB,hz,q⟩:=h;cases rx;obtain⟨u,rfl,ru⟩:=rv.one;cases ru;obtain⟨z,its,n,r,hl,e⟩:=I.lstM hH;obtain⟨its2,n2,r2,e2,_⟩:=Ai I hB;have lv:=r2.length;have hsz:its.toArray.size+its2.toArray.size<=bn:=by rw[cX,cX];lia
 have Q4:¬(!its.toArray.isEmpty&&GP (its.toArray.size+its2.toArray.size))=ah:=by rw[Ow hsz,Bool.and_false];exact fV
 refine uy F.slot_list_extend ⟨_,e,rfl⟩ F.entry_list_extend (F.args_list_extend_2 _ _)
  (AutoSeq1.list_extend_list_list_0 l its.toArray n b its2.toArray n2 Q4 (by rw[cX];lia) ∅) ⟨e,e2,?_⟩
 refine⟨.non,_,I.lset (its':=its++its2) hH e (by simp) (r.append r2) ?_,rfl,q⟩;rw[dI];lia
def nv(i:Nat)(de:ag->R PV):ag->R aK:=λε=>(aC (cm ε i) ε).bind λ_ ε=>(de ε).bind λy ε1=>(aC (cm ε1 i) ε1).bind λxs ε1=>match y with
 |.lst ys=>if xs.length+ys.length<=bC then .ok .next (ε1.set i (.own (.lst (xs++ys))))else .no
 |_=>.no
theorem zr(i:Nat){x:Str}{p apos cpos:Pos}(he:DE X E e de)(hN:X.N[i]?=aa x:=by rfl)(hv:cx X.env.scope x:=by first|exact Or.inl rfl|exact Or.inr (Or.inl rfl)|exact Or.inr (Or.inr rfl))(hd:(x == ("__debug__" : Str))=aj:=by decide)(a8:(x == ("__classdict__" : Str))=aj:=by decide) (h1:e9 (.Name x p) "extend" X.env (aG (.Name x p) X.env)=aG (.Name x p) X.env:=by rfl)(h2:((bU cpos (aH [e] X.env)).all (λx=>!x.1)&&(jW cpos (jX [] X.env)).all (λx=>x.1.isSome)&&decide ([e].length+([]:List im).length+(if([]:List im).isEmpty then 0 else 1)<30))=ah:=by rfl)(h3:(apos.endLine == cpos.line)=ah:=by rfl) (h4:aH [e] X.env=(aj,aG e X.env)::aH [] X.env:=by rfl) (h5:(bU cpos (aH [] X.env)).any (·.1)=aj:=by rfl)(hs:ik (.Call (.Attribute (.Name x p) "extend" apos) [e] [] cpos) af pos.line X.env=pure aj:=by rfl):DS X E pin (.Expr (.Call (.Attribute (.Name x p) "extend" apos) [e] [] cpos) pos) (nv i de):=λF S ε σ H D rl h=>by
 unfold nv at h;cases e0:cm ε i with
 |none=>rw[e0]at h;exact h.elim
 |some xs0=>
  rw[e0]at h;simp only[bw,R.bind_ok]at h;obtain⟨a,vs0,ea,ha,_,_,_⟩:=rl.lstAt (hZ e0);refine fI (tG (qO pO PySem.F.slot_list_extend PySem.F.type_list_extend M8 (cF hN hv hd a8) (ff bB gB h4) h1 h2 h3 h4 h5) hs) ⟨.ref a,ea,.inl ⟨rfl,_,bZ.of ha⟩,?_⟩;refine he F S ε σ H _ rl (h.bindE.imp λy ε1 F1 S1 H1 r1 g1 q v rv=>?_);cases e1:cm ε1 i with
  |none=>rw[e1]at q;exact q.elim
  |some xs=>
   rw[e1]at q;simp only[bw,R.bind_ok]at q;obtain⟨a',vs,ea',pY,ra,_,_⟩:=r1.lstAt (hZ e1);rw[ea]at ea';cases ea';split at q
   ·rename_i ys;split at q
    ·rename_i hl;obtain⟨c,us,rfl,hc,_,rc⟩:=rv;obtain⟨r2,g2⟩:=r1.upd (hZ e1) ea (ra.app rc);exact⟨a,c,vs,us,rfl,rfl,pY,hc,by rw[ra.len,rc.len];exact dP hl kf,q F1 S1 σ _ r2 g2 (iH.refl _ _)⟩
    ·exact q.elim
   ·exact q.elim
end
mutual
def imm:PV->Bool
 |.lst _=>aj
 |.tup xs=>kW xs
 |_=>ah
def kW:List PV->Bool
 |[]=>ah
 |x::xs=>imm x&&kW xs
end
mutual
theorem aU.imm{K:aq}{H:Hp}{F F':ac->Prop}:∀(x:PV) {v:V},imm x=ah->aU K H F x v->aU K H F' x v
 |.non,_,_,h=>h
 |.bl _,_,_,h=>h
 |.int _,_,_,h=>h
 |.str _,_,_,h=>h
 |.raw _,_,_,h=>h
 |.exc _,_,_,h=>h
 |.lst _,_,e,_=>by simp[Pu.imm]at e
 |.tup xs,_,e,⟨a,vs,e1,h1,h2⟩=>⟨a,vs,e1,h1,bj.imm xs (by simpa[Pu.imm]using e) h2⟩
theorem bj.imm{K:aq}{H:Hp}{F F':ac->Prop}:∀(xs:List PV) {vs:List V},kW xs=ah->bj K H F xs vs->bj K H F' xs vs
 |[],_,_,h=>h
 |x::xs,_,e,⟨v,r,e1,h1,h2⟩=>by
  have e':imm x=ah/\kW xs=ah:=by simpa[kW]using e
  exact⟨v,r,e1,aU.imm x e'.1 h1,bj.imm xs e'.2 h2⟩
end
section
variable{K:aq}{F:ac->Prop}{S:Nat->ac->Prop}{ε:ag}{σ:St}{H:Hp}{i:Nat}{xs:List PV}
theorem aI.look(r:aI K F S ε σ H)(e:ε[i]?=aa (.own (.lst xs))):∃a,σ[i]?=aa (aa (.ref a))/\¬F a/\aU K H (λb=>F b\/b=a) (.lst xs) (.ref a)/\(∀b,F b\/b=a->∃o,H b=aa o) /\ (∀{F' H'},Al (λb=>F b\/b=a) F' H H'->Al F (λb=>F' b/\b≠a) H H'):=by
 obtain⟨a,vs,e1,h1,h2,h3,h4⟩:=r.lstAt e;have nF:¬F a:=(r.foot i a h3).2.1;refine⟨a,e1,nF,⟨a,vs,rfl,.inl h1,.inr rfl,bj.mono (λ_ z=>.inl z) (λ_ _ _ z=>z) (λ_ _ z _=>z) _ _ h2⟩,λb z=>z.elim (r.ex b) λz=>by rw[z];exact⟨_,h1⟩,λ{F' H'} al=>⟨λb z=>⟨al.fro b (.inl z),by rintro rfl;exact nF z⟩,al.same,λb z=>?_⟩⟩;rcases al.fnew b z.1 with(w|w)|w
 ·exact .inl w
 ·exact absurd w z.2
 ·exact .inr w
end
section
variable{X:Cx}{E:XK}{e b:aw}{de db:ag->R PV}{pos p:Pos}{x y:Str}{id T:String}{r:List V->Hp->VK->Prop}{f:List PV->Option PV}{fn:List PV->Option PO}
def eJ(o:Option PV):Option PV:=o.bind λv=>if imm v then aa v else af
theorem vc{o:Option PV}{v:PV}(h:eJ o=aa v):o=aa v/\imm v=ah:=by
 cases o with
 |none=>cases h
 |some w=>
  have h:(if imm w then aa w else af)=aa v:=h;split at h
  ·cases h;exact⟨rfl,by assumption⟩
  ·cases h
def tU:PO->Bool
 |.lst xs=>kW xs
 |_=>aj
def eK{α:Type}(f:List PV->Option α)(i:Nat):ag->R α:=λε=>(aC (cm ε i) ε).bind λxs ε=>aC (f [.lst xs]) ε
theorem Qw{F:ac->Prop}{S:Nat->ac->Prop}{ε:ag}{σ:St}{H:Hp}{Q:VK}{i:Nat}(hp:PL X.K r f)(rl:aI X.K F S ε σ H)(h:Ok X.K E σ F S H (eK (λxs=>eJ (f xs)) i ε) (λpv _ F' _ H'=>∀v,aU X.K H' F' pv v->Q v H')):∃a,σ[i]?=aa (aa (.ref a))/\r [.ref a] H Q:=by
 unfold eK at h;cases e0:cm ε i with
 |none=>rw[e0]at h;exact h.elim
 |some xs=>
  rw[e0]at h;simp only[bw,R.bind_ok]at h;obtain⟨a,ea,nF,ra,r_,dR⟩:=rl.look (hZ e0);refine⟨a,ea,?_⟩;cases e1:eJ (f [.lst xs])with
  |none=>rw[e1]at h;exact h.elim
  |some pv=>rw[e1]at h;obtain⟨e2,e3⟩:=vc e1;exact hp _ H [.lst xs] [.ref a] Q pv (.one ra) e2 λw F' H' al rw'=>h _ S H' (rl.al (dR al)) (dR al).grow w (aU.imm pv e3 rw')
theorem wH(i:Nat)(hc:eG X (.builtin id) r)(hp:PL X.K r f)(hm:X.mg x=af)(hv:eE x=aa (.builtin id))(hN:X.N[i]?=aa y:=by rfl)(dQ:cx X.env.scope y:=by first|exact Or.inl rfl|exact Or.inr (Or.inl rfl)|exact Or.inr (Or.inr rfl))(hd:(y == ("__debug__" : Str))=aj:=by decide) (a8:(y == ("__classdict__" : Str))=aj:=by decide) (hg:Gl X x:=by rfl) (hn:x≠"__name__":=by decide) (eX:(x == ("__debug__" : Str))=aj:=by decide) {yp:Pos}(he:aH [.Name y yp] X.env=(aj,aG (.Name y yp) X.env)::aH [] X.env:=by rfl) (cz:(bU pos (aH [] X.env)).any (·.1)=aj:=by rfl):DE X E (.Call (.Name x p) [.Name y yp] [] pos) (eK (λxs=>eJ (f xs)) i):=λF S ε σ H Q rl q=>by obtain⟨a,ea,hr⟩:=Qw hp rl q;exact bJ (l9 hc hg hm hv (ff (cF hN dQ hd a8) gB he) hn eX he cz) ⟨_,ea,hr⟩
def iQ(o:Option PO):Option PO:=o.bind λv=>if tU v then aa v else af
theorem OM{F:ac->Prop}{S:Nat->ac->Prop}{ε:ag}{σ:St}{H:Hp}{Q:VK}{i:Nat}(hp:j9 X.K r fn)(rl:aI X.K F S ε σ H)(h:Ok X.K E σ F S H (eK (λxs=>iQ (fn xs)) i ε) (λpo _ F' S' H'=>∀a Sa,dJ X.K H' F' po a Sa->(∀b,Sa b->H b=af/\¬F' b/\¬U S' b/\∃o,H' b=aa o/\cy o)->Q (.ref a) H')):∃a,σ[i]?=aa (aa (.ref a))/\r [.ref a] H Q:=by
 unfold eK at h;cases e0:cm ε i with
 |none=>rw[e0]at h;exact h.elim
 |some xs=>
  rw[e0]at h;simp only[bw,R.bind_ok]at h;obtain⟨a,ea,nF,ra,r_,dR⟩:=rl.look (hZ e0);refine⟨a,ea,?_⟩;cases e1:fn [.lst xs]with
  |none=>rw[e1]at h;exact h.elim
  |some po=>
   rw[e1]at h;cases po with
   |dK kvs=>exact h.elim
   |lls jk=>exact h.elim
   |ins C fs=>exact h.elim
   |dT kvs=>exact h.elim
   |inl C fs y xs=>exact h.elim
   |lst ys=>
    have h:Ok X.K E σ F S H (aC (if kW ys then aa (PO.lst ys)else af) ε) _:=h;split at h
    ·rename_i hi;refine hp _ H [.lst xs] [.ref a] Q _ r_ (.one ra) e1 λc F' H' Sa al ow fr=>h _ S H' (rl.al (dR al)) (dR al).grow c Sa ?_ λb z=>?_
     ·obtain⟨⟨vs,o1,o2⟩,o3⟩:=ow;exact⟨⟨vs,o1,bj.imm ys hi o2⟩,o3⟩
     ·obtain⟨z1,z2,o,z3,z4⟩:=fr b z;refine⟨z1,λw=>z2 w.1,λ⟨j,w⟩=>?_,o,z3,z4⟩;obtain⟨_,_,o',w1,_⟩:=rl.foot j b w;rw[z1]at w1;cases w1
    ·exact h.elim
theorem wA(i:Nat)(hc:eG X (.builtin id) r)(hp:j9 X.K r fn)(hm:X.mg x=af)(hv:eE x=aa (.builtin id))(hN:X.N[i]?=aa y:=by rfl)(dQ:cx X.env.scope y:=by first|exact Or.inl rfl|exact Or.inr (Or.inl rfl)|exact Or.inr (Or.inr rfl))(hd:(y == ("__debug__" : Str))=aj:=by decide) (a8:(y == ("__classdict__" : Str))=aj:=by decide) (hg:Gl X x:=by rfl) (hn:x≠"__name__":=by decide) (eX:(x == ("__debug__" : Str))=aj:=by decide) {yp:Pos}(he:aH [.Name y yp] X.env=(aj,aG (.Name y yp) X.env)::aH [] X.env:=by rfl) (cz:(bU pos (aH [] X.env)).any (·.1)=aj:=by rfl):DN X E (.Call (.Name x p) [.Name y yp] [] pos) (eK (λxs=>iQ (fn xs)) i):=λF S ε σ H Q rl q=>by obtain⟨a,ea,hr⟩:=OM hp rl q;exact bJ (l9 hc hg hm hv (ff (cF hN dQ hd a8) gB he) hn eX he cz) ⟨_,ea,hr⟩
def lz(f:PV->PV->Option PV)(i:Nat)(db:ag->R PV):ag->R PV:=λε=>(aC (cm ε i) ε).bind λ_ ε=>(db ε).bind λk ε1=>(aC (cm ε1 i) ε1).bind λxs ε1=>aC (eJ (f (.lst xs) k)) ε1
theorem O_{F:ac->Prop}{S:Nat->ac->Prop}{ε:ag}{σ:St}{H:Hp}{Q:VK}{i:Nat}{r:R2}{f:PV->PV->Option PV}(hp:P2 X.K r f)(hb:DE X E b db)(rl:aI X.K F S ε σ H)(h:Ok X.K E σ F S H (lz f i db ε) (λpv _ F' _ H'=>∀v,aU X.K H' F' pv v->Q v H')):∃a,σ[i]?=aa (aa (.ref a))/\f9 X b σ H λu H1=>r (.ref a) u H1 Q:=by
 unfold lz at h;cases e0:cm ε i with
 |none=>rw[e0]at h;exact h.elim
 |some xs0=>
  rw[e0]at h;simp only[bw,R.bind_ok]at h;obtain⟨a,vs,ea,_⟩:=rl.lstAt (hZ e0);refine⟨a,ea,hb F S ε σ H _ rl ((Ok.bind h).imp λk ε1 F1 S1 H1 r1 g1 q u ru=>?_)⟩;cases e1:cm ε1 i with
  |none=>rw[e1]at q;exact q.elim
  |some xs=>
   rw[e1]at q;simp only[bw,R.bind_ok]at q;obtain⟨a',ea',nF,ra,r_,dR⟩:=r1.look (hZ e1);rw[ea]at ea';cases ea';cases e2:eJ (f (.lst xs) k)with
   |none=>rw[e2]at q;exact q.elim
   |some pv=>rw[e2]at q;obtain⟨e3,e4⟩:=vc e2;exact hp _ H1 (.lst xs) k (.ref a) u Q pv ra (aU.mono (λ_ z=>.inl z) (λ_ _ _ z=>z) (λ_ _ z _=>z) _ _ ru) e3 λw F' H' al rw'=>q _ S1 H' (r1.al (dR al)) (dR al).grow w (aU.imm pv e4 rw')
end
end Pu
namespace Pu
open L2
def kg(h:aE)(e T:ac)(c fl:ai):Prop:=∃oe vs oT ts,h.get? e=aa oe/\oe.cls=c/\(oe.data=.fields vs/\oe.dict=af)/\vs[1]?=aa (.ref T)/\T≠e/\h.get? T=aa oT/\oT.data=.fields ts/\ts[3]?=aa fl
def Made(h:aE)(e:ac)(c:ai):Prop:=∃oe vs,h.get? e=aa oe/\oe.cls=c/\(oe.data=.fields vs/\oe.dict=af)/\vs[1]?=aa .none
structure Kp(fs:List ac)(X:ac->Prop)(h h':aE):Prop where
 keep:∀b o,h.get? b=aa o->b∉fs->¬X b->h'.get? b=aa o
 slot:∀b o,h.get? b=aa o->b∈fs->¬X b->∃sl,h'.get? b=aa {o with slots:=sl}
 there:∀b o,h.get? b=aa o->∃o',h'.get? b=aa o'
theorem Kp.trans{fs:List ac}{X Y:ac->Prop}{h h1 h2:aE}(a:Kp fs X h h1)(b:Kp fs Y h1 h2):Kp fs (λc=>X c\/Y c) h h2 where
 keep:=λc o e n x=>b.keep c o (a.keep c o e n λz=>x (.inl z)) n λz=>x (.inr z)
 slot:=λc o e n x=>by obtain⟨sl,e1⟩:=a.slot c o e n λz=>x (.inl z);obtain⟨sl2,e2⟩:=b.slot c _ e1 n λz=>x (.inr z);exact⟨sl2,e2⟩
 there:=λc o e=>let ⟨o',e'⟩:=a.there c o e;b.there c o' e'
theorem Kp.imp{fs fs':List ac}{X Y:ac->Prop}{h h':aE}(a:Kp fs X h h')(hfs:∀b,b∈fs->b∈fs')(hX:∀b o,h.get? b=aa o->X b->Y b):Kp fs' Y h h' where
 keep:=λc o e n x=>a.keep c o e (λz=>n (hfs c z)) λz=>x (hX c o e z)
 slot:=λc o e n x=>by
  by_cases hc:c∈fs
  ·exact a.slot c o e hc λz=>x (hX c o e z)
  ·exact⟨o.slots,a.keep c o e hc λz=>x (hX c o e z)⟩
 there:=a.there
theorem K_(f:Array ai->Array ai)(o:Obj):(mH f o).dict=o.dict:=by
 obtain⟨c,d,dt,sl⟩:=o;cases dt <;> rfl
section
variable{M:Model}{A:a6}{E:ai->am->Prop}{s:am}
theorem Dt{base:aE}{env:Env}{outer:List Env}{L e:ac}{oe:Obj}{vs:Array ai}{x9:ai}{QZ:Bool}{Q:Unit->am->Prop}(lr:A.frames=aa (env::outer)) (hl:s.heap.FunFrames base (env::outer)) (hf:env.frame=aa L) (he:s.heap.get? e=aa oe) (hd:oe.data=.fields vs) (j3:oe.dict=af) (hsz:1<vs.size)(h:∀h' T,Kp (fD (env::outer)) (λb=>b=e) s.heap h'->kg h' e T oe.cls .none->s.heap.objs.size<=T->Q () {s with heap:=h'}):au M A (do let a ←frameOf env;let pl ←entryPlaceOf L QZ;let b ←EntryCells.newEntry x9 a .none (eL L) .none pl;mF (.ref e) 1 b) (λ_ s'=>au M A (xR (.ref e) af) Q E s') E s:=by
 have hene:e∉(env::outer).filterMap (·.frame):=λhm=>by obtain⟨_,o,ho,uY⟩:=hl.mem hm;rw[he]at ho;injection ho with ho;subst ho;exact uY vs hd
 refine ax (wpAny_frameOf_fun lr hl hf λh₁ hs₁=>?_);refine ax (wpAny_entryPlaceOf λpl cz=>?_);unfold EntryCells.newEntry newFields;refine ax (mz ?_ (cz.sizeOk5 _ _ _ _ _));have he₁:h₁.get? e=aa oe:=(hs₁.2.1 e hene).trans he;have he₂:=bV (h:=h₁) {cls:=.type "traceback",dict:=af,data:=.fields ([x9,.ref L,.none,eL L,.none]++(if pl.isEmpty then bG 6 Value.none else pl)).toArray} he₁;refine rO he₂ hd hsz ?_;have mM:h₁.objs.size≠e:=pB (bN he₁);have hd₃:=uG hd (·.setIfInBounds 1 (Value.ref h₁.objs.size));have he₃:=pM (mH (·.setIfInBounds 1 (Value.ref h₁.objs.size))) he₂ (Br hd₃);have hT₃:=(pI (h₁.push {cls:=.type "traceback",dict:=af,data:=.fields ([x9,.ref L,.none,eL L,.none]++(if pl.isEmpty then bG 6 Value.none else pl)).toArray}) (mH (·.setIfInBounds 1 (Value.ref h₁.objs.size))) (c8 mM)).trans (dq h₁ rfl);unfold xR;refine ax (pD he₃ hd₃ (x:=.ref h₁.objs.size) (by simp[hsz]) ?_);rw[if_pos (show(Value.ref h₁.objs.size != Value.none)=ah from by simp)];refine rO hT₃ rfl (by simp only[cX,dI,eF,nX] <;> lia) (h _ h₁.objs.size ?_ ?_ ?_)
 ·have keep:∀b o,b≠e->h₁.get? b=aa o ->
    (((h₁.push {cls:=.type "traceback",dict:=af,data:=.fields ([x9,.ref L,.none,eL L,.none]++(if pl.isEmpty then bG 6 Value.none else pl)).toArray}).update e (mH (·.setIfInBounds 1 (Value.ref h₁.objs.size)))).update h₁.objs.size (mH (·.setIfInBounds 3 ((af:Option ac).elim Value.none λf=>eL f)))).get? b=aa o:=λb o kG hb=>by
   have hbT:h₁.objs.size≠b:=pB (bN hb);rw[pI _ _ hbT,pI _ _ (c8 kG)];exact bV _ hb
  refine⟨λb o hb hn hx=>keep b o hx ((hs₁.2.1 b hn).trans hb),λb o hb hn hx=>?_,λb o hb=>?_⟩
  ·obtain⟨sl,q⟩:=hs₁.2.2 b o hb;exact⟨sl,keep b _ hx q⟩
  ·by_cases kG:b=e
   ·subst kG;exact⟨_,(pI _ _ mM).trans he₃⟩
   ·obtain⟨sl,q⟩:=hs₁.2.2 b o hb;exact⟨_,keep b _ kG q⟩
 ·refine⟨_,_,_,_,(pI _ _ mM).trans he₃,Obj.cls_mapFields _ _,⟨hd₃,by rw[K_];exact j3⟩,by simp[hsz],mM,pM _ hT₃ (Br (uG rfl _)),uG rfl _,by first | (simp;done) | (rcases cz with rfl|⟨_,_,_,_,_,_,_,rfl⟩ <;> simp)⟩
 ·exact mq hs₁.1.symm
theorem NJ{base:aE}{env:Env}{outer:List Env}{L e:ac}{c:ai}{Q:Unit->am->Prop}(lr:A.frames=aa (env::outer))(hl:s.heap.FunFrames base (env::outer))(hf:env.frame=aa L)(hm:Made s.heap e c)(h:∀h' T,Kp (fD (env::outer)) (λb=>b=e) s.heap h'->kg h' e T c .none->s.heap.objs.size<=T->Q () {s with heap:=h'}):au M A (leaving env (.ref e)) Q E s:=by obtain⟨oe,vs,he,hc,⟨hd,j3⟩,h1⟩:=hm;subst hc;unfold leaving noteFrame;simp only[hf];refine ax (ax (pD he hd h1 ?_));rw[if_neg (by decide)];exact Dt lr hl hf he hd j3 (xJ.mp h1).1 h
theorem E1{base:aE}{env:Env}{outer:List Env}{L e T:ac}{c:ai}{Q:Unit->am->Prop}(lr:A.frames=aa (env::outer))(hl:s.heap.FunFrames base (env::outer))(hf:env.frame=aa L)(ht:kg s.heap e T c .none)(h:∀h' T',Kp (fD (env::outer)) (λb=>b=e\/b=T) s.heap h'->kg h' e T' c .none->s.heap.objs.size<=T'->Q () {s with heap:=h'}):au M A (noteFrame (.ref e) env) (λ_ s2=>au M A (xR (.ref e) af) Q E s2) E s:=by
 obtain⟨oe,vs,oT,ts,he,mK,⟨hd,j3⟩,h1,mM,hT,ot,h3⟩:=ht;subst mK;unfold noteFrame;simp only[hf];refine ax (pD he hd h1 ?_);rw[if_pos (show(Value.ref T != Value.none)=ah from by simp)];refine ax (pD hT ot h3 ?_);rw[if_neg (show ¬((Value.none == eL L)=ah)from by simp[eL])];refine ax (rO hT ot (xJ.mp h3).1 ?_);have other:∀b,b≠T->(s.heap.update T (mH (·.setIfInBounds 3 Value.none))).get? b=s.heap.get? b:=λb hb=>pI _ _ (c8 hb);have noRecord:∀b o,s.heap.get? b=aa o->(∀vs,o.data≠.fields vs)->b≠T:=λb o hb uY q=>by rw[q,hT]at hb;injection hb with hb;subst hb;exact uY ts ot
 refine Dt lr (hl.of_keeps λb o hb uY=>⟨o,(other b (noRecord b o hb uY)).trans hb,rfl⟩) hf ((other e (c8 mM)).trans he) hd j3 (xJ.mp h1).1 λh' T' k fl hn=>?_;have k0:Kp (fD (env::outer)) (λb=>b=T) s.heap (s.heap.update T (mH (·.setIfInBounds 3 Value.none))):=by
  refine⟨λb o hb _ hx=>(other b hx).trans hb,λb o hb _ hx=>⟨o.slots,(other b hx).trans hb⟩,λb o hb=>?_⟩;by_cases hx:b=T
  ·subst hx;exact⟨_,pM _ hT (Br (uG ot _))⟩
  ·exact⟨o,(other b hx).trans hb⟩
 refine h h' T' ((k0.trans k).imp (λ_ z=>z) λb o _ z=>z.symm) fl ?_;have e2:(s.heap.update T (mH (·.setIfInBounds 3 Value.none))).objs.size<=T':=hn;rwa[Heap.size_update]at e2
theorem Pf{base:aE}{env:Env}{outer:List Env}{L e T:ac}{c:ai}{Q:Unit->am->Prop}(lr:A.frames=aa (env::outer))(hl:s.heap.FunFrames base (env::outer))(hf:env.frame=aa L)(ht:kg s.heap e T c .none)(h:∀h' T',Kp (fD (env::outer)) (λb=>b=e\/b=T) s.heap h'->kg h' e T' c .none->s.heap.objs.size<=T'->Q () {s with heap:=h'}):au M A (leaving env (.ref e)) Q E s:=by unfold leaving;exact ax (E1 lr hl hf ht h)
theorem OU{e T:ac}{c fl:ai}{Q:Unit->am->Prop}(ht:kg s.heap e T c fl)(h:∀h',Kp [] (λb=>b=T) s.heap h'->kg h' e T c .none->Q () {s with heap:=h'}):au M A (xR (.ref e) af) Q E s:=by
 obtain⟨oe,vs,oT,ts,he,mK,⟨hd,j3⟩,h1,mM,hT,ot,h3⟩:=ht;have Ht:3<ts.size:=(xJ.mp h3).1;have other:∀b,b≠T->(s.heap.update T (mH (·.setIfInBounds 3 ((af:Option ac).elim Value.none λf=>eL f)))).get? b=s.heap.get? b:=λb hb=>pI _ _ (c8 hb);have self:=pM (mH (·.setIfInBounds 3 ((af:Option ac).elim Value.none λf=>eL f))) hT (Br (uG ot _));unfold xR;refine ax (pD he hd h1 ?_);rw[if_pos (show(Value.ref T != Value.none)=ah from by simp)];refine rO hT ot Ht (h _ ⟨λb o hb _ hx=>(other b hx).trans hb,λb o hb _ hx=>⟨o.slots,(other b hx).trans hb⟩,λb o hb=>?_⟩ ⟨oe,vs,_,_,(other e (c8 mM)).trans he,mK,⟨hd,j3⟩,h1,mM,self,uG ot _,by simp[Ht]⟩);by_cases hx:b=T
 ·subst hx;exact⟨_,self⟩
 ·exact⟨o,(other b hx).trans hb⟩
end
def bT(P:ba)(w:aP):eI:=λouter H s E e s'=>∃(a T:ac) (c:ai) (H':Hp),e=.ref a/\s'.os=s.os/\mh s'.gens/\Un (fD outer) [] H H' s.heap s'.heap/\c0 P w H' s'.heap/\kg s'.heap a T c .none /\
 (s.heap.get? a=af/\s.heap.get? T=af/\H' a=af/\H' T=af)/\E c af H'
theorem HN{P:ba}{w:aP}{H:Hp}{h:aE}{a:ac}{o:HO}(x:dy P w H h a o):∃u,h.get? a=aa u:=by
 cases o with
 |lst xs=>obtain⟨_,_,_,_,e⟩:=x;exact⟨_,e⟩
 |tup xs=>obtain⟨_,_,_,⟨o,e,_⟩,_⟩:=x;exact⟨_,e⟩
 |dK kvs=>obtain⟨_,_,_,_,o,_,_,e,_⟩:=x;exact⟨_,e⟩
 |dT kvs=>obtain⟨_,_,_,_,o,_,_,e,_⟩:=x;exact⟨_,e⟩
 |set S n=>obtain⟨o,_,_,_,e,_⟩:=x;exact⟨_,e⟩
 |ins C dx fs=>obtain⟨_,_,_,e,_⟩:=x;exact⟨_,e⟩
 |own y=>exact x
 |xd fs=>obtain⟨_,⟨_,_,_,e,_⟩,_⟩:=x;exact⟨_,e⟩
 |rng lo hi=>obtain⟨_,_,_,e⟩:=x;exact⟨_,e⟩
 |frz ob u=>obtain⟨e,_⟩:=x;exact⟨_,e⟩
 |tbl ps=>obtain⟨_,e,_⟩:=x;exact⟨_,e⟩
 |met f y=>exact⟨_,x⟩
 |ext φ=>obtain⟨_,e,_⟩:=x;exact e
theorem Ke{P:ba}{w:aP}{H:Hp}{h:aE}{a:ac}(x:c0 P w H h)(e:h.get? a=af):H a=af:=by
 cases q:H a with
 |none=>rfl
 |some u=>obtain⟨o,z⟩:=HN (x a u q);rw[e]at z;cases z
theorem qU{fs:List ac}{H H':Hp}{h h':aE}{a:ac}(u:Un fs [] H H' h h')(e:h'.get? a=af):h.get? a=af:=by
 cases q:h.get? a with
 |none=>rfl
 |some o=>obtain⟨o',z⟩:=u.there a o q (by simp);rw[e]at z;cases z
theorem Ar{fs fs':List ac}{H H':Hp}{h h1 h2:aE}{X:ac->Prop}(u:Un fs [] H H' h h1)(k:Kp fs' X h1 h2)(hf:∀b o,h.get? b=aa o->b∈fs'->b∈fs)(hX:∀b o,h.get? b=aa o->¬X b):Un fs [] H H' h h2 where
 keep:=λb o e n hb hx=>k.keep b o (u.keep b o e n hb hx) (λz=>hb (hf b o e z)) (hX b o e)
 slot:=λb o e n hb hx=>by
  obtain⟨sl,e1⟩:=u.slot b o e n hb hx;by_cases i4:b∈fs'
  ·obtain⟨sl2,e2⟩:=k.slot b _ e1 i4 (hX b o e);exact⟨sl2,e2⟩
  ·exact⟨sl,k.keep b _ e1 i4 (hX b o e)⟩
 free:=u.free
 there:=λb o e hx=>let ⟨o',e'⟩:=u.there b o e hx;k.there b o' e'
 tups:=u.tups
 frzs:=u.frzs
 tbls:=u.tbls
theorem zB{P:ba}{w:aP}{fs:List ac}{H:Hp}{h h':aE}{X:ac->Prop}(x:c0 P w H h)(k:Kp fs X h h')(hf:∀b∈fs,H b=af)(hX:∀b,X b->H b=af):c0 P w H h':=λb u e=>
 (x b u e).stay (λc v hc q=>k.keep c v q (λz=>by
   have:=hf c z;rcases hc with rfl|hc
   ·rw[e]at this;cases this
   ·rw[hc]at this;cases this) λz=>by
   have:=hX c z;rcases hc with rfl|hc
   ·rw[e]at this;cases this
   ·rw[hc]at this;cases this) (λ_ q=>q) λ_ _ q=>q
section
variable{P:ba}{w:aP}{K:aq}{mg:Str->Option ai}{base:aE}{N:List Str}{qual:Str}{scope:dO}{f:ac}{cd:ai}{A:a6}{outer:List Env}{s₀:am}{H₀:Hp}{E:XK}
theorem cJ:jL (bT P w) (gd (bT P w) P w K mg base N qual scope f cd A outer s₀ H₀ E) E:=λae σ H s e s' I h=>by
 obtain⟨a,T,c,H',rfl,ho,hg,un,hok,fl,⟨fa,fT,na,nT⟩,hE⟩:=h;have I':=I.call' (s':=s') (ch:=[]) ho un hok hg (λb z=>absurd z (by simp));refine Pf (L:=s₀.heap.objs.size) I.ok.frames I'.stack rfl fl λlu T' k fl' fT'=>?_;have LX:(gd (bT P w) P w K mg base N qual scope f cd A outer s₀ H₀ E).ex=[]:=rfl;have fa0:s₀.heap.get? a=af:=qU I.base fa;have fT0:s₀.heap.get? T=af:=qU I.base fT;have fT0':s₀.heap.get? T'=af:=qU I'.base (A0 fT');have old:∀b o,s₀.heap.get? b=aa o->b≠a/\b≠T:=λb o e=>⟨(by rintro rfl;rw[fa0]at e;cases e),(by rintro rfl;rw[fT0]at e;cases e)⟩
 refine⟨a,T',c,H',rfl,I'.os,I'.bare,Ar I'.base k (λb o e z=>?_) (λb o e z=>z.elim (old b o e).1 (old b o e).2),zB I'.hok k I'.stkFree (λb z=>by rcases z with rfl|rfl <;> assumption),fl',⟨fa0,fT0',na,I'.hok.fresh fT'⟩,hE⟩;rcases bQ.mp (I.stkSub b z)with q|q
 ·exact absurd (bN e) (by rw[q];exact fj _)
 ·exact q
end
section
variable{X:Cx}{E:XK}{pin:List Nat}{e:aw}{de:ag->R PV}{x:Str}{C:ac}{bmB:List ai}{newId initId B:String}{np cpos pos:Pos}
def BN(X:Cx)(E:XK):Prop:=∀(ae:List (ac×Obj)) (σ:St) (H:Hp) (s:am) (a:ac) (c:ai) (h':aE),Inv X ae σ H s->(∀b o,s.heap.get? b=aa o->h'.get? b=aa o)->Made h' a c->s.heap.get? a=af->(E c af H)->X.xe (.ref a) {s with heap:=h'}
def lH(c:ai)(de:ag->R PV):ag->R aK:=λε=>(de ε).bind λ_ ε1=>.er c ε1
theorem M0{h h':aE}{e:ac}{cls:ai}{args:List ai}(m:Heap.MadeExcOf h h' e cls args):Made h' e cls:=by obtain⟨t,he,_,_⟩:=m.there;exact⟨_,_,he,rfl,⟨rfl,rfl⟩,rfl⟩
theorem tI(hx:BN X E)(hc:X.calm=ah)(O:OwnCls x C bmB newId X.mg X.base)(FB:ExcBaseFacts B newId initId bmB)(he:DE X.nox E0 e de)(hg:Gl X x:=by rfl)(hd:(x == ("__debug__" : Str))=aj:=by decide)(h1:aH [e] X.env=[(aj,aG e X.env)]:=by rfl):DS X E pin (.Raise (aa (.Call (.Name x np) [e] [] cpos)) af pos) (lH (.ref C) (λε=>bA (de ε))):=λF S ε σ H D rl q=>Bx.mk λae s I=>by
 obtain⟨tl,N,nm,qn,bs,hdct,sn,sub,ab,col,dd,k0,k1,k2,k3,k5,mN,hC,hN,hni,T⟩:=O.obj;refine wpAny_Raise_call_subT (C:=C) (nm:=nm) (q:=qn) (N:=N) (bs:=bs) (bm:=tl) (hdct:=hdct) (sn:=sn) (sub:=sub) (ab:=ab) (col:=col) (dd:=dd) (k0:=k0) (k1:=k1) (k2:=k2) (k3:=k3) (k5:=k5)
  FB (mN:=mN) (T.hasType FB.hasBase) (I.ok.hd hc) (by rw[h1];rfl) hni (rg I hg O.bound ⟨rfl,?_⟩ hd)
 have q2:Ok X.K E0 σ F S H (de ε) (λ_ ε1 F1 S1 H1=>gT X.K E pin σ F1 S1 H1 (.er (.ref C) ε1) D):=by
  have q:gT X.K E pin σ F S H ((bA (de ε)).bind λ_ ε1=>.er (.ref C) ε1) D:=q;cases e0:de ε with
  |no=>rw[e0]at q;exact q.elim
  |er c ε'=>rw[e0]at q;exact q.elim
  |ok v ε'=>rw[e0]at q;exact λF' S' H' r' g'=>q.from g' (iH.refl _ _)
 rw[h1];refine Be (d5 (A7 (d5 ((he F S ε σ H (λv H1=>∃F1 S1 ε1,aI X.K F1 S1 ε1 σ H1/\gT X.K E pin σ F1 S1 H1 (.er (.ref C) ε1) D) rl (q2.imp λv ε1 F1 S1 H1 r1 g1 h v' rv=>⟨F1,S1,ε1,r1,h⟩)).run ae s (I.wish _)) (λu s1 ⟨v,H1,I1,r1,F1,S1,ε1,rl1,ok⟩=>?_) λ_ _ z=>z.elim)) (λ_ _ z=>z) λ_ _ z=>z);have I1:=I1.unwish;refine GK ⟨rfl,(by show 1<=bn;decide),I1.bk _ _ hC,hN.keeps I1.bk,T.keeps I1.bk,λh' a m=>?_⟩;exact hx ae σ H1 s1 a (.ref C) h' I1 m.keeps (M0 m) m.new (ok af F1 S1 σ H1 rl1 (bd.refl ..) (iH.refl _ _))
end
section
variable{P:ba}{w:aP}{K:aq}{mg:Str->Option ai}{base:aE}{N:List Str}{qual:Str}{scope:dO}{f:ac}{cd:ai}{A:a6}{outer:List Env}{s₀:am}{H₀:Hp}{E:XK}
theorem sG:BN (gd (bT P w) P w K mg base N qual scope f cd A outer s₀ H₀ E) E:=λae σ H s a c h' I kp md new hE=>by
 have I':Inv _ ae σ H {s with heap:=h'}:=I.kept (t':=s.toks) kp;refine NJ (s:={s with heap:=h'}) (L:=s₀.heap.objs.size) I.ok.frames I'.stack rfl md λlu T' k fl' fT'=>?_;have fa0:s₀.heap.get? a=af:=qU I.base new;have fT0':s₀.heap.get? T'=af:=qU I'.base (A0 fT');have na:H a=af:=Ke I.hok new;refine⟨a,T',c,H,rfl,I'.os,I'.bare,Ar I'.base k (λb o e z=>?_) (λb o e z=>by rw[show b=a from z,fa0]at e;cases e),zB I'.hok k I'.stkFree (λb z=>by rw[show b=a from z];exact na),fl',⟨fa0,fT0',na,I'.hok.fresh fT'⟩,hE⟩;rcases bQ.mp (I.stkSub b z)with q|q
 ·exact absurd (bN e) (by rw[q];exact fj _)
 ·exact q
end
section
variable{X:Cx}{ae:List (ac×Obj)}{σ:St}{H:Hp}{s:am}
theorem Kz{M:Model}{A:a6}{E:ai->am->Prop}{i:Nat}{x:Str}{v:V}{Q:Unit->am->Prop}(I:Inv X ae σ H s)(hN:X.N.Nodup)(hi:X.N[i]?=aa x)(hk:X.env.scope.names.lookup x=aa .local)(hv:σ[i]?=aa (aa v))(h:∀s',Inv X ae (σ.set i af) H s'->Q () s'):au M A (unbindName X.env x) Q E s:=by
 obtain⟨m,hn,hl⟩:=id I.loc;have mK:(X.env.scope.kind == .class||(X.env.scope.kind == .module&&X.env.locals != X.env.globals))=aj:=by rw[I.ok.kind];rfl
 have hiσ:i<σ.length:=(cO.mp hv).1;obtain⟨u,_,lk⟩:=hl i x v hi hv (.inl hk);have hm:m x=aa u:=by
  rcases lk with⟨_,z⟩|⟨z,_⟩
  ·exact z
  ·have z:X.env.scope.names.lookup x=aa .cell\/X.env.scope.names.lookup x=aa .free:=z;rcases z with z|z <;> rw[hk]at z <;> cases z
 refine wpAny_unbindName_local hk hn hm mK λh' u' pS hs=>?_;obtain⟨oL,_,_,rY,_⟩:=id hn;have up:∀b o,X.s₀.heap.get? b=aa o->h'.get? b=s.heap.get? b:=λb o e=>hs.2 b (dr (gG (bN e) I.ok.above));refine h _ ⟨I.ok,I.os,I.bare,⟨λb o e n hb hx=>(up b o e).trans (I.base.keep b o e n hb hx),λb o e n hb hx=>?_,I.base.free,λb o e hx=>?_,I.base.tups,I.base.frzs,I.base.tbls⟩,⟨_,pS,λj y v' e1 e2 e3=>?_⟩,λy c e=>?_,I.free,I.freeC,λp hp=>?_,λb ob e=>?_,by rw[gK];exact I.len⟩
 ·obtain⟨sl,q⟩:=I.base.slot b o e n hb hx;exact⟨sl,(up b o e).trans q⟩
 ·obtain⟨o',q⟩:=I.base.there b o e hx;exact⟨o',(up b o e).trans q⟩
 ·by_cases hj:j=i
  ·subst hj;rw[cP hiσ]at e2;cases e2
  ·rw[cu (c8 hj)]at e2;obtain⟨w,r',q⟩:=hl j y v' e1 e2 e3;refine⟨w,r',?_⟩;rcases q with⟨k,e⟩|⟨k,c,e,z⟩
   ·have:y≠x:=λe=>hj (yx hN e1 (e ▸ hi));exact .inl ⟨k,by simp[this,e]⟩
   ·exact .inr ⟨k,c,e,z.sameBut hs (I.cne y c e)⟩
 ·obtain⟨w',z⟩:=I.cell y c e;exact⟨w',z.sameBut hs (I.cne y c e)⟩
 ·obtain⟨e,n,ne,nf,d⟩:=I.pin p hp;exact⟨(hs.2 p.1 ne).trans e,n,ne,nf,d⟩
 ·refine(I.hok b ob e).stay (λc w' hc q=>(hs.2 c ?_).trans q) (λ_ q=>q) λ_ _ q=>q;rintro rfl;rcases hc with rfl|hc
  ·rw[I.free]at e;cases e
  ·rw[I.free]at hc;cases hc
end
def XP(X:Cx)(ae:List (ac×Obj))(σ:St)(XE:ai->Hp->Prop)(e:ai)(s':am):Prop:=∃s1 H1,Inv X ae σ H1 s1/\bT X.prog X.w X.stack H1 s1 (λc _ H'=>XE c H') e s'
def DX(X:Cx)(e:aw)(d:ag->R Slot):Prop :=
 ∀F S ε σ H Q (XE:ai->Hp->Prop),aI X.K F S ε σ H->Ok X.K (λc _ H'=>XE c H') σ F S H (d ε) (λs _ F' S' H'=>∀v Sr,jO X.K H' F' s v Sr->(∀b,Sr b->H b=af/\¬F' b/\¬U S' b/\∃o,H' b=aa o/\cy o)->Q v H') ->
  ∀ae s,Inv X ae σ H s->au (aB X.prog X.w) X.A (aG e X.env) (EP X ae σ Q) (XP X ae σ XE) s
abbrev hand(X:Cx)(a:ac):Cx:={X with A:=X.A.mark (aa (.ref a)),calm:=aj,xe:=λ_ _=>False}
section
variable{X:Cx}{ae:List (ac×Obj)}{σ:St}{H:Hp}{s:am}{a:ac}
theorem Inv.hand(I:Inv X ae σ H s)(hf:(X.A.mark (aa (.ref a))).frames=X.A.frames:=by rfl):Inv (Pu.hand X a) ae σ H s :=
 ⟨⟨I.ok.mod,I.ok.kind,I.ok.glob,I.ok.blt,I.ok.above,I.ok.inj,I.ok.has,I.ok.cab,(λz=>by cases z),hf.trans I.ok.frames,I.ok.stk,I.ok.exf,I.ok.bs,I.ok.bsz,I.ok.noex,I.ok.exfs,I.ok.funs,I.ok.frf,I.ok.tab⟩,I.os,I.bare,I.base,I.loc,I.cell,I.free,I.freeC,I.pin,I.hok,I.len⟩
theorem Inv.unhand(I:Inv (Pu.hand X a) ae σ H s)(ok:X.Ok):Inv X ae σ H s:=⟨ok,I.os,I.bare,I.base,I.loc,I.cell,I.free,I.freeC,I.pin,I.hok,I.len⟩
end
def Under(h:aE)(D:ac)(c:ai):Prop:=∃C bm N nm q bs hdct sn sub ab col dd k0 k1 k2 k3 k5 newId,c=.ref C/\h.get? C=aa (Bs nm q C N bs bm hdct sn sub ab col dd k0 k1 k2 k3 k5 newId)/\(Value.ref C::bm).contains (.ref D)=ah
def o_(h:aE)(D:ac):Prop:=∃bm N nm q bs hdct sn sub ab col dd k0 k1 k2 k3 k5 newId,h.get? D=aa (Bs nm q D N bs bm hdct sn sub ab col dd k0 k1 k2 k3 k5 newId)/\bm.contains (.type "BaseException")=ah
theorem Under.keeps{h h':aE}{D:ac}{c:ai}(x:Under h D c)(k:∀b o,h.get? b=aa o->h'.get? b=aa o):Under h' D c:=by obtain⟨C,bm,N,nm,q,bs,hdct,sn,sub,ab,col,dd,k0,k1,k2,k3,k5,newId,e,h1,h2⟩:=x;exact⟨C,bm,N,nm,q,bs,hdct,sn,sub,ab,col,dd,k0,k1,k2,k3,k5,newId,e,k _ _ h1,h2⟩
theorem o_.keeps{h h':aE}{D:ac}(x:o_ h D)(k:∀b o,h.get? b=aa o->h'.get? b=aa o):o_ h' D:=by obtain⟨bm,N,nm,q,bs,hdct,sn,sub,ab,col,dd,k0,k1,k2,k3,k5,newId,h1,h2⟩:=x;exact⟨bm,N,nm,q,bs,hdct,sn,sub,ab,col,dd,k0,k1,k2,k3,k5,newId,k _ _ h1,h2⟩
theorem IS{M:Model}{A:a6}{E:ai->am->Prop}{s:am}{e D:ac}{oe:Obj}{c:ai}{Q:Bool->am->Prop}(hu:Under s.heap D c)(hD:o_ s.heap D)(he:s.heap.get? e=aa oe)(mK:oe.cls=c)(hq:Q ah s):au M A (excMatches (.ref e) (.ref D)) Q E s:=by
 obtain⟨C,bm,N,nm,q,bs,hdct,sn,sub,ab,col,dd,k0,k1,k2,k3,k5,newId,rfl,hC,pZ⟩:=hu;obtain⟨bm',N',nm',q',bs',hdct',sn',sub',ab',col',dd',k0',k1',k2',k3',k5',newId',hD,hb⟩:=hD;obtain⟨h,g,d,t,os⟩:=s;have hcB:(Value.ref D::bm').contains (.type "BaseException")=ah:=by rw[List.contains_cons,hb,Bool.or_true]
 have f:=tc_notTuple;unfold excMatches
 repeat (first | (with_reducible refine G8 he ?_;rw[mK])|with_reducible refine G8 hC ?_|with_reducible refine G8 hD ?_ | (with_reducible refine wpAny_isSubtype_exc hC ?_;rw[pZ]) | (with_reducible refine wpAny_isSubtype_exc hD ?_;rw[hcB])|wp_step)
 exact hq
def nq(i:Nat)(caught:ai->Bool)(dx:ag->R Slot)(dh:ag->R aK):ag->R aK:=λε=>match dx ε with
 |.ok s ε'=>.ok (.ret s) ε'
 |.er c ε'=>if caught c=ah/\i<ε'.length then(match dh (ε'.set i (.val (.exc c)))with
  |.ok f ε2=>(match ε2[i]? with
   |some (.val _)=>.ok f (ε2.set i .none)
   |_=>.no)
  |_=>.no)else .no
 |.no=>.no
section
variable{X:Cx}{E:XK}{pin:List Nat}{e:aw}{dx:ag->R Slot}{dh:ag->R aK}{rp np hp pos:Pos}{sx n:Str}{D:ac}{suite:List aR}{b₀:aR}{caught:ai->Bool}
theorem aI.unset{K:aq}{F:ac->Prop}{S:Nat->ac->Prop}{ε:ag}{σ:St}{H:Hp}{i:Nat}(r:aI K F S ε σ H):aI K F (λj b=>S j b/\j≠i) (ε.set i .none) (σ.set i af) H:=by
 have r0:=r.drop i;have ne:∀{j:Nat}{s:Slot},(ε.set i .none)[j]?=aa s->s≠.none->j≠i:=λ{j s} e hs z=>by
  subst z;by_cases hj:j<ε.length
  ·rw[cP hj]at e;exact hs (fi e).symm
  ·rw[pN (by rw[gK];lia)]at e;cases e
 refine⟨by rw[gK,gK];exact r.len,r.ex,λj pv e=>?_,λj po e=>?_,r0.foot,r0.dist⟩
 ·obtain⟨v,h1,h2⟩:=r0.val j pv e;exact⟨v,by rw[cu (c8 (ne e (by intro z;cases z)))];exact h1,h2⟩
 ·obtain⟨v,h1,h2⟩:=r0.own j po e;exact⟨v,by rw[cu (c8 (ne e (by intro z;cases z)))];exact h1,h2⟩
theorem Ph{P:ba}{w:aP}{H:Hp}{h:aE}{a T:ac}{c fl:ai}(ok:c0 P w H h)(na:H a=af)(f:kg h a T c fl):c0 P w (upd H a (lN a c)) h:=λb u q=>by
 by_cases hb:b=a
 ·subst hb;rw[upd_same]at q;cases q;obtain⟨oe,vs,_,_,he,hc,hd,_⟩:=f;exact⟨⟨oe,vs,he,hc,hd⟩,⟨oe,he⟩,λh1 h2 ⟨o,ws,e1,e2,e3⟩ k=>⟨o,ws,k o e1,e2,e3⟩⟩
 ·rw[bh hb]at q;exact(ok b u q).stay (λ_ _ _ z=>z) (λd z=>by rw[bh (lL z na)];exact z) λd xs z=>by rw[bh (lL z na)];exact z
def Gg(X:Cx)(ss:List aR)(d:ag->R Slot):Prop :=
 ∀F S ε σ H Q (XE:ai->Hp->Prop),aI X.K F S ε σ H->Ok X.K (λc _ H'=>XE c H') σ F S H (d ε) (λs _ F' S' H'=>∀v Sr,jO X.K H' F' s v Sr->(∀b,Sr b->H b=af/\¬F' b/\¬U S' b/\∃o,H' b=aa o/\cy o)->Q v H') ->
  ∀ae s,Inv X ae σ H s->au (aB X.prog X.w) X.A (execs ss X.env) (λfl s'=>∃u,fl=.ret u/\EP X ae σ Q u s') (XP X ae σ XE) s
theorem Pa(hx:DX X e dx):Gg X [.Return (aa e) rp] dx:=λF S ε σ H Q XE rl h ae s I=>GC (wpAny_Return_some (d5 (hx F S ε σ H Q XE rl h ae s I) (λu s1 q=>⟨u,rfl,q⟩) λ_ _ q=>q))
theorem J0{ss:List aR}(i:Nat)(hN:X.N.Nodup)(hx:Gg X ss dx)(hD:X.mg sx=aa (.ref D))(hE:o_ X.base D)(hcg:∀c,caught c=ah->Under X.base D c)(hh:∀a,fc (hand X a) E0 pin (b₀::suite) dh)(gY:i∉pin:=by decide) (hi:X.N[i]?=aa n:=by rfl) (hl:X.env.scope.names.lookup n=aa .local:=by rfl) (hg:Gl X sx:=by rfl) (hd:(sx == ("__debug__" : Str))=aj:=by decide) (fY:X.stack=X.env::X.outer:=by rfl) (hfm:X.env.frame=aa X.env.locals:=by rfl) (hf:X.fn n=ah\/X.env.scope.names.lookup n=aa .local:=by first|exact .inl rfl|exact .inr rfl):DS X E pin (.Try ss [.ExceptHandler (aa (.Name sx np)) (aa n) (b₀::suite) hp] [] [] pos) (nq i caught dx dh):=λF S ε σ H Dn rl q=>Bx.mk λae s I=>by
 refine wpAny_Try_except ?_;have body:=hx F S ε σ H (λv H'=>Dn.rt v H') (λc H'=>∃F' S' ε',aI X.K F' S' ε' σ H'/\bd (U S) (U S') F F' H H'/\caught c=ah/\i<ε'.length/\gT X.K E pin σ F S H (match dh (ε'.set i (.val (.exc c)))with
  |.ok f ε2=>(match ε2[i]? with
   |some (.val _)=>.ok f (ε2.set i .none)
   |_=>.no)
  |_=>.no) Dn) rl (by
  unfold nq at q;cases e0:dx ε with
  |no=>rw[e0]at q;exact q.elim
  |ok sl ε'=>rw[e0]at q;intro F' S' H' r' g' v Sr rv fr;exact q v F' S' σ H' Sr r' ⟨g'.fro,g'.keep,g'.there,g'.fnew,λb z=>z.elim (g'.onew b) λw=>.inr (fr b w).1⟩ (iH.refl _ _) rv λb z=>(fr b z).2
  |er c ε'=>
   rw[e0]at q;intro y F' S' H' r' g';dsimp only at q;by_cases hc:caught c=ah/\i<ε'.length
   ·rw[if_pos hc]at q;exact⟨F',S',ε',r',g',hc.1,hc.2,q⟩
   ·rw[if_neg hc]at q;exact q.elim) ae s I
 refine d5 body (λfl s1 ⟨u,efl,v,H1,I1,r1,q1⟩=>?_) λev s1 xp=>?_
 ·subst efl;exact⟨v,σ,H1,I1,r1,q1⟩
 obtain⟨s0,H0,I0,a,T,c,H1,rfl,ho,hg1,un,hok,fl,⟨fa,fT,na,nT⟩,F1,S1,ε1,rl1,g1,hcc,bO,okh⟩:=xp;have I1:=I0.call' (s':=s1) (ch:=[]) ho un hok hg1 (λb z=>absurd z (by simp));have kpI:∀{h2:aE}{Y:ac->Prop}{T':ac},Kp (fD X.stack) Y s1.heap h2->(∀b o,s0.heap.get? b=aa o->¬Y b)->(∀b,Y b->H1 b=af)->kg h2 a T' c .none->∀tk,Inv X ae σ (upd H1 a (lN a c)) {s1 with heap:=h2,toks:=tk}:=λ{h2 Y T'} k hY1 hY2 f2 tk=>by
  refine I0.call' (s':={s1 with heap:=h2,toks:=tk}) (ch:=[]) ho ?_ (Ph (zB hok k (λb hb=>I1.stkFree b hb) hY2) na f2) hg1 (λb z=>absurd z (by simp));have u2:=Ar un k (λb o _ z=>z) hY1;have na':∀b o,H1 b=aa o->b≠a:=λb o e=>lL e na;refine⟨u2.keep,u2.slot,λb o e n hx=>?_,u2.there,λb xs e=>?_,λb o u e=>?_,λb ps e=>?_⟩
  ·rw[bh (by rintro rfl;rw[fa]at e;cases e)];exact u2.free b o e n hx
  ·have:=u2.tups b xs e;rw[bh (na' b _ this)];exact this
  ·have:=u2.frzs b o u e;rw[bh (na' b _ this)];exact this
  ·have:=u2.tbls b ps e;rw[bh (na' b _ this)];exact this
 have H1T:∀b,b=a\/b=T->H1 b=af:=λb z=>by rcases z with rfl|rfl <;> assumption
 have old1:∀b o,s0.heap.get? b=aa o->¬(b=a\/b=T):=λb o e z=>by
  rcases z with rfl|rfl
  ·rw[fa]at e;cases e
  ·rw[fT]at e;cases e
 refine E1 (outer:=X.outer) (by rw[I0.ok.frames,fY]) (by rw[←fY];exact I1.stack) hfm fl λh2 T' k fl2 fT'=>?_;rw[←fY]at k;have I2:=kpI k old1 H1T fl2 s1.toks;refine wpAny_handleBy_cons (codeAny_handlers_test ?_) (by intro z;cases z);have I2h:Inv (hand X a) ae σ (upd H1 a (lN a c)) {s1 with heap:=h2}:=Inv.hand I2;refine rg (X:=hand X a) I2h hg hD ?_ hd;obtain⟨oe,vs,oT,ts,he2,Q5,_⟩:=id fl2;refine IS (s:={s1 with heap:=h2}) ((hcg c hcc).keeps I2.bk) (hE.keeps I2.bk) he2 Q5 ?_;show jU _ _ _ _ _;refine codeAny_handlers_suite_as (OU (s:={s1 with heap:=h2}) fl2 λh3 k3 fl3=>?_);have k':Kp (fD X.stack) (λb=>(b=a\/b=T)\/b=T') s1.heap h3:=k.trans (k3.imp (λb z=>by simp at z) λb o _ z=>z);have I3:=kpI (T':=T') k' (λb o e z=>by
  rcases z with z|rfl
  ·exact old1 b o e z
  ·rw[qU un (A0 fT')]at e;cases e) (λb z=>by
  rcases z with z|rfl
  ·exact H1T b z
  ·exact I1.hok.fresh fT') fl3 s1.toks
 have I3h:Inv (hand X a) ae σ (upd H1 a (lN a c)) {s1 with heap:=h3}:=Inv.hand I3;refine wB (X:=hand X a) (v:=.ref a) I3h hN hi (.inl hl) rfl (λs4 I4=>?_) hf;have al:Al F1 F1 H1 (upd H1 a (lN a c)):=Al.new0 na;have r2:=rl1.al al;have r3:=r2.set (i:=i) (pv:=.exc c) (v:=.ref a) ⟨a,rfl,upd_same⟩;have g3:bd (U S) (U λj b=>S1 j b/\j≠i) F F1 H (upd H1 a (lN a c)):=(g1.trans al.grow).trans (bd.less i);have less:∀{S':Nat->ac->Prop}{F':ac->Prop}{H':Hp},bd (U S') (U λj b=>S' j b/\j≠i) F' F' H' H':=λ{S' F' H'}=>bd.less i;have pn:∀{σ':St},iH pin (σ.set i (aa (.ref a))) σ'->iH pin σ (σ'.set i af):=λ{σ'} p=>((iH.set gY).trans p).trans (iH.set gY);have okd:gT (hand X a).K E0 pin (σ.set i (aa (.ref a))) F1 (λj b=>S1 j b/\j≠i) (upd H1 a (lN a c)) (dh (ε1.set i (.val (.exc c)))) {nx:=λσ' H'=>Dn.nx (σ'.set i af) H',rt:=Dn.rt,bk:=λσ' H'=>Dn.bk (σ'.set i af) H',ct:=λσ' H'=>Dn.ct (σ'.set i af) H'}:=by
  cases ed:dh (ε1.set i (.val (.exc c)))with
  |no=>rw[ed]at okh;exact okh.elim
  |er c' ε2=>rw[ed]at okh;exact okh.elim
  |ok f ε2=>
   rw[ed]at okh;dsimp only at okh;split at okh
   ·cases f with
    |next=>exact λF' S' σ' H' r' g' p'=>okh F' _ _ H' r'.unset ((g3.trans g').trans less) (pn p')
    |brk=>exact λF' S' σ' H' r' g' p'=>okh F' _ _ H' r'.unset ((g3.trans g').trans less) (pn p')
    |cont=>exact λF' S' σ' H' r' g' p'=>okh F' _ _ H' r'.unset ((g3.trans g').trans less) (pn p')
    |ret sl=>
     intro v F' S' σ' H' Sr r' g' p' rv lo;refine okh v F' _ _ H' Sr r'.unset ?_ (pn p') rv λb z=>⟨(lo b z).1,λ⟨j,w⟩=>(lo b z).2.1 ⟨j,w.1⟩,(lo b z).2.2⟩
     have gg:=g3.trans g';exact⟨gg.fro,gg.keep,gg.there,gg.fnew,λb z=>gg.onew b (z.imp (λ⟨j,w⟩=>⟨j,w.1⟩) id)⟩
   ·exact okh.elim
 refine d5 ((hh a F1 _ _ _ _ _ r3 okd).run ae s4 I4) (λf s5 sp=>?_) λ_ _ z=>z.elim;have away:∀{σ5:St}{H5:Hp}{Q:Unit->am->Prop},Inv (hand X a) ae σ5 H5 s5->(∀s6,Inv X ae (σ5.set i af) H5 s6->Q () s6)->au (aB X.prog X.w) X.A (do bindName X.env n .none;unbindBehindTheSuite X.env n hp) Q X.xe s5:=λ{σ5 H5 Q} I5 hQ=>by
  have I5':=Inv.unhand I5 I0.ok;refine ax (wpAny_bindName (wB (v:=.non) I5' hN hi (.inl hl) rfl (λs6 I6=>?_) hf));unfold unbindBehindTheSuite;refine wpAny_onRaise ?_;have hiσ:i<σ5.length:=by rw[I5'.len];exact(cO.mp hi).1
  refine Kz I6 hN hi hl (cP hiσ) λs7 I7=>hQ s7 ?_;rw[List.set_set]at I7;exact I7
 cases f with
 |next=>obtain⟨σ5,H5,I5,q5⟩:=sp;exact away I5 λs6 I6=>⟨_,H5,I6,q5⟩
 |brk=>obtain⟨σ5,H5,I5,q5⟩:=sp;exact away I5 λs6 I6=>⟨_,H5,I6,q5⟩
 |cont=>obtain⟨σ5,H5,I5,q5⟩:=sp;exact away I5 λs6 I6=>⟨_,H5,I6,q5⟩
 |ret u=>obtain⟨v,σ5,H5,I5,rv,q5⟩:=sp;exact away I5 λs6 I6=>⟨v,_,H5,I6,rv,q5⟩
theorem K6(i:Nat)(hN:X.N.Nodup)(hx:DX X e dx)(hD:X.mg sx=aa (.ref D))(hE:o_ X.base D)(hcg:∀c,caught c=ah->Under X.base D c)(hh:∀a,fc (hand X a) E0 pin (b₀::suite) dh)(gY:i∉pin:=by decide) (hi:X.N[i]?=aa n:=by rfl) (hl:X.env.scope.names.lookup n=aa .local:=by rfl) (hg:Gl X sx:=by rfl) (hd:(sx == ("__debug__" : Str))=aj:=by decide) (fY:X.stack=X.env::X.outer:=by rfl) (hfm:X.env.frame=aa X.env.locals:=by rfl) (hf:X.fn n=ah\/X.env.scope.names.lookup n=aa .local:=by first|exact .inl rfl|exact .inr rfl):DS X E pin (.Try [.Return (aa e) rp] [.ExceptHandler (aa (.Name sx np)) (aa n) (b₀::suite) hp] [] [] pos) (nq i caught dx dh):=J0 i hN (Pa hx) hD hE hcg hh gY hi hl hg hd fY hfm hf
end
structure jJ(k:Nat)(A:a6):Prop where
 dp:A.depth+3*k+5<recursionLimit
 un:A.units+16*k+200<cLine
theorem cB.hand{k:Nat}{A:a6}{v:Option ai}(r:cB k A):jJ k (A.mark v):=⟨r.dp,r.un⟩
theorem jJ.mono{j k:Nat}{A:a6}(r:jJ k A)(h:j<=k):jJ j A:=⟨by have:=r.dp;lia,by have:=r.un;lia⟩
theorem jJ.deeper{k:Nat}{A:a6}(r:jJ (k+1) A)(env:Env):jJ k (A.deeper env) :=⟨by have:=r.dp;show A.depth+1+3*k+5<_;lia,by have:=r.un;show A.units+3+16*k+200<_;lia⟩
theorem jJ.units{k:Nat}{A:a6}(r:jJ k A):A.units+64<cLine:=by have:=r.un;lia
def ud(P:ba)(w:aP)(K:aq)(mg:Str->Option ai)(base:aE)(N:List Str)(qual:Str)(scope:dO)(f:ac)(cd:ai)(A:a6)(outer:List Env)(s:am)(H:Hp):Cx :=
 {(gd zd P w K mg base N qual scope f cd A outer s H E0)with calm:=aj,xe:=λ_ _=>False}
structure yR(P:ba)(w:aP)(K:aq)(mg:Str->Option ai)(base:aE)(k:Nat)(f:ac)(fd:gn)(ps:List Str)(sp:Sp):Prop where
 len:∀vs H Q E,sp vs H Q E->vs.length=ps.length
 run:∀(A:a6) (outer:List Env) (s:am) (H:Hp) (args:Args) (us:List ai) (vs:List V) (Q:VK),jJ k A->mX P w K mg base A outer s H->BindsTo s fd args (ps.zip us)->bF vs us->sp vs H Q E0 ->
  jU (aB P w) A (.call (.ref f) args) (CR zd outer P w H s Q E0) s
structure vK(P:ba)(w:aP)(K:aq)(mg:Str->Option ai)(base:aE)(x:Str)(k:Nat)(ps:List Str)(sp:Sp):Prop where
 ex:∃f fd,mg x=aa (.ref f)/\yR P w K mg base k f fd ps sp/\Binds K fd ps []/\jV K (.ref f)=ah
theorem KH{P:ba}{w:aP}{K:aq}{mg:Str->Option ai}{base:aE}{k:Nat}{f:ac}{name qual:Str}{params:Arguments}{body:List aR}{scope:dO}{dV kV doc pm aF ct oc:ai}{an od:Option ac}{osl:Array (Option ai)}{N ps:List Str}{sp:Sp} (lk:K.lookup f=aa ⟨oc,od,.func (fk name qual params body scope dV kV doc pm an aF ct),osl⟩) (a8:pC K aF qual=ah) (S:bI N ps scope)(len:∀vs H Q E,sp vs H Q E->vs.length=ps.length)(eW:∀(A:a6) (outer:List Env) (s:am) (H:Hp) (vs:List V) (Q:VK),jJ k (A.deeper (gu qual scope s.heap.objs.size f aF))->sp vs H Q E0 -> oN (ud P w K mg base N qual scope f aF A outer s H) body {nx:=λ_ H'=>Q .non H',rt:=Q} (L2.start N vs) H):yR P w K mg base (k+1) f (fk name qual params body scope dV kV doc pm an aF ct) ps sp:=by
 refine⟨len,λA outer s H args us vs Q hr e0 hb r io=>?_⟩;have hl:=len _ _ _ _ io;have KX:K.In s.heap:=e0.mod.kin.keeps λb o e=>(e0.bs b o e).1;have lim:s.heap.NoLimit:=e0.mod.nolimit.keeps λb o e=>(e0.bs b o e).1;have BA:∀y∈ps.zip us,scope.names.lookup y.1=aa .local\/(scope.names.lookup y.1=aa .cell/\((fK (s.heap.objs.size+1) scope.names []).lookup y.1).isSome=ah):=λ⟨n,v⟩ hy=>(S.par n (A9 hy).1).imp id λq=>⟨q,GM _ _ _ (.inl q)⟩
 refine codeAny_call_function (by have:=hr.dp;lia) (KX _ _ lk) rfl S.co S.gen rfl (PySem.W.codeRec_of KX a8) (hb _ _ _ _ ?_);refine wpAny_newFunctionEnv_cells S.kind BA λenv he s1 x=>?_;subst he;refine⟨lim.keeps x.toInCall.keep,codeAny_func ?_⟩;have e1:mX P w K mg base {A with handled:=af} outer s H:=⟨e0.frames,e0.mod,e0.bs,e0.bsz,e0.funs,e0.frf,e0.hok,e0.bare,e0.tab⟩
 have I0:Inv (gd zd P w K mg base N qual scope f aF {A with handled:=af} outer s H E0) [] (L2.start N vs) H s1:=Eo S rfl e1 hl r x;have I:Inv (ud P w K mg base N qual scope f aF A outer s H) [] (L2.start N vs) H s1 :=
  ⟨⟨I0.ok.mod,I0.ok.kind,I0.ok.glob,I0.ok.blt,I0.ok.above,I0.ok.inj,I0.ok.has,I0.ok.cab,(λz=>by cases z),Around.frames_deeper e0.frames,I0.ok.stk,I0.ok.exf,I0.ok.bs,I0.ok.bsz,I0.ok.noex,I0.ok.exfs,I0.ok.funs,I0.ok.frf,I0.ok.tab⟩,I0.os,I0.bare,I0.base,I0.loc,I0.cell,I0.free,I0.freeC,I0.pin,I0.hok,I0.len⟩
 refine d5 ((eW A outer s H vs Q (hr.deeper _) io).run [] s1 I) (λfl s' hs=>?_) λe s' hs=>hs.elim;have fin:∀{σ':St}{H':Hp}{v:V}{u:ai},Inv (ud P w K mg base N qual scope f aF A outer s H) [] σ' H' s'->RelV v u->Q v H'->CE outer P w H s Q u s':=λ{σ' H' v u} J rv q=>⟨v,H',J.os,J.bare,J.base,J.hok,rv,q⟩
 cases fl with
 |ret u=>obtain⟨v,σ',H',J,rv,q⟩:=hs;exact fin J rv q
 |next=>obtain⟨σ',H',J,q⟩:=hs;exact fin (v:=V.non) (u:=Value.none) J rfl q
 |brk=>obtain⟨_,_,_,q⟩:=hs;exact fW q
 |cont=>obtain⟨_,_,_,q⟩:=hs;exact fW q
theorem Hx{P:ba}{w:aP}{K:aq}{mg:Str->Option ai}{base:aE}{x:Str}{st:aR}{N ps:List Str}{k n:Nat}{g:ag->R Slot}{d:ag->R aK}{pin:List Nat}(D:cp K mg x st)(Sc:bI N ps (aN st))(hn:N.length=ps.length+n)(hb:∀(kV doc pm:ai) (an:Option ac) (aF ct:ai) (us:List ai),us.length=ps.length->eV (fk x x (gc st) (c7 st) (aN st) .none kV doc pm an aF ct) ⟨us,[]⟩=pure (ps.zip us))(aS:∀ss,g ss≠.no->ss.length=ps.length) (jB:∀ss,g ss≠.no->∀(i:Nat) po,ss[i]?=aa (.own po)->i∈pin/\fQ po=ah) (hg:∀ss,g ss≠.no->bq n d ss=g ss)(eW:∀(f:ac) (aF:ai) (A:a6) (outer:List Env) (s:am) (H:Hp),jJ k (A.deeper (gu x (aN st) s.heap.objs.size f aF))->fc (ud P w K mg base N x (aN st) f aF A outer s H) E0 pin (c7 st) d):vK P w K mg base x (k+1) ps (bp K g):=by obtain⟨f,fd,hm,Fn⟩:=D.ex;refine⟨f,fd,hm,?_,Fn.binds hb,Fn.kp⟩;obtain⟨oc,od,kV,doc,pm,an,aF,ct,osl,rfl,lk,a8⟩:=Fn.ex;exact KH lk a8 Sc (yw aS) λA outer s H vs Q hr io=>Ge hn aS (λss h i po e=>(jB ss h i po e).1) (λss rs aL h=>.inr λi po e=>(jB ss (by rw[h];exact nofun) i po e).2) hg (eW f aF A outer s H hr) io
section
variable{X:Cx}{E:XK}{e:aw}{es:List aw}{dg:ag->R (List bL)}{pos:Pos}{x:Str}{k:Nat}{ps:List Str}{g:ag->R Slot}{p:Pos}
theorem NW{f:ac}{fd:gn}{sp:Sp}{t:TA}(Fn:yR X.prog X.w X.K X.mg X.base k f fd ps sp)(hr:jJ k X.A)(hg:Gl X x)(hm:X.mg x=aa (.ref f))(hk:jV X.K (.ref f)=ah)(hb:Binds X.K fd ps [])(ha:PA X (e::es) t) (hd:(x == ("__debug__" : Str))=aj) (he:aH (e::es) X.env=(aj,aG e X.env)::aH es X.env) (cz:(bU pos (aH es X.env)).any (·.1)=aj):PE X (.Call (.Name x p) (e::es) [] pos) (λσ H Q=>t σ H λvs H1=>sp vs H1 Q E0):=λae s σ H Q I h=>by
 refine xD (rg I hg hm ?_ hd);refine A8 (h₀:=X.base) I.ok.mod.kin hk (aQ (ha pos ae s σ H _ I h) λus s1 ⟨vs,H1,I1,r,q⟩=>⟨I1.kIn,?_⟩) he cz;have hl:us.length=ps.length:=by rw[←r.length];exact Fn.len _ _ _ _ q
 refine uw (nV (Fn.run X.A X.stack s1 H1 ⟨us,[]⟩ us vs Q hr I1.env0 (by have:=hb s1 us I1.kIn (by rw[gq];exact hl);rwa[gq]at this) r q) λrr s' hq=>?_);cases rr with
 |error er=>exact(show False from hq).elim
 |ok fl=>
  cases fl with
  |ret u=>exact I1.after hq
  |next=>exact fW hq
  |brk=>exact fW hq
  |cont=>exact fW hq
theorem Hw{α β:Type}{K:aq}{E E':XK}{σ:St}{F:ac->Prop}{S:Nat->ac->Prop}{H:Hp}{C:β->ag->(ac->Prop)->(Nat->ac->Prop)->Hp->Prop}{r:R α}{f:α->ag->R β}(h:Ok K E σ F S H (bA (r.bind f)) C):Ok K E σ F S H r λa ε F S H=>Ok K E' σ F S H (f a ε) C:=by
 cases r with
 |ok a ε=>
  intro F1 S1 H1 r1 g1;have h:Ok K E σ F S H (bA (f a ε)) C:=h;cases e:f a ε with
  |ok=>rw[e]at h;exact Ok.from (E:=E') h g1
  |_=>rw[e]at h;exact h.elim
 |_=>exact h.elim
theorem MJ(c:vK X.prog X.w X.K X.mg X.base x k ps (bp X.K g))(hr:jJ k X.A)(ha:DG X E (e::es) dg)(hg:Gl X x:=by rfl)(hd:(x == ("__debug__" : Str))=aj:=by decide) (h1:aH (e::es) X.env=(aj,aG e X.env)::aH es X.env:=by rfl) (h2:(bU pos (aH es X.env)).any (·.1)=aj:=by rfl):DR X E (.Call (.Name x p) (e::es) [] pos) (λε=>bA (aM g dg ε)):=λF S ε σ H Q rl h=>by obtain⟨f,fd,hm,Fn,hb,hk⟩:=c.ex;exact bJ (NW Fn hr hg hm hk hb gP hd h1 h2) (ha F S ε σ H _ rl ((Hw h).imp λas ε1 F1 S1 H1 r1 g1 q vs av=>Fs r1 g1 av q))
end
structure ni(K:aq)(C:ac):Prop where
 ga:il K (.ref C) "__getattribute__" = aa (aa (.builtin "BaseException.__getattribute__"))
 gt:il K (.ref C) "__getattr__" = aa af
 cl:il K (.ref C) "__class__" = aa (aa (.builtin "object.__class__"))
 gs:GJ K (.builtin "object.__class__") "__get__" = aa (aa (.builtin "getset_descriptor.__get__"))
 tk:PySem.W.takesIn K (.builtin "object.__class__")=aa ah
 ob:xC K C (.type "object")=aa ah
 be:xC K C (.type "BaseException")=aa ah
 cs:(Bt K C).isSome=ah
section
variable{prog:ba}{w:aP}{A:a6}{E:ai->am->Prop}{K:aq}{h:aE}{g:Array GenState}{d:Drawn}{t:Nat}{os:OsState}{a C:ac}{o:Obj}
theorem OR{M:Model}{nameV:ai}{Q:Unit->am->Prop}(X:K.In h)(k:ni K C)(I:ut h a o C af)(hq:Q () ⟨h,g,d,t,os⟩):au M A (GZ "BaseException.__getattribute__" ⟨[.ref a,nameV],[]⟩) Q E ⟨h,g,d,t,os⟩:=by
 have hk:builtinKind "BaseException.__getattribute__" = aa .slot:=by decide +kernel
 have Q0:splitId "BaseException.__getattribute__" = aa ("BaseException","__getattribute__"):=by decide +kernel
 have ha:=F.args_bexc_ga (.ref a) nameV;have L0:=I.type (M:=M);have L1:=PySem.W.looks_mroIn (M:=M) X k.be;simp only[GZ,hk,Q0];refine ax ?_
 ·unfold isInstance
  repeat (first|with_reducible refine ax (L0.at ?_)|with_reducible refine L1.at ?_|with_reducible refine ax (L1.at ?_)|wp_step)
  exact hq
theorem NH{tk:Tok}{Q:Fin->am->Prop}(X:K.In h)(k:ni K C)(I:ut h a o C af)(hq:Q (.done (.ret (.ref C))) ⟨h,g,d,t,os⟩):au (aB prog w) A (Builtin.«object.__getattribute__» ⟨[.ref a,.str "__class__" tk],[]⟩) Q E ⟨h,g,d,t,os⟩:=by
 have L0:=I.type (M:=aB prog w);have hf:PySem.W.findObj K C af "__class__" = aa (.bind (.builtin "getset_descriptor.__get__") (.builtin "object.__class__")):=by obtain⟨cd,hc⟩:=A_.mp k.cs;unfold PySem.W.findObj;rw[hc,jj,k.cl,jj];simp[k.gs,k.tk]
 have L1:=PySem.W.looks_find (M:=aB prog w) X I hf;have gg:jU (aB prog w) A (.call (.builtin "getset_descriptor.__get__") ⟨[.builtin "object.__class__",.ref a,.ref C],[]⟩) (λr s'=>r=.ok (.ret (.ref C))/\s'=⟨h,g,d,t,os⟩) ⟨h,g,d,t,os⟩:=PySem.W.class_get (s:=⟨h,g,d,t,os⟩) X I k.ob ⟨rfl,rfl⟩;refine ax (aV (ax (aV (ax (L0.at (ax (L1.at ?_)))))));show au _ _ (do ret (←pA [Value.builtin "object.__class__"] (call (.builtin "getset_descriptor.__get__") [.builtin "object.__class__",.ref a,.ref C]))) _ _ _;refine ax (pF (uw (nV gg λr s' z=>?_)));obtain⟨rfl,rfl⟩:=z;exact aV hq
theorem Iz{tk:Tok}{Q:ai->am->Prop}(X:K.In h)(k:ni K C)(I:ut h a o C af)(hq:Q (.ref C) ⟨h,g,d,t,os⟩):au (aB prog w) A (getAttrBy (.ref a) (.str "__class__" tk) aj) Q E ⟨h,g,d,t,os⟩:=by
 have L0:=I.type (M:=aB prog w);have L1:=GI (M:=aB prog w) X k.ga;have L2':=GI (M:=aB prog w) X k.gt;have se:(Value.builtin "BaseException.__getattribute__" == Value.builtin "object.__getattribute__")=aj:=by decide +kernel
 have hx1:(onTheHeap (Value.ref C)&&Value.builtin "BaseException.__getattribute__" == Value.builtin "object.__getattribute__")=aj:=by rw[se];rfl
 unfold getAttrBy;refine pF (ax (L0.at (ax (L1.at ?_))));dsimp only;rw[hx1];rw[if_neg (by decide)];have f3:=F.attr_ValueError.ga.bind (.ref a);have sh:(aj&&onTheHeap (Value.builtin "BaseException.__getattribute__"))=aj:=rfl
 repeat (any_goals (first|assumption|with_reducible refine L2'.at ?_|with_reducible refine ax (L2'.at ?_)|wp_step))
 refine codeAny_call_builtin F.attr_ValueError.ga.plain F.entry_bexc_ga (OR X k I (NH X k I ?_))
 repeat (any_goals (first|assumption|wp_step))
theorem Hz{Q:Option ai->am->Prop}(X:K.In h)(k:ni K C)(I:ut h a o C af)(hq:Q (aa (.ref C)) ⟨h,g,d,t+1,os⟩):au (aB prog w) A (getAttr? (.ref a) "__class__") Q E ⟨h,g,d,t,os⟩:=by
 unfold getAttr? getAttrBy?
 repeat (any_goals (first|assumption|with_reducible apply Iz X k I|wp_step))
theorem Ky(k:ni K C):PySem.W.KitX K (.ref a) (.ref C) (λh=>∃o,ut h a o C af) where
 ty:=λ_ _ _ ⟨o,I⟩=>I.type
 it:=λ_ _ X _=>by
  obtain⟨cd,hc⟩:=A_.mp k.cs;unfold Bt at hc;split at hc
  ·rename_i c' d' cd' sl' ho;intro A' Q' E' s' kk q;unfold isType loadHead;exact ax (wpAny_loadPart (kk _ _ (X _ _ ho)) (aV q))
  ·cases hc
 ne:=λh tp dd its n sl X htp=>by
  obtain⟨cd,hc⟩:=A_.mp k.cs;refine G9.mpr λq=>?_;have e:C=tp:=Value.ref.inj (beq_iff_eq.mp q);subst e;unfold Bt at hc;split at hc
  ·rename_i c' d' cd' sl' ho;have z:=(X _ _ ho).symm.trans htp;cases z
  ·cases hc
 ca:=λ{_ _ _ _ _ s} X I q=>by obtain⟨o,I⟩:=I;obtain⟨h,g,d,t,os⟩:=s;exact Hz X k I q
end
def wy:V->Option ai
 |.ref D=>aa (.ref D)
 |.ty T=>aa (.type T)
 |_=>af
theorem IQ{v:V}{u u':ai}(e:wy v=aa u)(r:RelV v u'):u'=u:=by
 cases v <;> simp[wy]at e <;> subst e <;> exact r
section
variable{X:Cx}{K:aq}
def Gv(K:aq):List V->Hp->VK->Prop:=λxs H Q=>∃a C D u b,xs=[.ref a,D]/\H a=aa (lN a (.ref C))/\ni K C/\wy D=aa u/\gH K (.ref C) u=aa b/\Q (.bl b) H
theorem Q8:eG X (.builtin "isinstance") (Gv X.K):=by
 intro ae s σ H xs us Q I r h;obtain⟨a,C,D,u,b,rfl,ha,k,hu,e,q⟩:=h;cases r with
 |cons r1 r2=>
  cases r2 with
  |cons r3 r4=>
   cases r4;cases r1;have e3:=IQ hu r3;subst e3;obtain⟨⟨o,vs,h1,h2,h3,h4⟩,_,_⟩:=I.hok a _ ha;refine kB (Ky (a:=a) k) I.kIn ⟨o,h1,h2,?_,?_⟩ e (by intro z;cases z) λtk=>⟨.bl b,H,I.tok _,rfl,q⟩
   ·unfold PySem.W.notCls;rw[h3]
   ·rw[h4];trivial
def kN(tab:ai->V->Option Bool):List PV->Option PV
 |[.exc c,.raw D]=>(tab c D).map .bl
 |xs=>gk xs
def En(K:aq):List V->Hp->VK->Prop:=λxs H Q=>Gv K xs H Q\/∃x t T b,xs=[x,.ty T]/\iF K H x (.type t)/\gH K (.type t) (.type T)=aa b/\Q (.bl b) H
theorem nA:eG X (.builtin "isinstance") (En X.K):=Q8.or oA
def y9(K:aq)(tab:ai->V->Option Bool):Prop:=∀c D b,tab c D=aa b->∃C u,c=.ref C/\ni K C/\wy D=aa u/\gH K (.ref C) u=aa b
theorem m_{tab:ai->V->Option Bool}(ht:y9 K tab):PL K (En K) (kN tab):=λF H xs vs Q pv rs e q=>by
 unfold kN at e;split at e
 ·rename_i c D;cases q1:tab c D with
  |none=>rw[q1]at e;cases e
  |some b=>
   rw[q1]at e;cases e;obtain⟨C,u,rfl,k,hu,hk⟩:=ht c D b q1;obtain⟨v,r',rfl,⟨a,rfl,ha⟩,h2⟩:=rs;obtain⟨v2,rfl,h3⟩:=iN h2;rw[show v2=D from h3];exact .inl ⟨a,C,D,u,b,rfl,ha,k,hu,hk,q _ F H (Al.refl ..) rfl⟩
 ·exact .inr (oP F H _ vs Q pv rs e q)
theorem oV{E:XK}{x:Str}{D:ac}{pos:Pos}(hm:X.mg x=aa (.ref D))(hg:Gl X x:=by rfl)(hd:(x == ("__debug__" : Str))=aj:=by decide):DE X E (.Name x pos) (dC (.raw (.ref D))):=λF S ε σ H Q r q=>bJ (zV (v:=.ref D) hg hm rfl hd) (q F S H r (bd.refl ..) _ rfl)
variable{E:XK}{e:aw}{de:ag->R PV}{pos:Pos}{y:Str}
def kY(xs:List PV)(y:PV):Option PV:=(cT y).bind λv=>(iz xs).map λws=>.int (ws.countP λz=>dU z v)
def Ac(xs:List PV)(y:PV):Option PV:=(cT y).bind λv=>(iz xs).bind λws=>(ws.findIdx? λz=>dU z v).map λj=>.int j
def qC(f:List PV->PV->Option PV)(i:Nat)(de:ag->R PV):ag->R PV:=λε=>(aC (cm ε i) ε).bind λ_ ε=>(de ε).bind λk ε1=>(aC (cm ε1 i) ε1).bind λxs ε1=>aC (f xs k) ε1
theorem Ka(i:Nat){p apos cpos:Pos}(he:DE X E e de)(hN:X.N[i]?=aa y:=by rfl)(hv:cx X.env.scope y:=by first|exact Or.inl rfl|exact Or.inr (Or.inl rfl)|exact Or.inr (Or.inr rfl))(hd:(y == ("__debug__" : Str))=aj:=by decide)(a8:(y == ("__classdict__" : Str))=aj:=by decide) (h1:e9 (.Name y p) "count" X.env (aG (.Name y p) X.env)=aG (.Name y p) X.env:=by rfl)(h2:((bU cpos (aH [e] X.env)).all (λx=>!x.1)&&(jW cpos (jX [] X.env)).all (λx=>x.1.isSome)&&decide ([e].length+([]:List im).length+(if([]:List im).isEmpty then 0 else 1)<30))=ah:=by rfl)(h3:(apos.endLine == cpos.line)=ah:=by rfl) (h4:aH [e] X.env=(aj,aG e X.env)::aH [] X.env:=by rfl) (h5:(bU cpos (aH [] X.env)).any (·.1)=aj:=by rfl):DE X E (.Call (.Attribute (.Name y p) "count" apos) [e] [] cpos) (qC kY i de):=λF S ε σ H Q rl h=>by
 unfold qC at h;cases e0:cm ε i with
 |none=>rw[e0]at h;exact h.elim
 |some xs0=>
  rw[e0]at h;simp only[bw,R.bind_ok]at h;obtain⟨a,vs0,ea,ha,_,_,_⟩:=rl.lstAt (hZ e0);refine bJ (qO pO PySem.F.slot_list_count PySem.F.type_list_count Kt (cF hN hv hd a8) (ff bB gB h4) h1 h2 h3 h4 h5) ⟨.ref a,ea,.inl ⟨rfl,_,bZ.of ha⟩,?_⟩;refine he F S ε σ H _ rl ((Ok.bind h).imp λk ε1 F1 S1 H1 r1 g1 q v rv=>?_);cases e1:cm ε1 i with
  |none=>rw[e1]at q;exact q.elim
  |some xs=>
   rw[e1]at q;simp only[bw,R.bind_ok]at q;obtain⟨a',vs,ea',pY,ra,_,_⟩:=r1.lstAt (hZ e1);rw[ea]at ea';cases ea';unfold kY at q;cases q1:cT k with
   |none=>rw[q1]at q;exact q.elim
   |some w=>
    cases q2:iz xs with
    |none=>rw[q1,q2]at q;exact q.elim
    |some ws=>rw[q1,q2]at q;obtain⟨rfl,hf⟩:=sD ra q2;rw[i6 rv q1];exact⟨a,vs,w,rfl,rfl,pY,p7 q1,hf,q F1 S1 H1 r1 (bd.refl ..) _ rfl⟩
theorem IJ(i:Nat){p apos cpos:Pos}(he:DE X E e de)(hN:X.N[i]?=aa y:=by rfl)(hv:cx X.env.scope y:=by first|exact Or.inl rfl|exact Or.inr (Or.inl rfl)|exact Or.inr (Or.inr rfl))(hd:(y == ("__debug__" : Str))=aj:=by decide)(a8:(y == ("__classdict__" : Str))=aj:=by decide) (h1:e9 (.Name y p) "index" X.env (aG (.Name y p) X.env)=aG (.Name y p) X.env:=by rfl)(h2:((bU cpos (aH [e] X.env)).all (λx=>!x.1)&&(jW cpos (jX [] X.env)).all (λx=>x.1.isSome)&&decide ([e].length+([]:List im).length+(if([]:List im).isEmpty then 0 else 1)<30))=ah:=by rfl)(h3:(apos.endLine == cpos.line)=ah:=by rfl) (h4:aH [e] X.env=(aj,aG e X.env)::aH [] X.env:=by rfl) (h5:(bU cpos (aH [] X.env)).any (·.1)=aj:=by rfl):DE X E (.Call (.Attribute (.Name y p) "index" apos) [e] [] cpos) (qC Ac i de):=λF S ε σ H Q rl h=>by
 unfold qC at h;cases e0:cm ε i with
 |none=>rw[e0]at h;exact h.elim
 |some xs0=>
  rw[e0]at h;simp only[bw,R.bind_ok]at h;obtain⟨a,vs0,ea,ha,_,_,_⟩:=rl.lstAt (hZ e0);refine bJ (qO pO PySem.F.slot_list_index PySem.F.type_list_index Nz (cF hN hv hd a8) (ff bB gB h4) h1 h2 h3 h4 h5) ⟨.ref a,ea,.inl ⟨rfl,_,bZ.of ha⟩,?_⟩;refine he F S ε σ H _ rl ((Ok.bind h).imp λk ε1 F1 S1 H1 r1 g1 q v rv=>?_);cases e1:cm ε1 i with
  |none=>rw[e1]at q;exact q.elim
  |some xs=>
   rw[e1]at q;simp only[bw,R.bind_ok]at q;obtain⟨a',vs,ea',pY,ra,_,_⟩:=r1.lstAt (hZ e1);rw[ea]at ea';cases ea';unfold Ac at q;cases q1:cT k with
   |none=>rw[q1]at q;exact q.elim
   |some w=>
    cases q2:iz xs with
    |none=>rw[q1,q2]at q;exact q.elim
    |some ws=>
     cases q3:ws.findIdx? λz=>dU z w with
     |none=>rw[q1,q2]at q;simp only[jj]at q;rw[q3]at q;exact q.elim
     |some j=>
      rw[q1,q2]at q;simp only[jj]at q;rw[q3]at q;obtain⟨rfl,hf⟩:=sD ra q2;rw[i6 rv q1];rw[QW]at q3;obtain⟨hj,h6,h7⟩:=q3;refine⟨a,vs,w,j,rfl,rfl,pY,p7 q1,hf,hj,λz hz=>?_,λm z hm hz=>?_,q F1 S1 H1 r1 (bd.refl ..) _ rfl⟩
      ·rw[fL hj]at hz;cases hz;exact h6
      ·have:=h7 m hm;rw[fL ∅]at hz;cases hz;simpa using this
end
theorem Ct(c:Nat)(x:Tx):u3 [c] x=x.contains c:=by unfold u3;have:=StrLaws.found_one (tS x) c;rw[o7]at this;rw[show(tS [c])=⟨#[c]⟩from rfl,this];simp[List.contains_eq_mem]
section
variable{X:Cx}{E:XK}{scope:dO}{x:Str}{N':List Str}{cap:List Nat}
variable{pin:List Nat}
theorem CH{F:ac->Prop}{S:Nat->ac->Prop}{ε:ag}{σ:St}{H:Hp}{D:ki}{i:Nat}{dn:ag->R PO}(hp:i∉pin)(rl:aI X.K F S ε σ H)(h:gT X.K E pin σ F S H (a9 i (dF dn) ε) D):Ok X.K E σ F S H (dn ε) (λpo _ F' S' H'=>∀a Sa,dJ X.K H' F' po a Sa->(∀b,Sa b->H b=af/\¬F' b/\¬U S' b/\∃o,H' b=aa o/\cy o)->D.nx (σ.set i (aa (.ref a))) H'):=by
 unfold a9 dF at h;cases e0:dn ε with
 |no=>rw[e0]at h;exact h.elim
 |er c ε'=>rw[e0]at h;exact λx F' S' H' r' g'=>h x F' S' σ H' r' g' (iH.refl _ _)
 |ok po ε1=>
  rw[e0]at h;intro F1 S1 H1 r1 g1 a Sa ow fr;cases po with
  |dK kvs=>exact h.elim
  |lls jk=>exact h.elim
  |ins C fs=>exact h.elim
  |dT kvs=>exact h.elim
  |inl C fs y xs=>exact h.elim
  |lst xs=>
   have hN:∀b,Sa b->¬U S1 b/\∃o,H1 b=aa o:=λb z=>let ⟨_,_,x3,o,x4,_⟩:=fr b z;⟨x3,o,x4⟩
   obtain⟨⟨vs,ha,hr⟩,hS⟩:=ow;have g2:bd (U S) (U S1) F (λb=>F1 b\/Sa b) H H1:=⟨λb z=>.inl (g1.fro b z),g1.keep,g1.there,λb z=>z.elim (g1.fnew b) λw=>.inr (.inl (fr b w).1),g1.onew⟩
   have rv:aU X.K H1 (λb=>F1 b\/Sa b) (.lst xs) (.ref a):=⟨a,vs,rfl,.inl ha,.inr ((hS a).mpr rfl),bj.mono (λ_ z=>.inl z) (λ_ _ _ z=>z) (λ_ _ z _=>z) _ _ hr⟩
   exact h _ _ _ H1 ((r1.more hN).set rv) (g2.trans (bd.less i)) (iH.set hp)
section
variable{elt iter:aw}{y:Str}{px py pos spos:Pos}{di:ag->R (List PV)}{dt:ag->R Bool}{de:ag->R PV}{dl:ag->R PO}{ifs:List aw}
theorem Ih(i:Nat)(hN:X.N.Nodup)(B:iL X scope x N' cap)(hc:X.calm=ah)(hi:DI X E (.Name x px) iter di)(ht:∀C s₀ H₀ ex pn,DF (bE X scope N' C s₀ H₀ ex pn) E0 ifs dt) (he:∀C s₀ H₀ ex pn,DE (bE X scope N' C s₀ H₀ ex pn) E0 elt de)(hp:i∉pin:=by decide) (pW:X.N[i]?=aa y:=by rfl) (hx:Loc X.env.scope y:=by first|exact Or.inl rfl|exact Or.inr rfl) (pX:ik (.ListComp elt [⟨.Name x px,iter,ifs,0⟩] scope pos) (aa (.Name y py)) spos.line X.env=pure ah:=by rfl)(hf:X.fn y=ah\/X.env.scope.names.lookup y=aa .local:=by first|exact .inl rfl|exact .inr rfl) (hs:∀x,nP iter X.env x=pure x:=by intro _;rfl):DS X E pin (.Assign [.Name y py] (.ListComp elt [⟨.Name x px,iter,ifs,0⟩] scope pos) spos) (a9 i (dF (cq cap di dt de))):=λF S ε σ H D rl h=>fI (P8 (wi:=l_ X (.Name x px) iter) (ts:=λσ H Q=>∀C s₀ H₀ ex pn,oS (bE X scope N' C s₀ H₀ ex pn) ifs σ H Q) (te:=λσ H Q=>∀C s₀ H₀ ex pn,f9 (bE X scope N' C s₀ H₀ ex pn) elt σ H Q) B hc xr (λC s₀ H₀ ex pn ae s σ H Q I h=>(h C s₀ H₀ ex pn).run ae s I) (λC s₀ H₀ ex pn ae s σ H Q I h=>(h C s₀ H₀ ex pn).run ae s I) hN pW hx pX hf hs) (Er hi ht he rl (CH hp rl h))
end
end
def eZ(pin:List Nat):Nat->ag->Bool
 |_,[]=>ah
 |i,.own po::ss=>pin.contains i&&fQ po&&eZ pin (i+1) ss
 |i,_::ss=>eZ pin (i+1) ss
theorem qi{pin:List Nat}:∀{ss:ag}{k:Nat},eZ pin k ss=ah->∀(i:Nat) po,ss[i]?=aa (.own po)->k+i∈pin/\fQ po=ah
 |[],_,_,i,po,e=>by simp at e
 |.own q::ss,k,h,0,po,e=>by simp only[List.getElem?_cons_zero,Option.some.injEq,Slot.own.injEq]at e;subst e;simp only[eZ,fq]at h;exact⟨by simpa using h.1.1,h.1.2⟩
 |.own q::ss,k,h,i+1,po,e=>by simp only[eZ,fq]at h;have:=qi (k:=k+1) h.2 i po (by simpa using e);rwa[uH,uI]at this
 |.val q::ss,k,h,0,po,e=>by simp at e
 |.none::ss,k,h,0,po,e=>by simp at e
 |.val q::ss,k,h,i+1,po,e=>by have:=qi (k:=k+1) (by simpa[eZ]using h) i po (by simpa using e);rwa[uH,uI]at this
 |.none::ss,k,h,i+1,po,e=>by have:=qi (k:=k+1) (by simpa[eZ]using h) i po (by simpa using e);rwa[uH,uI]at this
def bD(len:Nat)(pin:List Nat)(g:ag->R Slot):ag->R Slot:=λss=>if ss.length=len/\eZ pin 0 ss=ah then g ss else .no
theorem dA{CX:eI}{P:ba}{w:aP}{K:aq}{mg:Str->Option ai}{base:aE}{x:Str}{st:aR}{N ps:List Str}{k n:Nat}{d:ag->R aK}{pin:List Nat}(D:cp K mg x st)(Sc:bI N ps (aN st))(hn:N.length=ps.length+n)(hb:∀(kV doc pm:ai) (an:Option ac) (aF ct:ai) (us:List ai),us.length=ps.length->eV (fk x x (gc st) (c7 st) (aN st) .none kV doc pm an aF ct) ⟨us,[]⟩=pure (ps.zip us))(eW:∀(f:ac) (aF:ai) (A:a6) (outer:List Env) (s:am) (H:Hp) (E:XK),cB k (A.deeper (gu x (aN st) s.heap.objs.size f aF))->fc (gd CX P w K mg base N x (aN st) f aF A outer s H E) E pin (c7 st) d):cC CX P w K mg base x (k+1) ps (bp K (bD ps.length pin (bq n d))):=by
 have no:∀{ss},bD ps.length pin (bq n d) ss≠.no->ss.length=ps.length/\eZ pin 0 ss=ah:=λ{ss} h=>by
  unfold bD at h;by_cases z:ss.length=ps.length/\eZ pin 0 ss=ah
  ·exact z
  ·rw[if_neg z]at h;exact absurd rfl h
 exact QM D Sc hn hb (λss h=>(no h).1) (λss h i po e=>by have:=qi (no h).2 i po e;rwa[kD]at this) (λss h=>by unfold bD;rw[if_pos (no h)]) eW
theorem D7{f:ac}{fd:gn}{CX:eI}{P:ba}{w:aP}{K:aq}{mg:Str->Option ai}{base:aE}{x qual:Str}{st:aR}{N ps:List Str}{k n:Nat}{d:ag->R aK}{pin:List Nat}(Fn:kT K x qual st f fd)(Sc:bI N ps (aN st))(hn:N.length=ps.length+n)(hb:∀(kV doc pm:ai) (an:Option ac) (aF ct:ai) (us:List ai),us.length=ps.length->eV (fk x qual (gc st) (c7 st) (aN st) .none kV doc pm an aF ct) ⟨us,[]⟩=pure (ps.zip us))(eW:∀(f:ac) (aF:ai) (A:a6) (outer:List Env) (s:am) (H:Hp) (E:XK),cB k (A.deeper (gu qual (aN st) s.heap.objs.size f aF))->fc (gd CX P w K mg base N qual (aN st) f aF A outer s H E) E pin (c7 st) d):gL P w K mg base CX (k+1) f fd ps (bp K (bD ps.length pin (bq n d))):=by
 have no:∀{ss},bD ps.length pin (bq n d) ss≠.no->ss.length=ps.length/\eZ pin 0 ss=ah:=λ{ss} h=>by
  unfold bD at h;by_cases z:ss.length=ps.length/\eZ pin 0 ss=ah
  ·exact z
  ·rw[if_neg z]at h;exact absurd rfl h
 exact EB Fn Sc hn hb (λss h=>(no h).1) (λss h i po e=>by have:=qi (no h).2 i po e;rwa[kD]at this) (λss h=>by unfold bD;rw[if_pos (no h)]) eW
theorem JJ{P:ba}{w:aP}{K:aq}{mg:Str->Option ai}{base:aE}{x:Str}{st:aR}{N ps:List Str}{k n:Nat}{d:ag->R aK}{pin:List Nat}(D:cp K mg x st)(Sc:bI N ps (aN st))(hn:N.length=ps.length+n)(hb:∀(kV doc pm:ai) (an:Option ac) (aF ct:ai) (us:List ai),us.length=ps.length->eV (fk x x (gc st) (c7 st) (aN st) .none kV doc pm an aF ct) ⟨us,[]⟩=pure (ps.zip us))(eW:∀(f:ac) (aF:ai) (A:a6) (outer:List Env) (s:am) (H:Hp),jJ k (A.deeper (gu x (aN st) s.heap.objs.size f aF))->fc (ud P w K mg base N x (aN st) f aF A outer s H) E0 pin (c7 st) d):vK P w K mg base x (k+1) ps (bp K (bD ps.length pin (bq n d))):=by
 have no:∀{ss},bD ps.length pin (bq n d) ss≠.no->ss.length=ps.length/\eZ pin 0 ss=ah:=λ{ss} h=>by
  unfold bD at h;by_cases z:ss.length=ps.length/\eZ pin 0 ss=ah
  ·exact z
  ·rw[if_neg z]at h;exact absurd rfl h
 exact Hx D Sc hn hb (λss h=>(no h).1) (λss h i po e=>by have:=qi (no h).2 i po e;rwa[kD]at this) (λss h=>by unfold bD;rw[if_pos (no h)]) eW
theorem FV{P:List ai->Prop}(h:∀a,P [a])(us:List ai)(hl:us.length=1):P us:=by
 cases us with
 |nil=>cases hl
 |cons a r=>cases r with
  |nil=>exact h a
  |cons b r=>cases hl
theorem Gf{P:List ai->Prop}(h:∀a b,P [a,b])(us:List ai)(hl:us.length=2):P us:=by
 cases us with
 |nil=>cases hl
 |cons a r=>exact FV (P:=λr=>P (a::r)) (h a) r (xS hl)
theorem Dd{P:List ai->Prop}(h:∀a b c,P [a,b,c])(us:List ai)(hl:us.length=3):P us:=by
 cases us with
 |nil=>cases hl
 |cons a r=>exact Gf (P:=λr=>P (a::r)) (h a) r (xS hl)
theorem Px{P:List ai->Prop}(h:∀a b c d,P [a,b,c,d])(us:List ai)(hl:us.length=4):P us:=by
 cases us with
 |nil=>cases hl
 |cons a r=>exact Dd (P:=λr=>P (a::r)) (h a) r (xS hl)
theorem Rm{fd:gn}{ps:List Str}(h:∀a,eV fd ⟨[a],[]⟩=pure (ps.zip [a]))(us:List ai)(hl:us.length=1):eV fd ⟨us,[]⟩=pure (ps.zip us):=FV (P:=λus=>eV fd ⟨us,[]⟩=pure (ps.zip us)) h us hl
theorem Q9{fd:gn}{ps:List Str}(h:∀a b,eV fd ⟨[a,b],[]⟩=pure (ps.zip [a,b]))(us:List ai)(hl:us.length=2):eV fd ⟨us,[]⟩=pure (ps.zip us):=Gf (P:=λus=>eV fd ⟨us,[]⟩=pure (ps.zip us)) h us hl
theorem Ri{fd:gn}{ps:List Str}(h:∀a b c,eV fd ⟨[a,b,c],[]⟩=pure (ps.zip [a,b,c]))(us:List ai)(hl:us.length=3):eV fd ⟨us,[]⟩=pure (ps.zip us):=Dd (P:=λus=>eV fd ⟨us,[]⟩=pure (ps.zip us)) h us hl
theorem Ry{fd:gn}{ps:List Str}(h:∀a b c d,eV fd ⟨[a,b,c,d],[]⟩=pure (ps.zip [a,b,c,d]))(us:List ai)(hl:us.length=4):eV fd ⟨us,[]⟩=pure (ps.zip us):=Px (P:=λus=>eV fd ⟨us,[]⟩=pure (ps.zip us)) h us hl
theorem fS{P:ba}{w:aP}{X:Cx}:jL (bT P w) X E0:=λ_ _ _ _ _ _ _ h=>by obtain⟨a,T,c,H',_,_,_,_,_,_,_,z⟩:=h;exact z.elim
theorem d_:eE "len" = aa (.builtin "len"):=by decide +kernel
theorem xl:eE "all" = aa (.builtin "all"):=by decide +kernel
theorem Nl:eE "any" = aa (.builtin "any"):=by decide +kernel
theorem ng:eE "sorted" = aa (.builtin "sorted"):=by decide +kernel
theorem jb:eE "isinstance" = aa (.builtin "isinstance"):=by decide +kernel
theorem NA:eE "int" = aa (.type "int"):=by decide +kernel
theorem Nm:eE "bool" = aa (.type "bool"):=by decide +kernel
theorem El:eE "str" = aa (.type "str"):=by decide +kernel
theorem yS:eE "list" = aa (.type "list"):=by decide +kernel
theorem mY:eE "tuple" = aa (.type "tuple"):=by decide +kernel
theorem LJ:eE "set" = aa (.type "set"):=by decide +kernel
theorem OA:eE "ValueError" = aa (.type "ValueError"):=by decide +kernel
def lW:aw->Bool
 |.Starred _ _=>ah
 |_=>aj
theorem jE{e:aw}{es:List aw}{env:Env}(h:lW e=aj):aH (e::es) env=(aj,aG e env)::aH es env:=by
 cases e <;> first|rfl|cases h
section
variable{X:Cx}{E:XK}{e:aw}{es:List aw}{d:ag->R PV}{ds:ag->R (List PV)}{dg:ag->R (List bL)}
theorem aJ(ha:DE X E e d)(hr:DA X E es ds)(h:lW e=aj:=by rfl):DA X E (e::es) (ar d ds):=Mc ha hr (jE h)
theorem a_(ha:DE X E e d)(hr:DG X E es dg)(h:lW e=aj:=by rfl):DG X E (e::es) (gV d dg):=Jv ha hr (jE h)
end
def tz:List ai:=[.type "ValueError",.type "Exception",.type "BaseException",.type "object"]
theorem Aw{K:aq}{h:aE}{C:ac}{B:List ai}{nw:String}(X:K.In h)(q:n6 K C B nw=ah):∃bm N nm qn bs hd sn sub ab col dd k0 k1 k2 k3 k5 mN,h.get? C=aa (Bs nm qn C N bs bm hd sn sub ab col dd k0 k1 k2 k3 k5 nw)/\h.Ns N mN/\mN "__init__" = af/\OwnTail h B bm:=by
 unfold n6 at q;split at q
 case h_2=>cases q
 case h_1 d0 cdata slots look=>
  split at q
  case h_2=>cases q
  case h_1 C2 tl s0 s1 s2 s3 nn s5 em es=>
   rw[fq,fq,fq,fq,fq]at q;obtain⟨⟨⟨⟨⟨q1,q2⟩,q3⟩,q4⟩,q5⟩,q6⟩:=q;have r1:=beq_iff_eq.mp q1;have r2:=beq_iff_eq.mp q2;have r6:=beq_iff_eq.mp q6;subst r1 r2;cases cdata;dsimp only at em q3 q5 r6;subst em;have r3:=Bool.not_eq_true' _ |>.mp q3
   subst r3;have r7:slots=#[s0,s1,s2,s3,aa (.builtin nn),s5]:=by cases slots;exact congrArg Array.mk es
   subst r7;exact⟨tl,_,_,_,_,_,_,_,_,_,d0,s0,s1,s2,s3,s5,_,X _ _ look,Heap.Ns.of_isNs (PySem.W.isNs_of_in X q5),PySem.W.nsMap_none_of_in X q5 r6,PySem.W.tail_of_in X q4⟩
theorem sM{K:aq}{h:aE}{mg:Str->Option ai}{x:Str}{C:ac}{B:List ai}{nw:String}(X:K.In h)(e:mg x=aa (.ref C))(q:n6 K C B nw=ah):OwnCls x C B nw mg h:=⟨e,Aw X q⟩
theorem O0{K:aq}{h:aE}{C:ac}{nw:String}(X:K.In h)(q:n6 K C tz nw=ah):o_ h C:=by obtain⟨bm,N,nm,qn,bs,hd,sn,sub,ab,col,dd,k0,k1,k2,k3,k5,mN,e,_,_,t⟩:=Aw X q;exact⟨bm,N,nm,qn,bs,hd,sn,sub,ab,col,dd,k0,k1,k2,k3,k5,nw,e,t.hasType rfl⟩
def subB(K:aq)(D C:ac):Bool:=match K.lookup C with
 |some ⟨_,_,.cls cd,_⟩=>cd.mro.contains (.ref D)
 |_=>aj
theorem J7{K:aq}{h:aE}{C D:ac}{B:List ai}{nw:String}(X:K.In h)(q:n6 K C B nw=ah)(s:subB K D C=ah):Under h D (.ref C):=by
 obtain⟨bm,N,nm,qn,bs,hd,sn,sub,ab,col,dd,k0,k1,k2,k3,k5,mN,e,_⟩:=Aw X q;refine⟨C,bm,N,nm,qn,bs,hd,sn,sub,ab,col,dd,k0,k1,k2,k3,k5,nw,rfl,e,?_⟩;unfold subB at s;split at s
 ·rename_i o1 o2 cd o3 look;have e2:=X _ _ look;rw[e]at e2;unfold Bs at e2;cases e2;exact s
 ·cases s
def we(K:aq)(C:ac):Bool :=
 il K (.ref C) "__getattribute__" == aa (aa (.builtin "BaseException.__getattribute__"))&&il K (.ref C) "__getattr__" == aa af&&il K (.ref C) "__class__" == aa (aa (.builtin "object.__class__")) &&
 GJ K (.builtin "object.__class__") "__get__" == aa (aa (.builtin "getset_descriptor.__get__"))&&PySem.W.takesIn K (.builtin "object.__class__") == aa ah&&xC K C (.type "object") == aa ah&&xC K C (.type "BaseException") == aa ah&&(Bt K C).isSome
theorem Dk{K:aq}{C:ac}(h:we K C=ah):ni K C:=by simp only[we,fq,beq_iff_eq]at h;obtain⟨⟨⟨⟨⟨⟨⟨h1,h2⟩,h3⟩,h4⟩,h5⟩,h6⟩,h7⟩,h8⟩:=h;exact⟨h1,h2,h3,h4,h5,h6,h7,h8⟩
def ya(K:aq):Bool:=K.all λp=>match p.2.cls with
 |.type t=>t != "list"
 |_=>ah
theorem Fz{a:ac}{o:Obj}:∀{K:aq},K.lookup a=aa o->(a,o)∈K
 |[],e=>by cases e
 | (b,u)::K,e=>by
  rw[ji]at e;cases q:a == b with
  |true=>rw[q]at e;cases e;rw[beq_iff_eq.mp q];exact mi ..
  |false=>rw[q]at e;exact jw _ (Fz e)
theorem Eu{K:aq}{H:Hp}{F:ac->Prop}:∀ns:List Int,bj K H F (ns.map .int) (ns.map V.int)
 |[]=>rfl
 |x::ns=>⟨.int x,ns.map V.int,rfl,rfl,Eu ns⟩
theorem OJ{K:aq}{H:Hp}{a:ac}{xs:List V}(h:ya K=ah)(s:bZ K H a xs):Rd H a (.lst xs):=by
 rcases s with s|⟨o,its,n,lk,hc,_⟩
 ·exact s
 ·have:=mC.mp h _ (Fz lk);rw[hc]at this;simp at this
theorem Pr{K:aq}{g:ag->R Slot}{H:Hp}{a:ac}{ns:List Int}{E:XK}(hr:Rd H a (.lst (ns.map V.int)))(h:g [.val (.lst (ns.map .int))]=.ok (.val (.bl ah)) [.val (.lst (ns.map .int))]):bp K g [.ref a] H (λv _=>v=.bl ah) E:=by
 refine⟨λb=>b=a,λ_ _=>False,[.val (.lst (ns.map .int))],⟨rfl,λb e=>?_,λi pv e=>?_,λi po e=>?_,λi b z=>z.elim,λi j b z=>z.elim⟩,?_⟩
 ·subst e;rcases hr with hr|⟨o,hr⟩ <;> exact⟨_,hr⟩
 ·cases i with
  |zero=>cases e;exact⟨_,rfl,a,_,rfl,hr,rfl,Eu ns⟩
  |succ i=>simp at e
 ·cases i with
  |zero=>cases e
  |succ i=>simp at e
 ·rw[h];exact λv F' S' H' Sr _ _ rv _ _=>rv.1
theorem Rs{K:aq}{x:Str}{i:Int}{t:Tok}(e:cY K b9 x=aa (aa (.int i t))):∃t,cY K b9 x=aa (aa (.int i t)):=⟨t,e⟩
theorem Rn{K:aq}{x:Str}{l:Tx}{t:Tok}(e:cY K b9 x=aa (aa (.str (tS l) t))):∃t,cY K b9 x=aa (aa (.str (tS l) t)):=⟨t,e⟩
def cN(K:aq)(x:Str)(st:aR):Prop:=∃f oc od kV dc pm an cd ct sl,cY K b9 x=aa (aa (.ref f))/\K.lookup f=aa ⟨oc,od,.func (fk x x (gc st) (c7 st) (aN st) .none kV dc pm an cd ct),sl⟩/\pC K cd x=ah/\jV K (.ref f)=ah
theorem Q7{K:aq}{x:Str}{st:aR}{f:ac}{oc kV dc pm cd ct:ai}{od an:Option ac}{sl:Array (Option ai)}(a:cY K b9 x=aa (aa (.ref f)))(l:K.lookup f=aa ⟨oc,od,.func (fk x x (gc st) (c7 st) (aN st) .none kV dc pm an cd ct),sl⟩)(c:pC K cd x=ah) (k:jV K (.ref f)=ah):cN K x st:=⟨f,oc,od,kV,dc,pm,an,cd,ct,sl,a,l,c,k⟩
theorem cN.at{K:aq}{h:aE}{mg:Str->Option ai}{x:Str}{st:aR}(d:cN K x st)(X:K.In h)(G:h.Ns b9 mg):cp K mg x st:=by obtain⟨f,oc,od,kV,dc,pm,an,cd,ct,sl,a,l,c,k⟩:=d;exact⟨f,_,gv X G a,wN l c k⟩
def iI(kvs:List (aO×PV))(k:aO):Option PV:=(kvs.find? λkv=>decide (kv.1=k)).map (·.2)
def mT(kvs:List (aO×PV))(k:aO)(v:PV):List (aO×PV):=if(kvs.any λkv=>decide (kv.1=k))=ah then kvs.map (λkv=>if kv.1=k then(kv.1,v)else kv)else kvs++[(k,v)]
def iu:PV->Option aO
 |.int i=>aa (.inl i)
 |.str x=>aa (.inr (tS x))
 |_=>af
section
variable{K:aq}{F:ac->Prop}{S:Nat->ac->Prop}{ε:ag}{σ:St}{H:Hp}{i:Nat}{kvs:List (aO×PV)}{ws:List (aO×V)}{a:ac}
theorem tZ{x:PV}{v:V}{k:aO}(r:aU K H F x v)(e:iu x=aa k):v=kV k:=by
 cases x <;> simp[iu]at e
 ·subst e;exact r
 ·subst e;exact r.1
theorem gW.len(h:gW K H F kvs ws):ws.length=kvs.length:=by
 unfold gW at h
 induction h with
 |nil=>rfl
 |cons _ _ ih=>simp[ih]
theorem gW.val(h:gW K H F kvs ws)(k:aO):(∃x v,iI kvs k=aa x/\ja ws k=aa v/\aU K H F x v)\/(iI kvs k=af/\ja ws k=af):=by
 unfold gW at h
 induction h with
 |nil=>exact .inr ⟨rfl,rfl⟩
 |@cons p q ps qs r _ ih=>
  by_cases e:p.1=k
  ·refine .inl ⟨p.2,q.2,by simp[iI,jZ,e],?_,r.2⟩;rw[wJ (by rw[←r.1];exact e)]
  ·have e2:¬q.1=k:=by rw[←r.1];exact e
   rw[vZ e2];have:iI (p::ps) k=iI ps k:=by simp[iI,jZ,e]
   rw[this];exact ih
theorem gW.any(h:gW K H F kvs ws)(k:aO):(kvs.any λkv=>decide (kv.1=k))=ws.any λkv=>decide (kv.1=k):=by
 unfold gW at h
 induction h with
 |nil=>rfl
 |cons r _ ih=>rw[pH,pH,ih,r.1]
theorem gW.put(h:gW K H F kvs ws)(k:aO){x:PV}{v:V}(r:aU K H F x v):gW K H F (mT kvs k x) (gU ws k v):=by
 unfold mT gU;rw[h.any k];split
 ·rename_i hA;clear hA;unfold gW at h ⊢
  induction h with
  |nil=>exact .nil
  |@cons p q ps qs r1 _ ih=>
   refine .cons ?_ ih;dsimp only;by_cases e:p.1=k
   ·rw[if_pos e,if_pos (by rw[←r1.1];exact e)];exact⟨r1.1,r⟩
   ·rw[if_neg e,if_neg (by rw[←r1.1];exact e)];exact r1
 ·exact Paired.snoc h ⟨rfl,r⟩
theorem aI.dkAt(r:aI K F S ε σ H)(e:ε[i]?=aa (.own (.dK kvs))):∃a ws,σ[i]?=aa (aa (.ref a))/\H a=aa (.dK ws)/\gW K H F kvs ws/\S i a/\∀b,S i b->b=a:=by obtain⟨a,e1,⟨vs,h1,h2⟩,h3⟩:=r.own i _ e;exact⟨a,vs,e1,h1,h2,(h3 a).mpr rfl,λb h=>(h3 b).mp h⟩
theorem aI.updO{po po':PO}{o':HO}(r:aI K F S ε σ H)(e:ε[i]?=aa (.own po))(hf:fQ po=ah)(ea:σ[i]?=aa (aa (.ref a)))(hn:cy o')(h:∀H',(∀x v,aU K H F x v->aU K H' F x v)->(∀x v,bj K H F x v->bj K H' F x v)->H' a=aa o'->∀Sa:ac->Prop,(∀b,Sa b↔b=a)->dJ K H' F po' a Sa):aI K F S (ε.set i (.own po')) σ (L2.upd H a o')/\bd (U S) (U S) F F H (L2.upd H a o'):=by
 obtain⟨a',e1,ow⟩:=r.own i po e;rw[ea]at e1;cases e1;have h34:=Dr ow hf;have h3:S i a:=(h34 a).mpr rfl;have h4:∀b,S i b->b=a:=λb z=>(h34 b).mp z;have hi:i<ε.length:=(cO.mp e).1;have g:bd (U S) (U S) F F H (L2.upd H a o'):=⟨λ_ z=>z,λb o q n=>by rw[bh (by rintro rfl;exact n ⟨i,h3⟩)];exact q,λb o q=>by
  by_cases hb:b=a
  ·subst hb;exact⟨_,upd_same⟩
  ·exact⟨o,by rw[bh hb];exact q⟩,λ_ z=>.inl z,λ_ z=>.inl z⟩
 refine⟨⟨by rw[gK];exact r.len,λb z=>let ⟨o,q⟩:=r.ex b z;g.there b o q,λj pv q=>?_,λj po q=>?_,λj b z=>?_,r.dist⟩,g⟩
 ·have hj:i≠j:=by rintro rfl;rw[cP hi]at q;cases q
  rw[cu hj]at q;obtain⟨v,q1,q2⟩:=r.val j pv q;exact⟨v,q1,q2.grow g r.fit⟩
 ·by_cases hj:i=j
  ·subst hj;rw[cP hi]at q;cases q;exact⟨a,ea,h _ (λ_ _ z=>z.grow g r.fit) (λ_ _ z=>z.grow g r.fit) upd_same _ h34⟩
  ·rw[cu hj]at q;obtain⟨c,q1,q2⟩:=r.own j po q;refine⟨c,q1,q2.mono (λ_ _ z=>z.grow g r.fit) (λ_ _ z=>z.grow g r.fit) λb o z w=>?_⟩;rw[bh (by rintro rfl;exact hj (r.dist i j b h3 z))];exact w
 ·obtain⟨⟨po,q1⟩,q2,o,q3,q4⟩:=r.foot j b z;by_cases hj:i=j
  ·subst hj;rw[h4 b z];exact⟨⟨_,cP hi⟩,by rw[←h4 b z];exact q2,_,upd_same,hn⟩
  ·exact⟨⟨po,by rw[cu hj];exact q1⟩,q2,o,by rw[bh (by rintro rfl;exact hj (r.dist i j b h3 z))];exact q3,q4⟩
end
def cH(ε:ag)(i:Nat):Option (List (aO×PV)):=match ε[i]? with
 |some (.own (.dK kvs))=>aa kvs
 |_=>af
theorem kq{ε:ag}{i:Nat}{kvs:List (aO×PV)}(h:cH ε i=aa kvs):ε[i]?=aa (.own (.dK kvs)):=by
 unfold cH at h;split at h
 ·cases h;assumption
 ·cases h
section
variable{X:Cx}{E:XK}{pin:List Nat}{e b c:aw}{de db dc:ag->R PV}{pos:Pos}
def qw:ag->R PO:=λε=>.ok (.dK []) ε
theorem CQ:DN X E (.Dict [] [] pos) qw:=λF S ε σ H Q rl h=>bJ Ko λp hp=>by
 have al:Al F F H (upd H p (.dK [])):=Al.new0 hp;refine h F S _ (rl.al al) al.grow p (λb=>b=p) ⟨⟨[],upd_same,.nil⟩,λb=>nZ⟩ λb z=>?_;subst z;refine⟨hp,λz=>?_,λ⟨j,z⟩=>?_,_,upd_same,trivial⟩
 ·obtain⟨o,q⟩:=rl.ex b z;rw[hp]at q;cases q
 ·obtain⟨_,_,o,q,_⟩:=rl.foot j b z;rw[hp]at q;cases q
def ig(i:Nat)(db:ag->R PV):ag->R PV:=λε=>(aC (cH ε i) ε).bind λ_ ε=>(db ε).bind λk ε1=>(aC (cH ε1 i) ε1).bind λkvs ε1=>aC ((iu k).bind λk=>iI kvs k) ε1
theorem vW(i:Nat){y:Str}{yp:Pos}(hu:X.A.units+64<cLine)(hb:DE X E b db)(hN:X.N[i]?=aa y:=by rfl)(dQ:cx X.env.scope y:=by first|exact Or.inl rfl|exact Or.inr (Or.inl rfl)|exact Or.inr (Or.inr rfl))(hd:(y == ("__debug__" : Str))=aj:=by decide) (a8:(y == ("__classdict__" : Str))=aj:=by decide) (hs:zM b:=by exact λ_ _=>rfl):DE X E (.Subscript (.Name y yp) b pos) (ig i db):=λF S ε σ H Q rl h=>by
 unfold ig at h;cases e0:cH ε i with
 |none=>rw[e0]at h;exact h.elim
 |some kvs0=>
  rw[e0]at h;simp only[bw,R.bind_ok]at h;obtain⟨a,ws0,ea,_⟩:=rl.dkAt (kq e0);refine bJ (HJ ∅ (cF hN dQ hd a8) bB hs) ⟨.ref a,ea,hb F S ε σ H _ rl ((Ok.bind h).imp λk ε1 F1 S1 H1 r1 g1 q u ru=>?_)⟩;cases e1:cH ε1 i with
  |none=>rw[e1]at q;exact q.elim
  |some kvs=>
   rw[e1]at q;simp only[bw,R.bind_ok]at q;obtain⟨a',ws,ea',ha,hk,_⟩:=r1.dkAt (kq e1);rw[ea]at ea';cases ea';cases e2:iu k with
   |none=>rw[e2]at q;exact q.elim
   |some ky=>
    rw[e2,jj]at q;rw[tZ ru e2];rcases hk.val ky with⟨x,v,h1,h2,h3⟩|⟨h1,h2⟩
    ·rw[h1]at q;exact⟨a,v,rfl,by rw[←h2];exact lI.k ha,q F1 S1 H1 r1 (bd.refl ..) v h3⟩
    ·rw[h1]at q;exact q.elim
def h_(i:Nat)(db dc:ag->R PV):ag->R PV:=λε=>(aC (cH ε i) ε).bind λ_ ε=>(db ε).bind λk ε1=>(dc ε1).bind λz ε2=>(aC (cH ε2 i) ε2).bind λkvs ε2=>aC ((iu k).map λk=>(iI kvs k).getD z) ε2
theorem wL(i:Nat){y:Str}{yp apos:Pos}(hu:X.A.units+64<cLine)(hb:DE X E b db)(hc:DE X E c dc)(hN:X.N[i]?=aa y:=by rfl)(dQ:cx X.env.scope y:=by first|exact Or.inl rfl|exact Or.inr (Or.inl rfl)|exact Or.inr (Or.inr rfl))(hd:(y == ("__debug__" : Str))=aj:=by decide) (a8:(y == ("__classdict__" : Str))=aj:=by decide)(h1:e9 (.Name y yp) "get" X.env (aG (.Name y yp) X.env)=aG (.Name y yp) X.env:=by rfl) (h3:(apos.endLine == pos.line)=ah:=by rfl) (s1:lW b=aj:=by rfl) (s2:lW c=aj:=by rfl):DE X E (.Call (.Attribute (.Name y yp) "get" apos) [b,c] [] pos) (h_ i db dc):=λF S ε σ H Q rl h=>by
 have st:aH [b,c] X.env=[(aj,aG b X.env),(aj,aG c X.env)]:=by rw[jE s1,jE s2];rfl
 have m:M2 X (.Name y yp) "get" apos b c pos:=⟨h1,by rw[st];rfl,h3,by rw[st];rfl⟩
 unfold h_ at h;cases e0:cH ε i with
 |none=>rw[e0]at h;exact h.elim
 |some kvs0=>
  rw[e0]at h;simp only[bw,R.bind_ok]at h;obtain⟨a,ws0,ea,ha0,_⟩:=rl.dkAt (kq e0);refine bJ (Kx ∅ (cF hN dQ hd a8) bB bB m) ⟨.ref a,ea,a,rfl,.inl ⟨_,.inl ha0⟩,hb F S ε σ H _ rl ((Ok.bind h).imp λk ε1 F1 S1 H1 r1 g1 q u ru=>?_)⟩;refine hc F1 S1 ε1 σ H1 _ r1 ((Ok.bind q).imp λz ε2 F2 S2 H2 r2 g2 q w rw'=>?_);cases e1:cH ε2 i with
  |none=>rw[e1]at q;exact q.elim
  |some kvs=>
   rw[e1]at q;simp only[bw,R.bind_ok]at q;obtain⟨a',ws,ea',ha,hk,_⟩:=r2.dkAt (kq e1);rw[ea]at ea';cases ea';cases e2:iu k with
   |none=>rw[e2]at q;exact q.elim
   |some ky=>
    rw[e2,uF]at q;rw[tZ ru e2];rcases hk.val ky with⟨x,v,h1,h2,h3⟩|⟨h1,h2⟩
    ·rw[h1]at q;exact⟨aa v,by rw[←h2];exact lI.k ha,q F2 S2 H2 r2 (bd.refl ..) v h3⟩
    ·rw[h1]at q;exact⟨af,by rw[←h2];exact lI.k ha,q F2 S2 H2 r2 (bd.refl ..) w rw'⟩
def fz(i:Nat)(db de:ag->R PV):ag->R aK:=λε=>(de ε).bind λy ε1=>(aC (cH ε1 i) ε1).bind λ_ ε1=>(db ε1).bind λk ε2=>(aC (cH ε2 i) ε2).bind λkvs ε2=>(aC (iu k) ε2).bind λk ε2=>if kvs.length<bC then .ok .next (ε2.set i (.own (.dK (mT kvs k y))))else .no
theorem pf(i:Nat){y:Str}{yp tpos:Pos}(hu:X.A.units+64<cLine)(hb:DE X E b db)(he:DE X E e de)(hN:X.N[i]?=aa y:=by rfl)(dQ:cx X.env.scope y:=by first|exact Or.inl rfl|exact Or.inr (Or.inl rfl)|exact Or.inr (Or.inr rfl))(hd:(y == ("__debug__" : Str))=aj:=by decide) (a8:(y == ("__classdict__" : Str))=aj:=by decide) (hs:ik e (aa (.Subscript (.Name y yp) b tpos)) pos.line X.env=pure aj:=by rfl):DS X E pin (.Assign [.Subscript (.Name y yp) b tpos] e pos) (fz i db de):=λF S ε σ H D rl h=>by
 refine fI (Jl ∅ (cF hN dQ hd a8) bB bB hs) (he F S ε σ H _ rl (h.bindE.imp λy ε1 F1 S1 H1 r1 g1 q v rv=>?_));cases e0:cH ε1 i with
 |none=>rw[e0]at q;exact q.elim
 |some kvs0=>
  rw[e0]at q;simp only[bw,R.bind_ok]at q;obtain⟨a,ws0,ea,ha0,_⟩:=r1.dkAt (kq e0);refine⟨.ref a,ea,hb F1 S1 ε1 σ H1 _ r1 (q.bindE.imp λk ε2 F2 S2 H2 r2 g2 q2 u ru=>?_)⟩;cases e1:cH ε2 i with
  |none=>rw[e1]at q2;exact q2.elim
  |some kvs=>
   rw[e1]at q2;simp only[bw,R.bind_ok]at q2;obtain⟨a',ws,ea',ha,hk,_⟩:=r2.dkAt (kq e1);rw[ea]at ea';cases ea';cases e2:iu k with
   |none=>rw[e2]at q2;exact q2.elim
   |some ky=>
    rw[e2]at q2;simp only[bw,R.bind_ok]at q2;split at q2
    ·rename_i hl;rw[tZ ru e2];have hk2:=hk.put ky (rv.grow g2 r1.fit);obtain⟨r3,g3⟩:=r2.updO (po':=.dK (mT kvs ky y)) (o':=.dK (gU ws ky v)) (kq e1) rfl ea trivial λH' m1 m2 hH' Sa hSa=>⟨⟨_,hH',hk2.mono m1⟩,hSa⟩
     exact⟨a,_,rfl,AX.k ha (by rw[hk.len];exact gG hl kf),q2 F2 S2 σ _ r3 g3 (iH.refl _ _)⟩
    ·exact q2.elim
end
section
variable{X:Cx}
def tK(a d:ac):HO:=.ext λh=>h.IsValuesView a d
theorem MI:xv X "dict.values" (λx xs H Q=>∃d kvs,x=.ref d/\xs=[]/\H d=aa (.dK kvs)/\∀a,H a=af->Q (.ref a) (upd H a (tK a d))):=by
 intro ae s σ H x xs v us Q I rx rs h;obtain⟨d,kvs,rfl,rfl,hd,q⟩:=h;cases rx;cases rs.zero;obtain⟨z,hs,vs,rel,dd⟩:=tL I.hok hd;refine call_meetsIn PySem.F.slot_dict_values dd.typeIs PySem.F.entry_dict_values (PySem.F.args_dict_values_1 _) (meets_dict_values (gz X.prog X.w) d hs) ⟨⟨vs,dd⟩,?_⟩;refine⟨.ref s.heap.objs.size,_,I.laid (a:=s.heap.objs.size) (o:=tK s.heap.objs.size d) (t':=s.toks) (λ_ _ q=>bV _ q) (bt _) ?_,rfl,q _ I.fresh⟩;exact⟨⟨_,dq _ rfl,rfl,rfl⟩,⟨_,dq _ rfl⟩,λh1 h2 ⟨o,q1,q2⟩ k=>⟨o,k o q1,q2⟩⟩
theorem KV.at{kvs:List (aO×V)}{vs:List (aO×ai)}(r:KV kvs vs){i:Nat}{k:aO}{u:ai}(h:vs[i]?=aa (k,u)):∃v,kvs[i]?=aa (k,v)/\RelV v u:=by
 unfold KV at r
 induction r generalizing i with
 |nil=>simp at h
 |@cons p q ps qs r1 _ ih=>
  cases i with
  |zero=>simp at h;subst h;exact⟨p.2,by simp[show k=p.1 from r1.1.symm],r1.2⟩
  |succ i=>exact ih (by simpa using h)
def jR(kvs:List (aO×V)):Option Bool:=match kvs with
 |[]=>aa aj
 | (_,.int i)::r=>(jR r).map λb=>(decide (i≠0))||b
 |_=>af
theorem Ej:∀{kvs:List (aO×V)}{b:Bool},jR kvs=aa b->(∀(i:Nat) k v,kvs[i]?=aa (k,v)->∃n,v=.int n)/\b=(cW kvs.length).any λi=>match kvs[i]? with|aa (_,.int n)=>decide (n≠0)|_=>aj
 |[],b,h=>by simp[jR]at h;subst h;exact⟨by simp,rfl⟩
 | (k,.int n)::r,b,h=>by
  simp only[jR,xH]at h;obtain⟨b',h1,h2⟩:=h;obtain⟨i1,i2⟩:=Ej h1;refine⟨λi k' v e=>?_,?_⟩
  ·cases i with
   |zero=>simp at e;exact⟨n,e.2.symm⟩
   |succ i=>exact i1 i k' v (by simpa using e)
  ·rw[eF,Bl,pH,List.any_map,←h2,i2];rfl
 | (_,.non)::_,_,h=>by simp[jR]at h
 | (_,.bl _)::_,_,h=>by simp[jR]at h
 | (_,.str _)::_,_,h=>by simp[jR]at h
 | (_,.ref _)::_,_,h=>by simp[jR]at h
 | (_,.ty _)::_,_,h=>by simp[jR]at h
theorem Jy(hc:X.calm=ah):eG X (.builtin "any") (λxs H Q=>∃(p d:ac) (kvs:List (aO×V)) (b:Bool),xs=[.ref p]/\H p=aa (tK p d)/\H d=aa (.dK kvs)/\jR kvs=aa b/\Q (.bl b) H):=by
 intro ae s σ H xs us Q I r h;obtain⟨p,d,kvs,b,rfl,hp,hd,ha,q⟩:=h;obtain⟨u,rfl,ru⟩:=vals1 r;cases ru;obtain⟨hv,_,_⟩:=(show dy X.prog X.w H s.heap p (tK p d)from I.hok p _ hp)
 obtain⟨z,hs,vs,rel,dd⟩:=tL I.hok hd;obtain⟨ep,hat⟩:=dd.dictAt;obtain⟨i1,i2⟩:=Ej ha;refine call_any_walk (wpAny_pyIter_values hv hat ?_);refine⟨s.heap.objs.size,_,_,_,_,_,λi=>match kvs[i]? with|aa (_,.int n)=>decide (n≠0)|_=>aj,rfl,Walks.dictValues (u_ (I.ok.hd hc)) _ d (dr hat.lt_size) vs ep,⟨⟨_,dq _ rfl,rfl,rfl⟩,hat.push _⟩,λi v s' Q' E' hv hQ=>?_,λh' tk k=>?_⟩
 ·obtain⟨ky,hx⟩:=hv;obtain⟨w,e1,e2⟩:=KV.at rel hx;obtain⟨n,rfl⟩:=i1 i ky w e1;obtain⟨t,rfl⟩:=e2;dsimp only at hQ;rw[e1]at hQ;exact PyProof.Rows.truthy_int (by rw[show(n != 0)=decide (n≠0) by by_cases z:n=0 <;> simp[z]];exact hQ)
 ·have I1:Inv X ae σ H {s with heap:=s.heap.push {cls:=.type "dict_valueiterator",data:=.fields #[.ref d,.int 0 0,.int vs.length 0,.int ep 0]},toks:=s.toks}:=I.kept (t':=s.toks) λb o e=>bV _ e;have e5:(cW vs.length).any (λi=>match kvs[i]? with|aa (_,.int n)=>decide (n≠0)|_=>aj)=b:=by rw[←rel.length];exact i2.symm
  rw[e5];exact⟨.bl _,H,Inv.turned (t':=tk) I1 (it:=s.heap.objs.size) (λb o hb e=>k b o (by simpa using hb) e) I.fresh (pB I.lt) (.inr I.sz) (λx c e z=>by obtain⟨v,qq⟩:=I.cell x c e;exact absurd qq.lt (by rw[z];exact fj _)) (λpp hp z=>absurd (bN (I.pin pp hp).1) (by rw[z];exact fj _)),rfl,q⟩
end
section
variable{X:Cx}{E:XK}{pin:List Nat}{e b c:aw}{de db dc:ag->R PV}{pos:Pos}
def o6:List (aO×PV)->Option Bool
 |[]=>aa aj
 | (_,.int i)::r=>(o6 r).map λb=>(decide (i≠0))||b
 |_=>af
theorem NM{K:aq}{H:Hp}{F:ac->Prop}{kvs:List (aO×PV)}{ws:List (aO×V)}{k:Bool}(h:gW K H F kvs ws)(e:o6 kvs=aa k):jR ws=aa k:=by
 unfold gW at h
 induction h generalizing k with
 |nil=>exact e
 |@cons p q ps qs r _ ih=>
  obtain⟨pk,pv⟩:=p;obtain⟨qk,qv⟩:=q;cases pv <;> simp only[o6,xH]at e <;> try cases e
  obtain⟨r1,r2⟩:=r;obtain rfl:qv=V.int _:=r2;rename_i h;simp only[jR,ih h.1,uF];rw[←h.2]
def tm(i:Nat):ag->R PV:=λε=>(aC (cH ε i) ε).bind λkvs ε=>aC ((o6 kvs).map .bl) ε
theorem MQ(i:Nat){y:Str}{yp p apos cpos:Pos}(hc:X.calm=ah)(hm:X.mg "any" = af)(hN:X.N[i]?=aa y:=by rfl)(dQ:cx X.env.scope y:=by first|exact Or.inl rfl|exact Or.inr (Or.inl rfl)|exact Or.inr (Or.inr rfl))(hd:(y == ("__debug__" : Str))=aj:=by decide) (a8:(y == ("__classdict__" : Str))=aj:=by decide) (hg:Gl X "any":=by rfl)(mI:e9 (.Name y yp) "values" X.env (aG (.Name y yp) X.env)=aG (.Name y yp) X.env:=by rfl) (mJ:(apos.endLine == cpos.line)=ah:=by rfl)(he:aH [.Call (.Attribute (.Name y yp) "values" apos) [] [] cpos] X.env=(aj,aG (.Call (.Attribute (.Name y yp) "values" apos) [] [] cpos) X.env)::aH [] X.env:=by rfl) (cz:(bU pos (aH [] X.env)).any (·.1)=aj:=by rfl):DE X E (.Call (.Name "any" p) [.Call (.Attribute (.Name y yp) "values" apos) [] [] cpos] [] pos) (tm i):=λF S ε σ H Q rl h=>by
 unfold tm at h;cases e0:cH ε i with
 |none=>rw[e0]at h;exact h.elim
 |some kvs=>
  rw[e0]at h;simp only[bw,R.bind_ok]at h;obtain⟨a,ws,ea,ha,hk,ia,_⟩:=rl.dkAt (kq e0);cases e1:o6 kvs with
  |none=>rw[e1]at h;exact h.elim
  |some k=>
   rw[e1,uF]at h;refine bJ (l9 (Jy hc) hg hm Nl (ff (yU PySem.F.plainAttrs_dict PySem.F.slot_dict_values PySem.F.type_dict_values MI (cF hN dQ hd a8) mI mJ) gB he) (by decide) (by decide) he cz) ⟨.ref a,ea,.inr (.inr (.inl ⟨rfl,.inl ⟨_,ha⟩⟩)),a,ws,rfl,rfl,ha,λq hq=>?_⟩;have al:Al F F H (L2.upd H q (tK q a)):=Al.new0 hq;have dw:a≠q:=by rintro rfl;rw[ha]at hq;cases hq
   exact⟨q,a,ws,k,rfl,upd_same,by rw[bh dw];exact ha,NM hk e1,h F S _ (rl.al al) al.grow _ rfl⟩
def vU(X:Cx)(E:XK)(es:List aw)(d:ag->R (PO×List bL)):Prop :=
 ∀F S ε σ H Q,aI X.K F S ε σ H->Ok X.K E σ F S H (d ε) (λp _ F' S' H'=>∀a Sa vs,dJ X.K H' F' p.1 a Sa->(∀b,Sa b->H b=af/\¬F' b/\¬U S' b/\∃o,H' b=aa o/\cy o)->eO X.K (σ++[aa (.ref a)]) F' H' p.2 vs->Q vs H')->oy X es σ H Q
theorem eO.app{K:aq}{σ:St}{F:ac->Prop}{H:Hp}(τ:St):∀{as:List bL}{vs:List V},eO K σ F H as vs->eO K (σ++τ) F H as vs
 |[],_,h=>h
 |.inl _::_,_,⟨v,r,e,h1,h2⟩=>⟨v,r,e,h1,h2.app τ⟩
 |.inr i::_,_,⟨v,r,e,h1,h2⟩=>⟨v,r,e,by rw[iS (cO.mp h1).1];exact h1,h2.app τ⟩
theorem dJ.stay{K:aq}{O O' F F':ac->Prop}{H H':Hp}{po:PO}{a:ac}{Sa:ac->Prop}(ow:dJ K H F po a Sa)(g:bd O O' F F' H H')(fit:jo O F H)(lo:∀b,Sa b->¬F b/\¬O b/\∃o,H b=aa o/\cy o):dJ K H' F' po a Sa/\∀b,Sa b->¬F' b/\¬O' b/\∃o,H' b=aa o/\cy o:=by refine⟨ow.mono (λ_ _ z=>z.grow g fit) (λ_ _ z=>z.grow g fit) λb o z w=>(g.stay w (lo b z).2.1 (lo b z).1).1,λb z=>?_⟩;obtain⟨l1,l2,o,l3,l4⟩:=lo b z;obtain⟨s1,s2,s3⟩:=g.stay l3 l2 l1;exact⟨s2,s3,o,s1,l4⟩
variable{es:List aw}{dn:ag->R PO}{dg:ag->R (List bL)}{dh:ag->R (PO×List bL)}
def gN(dn:ag->R PO)(dg:ag->R (List bL)):ag->R (PO×List bL):=λε=>(dn ε).bind λpo ε1=>(dg ε1).bind λas ε2=>.ok (po,.inr ε2.length::as) ε2
theorem Kw(ha:DN X E e dn)(hr:DG X E es dg)(hs:lW e=aj:=by rfl):vU X E (e::es) (gN dn dg):=λF S ε σ H Q rl h=>by refine oG (ff bB gP (jE hs)) (ha F S ε σ H _ rl ((Ok.bind h).imp λpo ε1 F1 S1 H1 r1 g1 h1 a Sa ow lo=>?_));refine hr F1 S1 ε1 σ H1 _ r1 ((Ok.bind h1).imp λas ε2 F2 S2 H2 r2 g2 h2 vs av=>?_);obtain⟨ow2,lo2⟩:=ow.stay g2 r1.fit λb z=>(lo b z).2;refine h2 F2 S2 H2 r2 (bd.refl ..) a Sa (.ref a::vs) ow2 (λb z=>⟨(lo b z).1,lo2 b z⟩) ⟨.ref a,vs,rfl,?_,av.app _⟩;rw[r2.len,rE (bt _),Nat.sub_self];rfl
def qB(d:ag->R PV)(dh:ag->R (PO×List bL)):ag->R (PO×List bL):=λε=>(d ε).bind λx ε1=>(dh ε1).bind λp ε2=>.ok (p.1,.inl x::p.2) ε2
theorem Cj(ha:DE X E e de)(hr:vU X E es dh)(hs:lW e=aj:=by rfl):vU X E (e::es) (qB de dh):=λF S ε σ H Q rl h=>by refine oG (ff bB gP (jE hs)) (ha F S ε σ H _ rl ((Ok.bind h).imp λx ε1 F1 S1 H1 r1 g1 h1 v rv=>?_));refine hr F1 S1 ε1 σ H1 _ r1 ((Ok.bind h1).imp λp ε2 F2 S2 H2 r2 g2 h2 a Sa vs ow lo av=>?_);exact h2 F2 S2 H2 r2 (bd.refl ..) a Sa _ ow (λb z=>⟨j7 g1 (lo b z).1,(lo b z).2⟩) ⟨v,vs,rfl,rv.grow g2 r1.fit,av⟩
theorem aI.push{K:aq}{F:ac->Prop}{S:Nat->ac->Prop}{ε:ag}{σ:St}{H:Hp}{po:PO}{a:ac}{Sa:ac->Prop}(r:aI K F S ε σ H)(ow:dJ K H F po a Sa)(lo:∀b,Sa b->¬F b/\¬U S b/\∃o,H b=aa o/\cy o):aI K F (λj b=>S j b\/(j=ε.length/\Sa b)) (ε++[.own po]) (σ++[aa (.ref a)]) H:=by
 have lt:∀j b,S j b->j<ε.length:=λj b z=>by obtain⟨⟨p,q⟩,_⟩:=r.foot j b z;exact(cO.mp q).1
 refine⟨by simp[r.len],r.ex,λj pv q=>?_,λj p q=>?_,λj b z=>?_,λj k b z1 z2=>?_⟩
 ·by_cases hj:j<ε.length
  ·rw[iS hj]at q;obtain⟨v,q1,q2⟩:=r.val j pv q;exact⟨v,by rw[iS (by rw[←r.len];exact hj)];exact q1,q2⟩
  ·rw[rE ∅]at q;cases hk:j-ε.length with
   |zero=>rw[hk]at q;simp at q
   |succ n=>rw[hk]at q;simp at q
 ·by_cases hj:j<ε.length
  ·rw[iS hj]at q;obtain⟨v,q1,q2⟩:=r.own j p q;refine⟨v,by rw[iS (by rw[←r.len];exact hj)];exact q1,?_⟩;have:(λb=>S j b\/(j=ε.length/\Sa b))=S j:=by funext b;exact propext ⟨λz=>z.elim id λz=>absurd z.1 (dr hj),.inl⟩
   rw[this];exact q2
  ·rw[rE ∅]at q;cases hk:j-ε.length with
   |zero=>
    rw[hk]at q;simp at q;subst q;have ej:j=ε.length:=∅
    subst ej;refine⟨a,by rw[r.len,rE (bt _),Nat.sub_self];rfl,?_⟩;have:(λb=>S ε.length b\/(ε.length=ε.length/\Sa b))=Sa:=by funext b;exact propext ⟨λz=>z.elim (λz=>absurd (lt _ _ z) (fj _)) (·.2),λz=>.inr ⟨rfl,z⟩⟩
    rw[this];exact ow
   |succ n=>rw[hk]at q;simp at q
 ·rcases z with z|⟨rfl,z⟩
  ·obtain⟨⟨p,q⟩,q2⟩:=r.foot j b z;exact⟨⟨p,by rw[iS (lt j b z)];exact q⟩,q2⟩
  ·obtain⟨l1,l2,l3⟩:=lo b z;exact⟨⟨po,by rw[rE (bt _),Nat.sub_self];rfl⟩,l1,l3⟩
 ·rcases z1 with z1|⟨rfl,z1⟩ <;> rcases z2 with z2|⟨rfl,z2⟩
  ·exact r.dist j k b z1 z2
  ·exact absurd ⟨j,z1⟩ (lo b z2).2.1
  ·exact absurd ⟨k,z2⟩ (lo b z1).2.1
  ·rfl
theorem aI.pop{K:aq}{F:ac->Prop}{S:Nat->ac->Prop}{ε:ag}{sl:Slot}{σ:St}{u:Option V}{H:Hp}(r:aI K F S (ε++[sl]) (σ++[u]) H):aI K F (λj b=>S j b/\j<ε.length) ε σ H:=by
 have len:ε.length=σ.length:=by have:=r.len;simpa using this
 refine⟨len,r.ex,λj pv q=>?_,λj p q=>?_,λj b z=>?_,λj k b z1 z2=>r.dist j k b z1.1 z2.1⟩
 ·have hj:=(cO.mp q).1;obtain⟨v,q1,q2⟩:=r.val j pv (by rw[iS hj];exact q);exact⟨v,by rw[iS (by rw[←len];exact hj)]at q1;exact q1,q2⟩
 ·have hj:=(cO.mp q).1;obtain⟨v,q1,q2⟩:=r.own j p (by rw[iS hj];exact q);refine⟨v,by rw[iS (by rw[←len];exact hj)]at q1;exact q1,?_⟩;have:(λb=>S j b/\j<ε.length)=S j:=by funext b;simp[hj]
  rw[this];exact q2
 ·obtain⟨⟨p,q⟩,q2⟩:=r.foot j b z.1;exact⟨⟨p,by rw[iS z.2]at q;exact q⟩,q2⟩
def Eb{α:Type}:R α->R α
 |.ok s ε=>.ok s ε.dropLast
 |.er c ε=>.er c ε.dropLast
 |.no=>.no
def su(g:ag->R Slot)(dh:ag->R (PO×List bL)):ag->R Slot:=λε=>(dh ε).bind λp ε1=>(aC (if(bu p.2).Nodup then bW (ε1++[.own p.1]) p.2 else af) ε1).bind λss ε1=>Eb (cb (ε1++[.own p.1]) p.2 (g ss))
theorem B6{ε:ag}{n:Nat}(h:ε.length=n+1):∃l x,ε=l++[x]/\l.length=n:=by
 refine⟨ε.dropLast,ε.getLast (by intro z;rw[z]at h;cases h),(G_ _).symm,by rw[xG,h];rfl⟩
theorem bd.pushed{K:aq}{F F':ac->Prop}{S S2:Nat->ac->Prop}{H0 H H':Hp}{n:Nat}{Sa:ac->Prop}(g:bd (U λj b=>S j b\/(j=n/\Sa b)) (U S2) F F' H H'){F0:ac->Prop}{S0:Nat->ac->Prop}(g0:bd (U S0) (U S) F0 F H0 H)(fr:∀b,Sa b->H0 b=af):bd (U S0) (U λj b=>S2 j b/\j<n) F0 F' H0 H' where
 fro:=λb z=>g.fro b (g0.fro b z)
 keep:=λb o q no=>g.keep b o (g0.keep b o q no) λ⟨j,z⟩=>by
  rcases z with z|⟨_,z⟩
  ·rcases g0.onew b ⟨j,z⟩with w|w
   ·exact no w
   ·rw[w]at q;cases q
  ·rw[fr b z]at q;cases q
 there:=λb o q=>let ⟨o',q'⟩:=g0.there b o q;g.there b o' q'
 fnew:=λb z=>by
  rcases g.fnew b z with w|w|⟨j,w|⟨_,w⟩⟩
  ·exact g0.fnew b w
  ·exact .inr (.inl (j7 g0 w))
  ·exact .inr ((g0.onew b ⟨j,w⟩).symm)
  ·exact .inr (.inl (fr b w))
 onew:=λb ⟨j,z,_⟩=>by
  rcases g.onew b ⟨j,z⟩with⟨k,w|⟨_,w⟩⟩|w
  ·exact g0.onew b ⟨k,w⟩
  ·exact .inr (fr b w)
  ·exact .inr (j7 g0 w)
variable{CX:eI}{x:Str}{k:Nat}{ps:List Str}{g:ag->R Slot}{p:Pos}
theorem OC(c:cC CX X.prog X.w X.K X.mg X.base x k ps (bp X.K g))(hr:cB k X.A)(hx:jL CX X E)(ha:vU X E (e::es) dh)(hg:Gl X x:=by rfl)(hd:(x == ("__debug__" : Str))=aj:=by decide) (h1:aH (e::es) X.env=(aj,aG e X.env)::aH es X.env:=by rfl) (h2:(bU pos (aH es X.env)).any (·.1)=aj:=by rfl):DR X E (.Call (.Name x p) (e::es) [] pos) (su g dh):=λF S ε σ H Q rl h=>by
 obtain⟨f,fd,hm,Fn,hb,hk⟩:=c.ex;refine bJ (yW Fn hr hg hm hk hb .nil hx gP hd h1 h2) (ha F S ε σ H _ rl ?_);unfold su at h;cases ed:dh ε with
 |no=>rw[ed]at h;exact h.elim
 |er cv ε1=>rw[ed]at h;exact h
 |ok pa ε1=>
  obtain⟨po,as⟩:=pa;rw[ed]at h;simp only[R.bind_ok]at h;intro F1 S1 H1 r1 g1 a Sa vs ow lo av;dsimp only at h av ow;have rp:=r1.push ow λb z=>(lo b z).2;by_cases nd:(bu as).Nodup
  ·rw[if_pos nd]at h;cases es:bW (ε1++[.own po]) as with
   |none=>rw[es]at h;exact h.elim
   |some ss=>
    rw[es]at h;simp only[bw,R.bind_ok]at h;rw[gq];refine⟨F1,kj as _,ss,rp.cal av es nd,?_⟩;have len:∀aL,(cf (ε1++[.own po]) as aL).length=ε1.length+1:=λaL=>by rw[vC];simp
    cases eg:g ss with
    |no=>rw[eg]at h;exact h.elim
    |er cv aL=>
     rw[eg]at h;intro y F' S' H' r' g';unfold cb at h;dsimp only at h;by_cases kp:b_ as aL=ah
     ·rw[if_pos kp]at h;obtain⟨S2,r2,g2,_⟩:=rp.called av es nd r' g' (λ_ z=>z) (k8 kp);obtain⟨l,sl,el,ll⟩:=B6 (len aL);rw[el]at r2;have h:Ok X.K E σ F S H (R.er cv (cf (ε1++[.own po]) as aL).dropLast:R Slot) _:=h;rw[el,List.dropLast_concat]at h;have gp:=bd.pushed (K:=X.K) g2 g1 λb z=>(lo b z).1;rw[←ll]at gp;exact h y F' _ H' r2.pop gp
     ·rw[if_neg kp]at h;exact h.elim
    |ok s aL=>
     rw[eg]at h;intro v F' S' H' Sr r' g' rv lo' fr;unfold cb at h;dsimp only at h;by_cases kp:b_ as aL=ah
     ·rw[if_pos kp]at h;obtain⟨S2,r2,g2,u2⟩:=rp.called av es nd r' g' (λ_ z=>.inl z) (k8 kp);obtain⟨l,sl,el,ll⟩:=B6 (len aL);rw[el]at r2;have h:Ok X.K E σ F S H (R.ok s (cf (ε1++[.own po]) as aL).dropLast:R Slot) _:=h;rw[el,List.dropLast_concat]at h;have gp:=bd.pushed (K:=X.K) g2 g1 λb z=>(lo b z).1;rw[←ll]at gp;refine h F' _ H' r2.pop gp v Sr rv λb z=>⟨j7 g1 (fr b z),(lo' b z).1,λ⟨j,w,_⟩=>?_,(lo' b z).2.2⟩
      rcases u2 b ⟨j,w⟩with w|⟨i,w⟩
      ·exact(lo' b z).2.1 w
      ·obtain⟨_,_,o,y1,_⟩:=rp.foot i b w;rw[fr b z]at y1;cases y1
     ·rw[if_neg kp]at h;exact h.elim
  ·rw[if_neg nd]at h;exact h.elim
end
section
variable{X:Cx}{E:XK}{pin:List Nat}{e b c o:aw}{de db dc d:ag->R PV}{ds:ag->R (List PV)}{pos p q pos':Pos}
def tu:List PV->Option PO
 |[.lst xs]=>(jf xs).bind λls=>if ls≠[]/\(fH ls).length<60 then aa (.lst (ak (bf (fH ls))))else af
 |_=>af
def NU(X:Cx)(r:List V->Hp->VK->Prop):List V->Hp->VK->Prop:=λxs H Q=>∃(p:ac) (ls:List Tx),xs=[.ref p]/\bZ X.K H p (dZ ls)/\(fH ls).length<4000/\∀a,H a=af->r [.ref a] (upd H a (oB X a (fH ls))) Q
def Kc(X:Cx):List V->Hp->VK->Prop:=λxs H Q=>∃(p:ac) (ls:List Tx),xs=[.ref p]/\H p=aa (oB X p ls)/\ls≠[]/\ls.length<64/\∀l,H l=af->Q (.ref l) (upd H l (.lst (dZ (bf ls))))
theorem KD{l:List Tx}(h:l≠[]):fH l≠[]:=λz=>by
 cases l with
 |nil=>exact h rfl
 |cons x r=>have:x∈fH (x::r):=(s_ _ _).mpr (by simp);rw[z]at this;simp at this
theorem IT:j9 X.K (NU X (Kc X)) tu:=λF H xs vs Q po hF rs e q=>by
 unfold tu at e;split at e
 ·obtain⟨v,rfl,a,us,rfl,ha,_,ru⟩:=iN rs;obtain⟨ls,e1,e2⟩:=Option.bind_eq_some_iff.mp e;rw[yj e1]at ru;obtain⟨rfl,hl⟩:=Rb.mp ru;split at e2
  ·rename_i hh;cases e2;refine⟨a,ls,rfl,.inl ha,∅,λb hb=>⟨b,fH ls,rfl,upd_same,KD hh.1,∅,λl mO=>?_⟩⟩;have hlb:l≠b:=by rintro rfl;rw[upd_same]at mO;cases mO
   have hl0:H l=af:=by rw[bh hlb]at mO;exact mO
   have al:Al F F H (upd (upd H b (oB X b (fH ls))) l (.lst (dZ (bf (fH ls))))):=(Al.new0 hb).trans (Al.new0 mO);refine q l F _ (λc=>c=l) al ⟨⟨_,upd_same,Rb.mpr ⟨rfl,λx hx=>hl x ((s_ _ _).mp ((eY _).mem_iff.mp hx))⟩⟩,λc=>nZ⟩ λc z=>?_;subst z;exact⟨hl0,λz=>Exists.elim (hF _ z) (λo w=>by rw[hl0]at w;cases w),_,upd_same,trivial⟩
  ·cases e2
 ·cases e
theorem L4(hc:X.calm=ah)(ha:DA X E [e] ds)(hm:X.mg "sorted" = af)(hm2:X.mg "set" = af)(hg:Gl X "sorted":=by rfl)(hg2:Gl X "set":=by rfl)(h:lW e=aj:=by rfl):DN X E (.Call (.Name "sorted" p) [.Call (.Name "set" q) [e] [] pos'] [] pos) (dL tu ds):=λF S ε σ H Q rl h'=>bJ (l9 (ID hc) hg hm ng (ff (wO (K7 hc) hg2 hm2 LJ gP (by decide) (by decide) (jE h) rfl) gB (jE rfl)) (by decide) (by decide) (jE rfl) rfl) (wd IT ha rl h')
def zR(i j:Nat)(d:ag->R PV):ag->R aK:=λε=>(d ε).bind λx ε1=>match x with
 |.tup [a,b]=>.ok .next ((ε1.set i (.val a)).set j (.val b))
 |_=>.no
theorem Qi(i j:Nat){x y:Str}{k:Nat}{tp px py:Pos}(hc:X.calm=ah)(hN:X.N.Nodup)(he:DE X E e de)(hp:i∉pin:=by decide)(kH:j∉pin:=by decide)(hi:X.N[i]?=aa x:=by rfl)(hj:X.N[j]?=aa y:=by rfl)(hx:Loc X.env.scope x:=by first|exact Or.inl rfl|exact Or.inr rfl) (hy:Loc X.env.scope y:=by first|exact Or.inl rfl|exact Or.inr rfl)(hf:X.fn x=ah\/X.env.scope.names.lookup x=aa .local:=by first|exact .inl rfl|exact .inr rfl) (hf2:X.fn y=ah\/X.env.scope.names.lookup y=aa .local:=by first|exact .inl rfl|exact .inr rfl)(hs:swapsWithSole [.Tuple [.Name x px,.Name y py] k tp] e pos.line X.env=pure aj:=by rfl) (hw:swappedStores [.Tuple [.Name x px,.Name y py] k tp] e X.env=pure af:=by rfl):DS X E pin (.Assign [.Tuple [.Name x px,.Name y py] k tp] e pos) (zR i j de):=λF S ε σ H D rl h=>by
 refine fI (LG bB (Fm hc (xi (ro hN hi hx hf) (xi (ro hN hj hy hf2) Fk))) hs hw rfl) (he F S ε σ H _ rl (h.bindE.imp λz ε1 F1 S1 H1 r1 g1 h1 v rv=>?_));split at h1
 ·rename_i a b;obtain⟨p,us,rfl,gY,ru⟩:=rv;obtain⟨va,ra,rfl,r2,vb,rb,rfl,r3,rfl⟩:=ru;refine⟨p,_,rfl,cV.of gY,rfl,va,_,rfl,vb,_,rfl,rfl,?_⟩;exact h1 F1 _ _ H1 ((r1.set r2).set r3) ((bd.less i).trans (bd.less j)) ((iH.set hp).trans (iH.set kH))
 ·exact h1.elim
def K3(K:aq)(r:V->List V->Hp->VK->Prop)(to:TE)(t:TA):TE:=λσ H Q=>to σ H λx H1=>(∃p xs,x=.ref p/\H1 p=aa (.tup xs))/\t σ H1 λxs H2=>r x xs H2 Q
theorem Ik{name:Str}{id:String}{r:V->List V->Hp->VK->Prop}{to:TE}{t:TA}{apos cpos:Pos}{es:List aw}(slot:PySem.Slot "tuple" name id)(oj:typeOf (.builtin id)=pure (.type "method_descriptor"))(hm:xv X id r)(ho:PE X o to)(ha:PA X (e::es) t)(mI:e9 o name X.env (aG o X.env)=aG o X.env:=by rfl)(x6:((bU cpos (aH (e::es) X.env)).all (λx=>!x.1)&&(jW cpos (jX [] X.env)).all (λx=>x.1.isSome)&&decide ((e::es).length+([]:List im).length+(if([]:List im).isEmpty then 0 else 1)<30))=ah:=by rfl)(mJ:(apos.endLine == cpos.line)=ah:=by rfl) (hs:aH (e::es) X.env=(aj,aG e X.env)::aH es X.env:=by rfl) (Bz:(bU cpos (aH es X.env)).any (·.1)=aj:=by rfl):PE X (.Call (.Attribute o name apos) (e::es) [] cpos) (K3 X.K r to t):=by
 intro ae s σ H Q I h;refine wpAny_Call_method_late mI x6 mJ rfl (aQ (ho ae s σ H _ I h) λv s1 h'=>?_);obtain⟨x,H1,I1,r1,⟨p,xs,rfl,hp⟩,q1⟩:=h';cases r1;obtain⟨_,its,_,⟨ob,e1,e2,_⟩,o2,e3,e4⟩:=(show dy X.prog X.w H1 s1.heap p (.tup xs)from I1.hok p _ hp)
 refine⟨"tuple",id,PySem.F.plainAttrs_tuple,slot,oj,⟨ob,e1,e2⟩,λa z=>?_,?_⟩
 ·cases z;exact⟨o2,e3,e4⟩
 have hA:=ha cpos ae s1 σ H1 _ I1 q1;rw[hs]at hA ⊢;refine Bd (by show(aj||(bU cpos (aH es X.env)).any (·.1))=aj;rw[Bz] <;> rfl) (Be ?_);exact aQ hA λus s2 h2=>by obtain⟨vs,H2,I2,r2,q2⟩:=h2;exact hm ae s2 σ H2 (.ref p) vs (.ref p) us Q I2 rfl r2 q2
def qj(f:List PV->PV->Option PV)(d de:ag->R PV):ag->R PV:=λε=>(d ε).bind λx ε1=>match x with
 |.tup xs=>(de ε1).bind λk ε2=>aC (f xs k) ε2
 |_=>.no
theorem EN{apos cpos:Pos}(ho:DE X E o d)(he:DE X E e de)(mI:e9 o "count" X.env (aG o X.env)=aG o X.env:=by rfl)(mJ:(apos.endLine == cpos.line)=ah:=by rfl) (fY:lW e=aj:=by rfl):DE X E (.Call (.Attribute o "count" apos) [e] [] cpos) (qj kY d de):=λF S ε σ H Q rl h=>by
 have hs:=jE (es:=[]) (env:=X.env) fY;refine bJ (Ik PySem.F.slot_tuple_count PySem.F.type_tuple_count HD bB (ff bB gB hs) mI (by rw[hs];rfl) mJ hs rfl) (ho F S ε σ H _ rl ((Ok.bind h).imp λx ε1 F1 S1 H1 r1 g1 h1 v rv=>?_));split at h1
 ·rename_i xs;obtain⟨p,us,rfl,hp,ru⟩:=rv;refine⟨⟨p,us,rfl,hp⟩,he F1 S1 ε1 σ H1 _ r1 ((Ok.bind h1).imp λk ε2 F2 S2 H2 r2 g2 q w rw'=>?_)⟩;unfold kY at q;cases q1:cT k with
  |none=>rw[q1]at q;exact q.elim
  |some z=>
   cases q2:iz xs with
   |none=>rw[q1,q2]at q;exact q.elim
   |some ws=>rw[q1,q2]at q;obtain⟨rfl,hf⟩:=sD (ru.grow g2 r1.fit) q2;rw[i6 rw' q1];exact⟨p,us,z,rfl,rfl,cV.of (g2.imm r1.fit hp id),p7 q1,hf,q F2 S2 H2 r2 (bd.refl ..) _ rfl⟩
 ·exact h1.elim
theorem CJ(i:Nat){y:Str}{yp:Pos}{op:CmpOp}{r:R2}{f:PV->PV->Option PV}(ho:bY X (d7 op) r)(hp:P2 X.K r f)(hb:DE X E b db)(hm:ml op b=aj)(hN:X.N[i]?=aa y:=by rfl)(dQ:cx X.env.scope y:=by first|exact Or.inl rfl|exact Or.inr (Or.inl rfl)|exact Or.inr (Or.inr rfl))(hd:(y == ("__debug__" : Str))=aj:=by decide) (a8:(y == ("__classdict__" : Str))=aj:=by decide):DT X E (.Compare (.Name y yp) [op] [b] pos) (dB (lz f i db)):=λF S ε σ H Q rl h=>by obtain⟨a,ea,hw⟩:=O_ (Q:=λx H'=>∃k,x=.bl k/\Q k H') hp hb rl (oz h);exact pc (za ho (cF hN dQ hd a8) bB hm) ⟨_,ea,hw⟩
end
section
variable{X:Cx}
theorem DC:∀(vs:List ai) (ss:List Str),vs.length=ss.length->(∀(i:Nat) v x,vs[i]?=aa v->ss[i]?=aa x->∃t,v=.str x t)->gJ vs ss
 |[],[],_,_=>.nil
 |v::vs,x::ss,hl,h=>by obtain⟨t,rfl⟩:=h 0 v x rfl rfl;exact .cons x t (DC vs ss (xS hl) λi v x h1 h2=>h (i+1) v x (by simpa using h1) (by simpa using h2))
 |[],_::_,hl,_=>by cases hl
 |_::_,[],hl,_=>by cases hl
theorem Qz(hc:X.calm=ah):eG X (.builtin "sorted") (λxs H Q=>∃(d:ac) (kvs:List (aO×V)) (ls:List Tx),xs=[.ref d]/\H d=aa (.dK kvs)/\kvs.map (·.1)=ls.map (λx=>Sum.inr (tS x))/\ls.length<64/\∀l,H l=af->Q (.ref l) (upd H l (.lst (dZ (bf ls))))):=by
 intro ae s σ H xs us Q I r h;obtain⟨d,kvs,ls,rfl,hd,hk,jC,q⟩:=h;obtain⟨u,rfl,ru⟩:=vals1 r;cases ru;obtain⟨z,hs,vs,rel,dd⟩:=tL I.hok hd;obtain⟨ep,hat⟩:=dd.dictAt;have aS:vs.length=ls.length:=by have h1:=congrArg mv hk;simp only[c9]at h1;rw[←rel.length];exact h1
 refine zf (PySem.W.kdu_collect (PySem.W.kdl_dict (knd:=gz X.prog X.w) (kvs:=vs) (ep:=ep) hs) (u_ (I.ok.hd hc)) hat (by rw[←rel.length];exact z) λh' tk bb k hi=>?_);have hstr:gJ bb.toList (ls.map tS):=by
  refine DC _ _ (by rw[c9,uq,hi.1,aS]) λi v x h1 h2=>?_;obtain⟨ky,y,e1,e2⟩:=hi.2 i v (by rw[←GQ];exact h1);obtain⟨wv,e3,_⟩:=KV.at rel e1;have e4:(kvs.map (·.1))[i]?=aa ky:=by rw[iT,e3];rfl
  rw[hk,iT]at e4;rw[iT]at h2;cases e5:ls[i]? with
  |none=>rw[e5]at h2;cases h2
  |some l=>
   rw[e5]at e4 h2;cases e4;cases h2;exact Value.isStrOf_shape e2
 have I1:Inv X ae σ H {s with heap:=h',toks:=tk}:=I.kept (t':=tk) k;refine⟨ls.map tS,hstr,by rw[uq,hi.1,aS];exact jC,λh2 out aL e k2 ho b1 b2 b3=>?_⟩;exact⟨.ref _,_,Inv.sorted (s1:={s with heap:=h',toks:=tk}) (ss:=ls.map tS) I1 rfl jC k2 ho b1 b2 b3,rfl,q _ I1.fresh⟩
def o0:List (aO×PV)->Option (List Tx)
 |[]=>aa []
 | (.inr k,_)::r=>(o0 r).map (k.cps.toList::·)
 |_=>af
theorem Fg:∀{kvs:List (aO×PV)}{ls:List Tx},o0 kvs=aa ls->kvs.map (·.1)=ls.map (λx=>Sum.inr (tS x))
 |[],ls,h=>by cases h;rfl
 | (.inr k,_)::r,ls,h=>by simp only[o0,xH]at h;obtain⟨l,h1,rfl⟩:=h;rw[cQ,cQ,Fg h1,Ex]
 | (.inl _,_)::_,_,h=>by cases h
def vS(kvs:List (aO×PV)):Option PO:=(o0 kvs).bind λls=>if ls.length<64/\(∀x∈ls,x.length<=bC)then aa (.lst (ak (bf ls)))else af
def nL(i:Nat):ag->R PO:=λε=>(aC (cH ε i) ε).bind λkvs ε=>aC (vS kvs) ε
theorem gW.keys{K:aq}{H:Hp}{F:ac->Prop}{kvs:List (aO×PV)}{ws:List (aO×V)}(h:gW K H F kvs ws):ws.map (·.1)=kvs.map (·.1):=by
 unfold gW at h
 induction h with
 |nil=>rfl
 |cons r _ ih=>rw[cQ,cQ,ih,r.1]
theorem Mb{E:XK}(i:Nat){y:Str}{yp p pos:Pos}(hc:X.calm=ah)(hm:X.mg "sorted" = af)(hN:X.N[i]?=aa y:=by rfl)(dQ:cx X.env.scope y:=by first|exact Or.inl rfl|exact Or.inr (Or.inl rfl)|exact Or.inr (Or.inr rfl))(hd:(y == ("__debug__" : Str))=aj:=by decide) (a8:(y == ("__classdict__" : Str))=aj:=by decide) (hg:Gl X "sorted":=by rfl):DN X E (.Call (.Name "sorted" p) [.Name y yp] [] pos) (nL i):=λF S ε σ H Q rl h=>by
 unfold nL at h;cases e0:cH ε i with
 |none=>rw[e0]at h;exact h.elim
 |some kvs=>
  rw[e0]at h;simp only[bw,R.bind_ok]at h;obtain⟨a,ws,ea,ha,hk,ia,_⟩:=rl.dkAt (kq e0);unfold vS at h;cases e1:o0 kvs with
  |none=>rw[e1]at h;exact h.elim
  |some ls=>
   rw[e1,jj]at h;split at h
   ·rename_i hh;refine bJ (l9 (Qz hc) hg hm ng (ff (cF hN dQ hd a8) gB (jE rfl)) (by decide) (by decide) (jE rfl) rfl) ⟨.ref a,ea,a,ws,ls,rfl,ha,by rw[hk.keys];exact Fg e1,hh.1,λl hl=>?_⟩;have al:Al F F H (L2.upd H l (.lst (dZ (bf ls)))):=Al.new0 hl;refine h F S _ (rl.al al) al.grow l (λc=>c=l) ⟨⟨_,upd_same,Rb.mpr ⟨rfl,λx hx=>hh.2 x ((eY _).mem_iff.mp hx)⟩⟩,λc=>nZ⟩ λb z=>?_;subst z;exact⟨hl,λz=>Exists.elim (rl.ex _ z) (λo w=>by rw[hl]at w;cases w),λ⟨j,z⟩=>Exists.elim (rl.foot j b z).2.2 (λo w=>by rw[hl]at w;cases w.1),_,upd_same,trivial⟩
   ·exact h.elim
end
end Pu
namespace L2
def Jm(κ:KeyKind)(p:Keyed):Prop:=∃a,κ.keyOf p.1=aa a
structure SB(kz:SortKind)(st:SortSt):Prop where
 kind:kindOf st=kz
 failed:failedOf st=af
section
variable{κ:KeyKind}{kz:SortKind}
theorem Pl(a:Array Keyed)(i j:Nat):(a.extract i j).toList=(a.toList.drop i).take (j-i):=by simp[Array.toList_extract,List.extract_eq_take_drop]
variable{a b out:Array Keyed}{ia ib:Nat}
end
section
variable{κ:KeyKind}{kz:SortKind}
theorem LX(a:Array Keyed)(n:Nat):(a.extract 0 n).toList=a.toList.take n:=by rw[Pl];simp
variable{a b out:Array Keyed}{na nb:Nat}
end
section
variable{κ:KeyKind}{kz:SortKind}
def AllK(κ:KeyKind)(a:Array Keyed):Prop:=∀i (hi:i<a.size),Jm κ a[i]
end
end L2
namespace Pu
open L2
def qP(f:Str)(v:PV):List (Str×PV)->List (Str×PV)
 |[]=>[(f,v)]
 | (g,x)::r=>if g=f then(g,v)::r else(g,x)::qP f v r
section
variable{K:aq}{H:Hp}{F:ac->Prop}
theorem g_.look{f:Str}{pv:PV}{fs:List (Str×PV)}{ws:List (Str×V)}(h:g_ K H F fs ws)(e:fs.lookup f=aa pv):∃v,ws.lookup f=aa v/\aU K H F pv v:=by
 unfold g_ at h
 induction h with
 |nil=>cases e
 |@cons p q ps qs r _ ih=>
  obtain⟨pn,pv'⟩:=p;obtain⟨qn,qv⟩:=q;obtain⟨r1,r2⟩:=r;simp only at r1 r2;subst r1;rw[ji]at e ⊢;cases hb:f == pn with
  |true=>rw[hb]at e;cases e;exact⟨qv,rfl,r2⟩
  |false=>rw[hb]at e;exact ih e
theorem g_.miss{f:Str}{fs:List (Str×PV)}{ws:List (Str×V)}(h:g_ K H F fs ws)(e:fs.lookup f=af):ws.lookup f=af:=by
 unfold g_ at h
 induction h with
 |nil=>rfl
 |@cons p q ps qs r _ ih=>
  obtain⟨pn,pv'⟩:=p;obtain⟨qn,qv⟩:=q;obtain⟨r1,r2⟩:=r;simp only at r1 r2;subst r1;rw[ji]at e ⊢;cases hb:f == pn with
  |true=>rw[hb]at e;cases e
  |false=>rw[hb]at e;exact ih e
theorem g_.len{fs:List (Str×PV)}{ws:List (Str×V)}(h:g_ K H F fs ws):ws.length=fs.length:=by
 unfold g_ at h
 induction h with
 |nil=>rfl
 |cons _ _ ih=>simp[ih]
theorem g_.put{f:Str}{y:PV}{v:V}{fs:List (Str×PV)}{ws:List (Str×V)}(h:g_ K H F fs ws)(r:aU K H F y v):g_ K H F (qP f y fs) (eQ f v ws):=by
 unfold g_ at h ⊢
 induction h with
 |nil=>exact .cons ⟨rfl,r⟩ .nil
 |@cons p q ps qs r' t ih=>
  obtain⟨pn,pv'⟩:=p;obtain⟨qn,qv⟩:=q;obtain⟨r1,r2⟩:=r';simp only at r1 r2;subst r1;unfold qP eQ;split
  ·exact .cons ⟨rfl,r⟩ t
  ·exact .cons ⟨rfl,r2⟩ ih
end
def oK(ε:ag)(C:ac)(i:Nat):Option (List (Str×PV)):=match ε[i]? with
 |some (.own (.ins D fs))=>if D=C then aa fs else af
 |_=>af
theorem vo{ε:ag}{C:ac}{i:Nat}{fs:List (Str×PV)}(h:oK ε C i=aa fs):ε[i]?=aa (.own (.ins C fs)):=by
 unfold oK at h;split at h
 ·rename_i D fs' e;split at h
  ·rename_i hD;subst hD;cases h;exact e
  ·cases h
 ·cases h
section
variable{X:Cx}{E:XK}{pin:List Nat}{e value:aw}{f x:Str}{C:ac}{p pos pos':Pos}{dv:ag->R PV}
def yV(C:ac)(i:Nat)(f:Str)(dv:ag->R PV):ag->R aK:=λε=>(dv ε).bind λy ε1=>(aC (oK ε1 C i) ε1).bind λfs ε1=>if fs.length<1000 then .ok .next (ε1.set i (.own (.ins C (qP f y fs))))else .no
theorem My(i:Nat)(c:Cls X.K C)(n:gF X.K C f)(BH:DE X E value dv)(hN:X.N[i]?=aa x:=by rfl)(hv:cx X.env.scope x:=by first|exact Or.inl rfl|exact Or.inr (Or.inl rfl)|exact Or.inr (Or.inr rfl))(hd:(x == ("__debug__" : Str))=aj:=by decide)(a8:(x == ("__classdict__" : Str))=aj:=by decide) (hs:ik value (aa (.Attribute (.Name x p) f pos')) pos.line X.env=pure aj:=by rfl):DS X E pin (.Assign [.Attribute (.Name x p) f pos'] value pos) (yV C i f dv):=λF S ε σ H D rl h=>by
 refine fI (Cv (cF hN hv hd a8) bB hs) (BH F S ε σ H _ rl (h.bindE.imp λy ε1 F1 S1 H1 r1 g1 q v rv=>?_));cases e0:oK ε1 C i with
 |none=>rw[e0]at q;exact q.elim
 |some fs=>
  rw[e0]at q;simp only[bw,R.bind_ok]at q;obtain⟨a,ea,⟨dx,ws,ha,hf⟩,_⟩:=r1.own i _ (vo e0);split at q
  ·rename_i hl;have hf2:=hf.put (f:=f) rv;obtain⟨r3,g3⟩:=r1.updO (po':=.ins C (qP f y fs)) (o':=.ins C dx (eQ f v ws)) (vo e0) rfl ea trivial λH' m1 m2 hH' Sa hSa=>⟨⟨_,_,hH',hf2.mono m1⟩,hSa⟩
   exact⟨.ref a,ea,a,C,dx,ws,rfl,ha,c,n,by rw[hf.len];exact hl,q F1 S1 σ _ r3 g3 (iH.refl _ _)⟩
  ·exact q.elim
end
section
variable{X:Cx}{CX:eI}{k:Nat}{f C:ac}{fd:gn}{ps:List Str}{sp:Sp}{E:XK}{ae:List (ac×Obj)}{σ:St}{H:Hp}{s:am}{Q:VK}{us:List ai}{vs:List V}
theorem Gs(F:gL X.prog X.w X.K X.mg X.base CX k f fd ps sp)(hr:cB k X.A)(hb:Binds X.K fd ps [])(I:Inv X ae σ H s)(r:bF vs us)(h:sp vs H Q E):au (aB X.prog X.w) X.A (call (.ref f) us) (EP X ae σ Q) (λe s'=>∃s1 H1,Inv X ae σ H1 s1/\CX X.stack H1 s1 E e s') s:=by
 have hl:us.length=ps.length:=by rw[←r.length];exact F.len _ _ _ _ h
 refine uw (nV (F.run X.A X.stack s H ⟨us,[]⟩ us vs Q E hr I.env0 (by have:=hb s us I.kIn (by rw[gq];exact hl);rwa[gq]at this) r h) λrr s' hq=>?_);cases rr with
 |error er=>exact⟨s,H,I,hq⟩
 |ok fl=>
  cases fl with
  |ret u=>exact I.after hq
  |next=>exact fW hq
  |brk=>exact fW hq
  |cont=>exact fW hq
end
def jq(ε:ag)(as:List bL)(g:ag->R Slot):R Slot:=(aC (if(bu as).Nodup then bW ε as else af) ε).bind λss ε=>cb ε as (g ss)
section
variable{K:aq}{E:XK}{F:ac->Prop}{S:Nat->ac->Prop}{ε:ag}{σ:St}{H:Hp}{as:List bL}{vs:List V}{g:ag->R Slot}
theorem v3{D:Slot->ag->(ac->Prop)->(Nat->ac->Prop)->Hp->Prop}(r:aI K F S ε σ H)(av:eO K σ F H as vs)(h:Ok K E σ F S H (jq ε as g) D):bp K g vs H (λv H'=>∃sl ε' F' S' Sr,aI K F' S' ε' σ H'/\bd (U S) (U S') F F' H H'/\jO K H' F' sl v Sr/\(∀b,Sr b->H b=af/\¬F' b/\¬U S' b/\∃o,H' b=aa o/\cy o)/\D sl ε' F' S' H') E:=by
 unfold jq at h;have q:=Ok.bind h;by_cases nd:(bu as).Nodup
 ·rw[if_pos nd]at q;cases es:bW ε as with
  |none=>rw[es]at q;exact q.elim
  |some ss=>
   rw[es]at q;have q:=q F S H r (bd.refl ..);dsimp only at q;refine⟨F,kj as S,ss,r.cal av es nd,?_⟩;cases eg:g ss with
   |no=>rw[eg]at q;exact q.elim
   |er cv aL=>
    rw[eg]at q;intro y F' S' H' r' g';unfold cb at q;dsimp only at q;by_cases kp:b_ as aL=ah
    ·rw[if_pos kp]at q;obtain⟨S2,r2,g2,_⟩:=r.called av es nd r' g' (λ_ z=>z) (k8 kp);exact q y F' S2 H' r2 g2
    ·rw[if_neg kp]at q;exact q.elim
   |ok sl aL=>
    rw[eg]at q;intro v F' S' H' Sr r' g' rv lo fr;unfold cb at q;dsimp only at q;by_cases kp:b_ as aL=ah
    ·rw[if_pos kp]at q;obtain⟨S2,r2,g2,u2⟩:=r.called av es nd r' g' (λ_ z=>.inl z) (k8 kp);refine⟨sl,_,F',S2,Sr,r2,g2,rv,λb z=>⟨fr b z,(lo b z).1,λw=>?_,(lo b z).2.2⟩,q F' S2 H' r2 g2⟩;rcases u2 b w with w|⟨i,w⟩
     ·exact(lo b z).2.1 w
     ·obtain⟨_,_,o,y1,_⟩:=r.foot i b w;rw[fr b z]at y1;cases y1
    ·rw[if_neg kp]at q;exact q.elim
 ·rw[if_neg nd]at q;exact q.elim
theorem wD{Q Q':VK}(h:bp K g vs H Q E)(hq:∀v H',Q v H'->Q' v H'):bp K g vs H Q' E:=by
 obtain⟨F,S,ss,rl,ok⟩:=h;refine⟨F,S,ss,rl,?_⟩;cases eg:g ss with
 |no=>rw[eg]at ok;exact ok
 |er c aL=>rw[eg]at ok;exact ok
 |ok sl aL=>rw[eg]at ok;exact λv F' S' H' Sr r' g' rv lo fr=>hq v H' (ok v F' S' H' Sr r' g' rv lo fr)
theorem eO.al{F':ac->Prop}{H':Hp}(al:Al F F' H H'):∀{as:List bL}{vs:List V},eO K σ F H as vs->eO K σ F' H' as vs
 |[],_,h=>h
 |.inl _::_,_,⟨v,r,e,h1,h2⟩=>⟨v,r,e,al.rep h1,eO.al al h2⟩
 |.inr _::_,_,⟨v,r,e,h1,h2⟩=>⟨v,r,e,h1,eO.al al h2⟩
end
structure AW(CX:eI)(P:ba)(w:aP)(K:aq)(mg:Str->Option ai)(base:aE)(C:ac)(k:Nat)(ps:List Str)(sp:Sp):Prop where
 ex:∃f fd,Mk K C f/\gL P w K mg base CX k f fd ps sp/\Binds K fd ps []
structure kZ(CX:eI)(P:ba)(w:aP)(K:aq)(mg:Str->Option ai)(base:aE)(C:ac)(m:Str)(k:Nat)(ps:List Str)(sp:Sp):Prop where
 ex:∃f fd,vg K C m f/\gL P w K mg base CX k f fd ps sp/\Binds K fd ps []
def vO(K:aq)(C:ac)(qual:Str)(st:aR):Prop:=∃f fd,Mk K C f/\kT K "__init__" qual st f fd
def jp(K:aq)(C:ac)(m qual:Str)(st:aR):Prop:=∃f fd,vg K C m f/\kT K m qual st f fd
theorem Rg{K:aq}{C:ac}{qual:Str}{st:aR}{f:ac}{oc kV dc pm cd ct:ai}{od an:Option ac}{sl:Array (Option ai)}(m:PySem.W.makesIn K C=ah)(i:il K (.ref C) "__init__" = aa (aa (.ref f)))(n:xA K (.ref f)=ah)(p:jV K (.ref C)=ah)(l:K.lookup f=aa ⟨oc,od,.func (fk "__init__" qual (gc st) (c7 st) (aN st) .none kV dc pm an cd ct),sl⟩) (c:pC K cd qual=ah) (k:jV K (.ref f)=ah):vO K C qual st:=⟨f,_,⟨m,i,n,p⟩,wN l c k⟩
theorem Rx{K:aq}{C:ac}{m qual:Str}{st:aR}{f:ac}{oc kV dc pm cd ct:ai}{od an:Option ac}{sl:Array (Option ai)}(i:il K (.ref C) m=aa (aa (.ref f)))(n:xA K (.ref f)=ah)(l:K.lookup f=aa ⟨oc,od,.func (fk m qual (gc st) (c7 st) (aN st) .none kV dc pm an cd ct),sl⟩) (c:pC K cd qual=ah) (k:jV K (.ref f)=ah):jp K C m qual st:=⟨f,_,⟨i,n,k⟩,wN l c k⟩
section
variable{CX:eI}{P:ba}{w:aP}{K:aq}{mg:Str->Option ai}{base:aE}{C:ac}{m qual:Str}{st:aR}{N ps:List Str}{k n:Nat}{d:ag->R aK}{pin:List Nat}
theorem KZ(D:vO K C qual st)(Sc:bI N ps (aN st))(hn:N.length=ps.length+n)(hb:∀(kV doc pm:ai) (an:Option ac) (aF ct:ai) (us:List ai),us.length=ps.length->eV (fk "__init__" qual (gc st) (c7 st) (aN st) .none kV doc pm an aF ct) ⟨us,[]⟩=pure (ps.zip us))(eW:∀(f:ac) (aF:ai) (A:a6) (outer:List Env) (s:am) (H:Hp) (E:XK),cB k (A.deeper (gu qual (aN st) s.heap.objs.size f aF))->fc (gd CX P w K mg base N qual (aN st) f aF A outer s H E) E pin (c7 st) d):AW CX P w K mg base C (k+1) ps (bp K (bD ps.length pin (bq n d))):=by obtain⟨f,fd,M,Fn⟩:=D;exact⟨f,fd,M,D7 Fn Sc hn hb eW,Fn.binds hb⟩
end
end Pu
namespace Mx
def F5:Nat->Nat->Nat
 |0,x=>x
 |n+1,x=>F5 n (5*x+1)
end Mx
namespace Pu
open L2
section
variable{X:Cx}{E:XK}{pin:List Nat}{e b c:aw}{de db dc:ag->R PV}{pos:Pos}
def l5(i:Nat):ag->R PV:=λε=>(aC (cH ε i) ε).bind λkvs ε=>.ok (.int (kvs.length:Nat)) ε
theorem FE(i:Nat){y:Str}{p yp:Pos}(hm:X.mg "len" = af)(hN:X.N[i]?=aa y:=by rfl)(dQ:cx X.env.scope y:=by first|exact Or.inl rfl|exact Or.inr (Or.inl rfl)|exact Or.inr (Or.inr rfl))(hd:(y == ("__debug__" : Str))=aj:=by decide) (a8:(y == ("__classdict__" : Str))=aj:=by decide) (hg:Gl X "len":=by rfl)(he:aH [.Name y yp] X.env=(aj,aG (.Name y yp) X.env)::aH [] X.env:=by rfl) (cz:(bU pos (aH [] X.env)).any (·.1)=aj:=by rfl):DE X E (.Call (.Name "len" p) [.Name y yp] [] pos) (l5 i):=λF S ε σ H Q r h=>by
 unfold l5 at h;cases e0:cH ε i with
 |none=>rw[e0]at h;exact h.elim
 |some kvs=>rw[e0]at h;obtain⟨a,ws,ea,ha,hk,_⟩:=r.dkAt (kq e0);refine bJ (l9 Kh hg hm rfl (ff (cF hN dQ hd a8) gB he) (by decide) (by decide) he cz) ⟨_,ea,a,ws,rfl,ha,?_⟩;rw[hk.len];exact h F S H r (bd.refl ..) _ rfl
def iJ(neg:Bool)(i:Nat)(db:ag->R PV):ag->R PV:=λε=>(db ε).bind λk ε1=>(aC (cH ε1 i) ε1).bind λkvs ε1=>aC ((iu k).map λk=>.bl (neg^^(iI kvs k).isSome)) ε1
theorem HM{i:Nat}(neg:Bool){F:ac->Prop}{S:Nat->ac->Prop}{ε:ag}{σ:St}{H:Hp}{Q:VK}(hb:DE X E b db)(rl:aI X.K F S ε σ H)(h:Ok X.K E σ F S H (iJ neg i db ε) (λpv _ F' _ H'=>∀v,aU X.K H' F' pv v->Q v H')):f9 X b σ H λy H1=>∃x,σ[i]?=aa (aa x)/\∃a o,x=.ref a/\lI H1 a y o/\Q (.bl (neg^^o.isSome)) H1:=by
 unfold iJ at h;refine hb F S ε σ H _ rl ((Ok.bind h).imp λk ε1 F1 S1 H1 r1 g1 q u ru=>?_);cases e1:cH ε1 i with
 |none=>rw[e1]at q;exact q.elim
 |some kvs=>
  rw[e1]at q;simp only[bw,R.bind_ok]at q;obtain⟨a,ws,ea,ha,hk,_⟩:=r1.dkAt (kq e1);cases e2:iu k with
  |none=>rw[e2]at q;exact q.elim
  |some ky=>
   rw[e2,uF]at q;rw[tZ ru e2];refine⟨.ref a,ea,a,ja ws ky,rfl,lI.k ha,?_⟩;rcases hk.val ky with⟨x,v,h1,h2,h3⟩|⟨h1,h2⟩
   ·rw[h1]at q;rw[h2];exact q F1 S1 H1 r1 (bd.refl ..) _ rfl
   ·rw[h1]at q;rw[h2];exact q F1 S1 H1 r1 (bd.refl ..) _ rfl
theorem zI(i:Nat){y:Str}{yp:Pos}(hu:X.A.units+64<cLine)(hb:DE X E b db)(hN:X.N[i]?=aa y:=by rfl)(dQ:cx X.env.scope y:=by first|exact Or.inl rfl|exact Or.inr (Or.inl rfl)|exact Or.inr (Or.inr rfl))(hd:(y == ("__debug__" : Str))=aj:=by decide) (a8:(y == ("__classdict__" : Str))=aj:=by decide) (hm:ml .In (.Name y yp)=aj:=by rfl):DT X E (.Compare b [.In] [.Name y yp] pos) (dB (iJ aj i db)):=λF S ε σ H Q rl h=>by refine pc (OY (Mi ∅ bB (cF hN dQ hd a8)) hm) ?_;have:=HM (Q:=λv H'=>∃k,v=.bl k/\Q k H') aj hb rl (oz h);simp only[kE]at this;exact this
def sC(db dc:ag->R PV):ag->R PO:=λε=>(db ε).bind λk ε1=>(dc ε1).bind λy ε2=>(aC (iu k) ε2).bind λky ε2=>.ok (.dK [(ky,y)]) ε2
theorem KW(hb:DE X E b db)(hc:DE X E c dc):DN X E (.Dict [aa b] [c] pos) (sC db dc):=λF S ε σ H Q rl h=>by
 refine bJ (IW (ML bB bB Pn) rfl rfl (by simp) (by simp)) λp hp=>?_;have al:Al F F H (upd H p (.dK [])):=Al.new0 hp;have nF:¬F p:=λz=>by obtain⟨o,q⟩:=rl.ex p z;rw[hp]at q;cases q
 have nS:¬U S p:=λ⟨i,z⟩=>by obtain⟨_,_,o,q,_⟩:=rl.foot i p z;rw[hp]at q;cases q
 have ga:bd (U S) (U S) F F H (upd H p (.dK [])):=al.grow;refine hb F S ε σ _ _ (rl.al al) ((Ok.bindB h ga).imp λk ε1 F1 S1 H1 r1 g1 h1 u ru=>?_);obtain⟨e1,nF1,nS1⟩:=g1.stay (upd_same:upd H p (.dK []) p=aa (.dK [])) nS nF;refine hc F1 S1 ε1 σ H1 _ r1 ((Ok.bindB h1 (ga.trans g1)).imp λy ε2 F2 S2 H2 r2 g2 h2 w rw'=>?_);obtain⟨e2,nF2,nS2⟩:=g2.stay e1 nS1 nF1;cases ek:iu k with
 |none=>rw[ek]at h2;exact h2.elim
 |some ky=>
  rw[ek]at h2;simp only[bw,R.bind_ok]at h2;have ru2:aU X.K H2 F2 k u:=ru.grow g2 r1.fit;refine⟨e2,[(ky,w)],?_,by simp,?_⟩
  ·rw[cQ,rH,←tZ ru2 ek]
  ·rw[show ri [] [(ky,w)]=[(ky,w)] from rfl];have gl:bd (λb=>U S2 b\/b=p) (U S2) F2 F2 H2 (upd H2 p (.dK [(ky,w)])):=⟨λ_ z=>z,λb o e n=>by rw[bh λz=>n (.inr z)];exact e,λb o e=>by
    by_cases hb:b=p
    ·subst hb;exact⟨_,upd_same⟩
    ·exact⟨o,by rw[bh hb];exact e⟩,λ_ z=>.inl z,λ_ z=>.inl (.inl z)⟩
   have fit:jo (λb=>U S2 b\/b=p) F2 H2:=λb z=>by
    rcases z with z|rfl
    ·exact r2.fit b z
    ·exact⟨nF2,_,e2,trivial⟩
   have r3:aI X.K F2 S2 ε2 σ (upd H2 p (.dK [(ky,w)])):=by
    refine⟨r2.len,λb z=>let ⟨o,q⟩:=r2.ex b z;gl.there b o q,λj pv e=>?_,λj po e=>?_,λj b z=>?_,r2.dist⟩
    ·obtain⟨w,x1,x2⟩:=r2.val j pv e;exact⟨w,x1,x2.grow gl fit⟩
    ·obtain⟨w,x1,x2⟩:=r2.own j po e;refine⟨w,x1,x2.mono (λ_ _ q=>q.grow gl fit) (λ_ _ q=>q.grow gl fit) λb o z q=>?_⟩;rw[bh (by rintro rfl;exact nS2 ⟨j,z⟩)];exact q
    ·obtain⟨x1,x2,o,x3,x4⟩:=r2.foot j b z;exact⟨x1,x2,o,by rw[bh (by rintro rfl;exact nS2 ⟨j,z⟩)];exact x3,x4⟩
   have gg:=(ga.trans g1).trans g2;have g3:bd (U S) (U S2) F F2 H (upd H2 p (.dK [(ky,w)])):=by
    refine⟨gg.fro,λb o e n=>?_,λb o e=>?_,gg.fnew,gg.onew⟩
    ·rw[bh (by rintro rfl;rw[hp]at e;cases e)];exact gg.keep b o e n
    ·obtain⟨o',q⟩:=gg.there b o e;exact gl.there b o' q
   refine h2 F2 S2 _ r3 g3 p (λb=>b=p) ⟨⟨_,upd_same,.cons ⟨rfl,rw'.grow gl fit⟩ .nil⟩,λb=>nZ⟩ λb z=>?_;subst z;exact⟨hp,nF2,nS2,_,upd_same,trivial⟩
end
end Pu
namespace L2
open Mx
theorem least{p:Nat->Prop}:∀(n:Nat),p n->∃m,m<=n/\p m/\∀k,k<m->¬p k
 |0,h=>⟨0,bt _,h,λk hk=>absurd hk (Nat.not_lt_zero _)⟩
 |n+1,h=>by
  by_cases z:∃m,m<=n/\p m/\∀k,k<m->¬p k
  ·obtain⟨m,a,b,c⟩:=z;exact⟨m,∅,b,c⟩
  ·refine⟨n+1,bt _,h,λk hk hp=>z ?_⟩;obtain⟨m,a,b,c⟩:=least k hp;exact⟨m,∅,b,c⟩
section
variable{P:ba}{w:aP}{A:a6}{E:ai->am->Prop}{s:am}
structure Keyd(P:ba)(w:aP)(K:Type)[DecidableEq K] where
 is:aE->K->ai->Prop
 hash:K->Int
 room:a6->Prop
 keep:∀{h h':aE}{k:K}{v:ai},is h k v->(∀b o,h.get? b=aa o->o.cls=.type "tuple"->h'.get? b=aa o)->is h' k v
 ref:∀{h:aE}{k:K}{v:ai},is h k v->∃a o,v=.ref a/\h.get? a=aa o
 eqBool:∀{A:a6}{E:ai->am->Prop}{s:am}{x y:K}{u v:ai}{Q:Bool->am->Prop},room A->is s.heap x u->is s.heap y v->Q (decide (x=y)) s->au (aB P w) A (PySem.eqBool u v) Q E s
 quiet:∀{A:a6}{E:ai->am->Prop}{s:am}{k:K}{v:ai}{Q:Bool->am->Prop},is s.heap k v->Q ah s->au (aB P w) A (eqIsQuiet 8 v) Q E s
 cls:∀{A:a6}{E:ai->am->Prop}{s:am}{k:K}{v:ai}{Q:Bool->am->Prop},is s.heap k v->Q aj s->au (aB P w) A (ofAClassStatement 8 v) Q E s
 hbv:∀{A:a6}{E:ai->am->Prop}{s:am}{k:K}{v:ai}{Q:Bool->am->Prop},is s.heap k v->Q aj s->au (aB P w) A (hashByValue 8 v) Q E s
variable{K:Type}[DecidableEq K]{kd:Keyd P w K}
end
section
open PySem.SeqAt
open PySem.AutoSeq1 (wpAny_loadPart')
open PySem.MeetsSeq PySem.MeetsSeq2 PySem.MeetsSeq3
end
def wz(K:aq)(a:ac):It :=⟨λi H=>∃xs x,bZ K H a xs/\xs[i]?=aa x,λi H v H'=>∃p x,H p=af/\v=.ref p/\H'=upd H p (.tup [.int i,x])/\∀ys,bZ K H a ys->ys[i]?=aa x,λi H=>∃xs,bZ K H a xs/\xs.length<=i⟩
theorem Nw{P:ba}{w:aP}{K:aq}{es:List aw}{k:Nat}{pos:Pos}(a e it:ac)(dw:e≠it):qr P w K (.Tuple es k pos) (wz K a) [e,it] e (λi h=>(∃old,IsEnum h e it (i:Nat) old)/\h.IsListIter it a i) where
 mem:=by simp
 obj:=λi h ⟨⟨old,he⟩,st⟩ b hb=>by
  simp only[bQ,iV,or_false]at hb;rcases hb with rfl|rfl
  ·exact⟨_,he,λv z=>by cases z⟩
  ·obtain⟨o,e,c,d⟩:=st;exact⟨o,e,λv z=>by rw[d]at z;cases z⟩
 keep:=λi h h' ⟨⟨old,he⟩,st⟩ k=>⟨⟨old,k e (by simp) _ he⟩,st.at λo e=>k it (by simp) o e⟩
 item:=by
  intro X hP hw hK hc i ae s σ H E I hf st hg;subst hP hw hK;obtain⟨⟨old,he⟩,st⟩:=st;obtain⟨xs,x,hq,hx⟩:=hg;obtain⟨its,rv,p,hz⟩:=I.list hq;obtain⟨u,hu,ru⟩:=rv.get hx;obtain⟨f0,f1,f2,f3,f4,f5⟩:=hf e (by simp);obtain⟨g0,g1,g2,g3,g4,g5⟩:=hf it (by simp);refine wpAny_pyNext_enum_item he st p.isList (x:=u) (by simpa using hu) dw λh' he' iZ ht hsz kp=>⟨_,rfl,?_⟩
  refine wpAny_letOwnedTupleGo_enum (s:={s with heap:=h',toks:=s.toks+1}) he' λh2 he2 sb=>?_;have hpe:s.heap.objs.size≠e:=pB (bN he);have ht2:h2.get? s.heap.objs.size=aa {cls:=.type "tuple",data:=.seq #[.int i s.toks,u]}:=(sb.2 _ hpe).trans ht;have kp2:∀b o,b≠e->b≠it->s.heap.get? b=aa o->h2.get? b=aa o:=λb o h1 h3 q=>(sb.2 b h1).trans (kp b o h1 h3 q);have fr:=I.fresh;have hn:∀b u,H b=aa u->b≠s.heap.objs.size:=λb u q z=>by rw[z,fr]at q;cases q
  have there:∀b o,s.heap.get? b=aa o->∃o',h2.get? b=aa o':=λb o q=>by
   by_cases h1:b=e
   ·subst h1;exact⟨_,he2⟩
   ·by_cases h3:b=it
    ·subst h3;obtain⟨oi,e1,_⟩:=iZ;exact⟨oi,(sb.2 b h1).trans e1⟩
    ·exact⟨o,kp2 b o h1 h3 q⟩
  have I2:Inv X ae σ (upd H s.heap.objs.size (.tup [.int i,x])) {s with heap:=h2,toks:=s.toks+1}:=by
   refine I.call' (ch:=[e,it]) rfl ⟨λb o q n _ kI=>kp2 b o (λz=>kI (by simp[z])) (λz=>kI (by simp[z])) q,λb o q n _ kI=>⟨o.slots,kp2 b o (λz=>kI (by simp[z])) (λz=>kI (by simp[z])) q⟩,λb o q n _=>by rw[bh (dr (bN q))];exact n,λb o q _=>there b o q,λb ys q=>by rw[bh (hn b _ q)];exact q,λb o u q=>by rw[bh (hn b _ q)];exact q,λb ps q=>by rw[bh (hn b _ q)];exact q⟩ (λb v q=>?_) I.bare λb hb=>?_
   ·by_cases hb:b=s.heap.objs.size
    ·subst hb;rw[upd_same]at q;cases q;exact⟨by show 2<=bn;decide,[.int i s.toks,u],.cons ⟨_,rfl⟩ (.cons ru .nil),⟨_,ht2,rfl,_,rfl⟩,_,ht2,rfl⟩
    ·rw[bh hb]at q;have ne1:∀c,H c≠af->c≠e/\c≠it:=λc hc=>⟨λz=>hc (by rw[z];exact f0),λz=>hc (by rw[z];exact g0)⟩
     refine(I.hok b v q).stay (λc o hc r=>?_) (λc r=>by rw[bh (hn c _ r)];exact r) λc ys r=>by rw[bh (hn c _ r)];exact r
     have:=ne1 c (by rcases hc with z|z <;> (first | (rw[←z,q];simp) | (rw[z,q];simp) | (rw[z];simp)));exact kp2 c o this.1 this.2 r
   ·simp only[bQ,iV,or_false]at hb;rcases hb with rfl|rfl
    ·exact⟨f3,f1,f4,f5⟩
    ·exact⟨g3,g1,g4,g5⟩
  refine⟨.ref s.heap.objs.size,_,I2,rfl,⟨s.heap.objs.size,x,fr,rfl,rfl,λys hy=>by rw[I.list_inj hy hq];exact hx⟩,⟨⟨u,(show((i+1:Nat):Int)=(i:Int)+1 by lia) ▸ he2⟩,iZ.at λo q=>(sb.2 it dw.symm).trans q⟩,λb hb=>?_⟩;simp only[bQ,iV,or_false]at hb;rcases hb with rfl|rfl
  ·rw[bh (c8 hpe)];exact f0
  ·obtain⟨oi,e1,_⟩:=st;rw[bh (dr (bN e1))];exact g0
 done:=by intro X hP hw hK hc i ae s σ H E I hf st hg;subst hP hw hK;obtain⟨⟨old,he⟩,st⟩:=st;obtain⟨xs,hq,hx⟩:=hg;obtain⟨its,rv,p,hz⟩:=I.list hq;obtain⟨g0,g1,g2,g3,g4,g5⟩:=hf it (by simp);have hl:=rv.length;exact wpAny_pyNext_enum_end (I.ok.hd hc) he st p.isList (by simp;lia) λh' eb=>⟨rfl,I.turned (t':=s.toks) (λb o hb e=>eb b o hb e) g0 g1 g3 g4 g5⟩
 self:=λ_ _ _ _ _ st h=>wpAny_pyIter_enum st.1.choose_spec h
section
variable{X:Cx}{es:List aw}{k:Nat}{tp:Pos}
def Li(K:aq)(ta:TA):TI:=λσ H R=>ta σ H λvs H1=>∃a xs,vs=[.ref a]/\bZ K H1 a xs/\(xs.length<=bn->R (wz K a) H1)
theorem K8{e:aw}{ta:TA}{p pos:Pos}(hg:Gl X "enumerate")(hm:X.mg "enumerate" = af)(ha:PA X [e] ta)(hs:aH [e] X.env=[(aj,aG e X.env)]:=by rfl):PI X (.Tuple es k tp) (.Call (.Name "enumerate" p) [e] [] pos) (Li X.K ta):=by
 intro ae s σ H R I h;refine Call_ (t0 I hg hm (show eE "enumerate" = aa (.type "enumerate") by decide +kernel) (GD (aQ (ha pos ae s σ H _ I h) λus s1 ⟨vs,H1,I1,r1,q1⟩=>?_) hs rfl));obtain⟨a,xs,e,hq,q⟩:=q1;subst e;obtain⟨u,rfl,ru⟩:=vals1 r1;cases ru;obtain⟨its,rv,pl,hz⟩:=I1.list hq;refine call_enumerate_list pl.isList λh' he st hsz kp=>?_;refine wpAny_pyIter_enum (s:={s1 with heap:=h'}) he ?_;have I2:Inv X ae σ H1 {s1 with heap:=h'}:=I1.kept (t':=s1.toks) kp;refine⟨s1.heap.objs.size+1,[s1.heap.objs.size+1,s1.heap.objs.size],_,_,H1,rfl,I2,Nw a _ _ (Nat.succ_ne_self _),⟨⟨_,he⟩,st⟩,λb hb=>?_,q hz⟩;simp only[bQ,iV,or_false]at hb;rcases hb with rfl|rfl
 ·exact I1.fpOk (rA _) (I1.hok.fresh (rA _))
 ·exact I1.fpOk (bt _) (I1.hok.fresh (bt _))
def Ae:V->Hp->St->Prop:=λv H vs=>∃p x y,v=.ref p/\H p=aa (.tup [x,y])/\vs=[aa x,aa y]
variable{scope:dO}{x y:Str}{N':List Str}{cap:List Nat}
theorem HS{px py:Pos}(B:iL X scope x N' cap)(hc:X.calm=ah)(hy:N'[1]?=aa y)(hl:scope.names.lookup y=aa .local):∀C s₀ H₀ ex pn,PG (bE X scope N' C s₀ H₀ ex pn) (.Tuple [.Name x px,.Name y py] k tp) λv σ' H Q=>∃vs,vs.length=1+1/\σ'.length=N'.length/\Ae v H vs/\Q (vs++σ'.drop (1+1)) H:=by
 intro C s₀ H₀ ex pn ae s σ' H v u Q I r h;obtain⟨vs,_,aS,⟨p,a,b,rfl,hp,rfl⟩,q⟩:=h;have BC:Loc (bE X scope N' C s₀ H₀ ex pn).env.scope x:=B.loc.elim (λh=>.inl (uA h)) (λh=>.inr (v4 h));have BG:(bE X scope N' C s₀ H₀ ex pn).fn x=ah\/(bE X scope N' C s₀ H₀ ex pn).env.scope.names.lookup x=aa .local:=B.loc.elim (λh=>.inr (uA h)) (λh=>.inl (by show(scope.names.lookup x == aa .cell)=ah;rw[h];rfl));have hN0:(bE X scope N' C s₀ H₀ ex pn).N[0]?=aa x:=by show N'[0]?=aa x;rw[←List.head?_eq_getElem?];exact B.hd
 have q':Q (((σ'.set 0 (aa a)).set 1 (aa b))) H:=by
  match σ',aS,q with
  |c::d::t,_,q=>exact q
  |[c],h1,_=>rw[pN (by rw[←h1];simp)]at hy;cases hy
  |[],h1,_=>rw[pN (by rw[←h1];simp)]at hy;cases hy
 refine Fm (X:=bE X scope N' C s₀ H₀ ex pn) (n:=2) hc (xi (ro (X:=bE X scope N' C s₀ H₀ ex pn) B.nd hN0 BC BG) (xi (ro (X:=bE X scope N' C s₀ H₀ ex pn) B.nd (show(bE X scope N' C s₀ H₀ ex pn).N[1]?=aa y from hy) (.inl (uA hl)) (.inr (uA hl))) Fk)) rfl rfl ae s σ' H _ u Q I r ⟨p,[a,b],rfl,cV.of hp,rfl,a,[b],rfl,b,[],rfl,rfl,q'⟩
end
end L2
namespace Pu
open L2
def k9{α:Type}(cap:List Nat)(d:ag->R α)(x y:PV):ag->R α:=λε=>(aC (dz ε cap) ε).bind λas _=>(aC (if(bu as).Nodup then bW ε (.inl x::.inl y::as)else af) ε).bind λss _=>cb ε (.inl x::.inl y::as) (d ss)
def m8(cap:List Nat)(dt:ag->R Bool)(de:ag->R PV):List (PV×PV)->List PV->ag->R (List PV)
 |[],bb,ε=>.ok bb ε
 |x::xs,bb,ε=>(bA (k9 cap dt x.1 x.2 ε)).bind λk ε1=>match k with
  |true=>(bA (k9 cap de x.1 x.2 ε1)).bind λy ε2=>m8 cap dt de xs (bb++[y]) ε2
  |false=>m8 cap dt de xs bb ε1
def oU(cap:List Nat)(di:ag->R (List (PV×PV)))(dt:ag->R Bool)(de:ag->R PV):ag->R PO:=λε=>(di ε).bind λxs ε1=>(m8 cap dt de xs [] ε1).bind λys ε2=>.ok (.lst ys) ε2
theorem C5{K:aq}{E:XK}{F:ac->Prop}{S:Nat->ac->Prop}{ε:ag}{σ:St}{H:Hp}{α:Type}{cap:List Nat}{d:ag->R α}{x y:PV}{v w:V}{C:α->ag->(ac->Prop)->(Nat->ac->Prop)->Hp->Prop}(r:aI K F S ε σ H) (rx:aU K H F x v) (ry:aU K H F y w) (h:Ok K E σ F S H (bA (k9 cap d x y ε)) C):∃Sb ss,aI K F Sb ss (aa v::aa w::fF σ cap) H/\Ok K E0 (aa v::aa w::fF σ cap) F Sb H (d ss) (λa _ F' _ H'=>∃ε' S',aI K F' S' ε' σ H'/\bd (U S) (U S') F F' H H'/\C a ε' F' S' H'):=by
 unfold k9 at h;cases ec:dz ε cap with
 |none=>rw[ec]at h;exact h.elim
 |some as=>
  rw[ec]at h;simp only[bw,R.bind_ok]at h;by_cases nd:(bu as).Nodup
  ·rw[if_pos nd]at h;cases es:bW ε (.inl x::.inl y::as)with
   |none=>rw[es]at h;exact h.elim
   |some ss=>
    rw[es]at h;simp only[bw,R.bind_ok]at h;obtain⟨vs,av,ev⟩:=ve r ec;have av':eO K σ F H (.inl x::.inl y::as) (v::w::vs):=⟨v,w::vs,rfl,rx,w,vs,rfl,ry,av⟩
    have eσ:aa v::aa w::fF σ cap=(v::w::vs).map aa:=by rw[ev];rfl
    have nd':(bu (.inl x::.inl y::as)).Nodup:=nd;refine⟨kj (.inl x::.inl y::as) S,ss,by rw[eσ];exact r.cal av' es nd',?_⟩;rw[eσ];cases ed:d ss with
    |no=>rw[ed]at h;exact h.elim
    |er c aL=>
     rw[ed]at h;unfold cb at h;dsimp only at h;by_cases kp:b_ (.inl x::.inl y::as) aL=ah
     ·rw[if_pos kp]at h;exact h.elim
     ·rw[if_neg kp]at h;exact h.elim
    |ok a aL=>
     rw[ed]at h;intro F' S' H' r' g';unfold cb at h;dsimp only at h;by_cases kp:b_ (.inl x::.inl y::as) aL=ah
     ·rw[if_pos kp]at h;obtain⟨S2,r2,g2,_⟩:=r.called av' es nd' r' g' (λ_ z=>z) (k8 kp);exact⟨_,S2,r2,g2,h F' S2 H' r2 g2⟩
     ·rw[if_neg kp]at h;exact h.elim
  ·rw[if_neg nd]at h;exact h.elim
def FT(J:It)(us:List (V×V))(R:Hp->Prop):Prop :=
 ∀H,R H->∀i,(∀x,us[i]?=aa x->J.go i H/\∀v H',J.yld i H v H'->∃p,v=.ref p/\H' p=aa (.tup [x.1,x.2])/\(H'=H\/(H p=af/\H'=upd H p (.tup [x.1,x.2]))))/\(i=us.length->J.stop i H)
def qJ(K:aq)(H:Hp)(F:ac->Prop)(ps:List (PV×PV))(us:List (V×V)):Prop:=bj K H F (ps.map (·.1)) (us.map (·.1))/\bj K H F (ps.map (·.2)) (us.map (·.2))
def zJ(X:Cx)(E:XK)(tg iter:aw)(d:ag->R (List (PV×PV))):Prop:=∀F S ε σ H Rr,aI X.K F S ε σ H ->
 Ok X.K E σ F S H (d ε) (λps _ F' S' H'=>∀J us RR,qJ X.K H' F' ps us->us.length<=bn->FT J us RR->(∀S'' F'' H'',bd (U S') (U S'') F' F'' H' H''->RR H'')->Rr J H')->l_ X tg iter σ H Rr
section
variable{X:Cx}{E:XK}{scope:dO}{x y:Str}{N':List Str}{cap:List Nat}
theorem I_{elt iter:aw}{tg:aw}{ifs:List aw}{j:Nat}{di:ag->R (List (PV×PV))}{dt:ag->R Bool}{de:ag->R PV}(hi:zJ X E tg iter di)(ht:∀C s₀ H₀ ex pn,DF (bE X scope N' C s₀ H₀ ex pn) E0 ifs dt) (he:∀C s₀ H₀ ex pn,DE (bE X scope N' C s₀ H₀ ex pn) E0 elt de){F:ac->Prop}{S:Nat->ac->Prop}{ε:ag}{σ:St}{H:Hp}{Q:VK} (rl:aI X.K F S ε σ H) (h:Ok X.K E σ F S H (oU cap di dt de ε) (λpo _ F' S' H'=>∀a Sa,dJ X.K H' F' po a Sa->(∀b,Sa b->H b=af/\¬F' b/\¬U S' b/\∃o,H' b=aa o/\cy o)->Q (.ref a) H')):xn (l_ X tg iter) Ae 1 (λσ H Q=>∀C s₀ H₀ ex pn,oS (bE X scope N' C s₀ H₀ ex pn) ifs σ H Q) (λσ H Q=>∀C s₀ H₀ ex pn,f9 (bE X scope N' C s₀ H₀ ex pn) elt σ H Q) (j::cap) σ H Q:=by
 refine hi F S ε σ H _ rl ((Ok.bind h).imp λxs ε1 F1 S1 H1 r1 g1 h1 J vs RR rs hz hw keep l hl=>?_);have h1:=h1.bind;have hvl:vs.length=xs.length:=by have:=rs.1.len;simpa using this
 have a0:Al F1 F1 H1 (upd H1 l (.lst [])):=Al.new0 hl;have nF1:¬F1 l:=λz=>by obtain⟨o,q⟩:=r1.ex l z;rw[hl]at q;cases q
 have nS1:¬U S1 l:=λ⟨i,z⟩=>by obtain⟨_,_,o,q,_⟩:=r1.foot i l z;rw[hl]at q;cases q
 have hH:H l=af:=j7 g1 hl;refine⟨λi m ys H'=>m=xs.length-i/\i<=xs.length/\∃F' S' ε' bb,aI X.K F' S' ε' σ H'/\bd (U S1) (U S') F1 F' H1 H'/\H' l=aa (.lst ys)/\¬F' l/\¬U S' l/\bj X.K H' F' bb ys/\ys.length<=i /\ Ok X.K E σ F1 S1 H1 (m8 cap dt de (xs.drop i) bb ε') (λys' ε2 F2 S2 H2=>Ok X.K E σ F2 S2 H2 (R.ok (PO.lst ys') ε2) (λpo _ F' S' H'=>∀a Sa,dJ X.K H' F' po a Sa->(∀b,Sa b->H b=af/\¬F' b/\¬U S' b/\∃o,H' b=aa o/\cy o)->Q (.ref a) H')),⟨_,rfl,mr _,F1,S1,ε1,[],r1.al a0,a0.grow,upd_same,nF1,nS1,rfl,bt _,h1⟩,?_⟩;rintro i m ys H0 ⟨rfl,hi,F2,S2,ε2,bb,r0,g0,el0,nF2,nS2,racc0,hyl,q2⟩;have RH:=keep S2 F2 H0 g0;by_cases bO:i<xs.length
 ·obtain⟨v,hv⟩:∃v,vs[i]?=aa v:=⟨_,fL ∅⟩
  obtain⟨go,yl⟩:=(hw H0 RH i).1 v hv;refine .inr ⟨go,λv' H2 yy=>?_⟩;obtain⟨p,e1,e2,e3⟩:=yl v' H2 yy;subst e1;refine⟨[aa v.1,aa v.2],rfl,⟨p,_,_,rfl,e2,rfl⟩,?_⟩;have al:Al F2 F2 H0 H2:=by
   rcases e3 with rfl|⟨e3,rfl⟩
   ·exact Al.refl ..
   ·exact Al.new0 e3
  have r2:=r0.al al;have g2:bd (U S1) (U S2) F1 F2 H1 H2:=g0.trans al.grow;have el:H2 l=aa (.lst ys):=al.same _ _ el0;have racc:=al.reps racc0;show ∀C s₀ H₀ ex pn,oS (bE X scope N' C s₀ H₀ ex pn) ifs (aa v.1::aa v.2::fF σ cap) H2 _;obtain⟨px',hx,rx⟩:=rs.1.back (show(vs.map (·.1))[i]?=aa v.1 by rw[iT,hv];rfl);obtain⟨py',hy,ry⟩:=rs.2.back (show(vs.map (·.2))[i]?=aa v.2 by rw[iT,hv];rfl);have ex:xs[i].1=px':=by rw[iT,fL bO]at hx;exact fi hx
  have ey:xs[i].2=py':=by rw[iT,fL bO]at hy;exact fi hy
  have ed:xs.drop i=(px',py')::xs.drop (i+1):=by rw[G4 bO];congr 1;exact Prod.ext ex ey
  rw[ed]at q2;have rx2:=rx.grow g2 r1.fit;have ry2:=ry.grow g2 r1.fit;have q3:=Ok.bindB q2 g2;obtain⟨Sb,ss,rb,okb⟩:=C5 r2 rx2 ry2 q3;intro C s₀ H₀ ex pn;refine ht C s₀ H₀ ex pn F2 Sb ss _ H2 _ rb (okb.imp λb _ F3 _ H3 _ _ ⟨ε3,S3,r3,g3,q4⟩=>?_);obtain⟨el3,nF3,nS3⟩:=g3.stay el nS2 nF2;cases b with
  |false=>exact lJ ⟨_,∅,rfl,bO,F3,S3,ε3,bb,r3,g2.trans g3,el3,nF3,nS3,racc.grow g3 r2.fit,∅,q4⟩
  |true=>
   refine lV ?_;have q5:Ok X.K E σ F1 S1 H1 ((bA (k9 cap de px' py' ε3)).bind λy ε2=>m8 cap dt de (xs.drop (i+1)) (bb++[y]) ε2) _:=q4;obtain⟨Sc,sc,rc,okc⟩:=C5 r3 (rx2.grow g3 r2.fit) (ry2.grow g3 r2.fit) (Ok.bindB q5 (g2.trans g3));show ∀C s₀ H₀ ex pn,f9 (bE X scope N' C s₀ H₀ ex pn) elt (aa v.1::aa v.2::fF σ cap) H3 _;intro C s₀ H₀ ex pn;refine he C s₀ H₀ ex pn F3 Sc sc _ H3 _ rc (okc.imp λy _ F4 _ H4 _ _ ⟨ε4,S4,r4,g4,q6⟩ u ru=>?_);obtain⟨el4,nF4,nS4⟩:=g4.stay el3 nS3 nF3;have racc4:=(racc.grow g3 r2.fit).grow g4 r3.fit;have gl:bd (λb=>U S4 b\/b=l) (U S4) F4 F4 H4 (upd H4 l (.lst (ys++[u]))):=⟨λ_ z=>z,λb o e n=>by rw[bh λz=>n (.inr z)];exact e,λb o e=>by
    by_cases hb:b=l
    ·subst hb;exact⟨_,upd_same⟩
    ·exact⟨o,by rw[bh hb];exact e⟩,λ_ z=>.inl z,λ_ z=>.inl (.inl z)⟩
   have fit4:jo (λb=>U S4 b\/b=l) F4 H4:=λb z=>by
    rcases z with z|rfl
    ·exact r4.fit b z
    ·exact⟨nF4,_,el4,trivial⟩
   have r5:aI X.K F4 S4 ε4 σ (upd H4 l (.lst (ys++[u]))):=by
    refine⟨r4.len,λb z=>let ⟨o,q⟩:=r4.ex b z;gl.there b o q,λj pv e=>?_,λj po e=>?_,λj b z=>?_,r4.dist⟩
    ·obtain⟨w,x1,x2⟩:=r4.val j pv e;exact⟨w,x1,x2.grow gl fit4⟩
    ·obtain⟨w,x1,x2⟩:=r4.own j po e;refine⟨w,x1,x2.mono (λ_ _ q=>q.grow gl fit4) (λ_ _ q=>q.grow gl fit4) λb o z q=>?_⟩;rw[bh (by rintro rfl;exact nS4 ⟨j,z⟩)];exact q
    ·obtain⟨x1,x2,o,x3,x4⟩:=r4.foot j b z;exact⟨x1,x2,o,by rw[bh (by rintro rfl;exact nS4 ⟨j,z⟩)];exact x3,x4⟩
   have g5:bd (U S1) (U S4) F1 F4 H1 (upd H4 l (.lst (ys++[u]))):=by
    have gg:=(g2.trans g3).trans g4;refine⟨gg.fro,λb o e n=>?_,λb o e=>?_,gg.fnew,gg.onew⟩
    ·rw[bh (by rintro rfl;rw[hl]at e;cases e)];exact gg.keep b o e n
    ·obtain⟨o',q⟩:=gg.there b o e;exact gl.there b o' q
   refine⟨el4,?_,_,∅,rfl,bO,F4,S4,ε4,bb++[y],r5,g5,upd_same,nF4,nS4,(racc4.grow gl fit4).app (.one (ru.grow gl fit4)),by simp;lia,q6⟩;lia
 ·have e:i=xs.length:=∅
  subst e;refine .inl ⟨(hw H0 RH _).2 hvl.symm,?_⟩;rw[G5]at q2;exact q2 F2 S2 H0 r0 g0 F2 S2 H0 r0 (bd.refl ..) l (λb=>b=l) ⟨⟨ys,el0,racc0⟩,λb=>nZ⟩ λb z=>by subst z;exact⟨hH,nF2,nS2,_,el0,trivial⟩
def i7{α β:Type}(f:Nat->β):Nat->List α->List (β×α)
 |_,[]=>[]
 |n,x::xs=>(f n,x)::i7 f (n+1) xs
theorem y8{α β:Type}(f:Nat->β):∀(n:Nat) (xs:List α),(i7 f n xs).map (·.2)=xs
 |_,[]=>rfl
 |n,x::xs=>by show x::_=_;rw[y8 f (n+1) xs]
theorem Ga{α β:Type}(f:Nat->β):∀(n:Nat) (xs:List α) (i:Nat),(i7 f n xs)[i]?=(xs[i]?).map λx=>(f (n+i),x)
 |_,[],i=>rfl
 |n,x::xs,0=>rfl
 |n,x::xs,i+1=>by show(i7 f (n+1) xs)[i]?=(xs[i]?).map _;rw[Ga f (n+1) xs i,show n+1+i=n+(i+1) by lia]
theorem zh{α β:Type}(f:Nat->β):∀(n:Nat) (xs:List α),(i7 f n xs).length=xs.length
 |_,[]=>rfl
 |n,x::xs=>by show(i7 f (n+1) xs).length+1=_;rw[zh f (n+1) xs];rfl
def tO(xs:List PV):List (PV×PV):=i7 (λi=>PV.int (i:Nat)) 0 xs
theorem EV{K:aq}{H:Hp}{F:ac->Prop}:∀(n:Nat) {xs:List PV}{vs:List V},bj K H F xs vs->bj K H F ((i7 (λi=>PV.int (i:Nat)) n xs).map (·.1)) ((i7 (λi=>V.int i) n vs).map (·.1))
 |_,[],vs,h=>by cases h;rfl
 |n,x::xs,vs,⟨v,r,e,h1,h2⟩=>by subst e;exact⟨_,_,rfl,rfl,EV (n+1) h2⟩
def tq(ds:ag->R (List PV)):ag->R (List (PV×PV)):=λε=>(ds ε).bind λx ε1=>match x with
 |[.lst xs]=>.ok (tO xs) ε1
 |_=>.no
theorem JU{K:aq}{a:ac}{vs:List V}:FT (wz K a) (i7 (λi=>V.int i) 0 vs) (λH=>bZ K H a vs):=λH h i=>
 ⟨λx hx=>by
  rw[Ga,xH]at hx;obtain⟨z,hz,rfl⟩:=hx;refine⟨⟨vs,z,h,hz⟩,λv H' ⟨p,w,h1,h2,h3,h4⟩=>?_⟩;have:=h4 vs h;rw[hz]at this;cases this;subst h2 h3;rw[kD];exact⟨p,rfl,upd_same,.inr ⟨h1,rfl⟩⟩,λhi=>⟨vs,h,by rw[hi,zh];exact bt _⟩⟩
theorem NQ{es:List aw}{k:Nat}{tp p pos:Pos}{a:aw}{ds:ag->R (List PV)}(hm:X.mg "enumerate" = af)(ha:DA X E [a] ds)(hg:Gl X "enumerate":=by rfl)(hs:aH [a] X.env=[(aj,aG a X.env)]:=by rfl):zJ X E (.Tuple es k tp) (.Call (.Name "enumerate" p) [a] [] pos) (tq ds):=λF S ε σ H Rr rl h=>Bx.mk λae s I=>by
 refine K8 hg hm gP hs ae s σ H Rr I (ha F S ε σ H _ rl ((Ok.bind h).imp λxs ε1 F1 S1 H1 r1 g1 h1 vs jD=>?_));split at h1
 ·rename_i xs;obtain⟨v,rfl,rv⟩:=iN jD;obtain⟨a,us,rfl,ha,hF,ra⟩:=rv;refine⟨a,us,rfl,.inl ha,λhz=>h1 F1 S1 H1 r1 (bd.refl ..) (wz X.K a) (i7 (λi=>V.int i) 0 us) (λH=>bZ X.K H a us) ⟨EV 0 ra,by rw[y8];unfold tO;rw[y8];exact ra⟩ (by rw[zh];exact hz) JU λS2 F2 H2 g2=>.inl (g2.lst r1.fit hF ha)⟩
 ·exact h1.elim
end
end Pu
namespace Sh
open L2 Pu
set_option genInjectivity false in
structure Ad where
 SlitError:ac
 NoText:ac
 NoWidth:ac
 NoView:ac
 NoWindow:ac
 Never:ac
 Full:ac
 Nothing:ac
 Unlike:ac
 NoPlace:ac
 NoLetters:ac
 BadText:ac
 Seeker:ac
 Slit:ac
def gh(a:Ad):List ac:=[a.NoText,a.NoWidth,a.NoView,a.NoWindow,a.Never,a.Full,a.Nothing,a.Unlike,a.NoPlace,a.NoLetters,a.BadText]
def mS(a:Ad)(c:ai):Bool:=match c with
 |.ref x=>(gh a).contains x
 |_=>aj
def km(a:Ad)(c:ai)(D:V):Option Bool:=match c,D with
 |.ref x,.ref d=>if(gh a).contains x&&(gh a).contains d then aa (x == d)else af
 |.ref x,.ty T=>if(gh a).contains x&&T == "ValueError" then aa ah else af
 |_,_=>af
def yar(a:Ad):ag->R aK:=bH (dL lX (ar (dF (cq [1] (bo (dV 0)) (ef) (d2 (jF aj) (dV 0) (dV 1)))) (aA)))
def xa(a:Ad):ag->R Slot:=bD 2 [] (bq 0 (yar a))
def yav(a:Ad):ag->R aK:=bH (gx (dL gk (ar (dV 0) (ar (dC (.raw (.ty "int"))) (aA)))) (t6 (dL gk (ar (dV 0) (ar (dC (.raw (.ty "bool"))) (aA))))))
def vm(a:Ad):ag->R Slot:=bD 1 [] (bq 0 (yav a))
def yaw(a:Ad):ag->R aK:=bH (gx (aW (aM (vm a) (gV (dV 0) (bK)))) (m9 (cc λi j=>decide (i<=j)) (cc λi j=>decide (i<=j)) (dC (.int 1)) (dV 0) (dC (.int 4))))
def ph(a:Ad):ag->R Slot:=bD 1 [] (bq 0 (yaw a))
def yax(a:Ad):ag->R aK:=bH (gx (dL gk (ar (dV 0) (ar (dC (.raw (.ty "str"))) (aA)))) (gx (d2 (eqT aj) (dL bc (ar (dV 0) (aA))) (dV 1)) (aW (aM (xa a) (gV (dV 0) (gV (dV 2) (bK)))))))
def k_(a:Ad):ag->R Slot:=bD 3 [] (bq 0 (yax a))
def yak(a:Ad):ag->R aK:=ay (bi (fu (fO (dB (dL gk (ar (dV 0) (ar (dC (.raw (.ty "tuple"))) (aA)))))) (fO (dB (m9 (cc λi j=>decide (i<=j)) (cc λi j=>decide (i<=j)) (dC (.int 1)) (dL bc (ar (dV 0) (aA))) (dC (.int 9)))))) (bH (dC (.bl aj))) (bS))
 (ay (bi (fO (dB (dL lX (ar (dF (cq [1,2] (bo (dV 0)) (ef) (aW (aM (k_ a) (gV (dV 0) (gV (dV 1) (gV (dV 2) (bK)))))))) (aA))))) (bH (dC (.bl aj))) (bS))
 (bH (d2 (eqT aj) (dF (dL nk (ar (dV 0) (aA)))) (dF (dL jc (ar (dV 0) (aA)))))))
def nh(a:Ad):ag->R Slot:=bD 3 [] (bq 0 (yak a))
def yau(a:Ad):ag->R aK:=ay (bi (fu (fO (dB (dL gk (ar (dV 0) (ar (dC (.raw (.ty "tuple"))) (aA)))))) (dB (d2 (eqT ah) (dL bc (ar (dV 0) (aA))) (dC (.int 2))))) (bH (dC (.bl aj))) (bS))
 (bH (gx (aW (aM (ph a) (gV (d2 b7 (dV 0) (dC (.int 0))) (bK)))) (aW (aM (nh a) (gV (d2 b7 (dV 0) (dC (.int 1))) (gV (d2 b7 (dV 0) (dC (.int 0))) (gV (dV 1) (bK))))))))
def qE(a:Ad):ag->R Slot:=bD 2 [] (bq 0 (yau a))
def yat(a:Ad):ag->R aK:=lF (aM (qE a) (gV (dV 0) (gV (dC (.str [97,98,99])) (bK))))
def wq(a:Ad):ag->R Slot:=bD 1 [] (bq 0 (yat a))
def yal(a:Ad):ag->R aK:=bi (fO (dB (aW (aM (wq a) (gV (dV 0) (bK)))))) (lH (.ref a.NoView) (λε=>bA ((dC (.str [97,32,118,105,101,119,32,105,115,32,97,32,116,117,112,108,101,32,111,102,32,97,32,119,105,100,116,104,32,97,110,100,32,97,32,114,105,115,105,110,103,32,116,117,112,108,101,32,111,102,32,49,32,116,111,32,57,32,119,105,110,100,111,119,115])) ε))) (bS)
def vN(a:Ad):ag->R Slot:=bD 1 [] (bq 0 (yal a))
def yao(a:Ad):ag->R aK:=ay (cg 1 (qw))
 (ay (λε=>cA (bR 2 (bo (dV 0)) (fz 1 (dV 2) (d2 bg (h_ 1 (dV 2) (dC (.int 0))) (dC (.int 1)))) ε))
 (jN 1))
def uf(a:Ad):ag->R Slot:=bD 1 [] (bq 2 (yao a))
def yaj(a:Ad)(rc:ag->R Slot):ag->R aK:=ay (bi (fO (dB (tm 2))) (ay (ge 3 (dV 0)) (ug (.ret (.val .non)))) (bS))
 (ay (a9 4 (cS df (dV 0) (cG (d2 bg (d2 gR (dL bc (ar (dV 0) (aA))) (dV 1)) (dC (.int 1)))) (dD)))
 (λε=>cA (bR 5 (bo (dC (.str [97,98,99]))) (ay (a9 6 (d2 bg (dV 4) (dV 5)))
 (bi (dB (d2 (cc λi j=>decide (j<i)) (h_ 2 (dV 6) (dC (.int 0))) (dC (.int 0)))) (ay (fz 2 (dV 6) (d2 gR (ig 2 (dV 6)) (dC (.int 1))))
 (ay (kr (aM (rc) (gV (d2 bg (dV 0) (dV 5)) (gV (dV 1) (gO 2 (gO 3 (bK)))))))
 (fz 2 (dV 6) (d2 bg (ig 2 (dV 6)) (dC (.int 1)))))) (bS))) ε)))
def nJ(a:Ad):Nat->ag->R Slot
 |0=>bD 4 [2,3] (bq 3 Ed)
 |k+1=>bD 4 [2,3] (bq 3 (yaj a (nJ a k)))
def yaM(a:Ad):ag->R aK:=ay (kr (aM (vN a) (gV (dV 0) (bK))))
 (ay (a9 1 (d2 b7 (dV 0) (dC (.int 0))))
 (ay (cg 2 (dL bX (aA)))
 (ay (λε=>cA (bR 3 (bo (dF (dL tu (ar (dF (cq [] (bo (d2 b7 (dV 0) (dC (.int 1)))) (ef) (cS df (dV 0) (dD) (cG (d1 fG (dC (.int 1))))))) (aA))))) (kr (su (nJ a 12) (qB (dV 3) (qB (dV 1) (gN (ix (aM (uf a) (gV (d2 b7 (dV 0) (dC (.int 1))) (bK)))) (gO 2 (bK))))))) ε))
 (jN 2))))
def qM(a:Ad):ag->R Slot:=bD 1 [] (bq 3 (yaM a))
def yas(a:Ad):ag->R aK:=bH (dL bc (ar (aW (aM (qM a) (gV (dV 0) (bK)))) (aA)))
def tf(a:Ad):ag->R Slot:=bD 1 [] (bq 0 (yas a))
def yap(a:Ad):ag->R aK:=ay (cg 1 (qw))
 (ay (λε=>cA (bR 2 (bo (dV 0)) (ay (fz 1 (cS df (dV 2) (dD) (cG (d1 fG (dC (.int 1))))) (d2 bg (h_ 1 (cS df (dV 2) (dD) (cG (d1 fG (dC (.int 1))))) (dC (.int 0))) (dC (.int 1))))
 (fz 1 (cS df (dV 2) (cG (dC (.int 1))) (dD)) (d2 gR (h_ 1 (cS df (dV 2) (cG (dC (.int 1))) (dD)) (dC (.int 0))) (dC (.int 1))))) ε))
 (jN 1))
def qd(a:Ad):ag->R Slot:=bD 1 [] (bq 2 (yap a))
def yaK(a:Ad):ag->R aK:=ay (cg 1 (sC (cS df (d2 b7 (dV 0) (dC (.int 0))) (dD) (cG (d1 fG (dC (.int 1))))) (dC (.bl ah))))
 (ay (a9 2 (dC (.int 0)))
 (ay (λε=>cA (iE (dB (d2 (cc λi j=>decide (i<j)) (dV 2) (l5 1))) (ay (a9 2 (l5 1))
 (bR 3 (bo (dV 0)) (bi (fu (dB (iJ aj 1 (cS df (dV 3) (dD) (cG (d1 fG (dC (.int 1))))))) (dB (iJ aj 1 (cS df (dV 3) (cG (dC (.int 1))) (dD))))) (ay (fz 1 (cS df (dV 3) (dD) (cG (d1 fG (dC (.int 1))))) (dC (.bl ah)))
 (fz 1 (cS df (dV 3) (cG (dC (.int 1))) (dD)) (dC (.bl ah)))) (bS)))) 1000 ε))
 (jN 1)))
def nu(a:Ad):ag->R Slot:=bD 1 [] (bq 3 (yaK a))
def yaA(a:Ad):ag->R aK:=ay (bi (dB (d2 (cc λi j=>decide (i<j)) (dV 1) (dL bc (ar (dV 0) (aA))))) (bH (d2 b7 (dV 0) (dV 1))) (bS))
 (ay (bi (dB (d2 (eqT aj) (dV 0) (dF (dL bX (aA))))) (bH (dC (.int 0))) (bS))
 (bH (d2 bg (d2 eC (d2 b7 (dV 0) (d2 i8 (dV 1) (dL bc (ar (dV 0) (aA))))) (dC (.int 31))) (dV 1))))
def qz(a:Ad):ag->R Slot:=bD 2 [] (bq 0 (yaA a))
def yam(a:Ad):ag->R aK:=bi (fO (dB (aW (aM (ph a) (gV (dV 0) (bK)))))) (lH (.ref a.NoWidth) (λε=>bA ((dC (.str [97,32,119,105,100,116,104,32,105,115,32,97,32,119,104,111,108,101,32,110,117,109,98,101,114,32,102,114,111,109,32,49,32,116,111,32,52])) ε))) (bS)
def wE(a:Ad):ag->R Slot:=bD 1 [] (bq 0 (yam a))
def yaO(a:Ad):ag->R aK:=ay (a9 1 (dF (dL bX (ar (dC (.str [])) (aA)))))
 (ay (λε=>cA (bR 2 (bo (dV 0)) (ay (a9 3 (bi (dB (d2 (eqT aj) (dV 2) (dC (.str [46])))) (dC (.str [97,98,99])) (dV 2)))
 (ay (cg 4 (dL bX (aA)))
 (ay (bR 5 (bo (dV 1)) (nv 4 (dF (cq [5] (bo (dV 3)) (ef) (d2 bg (dV 1) (dV 0))))))
 (a9 1 (dM 4))))) ε))
 (bH (dV 1)))
def sU(a:Ad):ag->R Slot:=bD 1 [] (bq 5 (yaO a))
def yaq(a:Ad):ag->R aK:=ay (cg 1 (ix (aM (qd a) (gV (dV 0) (bK)))))
 (ay (a9 2 (dF (cq [1] (bo (dF (nL 1))) (dB (d2 (cc λi j=>decide (j<i)) (ig 1 (dV 0)) (dC (.int 0)))) (dV 0))))
 (ay (bi (dB (d2 (cc λi j=>decide (j<i)) (dL bc (ar (dV 2) (aA))) (dC (.int 1)))) (bH (dL eu (ar (dC (.str [116,119,111])) (ar (d2 b7 (dV 2) (dC (.int 0))) (ar (d2 b7 (dV 2) (dC (.int 1))) (aA)))))) (bS))
 (ay (bi (j5 (dB (d2 (eqT aj) (dL bc (ar (dV 2) (aA))) (dC (.int 1)))) (dB (d2 (cc λi j=>decide (j<i)) (ig 1 (d2 b7 (dV 2) (dC (.int 0)))) (dC (.int 1))))) (bH (dL eu (ar (dC (.str [109,111,114,101])) (ar (d2 b7 (dV 2) (dC (.int 0))) (aA))))) (bS))
 (ay (cg 3 (ix (aM (nu a) (gV (dV 0) (bK)))))
 (ay (a9 4 (dF (oU [3] (tq (ar (dV 0) (aA))) (dB (iJ aj 2 (cS df (dV 1) (dD) (cG (d1 fG (dC (.int 1))))))) (dV 0))))
 (ay (bi (dB (d2 (cc λi j=>decide (i<j)) (dL bc (ar (dV 4) (aA))) (dL bc (ar (dV 0) (aA))))) (bH (dL eu (ar (dC (.str [97,112,97,114,116])) (ar (dL i_ (ar (dV 4) (aA))) (aA))))) (bS))
 (bH (dC .non))))))))
def mV(a:Ad):ag->R Slot:=bD 1 [] (bq 4 (yaq a))
end Sh
namespace Pu
open L2
def g7(ε:ag)(C:ac)(y:Str)(i:Nat):Option (List (Str×PV)×List PV):=match ε[i]? with
 |some (.own (.inl D fs z xs))=>if D=C/\z=y then aa (fs,xs)else af
 |_=>af
theorem oR{ε:ag}{C:ac}{y:Str}{i:Nat}{p:List (Str×PV)×List PV}(h:g7 ε C y i=aa p):ε[i]?=aa (.own (.inl C p.1 y p.2)):=by
 unfold g7 at h;split at h
 ·rename_i D fs z xs e;split at h
  ·rename_i hD;obtain⟨rfl,rfl⟩:=hD;cases h;exact e
  ·cases h
 ·cases h
theorem FQ{ws:List (Str×V)}{f:Str}{v:V}{r:List (Str×V)}(h:ws.lookup f=aa v):(ws++r).lookup f=aa v:=by rw[uz,h];rfl
theorem sK{ws:List (Str×V)}{y:Str}{v:V}(h:ws.lookup y=af):(ws++[(y,v)]).lookup y=aa v:=by rw[uz,h];simp[jh]
section
variable{K:aq}{F F':ac->Prop}{S S':Nat->ac->Prop}{ε:ag}{σ:St}{H H':Hp}{i:Nat}{C a b dx:ac}{fs:List (Str×PV)}{ws:List (Str×V)}{y:Str}{xs ys:List PV}{vs:List V}
theorem aI.updI(r:aI K F S ε σ H)(e:ε[i]?=aa (.own (.inl C fs y xs)))(ea:σ[i]?=aa (aa (.ref a)))(ha:H a=aa (.ins C dx (ws++[(y,.ref b)])))(fr:g_ K H F fs ws)(hy:fs.lookup y=af)(fZ:a≠b)(hS:∀c,S i c↔c=a\/c=b)(h:bj K H F ys vs):aI K F S (ε.set i (.own (.inl C fs y ys))) σ (L2.upd H b (.lst vs))/\bd (U S) (U S) F F H (L2.upd H b (.lst vs)):=by
 have mP:S i b:=(hS b).mpr (.inr rfl);have hi:i<ε.length:=(cO.mp e).1;have g:bd (U S) (U S) F F H (L2.upd H b (.lst vs)):=⟨λ_ z=>z,λc o q n=>by rw[bh (by rintro rfl;exact n ⟨i,mP⟩)];exact q,λc o q=>by
  by_cases hc:c=b
  ·subst hc;exact⟨_,upd_same⟩
  ·exact⟨o,by rw[bh hc];exact q⟩,λ_ z=>.inl z,λ_ z=>.inl z⟩
 refine⟨⟨by rw[gK];exact r.len,λb z=>let ⟨o,q⟩:=r.ex b z;g.there b o q,λk pv q=>?_,λk po q=>?_,λk c z=>?_,r.dist⟩,g⟩
 ·have hk:i≠k:=by rintro rfl;rw[cP hi]at q;cases q
  rw[cu hk]at q;obtain⟨v,q1,q2⟩:=r.val k pv q;exact⟨v,q1,q2.grow g r.fit⟩
 ·by_cases hk:i=k
  ·subst hk;rw[cP hi]at q;cases q;exact⟨a,ea,dx,ws,b,vs,by rw[bh fZ];exact ha,fr.mono (λ_ _ z=>z.grow g r.fit),hy,upd_same,h.grow g r.fit,fZ,hS⟩
  ·rw[cu hk]at q;obtain⟨c,q1,q2⟩:=r.own k po q;refine⟨c,q1,q2.mono (λ_ _ z=>z.grow g r.fit) (λ_ _ z=>z.grow g r.fit) λd o z w=>?_⟩;rw[bh (by rintro rfl;exact hk (r.dist i k d mP z))];exact w
 ·obtain⟨⟨po,q1⟩,q2,o,q3,q4⟩:=r.foot k c z;have z3:∃o',(L2.upd H b (.lst vs)) c=aa o'/\cy o':=by
   by_cases hc:c=b
   ·subst hc;exact⟨_,upd_same,trivial⟩
   ·exact⟨o,by rw[bh hc];exact q3,q4⟩
  by_cases hk:i=k
  ·subst hk;exact⟨⟨_,cP hi⟩,q2,z3⟩
  ·exact⟨⟨po,by rw[cu hk];exact q1⟩,q2,z3⟩
theorem aI.lookI(r:aI K F S ε σ H)(e:ε[i]?=aa (.own (.inl C fs y xs))):∃a b dx ws,σ[i]?=aa (aa (.ref a))/\H a=aa (.ins C dx ws)/\ws.lookup y=aa (.ref b)/\aU K H (λc=>F c\/c=b) (.lst xs) (.ref b)/\(∀c,F c\/c=b->∃o,H c=aa o) /\ (∀{F' H'},Al (λc=>F c\/c=b) F' H H'->Al F (λc=>F' c/\c≠b) H H'):=by
 obtain⟨a,ea,dx,ws,b,vs,ha,fr,hy,hb,hx,fZ,hS⟩:=r.own i _ e;have nF:¬F b:=(r.foot i b ((hS b).mpr (.inr rfl))).2.1;refine⟨a,b,dx,_,ea,ha,sK (fr.miss hy),⟨b,vs,rfl,.inl hb,.inr rfl,bj.mono (λ_ z=>.inl z) (λ_ _ _ z=>z) (λ_ _ z _=>z) _ _ hx⟩,λc z=>z.elim (r.ex c) λz=>by rw[z];exact⟨_,hb⟩,λ{F' H'} al=>⟨λc z=>⟨al.fro c (.inl z),λw=>nF (w ▸ z)⟩,al.same,λc z=>?_⟩⟩;rcases al.fnew c z.1 with(w|w)|w
 ·exact .inl w
 ·exact absurd w z.2
 ·exact .inr w
end
section
variable{X:Cx}{E:XK}{pin:List Nat}{e value:aw}{f x y fn:Str}{C:ac}{p pos pos':Pos}{dv de:ag->R PV}{id T:String}{r:List V->Hp->VK->Prop}{fp:List PV->Option PV}{fo:List PV->Option PO}
def kL(C:ac)(y:Str)(i:Nat)(f:Str):ag->R PV:=λε=>(aC (g7 ε C y i) ε).bind λq ε=>aC (q.1.lookup f) ε
theorem CP(i:Nat)(y:Str)(c:Cls X.K C)(n:gF X.K C f)(hN:X.N[i]?=aa x:=by rfl)(hv:cx X.env.scope x:=by first|exact Or.inl rfl|exact Or.inr (Or.inl rfl)|exact Or.inr (Or.inr rfl))(hd:(x == ("__debug__" : Str))=aj:=by decide)(a8:(x == ("__classdict__" : Str))=aj:=by decide) (hb:e9 (.Name x p) f X.env (aG (.Name x p) X.env)=aG (.Name x p) X.env:=by rfl):DE X E (.Attribute (.Name x p) f pos) (kL C y i f):=λF S ε σ H Q rl h=>by
 unfold kL at h;cases e0:g7 ε C y i with
 |none=>rw[e0]at h;exact h.elim
 |some q=>
  rw[e0]at h;simp only[bw,R.bind_ok]at h;obtain⟨a,ea,dx,ws,b,vs,ha,fr,hy,i4,hx,fZ,hS⟩:=rl.own i _ (oR e0);cases e1:q.1.lookup f with
  |none=>rw[e1]at h;exact h.elim
  |some pv=>rw[e1]at h;obtain⟨v,l,rv⟩:=fr.look e1;exact bJ (nr (cF hN hv hd a8) hb) ⟨.ref a,ea,a,C,dx,_,v,rfl,ha,c,n,FQ l,h F S H rl (bd.refl ..) v rv⟩
def i9{α:Type}(f:List PV->Option α)(C:ac)(y:Str)(i:Nat):ag->R α:=λε=>(aC (g7 ε C y i) ε).bind λq ε=>aC (f [.lst q.2]) ε
theorem MT{F:ac->Prop}{S:Nat->ac->Prop}{ε:ag}{σ:St}{H:Hp}{Q:VK}{i:Nat}(hp:PL X.K r fp)(rl:aI X.K F S ε σ H)(h:Ok X.K E σ F S H (i9 (λxs=>eJ (fp xs)) C y i ε) (λpv _ F' _ H'=>∀v,aU X.K H' F' pv v->Q v H')):∃a b dx ws,σ[i]?=aa (aa (.ref a))/\H a=aa (.ins C dx ws)/\ws.lookup y=aa (.ref b)/\r [.ref b] H Q:=by
 unfold i9 at h;cases e0:g7 ε C y i with
 |none=>rw[e0]at h;exact h.elim
 |some q=>
  rw[e0]at h;simp only[bw,R.bind_ok]at h;obtain⟨a,b,dx,ws,ea,ha,hl,ra,_,dR⟩:=rl.lookI (oR e0);refine⟨a,b,dx,ws,ea,ha,hl,?_⟩;cases e1:eJ (fp [.lst q.2])with
  |none=>rw[e1]at h;exact h.elim
  |some pv=>rw[e1]at h;obtain⟨e2,e3⟩:=vc e1;exact hp _ H [.lst q.2] [.ref b] Q pv (.one ra) e2 λw F' H' al rw'=>h _ S H' (rl.al (dR al)) (dR al).grow w (aU.imm pv e3 rw')
theorem EG(i:Nat)(c:Cls X.K C)(n:gF X.K C y)(hc:eG X (.builtin id) r)(hp:PL X.K r fp)(hm:X.mg fn=af)(hv:eE fn=aa (.builtin id))(hN:X.N[i]?=aa x:=by rfl)(dQ:cx X.env.scope x:=by first|exact Or.inl rfl|exact Or.inr (Or.inl rfl)|exact Or.inr (Or.inr rfl))(hd:(x == ("__debug__" : Str))=aj:=by decide) (a8:(x == ("__classdict__" : Str))=aj:=by decide) (hg:Gl X fn:=by rfl) (hn:fn≠"__name__":=by decide) (eX:(fn == ("__debug__" : Str))=aj:=by decide) {yp ap:Pos}(hb:e9 (.Name x yp) y X.env (aG (.Name x yp) X.env)=aG (.Name x yp) X.env:=by rfl)(he:aH [.Attribute (.Name x yp) y ap] X.env=(aj,aG (.Attribute (.Name x yp) y ap) X.env)::aH [] X.env:=by rfl) (cz:(bU pos (aH [] X.env)).any (·.1)=aj:=by rfl):DE X E (.Call (.Name fn p) [.Attribute (.Name x yp) y ap] [] pos) (i9 (λxs=>eJ (fp xs)) C y i):=λF S ε σ H Q rl q=>by obtain⟨a,b,dx,ws,ea,ha,hl,hr⟩:=MT hp rl q;exact bJ (l9 hc hg hm hv (ff (nr (cF hN dQ hd a8) hb) gB he) hn eX he cz) ⟨.ref a,ea,a,C,dx,ws,.ref b,rfl,ha,c,n,hl,hr⟩
end
theorem DK{f:Str}{v:V}:∀{ws:List (Str×V)},ws.lookup f=af->eQ f v ws=ws++[(f,v)]
 |[],_=>rfl
 | (g,x)::r,h=>by
  by_cases q:g=f
  ·subst q;simp[jh]at h
  ·have h2:r.lookup f=af:=by
    have:(f == g)=aj:=by simpa using λe=>q e.symm
    simpa[jh,this]using h
   rw[eQ,if_neg q,DK h2];rfl
section
variable{K:aq}{F F1:ac->Prop}{S S1:Nat->ac->Prop}{ε ε1:ag}{σ:St}{H H1:Hp}{i:Nat}{C a b dx:ac}{po:PO}{fs:List (Str×PV)}{y:Str}{xs ys:List PV}{vs:List V}
theorem aI.away(r:aI K F S ε σ H)(e:ε[i]?=aa (.own po))(r1:aI K F1 S1 ε1 σ H1)(g1:bd (U λj b=>S j b/\j≠i) (U S1) F F1 H H1):∃S2,aI K F1 S2 (ε1.set i (.own po)) σ H1/\bd (U S) (U S2) F F1 H H1/\∀c o,S i c->H c=aa o->H1 c=aa o:=by
 obtain⟨a,ea,ow⟩:=r.own i po e;have nU:∀c,S i c->¬U (λj b=>S j b/\j≠i) c:=λc z ⟨j,w,hj⟩=>hj (r.dist j i c w z);have ke:∀c o,S i c->H c=aa o->H1 c=aa o:=λc o z q=>g1.keep c o q (nU c z);have fit:jo (U λj b=>S j b/\j≠i) F H:=λc ⟨j,z,_⟩=>(r.foot j c z).2;have hi:i<ε1.length:=by rw[r1.len];exact(cO.mp ea).1
 have ow1:dJ K H1 F1 po a (S i):=ow.mono (λ_ _ z=>z.grow g1 fit) (λ_ _ z=>z.grow g1 fit) ke;have lo:qW F1 S1 H1 (S i):=λc z=>by
  obtain⟨_,q1,o,q2,q3⟩:=r.foot i c z;refine⟨λw=>?_,λw=>?_,o,ke c o z q2,q3⟩
  ·rcases g1.fnew c w with w|w|w
   ·exact q1 w
   ·rw[q2]at w;cases w
   ·exact nU c z w
  ·rcases g1.onew c w with w|w
   ·exact nU c z w
   ·rw[q2]at w;cases w
 have r2:=r1.setOwn hi ow1 lo;have es:σ.set i (aa (.ref a))=σ:=by
  apply xQ ;intro j;by_cases hj:i=j
  ·subst hj;rw[cP (cO.mp ea).1,ea]
  ·rw[cu hj]
 rw[es]at r2;refine⟨_,r2,⟨g1.fro,λc o q n=>g1.keep c o q λ⟨j,w,_⟩=>n ⟨j,w⟩,g1.there,λc w=>(g1.fnew c w).imp id λw=>w.imp id λ⟨j,w,_⟩=>⟨j,w⟩,λc ⟨j,w⟩=>?_⟩,ke⟩;rcases w with⟨w,_⟩|⟨_,w⟩
 ·exact(g1.onew c ⟨j,w⟩).imp (λ⟨j,w,_⟩=>⟨j,w⟩) id
 ·exact .inl ⟨i,w⟩
theorem aI.giveI{ws:List (Str×V)}{Sb:ac->Prop}(r:aI K F S ε σ H)(e:ε[i]?=aa (.own (.ins C fs)))(ea:σ[i]?=aa (aa (.ref a)))(ha:H a=aa (.ins C dx ws))(fr:g_ K H F fs ws)(hS:∀c,S i c↔c=a)(hy:fs.lookup y=af)(ow:dJ K H F (.lst xs) b Sb) (lo:qW F S H Sb):aI K F (λj c=>S j c\/(j=i/\Sb c)) (ε.set i (.own (.inl C fs y xs))) σ (L2.upd H a (.ins C dx (eQ y (.ref b) ws)))/\bd (U S) (U S) F F H (L2.upd H a (.ins C dx (eQ y (.ref b) ws))):=by
 obtain⟨⟨vs,hb,hx⟩,hSb⟩:=ow;have haS:S i a:=(hS a).mpr rfl;have hi:i<ε.length:=(cO.mp e).1;have hbL:=lo b ((hSb b).mpr rfl);have fZ:a≠b:=by rintro rfl;exact hbL.2.1 ⟨i,haS⟩
 have g:bd (U S) (U S) F F H (L2.upd H a (.ins C dx (eQ y (.ref b) ws))):=⟨λ_ z=>z,λc o q n=>by rw[bh (by rintro rfl;exact n ⟨i,haS⟩)];exact q,λc o q=>by
  by_cases hc:c=a
  ·subst hc;exact⟨_,upd_same⟩
  ·exact⟨o,by rw[bh hc];exact q⟩,λ_ z=>.inl z,λ_ z=>.inl z⟩
 refine⟨⟨by rw[gK];exact r.len,λb z=>let ⟨o,q⟩:=r.ex b z;g.there b o q,λk pv q=>?_,λk po q=>?_,λk c z=>?_,λj k c z1 z2=>?_⟩,g⟩
 ·have hk:i≠k:=by rintro rfl;rw[cP hi]at q;cases q
  rw[cu hk]at q;obtain⟨v,q1,q2⟩:=r.val k pv q;exact⟨v,q1,q2.grow g r.fit⟩
 ·by_cases hk:i=k
  ·subst hk;rw[cP hi]at q;cases q;refine⟨a,ea,dx,ws,b,vs,?_,fr.mono (λ_ _ z=>z.grow g r.fit),hy,by rw[bh fZ.symm];exact hb,hx.grow g r.fit,fZ,λc=>?_⟩
   ·rw[upd_same,DK (fr.miss hy)]
   ·show(S i c\/i=i/\Sb c)↔_;rw[hS,hSb];simp
  ·rw[cu hk]at q;obtain⟨c,q1,q2⟩:=r.own k po q;have:(λc=>S k c\/(k=i/\Sb c))=S k:=by funext c;exact propext ⟨λz=>z.elim id λz=>absurd z.1.symm hk,.inl⟩
   refine⟨c,q1,?_⟩;rw[this];refine q2.mono (λ_ _ z=>z.grow g r.fit) (λ_ _ z=>z.grow g r.fit) λd o z w=>?_;rw[bh (by rintro rfl;exact hk (r.dist i k d haS z))];exact w
 ·have up:∀{c:ac}{o:HO},H c=aa o->cy o->∃o',(L2.upd H a (.ins C dx (eQ y (.ref b) ws))) c=aa o'/\cy o':=λ{c o} h1 h2=>by
   by_cases hc:c=a
   ·subst hc;exact⟨_,upd_same,trivial⟩
   ·exact⟨o,by rw[bh hc];exact h1,h2⟩
  have at_:∀{k:Nat}{po:PO},ε[k]?=aa (.own po)->∃po',(ε.set i (.own (.inl C fs y xs)))[k]?=aa (.own po'):=λ{k po} q=>by
   by_cases hk:i=k
   ·subst hk;exact⟨_,cP hi⟩
   ·exact⟨po,by rw[cu hk];exact q⟩
  rcases z with z|⟨rfl,z⟩
  ·obtain⟨⟨po,q1⟩,q2,o,q3,q4⟩:=r.foot k c z;exact⟨at_ q1,q2,up q3 q4⟩
  ·obtain⟨q2,_,o,q3,q4⟩:=lo c z;exact⟨at_ e,q2,up q3 q4⟩
 ·rcases z1 with z1|⟨rfl,z1⟩
  ·rcases z2 with z2|⟨rfl,z2⟩
   ·exact r.dist j k c z1 z2
   ·exact absurd ⟨j,z1⟩ (lo c z2).2.1
  ·rcases z2 with z2|⟨rfl,z2⟩
   ·exact absurd ⟨k,z2⟩ (lo c z1).2.1
   ·rfl
theorem aI.lent{ws:List (Str×V)}{O':ac->Prop}{S':Nat->ac->Prop}{ε':ag}{σ':St}(r:aI K F S ε σ H)(e:ε[i]?=aa (.own (.inl C fs y xs)))(ea:σ[i]?=aa (aa (.ref a)))(ha:H a=aa (.ins C dx (ws++[(y,.ref b)])))(fr:g_ K H F fs ws)(hy:fs.lookup y=af)(fZ:a≠b)(hS:∀c,S i c↔c=a\/c=b)(g:bd (λc=>c=b) O' F F1 H H1) (r':aI K F1 S' ε' σ' H1) (e':ε'[0]?=aa (.own (.lst ys))) (eb:σ'[0]?=aa (aa (.ref b))):aI K F1 S (ε.set i (.own (.inl C fs y ys))) σ H1/\bd (U S) (U S) F F1 H H1:=by
 have mP:S i b:=(hS b).mpr (.inr rfl);have hi:i<ε.length:=(cO.mp e).1;have fit:jo (λc=>c=b) F H:=λc z=>by subst z;exact(r.foot i c mP).2
 obtain⟨b',eb',⟨vs,hb,hx⟩,hSb⟩:=r'.own 0 _ e';rw[eb]at eb';cases eb';have gS:bd (U S) (U S) F F1 H H1:=⟨g.fro,λc o q n=>g.keep c o q λz=>n ⟨i,z ▸ mP⟩,g.there,λc z=>(g.fnew c z).imp id λw=>w.imp id λ(w:c=b)=>⟨i,by rw[w];exact mP⟩,λc z=>.inl z⟩
 refine⟨⟨by rw[gK];exact r.len,r'.ex,λk pv q=>?_,λk po q=>?_,λk c z=>?_,r.dist⟩,gS⟩
 ·have hk:i≠k:=by rintro rfl;rw[cP hi]at q;cases q
  rw[cu hk]at q;obtain⟨v,q1,q2⟩:=r.val k pv q;exact⟨v,q1,q2.grow g fit⟩
 ·by_cases hk:i=k
  ·subst hk;rw[cP hi]at q;cases q;exact⟨a,ea,dx,ws,b,vs,g.keep a _ ha fZ,fr.mono (λ_ _ z=>z.grow g fit),hy,hb,hx,fZ,hS⟩
  ·rw[cu hk]at q;obtain⟨c,q1,q2⟩:=r.own k po q;exact⟨c,q1,q2.mono (λ_ _ z=>z.grow g fit) (λ_ _ z=>z.grow g fit) λd o z w=>g.keep d o w (by rintro rfl;exact hk (r.dist i k d mP z))⟩
 ·obtain⟨⟨po,q1⟩,q2,o,q3,q4⟩:=r.foot k c z;have z1:∃po',(ε.set i (.own (.inl C fs y ys)))[k]?=aa (.own po'):=by
   by_cases hk:i=k
   ·subst hk;exact⟨_,cP hi⟩
   ·exact⟨po,by rw[cu hk];exact q1⟩
  by_cases hc:c=b
  ·subst hc;have:=r'.foot 0 c ((hSb c).mpr rfl);exact⟨z1,this.2⟩
  ·refine⟨z1,λw=>?_,o,g.keep c o q3 hc,q4⟩;rcases g.fnew c w with w|w|w
   ·exact q2 w
   ·rw[q3]at w;cases w
   ·exact hc w
theorem aI.aside{O O':ac->Prop}(r:aI K F S ε σ H)(g:bd O O' F F1 H H1)(hO:∀c,O c->H c=af)(ex:∀c,F1 c->∃o,H1 c=aa o):aI K F1 S ε σ H1/\bd (U S) (U S) F F1 H H1:=by
 have no:∀c o,H c=aa o->¬O c:=λc o q z=>by rw[hO c z]at q;cases q
 have al:Al F F1 H H1:=⟨g.fro,λc o q=>g.keep c o q (no c o q),λc z=>by
  rcases g.fnew c z with w|w|w
  ·exact .inl w
  ·exact .inr ⟨w,ex c z⟩
  ·exact .inr ⟨hO c w,ex c z⟩⟩
 exact⟨r.al al,al.grow⟩
end
section
variable{X:Cx}{E:XK}{pin:List Nat}{e value:aw}{f x y fn:Str}{C:ac}{p pos pos':Pos}{dv de:ag->R PV}{id T:String}{r:List V->Hp->VK->Prop}{fp:List PV->Option PV}{fo:List PV->Option PO}
theorem Pm{F:ac->Prop}{S:Nat->ac->Prop}{ε:ag}{σ:St}{H:Hp}{Q:VK}{i:Nat}(hp:j9 X.K r fo)(rl:aI X.K F S ε σ H)(h:Ok X.K E σ F S H (i9 (λxs=>iQ (fo xs)) C y i ε) (λpo _ F' S' H'=>∀a Sa,dJ X.K H' F' po a Sa->(∀b,Sa b->H b=af/\¬F' b/\¬U S' b/\∃o,H' b=aa o/\cy o)->Q (.ref a) H')):∃a b dx ws,σ[i]?=aa (aa (.ref a))/\H a=aa (.ins C dx ws)/\ws.lookup y=aa (.ref b)/\r [.ref b] H Q:=by
 unfold i9 at h;cases e0:g7 ε C y i with
 |none=>rw[e0]at h;exact h.elim
 |some q=>
  rw[e0]at h;simp only[bw,R.bind_ok]at h;obtain⟨a,b,dx,ws,ea,ha,hl,ra,r_,dR⟩:=rl.lookI (oR e0);refine⟨a,b,dx,ws,ea,ha,hl,?_⟩;cases e1:fo [.lst q.2]with
  |none=>rw[e1]at h;exact h.elim
  |some po=>
   rw[e1]at h;cases po with
   |lst ys=>
    have h:Ok X.K E σ F S H (aC (if kW ys then aa (PO.lst ys)else af) ε) _:=h;split at h
    ·rename_i hi;refine hp _ H [.lst q.2] [.ref b] Q _ r_ (.one ra) e1 λc F' H' Sa al ow fr=>h _ S H' (rl.al (dR al)) (dR al).grow c Sa ?_ λb z=>?_
     ·obtain⟨⟨vs,o1,o2⟩,o3⟩:=ow;exact⟨⟨vs,o1,bj.imm ys hi o2⟩,o3⟩
     ·obtain⟨z1,z2,o,z3,z4⟩:=fr b z;refine⟨z1,λw=>z2 w.1,λ⟨j,w⟩=>?_,o,z3,z4⟩;obtain⟨_,_,o',w1,_⟩:=rl.foot j b w;rw[z1]at w1;cases w1
    ·exact h.elim
   |_=>exact h.elim
theorem OD(i:Nat)(c:Cls X.K C)(n:gF X.K C y)(hc:eG X (.type T) r)(hp:j9 X.K r fo)(hm:X.mg fn=af)(hv:eE fn=aa (.type T))(hN:X.N[i]?=aa x:=by rfl)(dQ:cx X.env.scope x:=by first|exact Or.inl rfl|exact Or.inr (Or.inl rfl)|exact Or.inr (Or.inr rfl))(hd:(x == ("__debug__" : Str))=aj:=by decide) (a8:(x == ("__classdict__" : Str))=aj:=by decide) (hg:Gl X fn:=by rfl) (hn:fn≠"__name__":=by decide) (eX:(fn == ("__debug__" : Str))=aj:=by decide) {yp ap:Pos}(hb:e9 (.Name x yp) y X.env (aG (.Name x yp) X.env)=aG (.Name x yp) X.env:=by rfl)(he:aH [.Attribute (.Name x yp) y ap] X.env=(aj,aG (.Attribute (.Name x yp) y ap) X.env)::aH [] X.env:=by rfl) (cz:(bU pos (aH [] X.env)).any (·.1)=aj:=by rfl):DN X E (.Call (.Name fn p) [.Attribute (.Name x yp) y ap] [] pos) (i9 (λxs=>iQ (fo xs)) C y i):=λF S ε σ H Q rl q=>by obtain⟨a,b,dx,ws,ea,ha,hl,hr⟩:=Pm hp rl q;exact bJ (wO hc hg hm hv (ff (nr (cF hN dQ hd a8) hb) gB he) hn eX he cz) ⟨.ref a,ea,a,C,dx,ws,.ref b,rfl,ha,c,n,hl,hr⟩
def xc(C:ac)(y:Str)(i:Nat)(de:ag->R PV):ag->R aK:=λε=>(aC (g7 ε C y i) ε).bind λq ε=>match de (ε.set i .none)with
 |.ok v ε1=>if q.2.length<bC then .ok .next (ε1.set i (.own (.inl C q.1 y (q.2++[v]))))else .no
 |_=>.no
theorem Ms(i:Nat)(c:Cls X.K C)(n:gF X.K C y)(he:DE X E e de){x:Str}{p ap apos cpos:Pos}(hN:X.N[i]?=aa x:=by rfl)(hv:cx X.env.scope x:=by first|exact Or.inl rfl|exact Or.inr (Or.inl rfl)|exact Or.inr (Or.inr rfl))(hd:(x == ("__debug__" : Str))=aj:=by decide)(a8:(x == ("__classdict__" : Str))=aj:=by decide) (hb:e9 (.Name x p) y X.env (aG (.Name x p) X.env)=aG (.Name x p) X.env:=by rfl)(h1:e9 (.Attribute (.Name x p) y ap) "append" X.env (aG (.Attribute (.Name x p) y ap) X.env)=aG (.Attribute (.Name x p) y ap) X.env:=by rfl)(h2:((bU cpos (aH [e] X.env)).all (λx=>!x.1)&&(jW cpos (jX [] X.env)).all (λx=>x.1.isSome)&&decide ([e].length+([]:List im).length+(if([]:List im).isEmpty then 0 else 1)<30))=ah:=by rfl)(h3:(apos.endLine == cpos.line)=ah:=by rfl) (h4:aH [e] X.env=(aj,aG e X.env)::aH [] X.env:=by rfl) (h5:(bU cpos (aH [] X.env)).any (·.1)=aj:=by rfl)(hs:ik (.Call (.Attribute (.Attribute (.Name x p) y ap) "append" apos) [e] [] cpos) af pos.line X.env=pure aj:=by rfl):DS X E pin (.Expr (.Call (.Attribute (.Attribute (.Name x p) y ap) "append" apos) [e] [] cpos) pos) (xc C y i de):=λF S ε σ H D rl h=>by
 unfold xc at h;cases e0:g7 ε C y i with
 |none=>rw[e0]at h;exact h.elim
 |some q=>
  rw[e0]at h;simp only[bw,R.bind_ok]at h;have eq0:=oR e0;obtain⟨a,ea,dx,ws,b,vs,ha,fr,hy,i4,hx,fZ,hS⟩:=rl.own i _ eq0;refine fI (tG (qO pO G6 G7 wj (nr (cF hN hv hd a8) hb) (ff bB gB h4) h1 h2 h3 h4 h5) hs) ⟨.ref a,ea,a,C,dx,_,.ref b,rfl,ha,c,n,sK (fr.miss hy),.inl ⟨rfl,_,bZ.of i4⟩,?_⟩;refine he F _ _ σ H _ (rl.drop i) ?_;cases e1:de (ε.set i .none)with
  |no=>rw[e1]at h;exact h.elim
  |er c' ε'=>rw[e1]at h;exact h.elim
  |ok v ε1=>
   rw[e1]at h;dsimp only at h;split at h
   ·rename_i hl;intro F1 S1 H1 r1 g1 v' rv;obtain⟨S2,r2,g2,ke⟩:=rl.away eq0 r1 g1;have hi:i<ε1.length:=by rw[r1.len];exact(cO.mp ea).1
    obtain⟨a2,ea2,dx2,ws2,b2,vs2,ou,fr2,hy2,hb2,se,hab2,lw⟩:=r2.own i _ (cP hi);rw[ea]at ea2;cases ea2;have hk1:=ke a _ ((hS a).mpr (.inl rfl)) ha;have hk2:=ke b _ ((hS b).mpr (.inr rfl)) i4;rw[hk1]at ou;injection ou with ou;injection ou with _ edx ews;obtain⟨ews1,ews2⟩:=List.append_inj' ews rfl;injection ews2 with ews2 _;injection ews2 with _ ews2;injection ews2 with ews2;subst ews1 ews2 edx;rw[hk2]at hb2;cases hb2;obtain⟨r3,g3⟩:=r2.updI (cP hi) ea hk1 fr2 hy2 hab2 lw (se.app (.one rv));rw[List.set_set]at r3;exact⟨b,vs,v',rfl,rfl,hk2,by rw[hx.len];exact gG hl kf,h F1 S2 σ _ r3 (g2.trans g3) (iH.refl _ _)⟩
   ·exact h.elim
def vE(C:ac)(y:Str)(i:Nat):ag->R PV:=λε=>(aC (g7 ε C y i) ε).bind λq ε=>(aC q.2.getLast? ε).bind λv ε=>.ok v (ε.set i (.own (.inl C q.1 y q.2.dropLast)))
theorem bj.dropL{K:aq}{H:Hp}{F:ac->Prop}:∀{xs:List PV}{vs:List V},bj K H F xs vs->bj K H F xs.dropLast vs.dropLast
 |[],_,h=>by cases h;exact rfl
 |[x],vs,h=>by
  obtain⟨v,r,rfl,h1,h2⟩:=h;cases h2;exact rfl
 |x::x2::xs,vs,h=>by obtain⟨v,r,rfl,h1,h2⟩:=h;obtain⟨v2,r2,rfl,h3,h4⟩:=h2;exact⟨v,(v2::r2).dropLast,rfl,h1,bj.dropL (xs:=x2::xs) ⟨v2,r2,rfl,h3,h4⟩⟩
theorem Ic(i:Nat)(c:Cls X.K C)(n:gF X.K C y){x:Str}{p ap apos cpos:Pos}(hN:X.N[i]?=aa x:=by rfl)(hv:cx X.env.scope x:=by first|exact Or.inl rfl|exact Or.inr (Or.inl rfl)|exact Or.inr (Or.inr rfl))(hd:(x == ("__debug__" : Str))=aj:=by decide)(a8:(x == ("__classdict__" : Str))=aj:=by decide) (hb:e9 (.Name x p) y X.env (aG (.Name x p) X.env)=aG (.Name x p) X.env:=by rfl)(h1:e9 (.Attribute (.Name x p) y ap) "pop" X.env (aG (.Attribute (.Name x p) y ap) X.env)=aG (.Attribute (.Name x p) y ap) X.env:=by rfl) (h3:(apos.endLine == cpos.line)=ah:=by rfl):DE X E (.Call (.Attribute (.Attribute (.Name x p) y ap) "pop" apos) [] [] cpos) (vE C y i):=λF S ε σ H Q rl h=>by
 unfold vE at h;cases e0:g7 ε C y i with
 |none=>rw[e0]at h;exact h.elim
 |some q=>
  rw[e0]at h;simp only[bw,R.bind_ok]at h;have eq0:=oR e0;obtain⟨a,ea,dx,ws,b,vs,ha,fr,hy,i4,hx,fZ,hS⟩:=rl.own i _ eq0;cases e1:q.2.getLast? with
  |none=>rw[e1]at h;exact h.elim
  |some v=>
   rw[e1]at h;obtain⟨r3,g3⟩:=rl.updI eq0 ea ha fr hy fZ hS hx.dropL;have e2:q.2[q.2.length-1]?=aa v:=by rw[←List.getLast?_eq_getElem?];exact e1
   obtain⟨u,hu,ru⟩:=hx.get e2;refine bJ (yU pO PySem.F.slot_list_pop PySem.F.type_list_pop D6 (nr (cF hN hv hd a8) hb) h1 h3) ⟨.ref a,ea,a,C,dx,_,.ref b,rfl,ha,c,n,sK (fr.miss hy),.inl ⟨rfl,_,bZ.of i4⟩,b,vs,u,rfl,rfl,i4,by rw[hx.len];exact hu,?_⟩;exact h F S _ r3 g3 u (ru.grow g3 rl.fit)
def vJ(C:ac)(i:Nat)(y:Str)(dn:ag->R PO):ag->R aK:=λε=>(dn ε).bind λpo ε1=>match po with
 |.lst xs=>(aC (oK ε1 C i) ε1).bind λfs ε1=>if fs.length<1000/\fs.lookup y=af then .ok .next (ε1.set i (.own (.inl C fs y xs)))else .no
 |_=>.no
theorem On(i:Nat)(c:Cls X.K C)(n:gF X.K C y){dn:ag->R PO}(BH:DN X E value dn)(hN:X.N[i]?=aa x:=by rfl)(hv:cx X.env.scope x:=by first|exact Or.inl rfl|exact Or.inr (Or.inl rfl)|exact Or.inr (Or.inr rfl))(hd:(x == ("__debug__" : Str))=aj:=by decide)(a8:(x == ("__classdict__" : Str))=aj:=by decide) (hs:ik value (aa (.Attribute (.Name x p) y pos')) pos.line X.env=pure aj:=by rfl):DS X E pin (.Assign [.Attribute (.Name x p) y pos'] value pos) (vJ C i y dn):=λF S ε σ H D rl h=>by
 refine fI (Cv (cF hN hv hd a8) bB hs) (BH F S ε σ H _ rl ?_);unfold vJ at h;cases e0:dn ε with
 |no=>rw[e0]at h;exact h.elim
 |er c ε'=>rw[e0]at h;exact λx F' S' H' r' g'=>h x F' S' σ H' r' g' (iH.refl _ _)
 |ok po ε1=>
  rw[e0]at h;simp only[R.bind_ok]at h;intro F1 S1 H1 r1 g1 b Sb ow fr;cases po with
  |lst xs=>
   dsimp only at h;cases e2:oK ε1 C i with
   |none=>rw[e2]at h;exact h.elim
   |some fs=>
    rw[e2]at h;simp only[bw,R.bind_ok]at h;obtain⟨a,ea,⟨dx,ws,ha,hf⟩,hS⟩:=r1.own i _ (vo e2);split at h
    ·rename_i hl;obtain⟨r2,g2⟩:=r1.giveI (vo e2) ea ha hf hS hl.2 ow λb z=>(fr b z).2;refine⟨.ref a,ea,a,C,dx,ws,rfl,ha,c,n,by rw[hf.len];exact hl.1,h F1 _ σ _ r2 ?_ (iH.refl _ _)⟩;have g3:=g1.trans g2;refine⟨g3.fro,g3.keep,g3.there,g3.fnew,λb ⟨j,z⟩=>?_⟩;rcases z with z|⟨_,z⟩
     ·exact g1.onew b ⟨j,z⟩
     ·exact .inr (fr b z).1
    ·exact h.elim
  |_=>exact h.elim
end
section
variable{K:aq}{F:ac->Prop}{S:Nat->ac->Prop}{ε:ag}{σ σ':St}{H:Hp}{i:Nat}{C:ac}{m:Str}
def kU(ε:ag)(C:ac)(m:Str)(i:Nat):Bool:=match ε[i]? with
 |some (.own (.ins D fs))=>decide (D=C)&&(fs.lookup m).isNone
 |some (.own (.inl D fs y _))=>decide (D=C)&&(fs.lookup m).isNone&&decide (m≠y)
 |_=>aj
theorem AA(r:aI K F S ε σ H)(h:kU ε C m i=ah):∃a dx ws,σ[i]?=aa (aa (.ref a))/\H a=aa (.ins C dx ws)/\ws.lookup m=af:=by
 unfold kU at h;split at h
 ·rename_i D fs e;simp only[fq,decide_eq_true_eq,Option.isNone_iff_eq_none]at h;obtain⟨rfl,hl⟩:=h;obtain⟨a,ea,⟨dx,ws,ha,hf⟩,_⟩:=r.own i _ e;exact⟨a,dx,ws,ea,ha,hf.miss hl⟩
 ·rename_i D fs y xs e;simp only[fq,decide_eq_true_eq,Option.isNone_iff_eq_none]at h;obtain⟨⟨rfl,hl⟩,hy⟩:=h;obtain⟨a,ea,dx,ws,b,vs,ha,hf,_⟩:=r.own i _ e;refine⟨a,dx,_,ea,ha,?_⟩;have:(m == y)=aj:=by simpa using hy
  rw[uz,hf.miss hl];simp[jh,this]
 ·cases h
theorem eO.bare:∀{as:List bL}{vs:List V},bu as=[]->eO K σ F H as vs->eO K σ' F H as vs
 |[],_,_,h=>h
 |.inl _::_,_,ho,⟨v,r,e,h1,h2⟩=>⟨v,r,e,h1,eO.bare ho h2⟩
 |.inr _::_,_,ho,_=>by cases ho
theorem aI.only{po:PO}{a:ac}{Sa:ac->Prop}(ex:∀b,F b->∃o,H b=aa o)(ow:dJ K H F po a Sa)(lo:∀b,Sa b->¬F b/\∃o,H b=aa o/\cy o):aI K F (λj b=>j=0/\Sa b) [.own po] [aa (.ref a)] H:=by
 refine⟨rfl,ex,λj pv q=>?_,λj p q=>?_,λj b z=>?_,λj k b z1 z2=>z1.1.trans z2.1.symm⟩
 ·match j,q with
  |0,q=>cases q
 ·match j,q with
  |0,q=>
   cases q;refine⟨a,rfl,?_⟩;have:(λb=>0=0/\Sa b)=Sa:=by funext b;exact propext ⟨λz=>z.2,λz=>⟨rfl,z⟩⟩
   rw[this];exact ow
 ·obtain⟨rfl,z⟩:=z;exact⟨⟨po,rfl⟩,lo b z⟩
end
section
variable{CX:eI}{X:Cx}{E:XK}{pin:List Nat}{e:aw}{es:List aw}{dg:ag->R (List bL)}{p pos apos:Pos}{x m:Str}{C:ac}{k:Nat}{ps:List Str}{g gi gm:ag->R Slot}
def eM(C:ac)(m:Str)(i:Nat)(g:ag->R Slot):ag->R Slot:=λε=>if kU ε C m i then jq ε [.inr i] g else .no
theorem q8{pl:Sem Bool}(i:Nat)(c:Cls X.K C)(mt:kZ CX X.prog X.w X.K X.mg X.base C m k ps (bp X.K g))(hr:cB k X.A)(hx:jL CX X E)(hN:X.N[i]?=aa x:=by rfl) (hv:cx X.env.scope x:=by first|exact Or.inl rfl|exact Or.inr (Or.inl rfl)|exact Or.inr (Or.inr rfl)) (hd:(x == ("__debug__" : Str))=aj:=by decide) (a8:(x == ("__classdict__" : Str))=aj:=by decide)(ht:aG (.Call (.Attribute (.Name x p) m apos) [] [] pos) X.env=(do
   let ov ←aG (.Name x p) X.env
   standAt apos.atName
   let (f,first) ←pA [ov] (uu ov m pl)
   callWith pos f first (bU pos (aH [] X.env)) (jW pos (jX [] X.env))):=by rfl) :
  DR X E (.Call (.Attribute (.Name x p) m apos) [] [] pos) (eM C m i g):=λF S ε σ H Q rl h=>by
 unfold eM at h;by_cases mo:kU ε C m i=ah
 ·rw[if_pos mo]at h;obtain⟨f,fd,hm,Fn,hb⟩:=mt.ex;obtain⟨a,dx,ws,ea,hH,hl⟩:=AA rl mo;refine bJ (Jc (pl:=pl) (cF hN hv hd a8) c hm Fn hr hb .nil hx ht) ⟨.ref a,ea,a,dx,ws,rfl,hH,hl,?_⟩;have av2:eO X.K σ F H [.inr i] [.ref a]:=⟨.ref a,[],rfl,ea,rfl⟩
  exact wD (v3 rl av2 h) λv H' ⟨sl,ε',F',S',Sr,r',g',rs,fr,hq⟩=>hq v Sr rs fr
 ·rw[if_neg mo]at h;exact h.elim
def oO(C:ac)(gi:ag->R Slot)(dg:ag->R (List bL)):ag->R PO:=λε=>(dg ε).bind λas ε1=>if bu as=[] then(match jq [.own (.ins C [])] (.inr 0::as) gi with
 |.ok (.val .non) [.own po]=>.ok po ε1
 |.er c _=>.er c ε1
 |_=>.no)else .no
theorem C1(mk:AW CX X.prog X.w X.K X.mg X.base C k ps (bp X.K gi))(hr:cB (k+1) X.A)(hx:jL CX X E)(hm:X.mg x=aa (.ref C))(ha:DG X E (e::es) dg)(hg:Gl X x:=by rfl)(hd:(x == ("__debug__" : Str))=aj:=by decide) (h1:aH (e::es) X.env=(aj,aG e X.env)::aH es X.env:=by rfl) (h2:(bU pos (aH es X.env)).any (·.1)=aj:=by rfl):DN X E (.Call (.Name x p) (e::es) [] pos) (oO C gi dg):=λF S ε σ H Q rl h=>by
 obtain⟨f,fd,M,Fn,hb⟩:=mk.ex;refine bJ (L7 M Fn hr hg hm hb .nil hx gP hd h1 h2) (ha F S ε σ H _ rl ((Ok.bind h).imp λas ε1 F1 S1 H1 r1 g1 q vs av xx dx hxn hdx dw=>?_));rw[gq];by_cases ho:bu as=[]
 ·rw[if_pos ho]at q;have al:Al F1 F1 H1 (L2.upd (L2.upd H1 dx (.own xx)) xx (.ins C dx [])):=(Al.new0 hdx).trans (Al.new0 (by rw[bh (c8 dw)];exact hxn));have nF:¬F1 xx:=λz=>by obtain⟨o,q⟩:=r1.ex xx z;rw[hxn]at q;cases q
  have ow:dJ X.K (L2.upd (L2.upd H1 dx (.own xx)) xx (.ins C dx [])) F1 (.ins C []) xx (λb=>b=xx):=⟨⟨dx,[],upd_same,.nil⟩,λb=>nZ⟩
  have rp:=aI.only (r1.al al).ex ow λb z=>by subst z;exact⟨nF,_,upd_same,trivial⟩
  have av2:eO X.K [aa (.ref xx)] F1 (L2.upd (L2.upd H1 dx (.own xx)) xx (.ins C dx [])) (.inr 0::as) (.ref xx::vs):=⟨.ref xx,vs,rfl,rfl,eO.bare ho (av.al al)⟩
  have hU:∀c,U (λj b=>j=0/\b=xx) c->H1 c=af:=λc ⟨j,_,z⟩=>by rw[z];exact hxn
  refine wD (v3 (D:=λsl ε' F' S' H'=>sl=.val .non/\Q (.ref xx) H') rp av2 ?_) λv H' ⟨sl,ε',F',S',Sr,r',g',rs,fr,hs,hq⟩=>⟨by subst hs;exact rs.1,hq⟩
  split at q
  ·rename_i po e0;rw[e0];intro F' S' H' r' g';obtain⟨a',ea',ow'⟩:=r'.own 0 _ rfl;cases ea';obtain⟨r2,g2⟩:=r1.aside (al.grow.trans g') hU r'.ex;refine⟨rfl,q F' S1 H' r2 g2 xx (S' 0) ow' λb z=>?_⟩;have hn:H1 b=af:=by
    rcases g'.onew b ⟨0,z⟩with w|w
    ·exact hU b w
    ·exact al.same.free w
   exact⟨j7 g1 hn,(r'.foot 0 b z).2.1,(λ⟨j,w⟩=>by obtain⟨_,_,o,w1,_⟩:=r1.foot j b w;rw[hn]at w1;cases w1),(r'.foot 0 b z).2.2⟩
  ·rename_i c ε' e0;rw[e0];intro y F' S' H' r' g';obtain⟨r2,g2⟩:=r1.aside (al.grow.trans g') hU r'.ex;exact q y F' S1 H' r2 g2
  ·exact q.elim
 ·rw[if_neg ho]at q;exact q.elim
def nt(C:ac)(y w:Str)(i:Nat)(g:ag->R Slot):ag->R Slot:=λε=>(aC (g7 ε C y i) ε).bind λq ε=>(aC (q.1.lookup w) ε).bind λv ε=>match g [.own (.lst q.2),.val v]with
 |.ok s (.own (.lst ys)::_)=>.ok s (ε.set i (.own (.inl C q.1 y ys)))
 |_=>.no
theorem FI(i:Nat){f y w:Str}{p1 p2 a1 a2:Pos}(c:Cls X.K C)(ny:gF X.K C y)(nw:gF X.K C w)(cal:cC CX X.prog X.w X.K X.mg X.base f k ps (bp X.K g))(hr:cB k X.A)(hx:jL CX X E)(hN:X.N[i]?=aa x:=by rfl) (hv:cx X.env.scope x:=by first|exact Or.inl rfl|exact Or.inr (Or.inl rfl)|exact Or.inr (Or.inr rfl)) (hd:(x == ("__debug__" : Str))=aj:=by decide) (a8:(x == ("__classdict__" : Str))=aj:=by decide) (hg:Gl X f:=by rfl) (eX:(f == ("__debug__" : Str))=aj:=by decide)(b1:e9 (.Name x p1) y X.env (aG (.Name x p1) X.env)=aG (.Name x p1) X.env:=by rfl) (b2:e9 (.Name x p2) w X.env (aG (.Name x p2) X.env)=aG (.Name x p2) X.env:=by rfl)(h1:aH [.Attribute (.Name x p1) y a1,.Attribute (.Name x p2) w a2] X.env=(aj,aG (.Attribute (.Name x p1) y a1) X.env)::aH [.Attribute (.Name x p2) w a2] X.env:=by rfl)(h3:aH [.Attribute (.Name x p2) w a2] X.env=(aj,aG (.Attribute (.Name x p2) w a2) X.env)::aH [] X.env:=by rfl) (h2:(bU pos (aH [.Attribute (.Name x p2) w a2] X.env)).any (·.1)=aj:=by rfl):DR X E (.Call (.Name f p) [.Attribute (.Name x p1) y a1,.Attribute (.Name x p2) w a2] [] pos) (nt C y w i g):=λF S ε σ H Q rl h=>by
 unfold nt at h;cases e0:g7 ε C y i with
 |none=>rw[e0]at h;exact h.elim
 |some q=>
  rw[e0]at h;simp only[bw,R.bind_ok]at h;have eq0:=oR e0;obtain⟨a,ea,dx,ws,b,vs,ha,fr,hy,i4,hxs,fZ,hS⟩:=rl.own i _ eq0;cases e1:q.1.lookup w with
  |none=>rw[e1]at h;exact h.elim
  |some pv=>
   rw[e1]at h;simp only[bw,R.bind_ok]at h;obtain⟨v,l,rv⟩:=fr.look e1;obtain⟨fa,fd,hm,Fn,hb,hk⟩:=cal.ex;have mP:S i b:=(hS b).mpr (.inr rfl);refine bJ (yW Fn hr hg hm hk hb .nil hx (ff (nr (cF hN hv hd a8) b1) (ff (nr (cF hN hv hd a8) b2) gB h3) h1) eX h1 h2) ⟨.ref a,ea,a,C,dx,_,.ref b,rfl,ha,c,ny,sK (fr.miss hy),.ref a,ea,a,C,dx,_,v,rfl,ha,c,nw,FQ l,?_⟩;have rp:aI X.K F (λj d=>j=0/\d=b) [.own (.lst q.2),.val pv] [aa (.ref b),aa v] H:=by
    refine⟨rfl,rl.ex,λj pv' q=>?_,λj po q=>?_,λj d z=>?_,λj k d z1 z2=>z1.1.trans z2.1.symm⟩
    ·match j,q with
     |0,q=>cases q
     |1,q=>cases q;exact⟨v,rfl,rv⟩
    ·match j,q with
     |0,q=>cases q;exact⟨b,rfl,⟨vs,i4,hxs⟩,λd=>⟨λz=>z.2,λz=>⟨rfl,z⟩⟩⟩
     |1,q=>cases q
    ·obtain⟨rfl,rfl⟩:=z;exact⟨⟨_,rfl⟩,(rl.foot i d mP).2⟩
   refine⟨F,_,[.own (.lst q.2),.val pv],rp,?_⟩;have hU:(U λj d=>j=0/\d=b)=λd=>d=b:=by funext d;exact propext ⟨λ⟨_,_,z⟩=>z,λz=>⟨0,rfl,z⟩⟩
   split at h
   ·rename_i s ys rest eg;rw[eg];intro v2 F' S' H' Sr r' g' rs lo fr';rw[hU]at g';obtain⟨r2,g2⟩:=rl.lent eq0 ea ha fr hy fZ hS g' r' rfl rfl;exact h F' S H' r2 g2 v2 Sr rs λd z=>⟨fr' d z,(lo d z).1,(λ⟨j,z2⟩=>by obtain⟨_,_,o,z3,_⟩:=rl.foot j d z2;rw[fr' d z]at z3;cases z3),(lo d z).2.2⟩
   ·exact h.elim
end
def fh(pin:List Nat):Nat->ag->Bool
 |_,[]=>ah
 |i,.own _::ss=>pin.contains i&&fh pin (i+1) ss
 |i,_::ss=>fh pin (i+1) ss
theorem vT{pin:List Nat}:∀{ss:ag}{k:Nat},fh pin k ss=ah->∀(i:Nat) po,ss[i]?=aa (.own po)->k+i∈pin
 |[],_,_,i,po,e=>by simp at e
 |.own q::ss,k,h,0,po,e=>by simp only[fh,fq]at h;simpa using h.1
 |.own q::ss,k,h,i+1,po,e=>by simp only[fh,fq]at h;have:=vT (k:=k+1) h.2 i po (by simpa using e);rwa[uH,uI]at this
 |.val q::ss,k,h,0,po,e=>by simp at e
 |.none::ss,k,h,0,po,e=>by simp at e
 |.val q::ss,k,h,i+1,po,e=>by have:=vT (k:=k+1) (by simpa[fh]using h) i po (by simpa using e);rwa[uH,uI]at this
 |.none::ss,k,h,i+1,po,e=>by have:=vT (k:=k+1) (by simpa[fh]using h) i po (by simpa using e);rwa[uH,uI]at this
def gM:R Slot->R Slot
 |.ok (.val v) ss=>.ok (.val v) ss
 |.er c ss=>.er c ss
 |_=>.no
theorem IY{r:R Slot}(h:gM r≠.no):gM r=r:=by unfold gM at h ⊢;split <;> simp_all
def eP(len:Nat)(pin:List Nat)(g:ag->R Slot):ag->R Slot:=λss=>if ss.length=len/\fh pin 0 ss=ah then gM (g ss)else .no
section
variable{CX:eI}{P:ba}{w:aP}{K:aq}{mg:Str->Option ai}{base:aE}{C:ac}{m x qual:Str}{st:aR}{N ps:List Str}{k n:Nat}{d:ag->R aK}{pin:List Nat}
theorem FS{f:ac}{fd:gn}(Fn:kT K x qual st f fd)(Sc:bI N ps (aN st))(hn:N.length=ps.length+n)(hb:∀(kV doc pm:ai) (an:Option ac) (aF ct:ai) (us:List ai),us.length=ps.length->eV (fk x qual (gc st) (c7 st) (aN st) .none kV doc pm an aF ct) ⟨us,[]⟩=pure (ps.zip us))(eW:∀(f:ac) (aF:ai) (A:a6) (outer:List Env) (s:am) (H:Hp) (E:XK),cB k (A.deeper (gu qual (aN st) s.heap.objs.size f aF))->fc (gd CX P w K mg base N qual (aN st) f aF A outer s H E) E pin (c7 st) d):gL P w K mg base CX (k+1) f fd ps (bp K (eP ps.length pin (bq n d))):=by
 have no:∀{ss},eP ps.length pin (bq n d) ss≠.no->ss.length=ps.length/\fh pin 0 ss=ah:=λ{ss} h=>by
  unfold eP at h;by_cases z:ss.length=ps.length/\fh pin 0 ss=ah
  ·exact z
  ·rw[if_neg z]at h;exact absurd rfl h
 refine Ch Fn Sc hn hb (λss h=>(no h).1) (λss h i po e=>by have:=vT (no h).2 i po e;rwa[kD]at this) (λss rs aL h=>.inl ?_) (λss h=>?_) λA outer s H E=>eW f fd.code A outer s H E
 ·unfold eP at h;split at h
  ·unfold gM at h;split at h
   ·cases h;exact⟨_,rfl⟩
   ·cases h
   ·cases h
  ·cases h
 ·have z:=no h;unfold eP at h ⊢;rw[if_pos z]at h ⊢;exact(IY h).symm
theorem v6(D:jp K C m qual st)(Sc:bI N ps (aN st))(hn:N.length=ps.length+n)(hb:∀(kV doc pm:ai) (an:Option ac) (aF ct:ai) (us:List ai),us.length=ps.length->eV (fk m qual (gc st) (c7 st) (aN st) .none kV doc pm an aF ct) ⟨us,[]⟩=pure (ps.zip us))(eW:∀(f:ac) (aF:ai) (A:a6) (outer:List Env) (s:am) (H:Hp) (E:XK),cB k (A.deeper (gu qual (aN st) s.heap.objs.size f aF))->fc (gd CX P w K mg base N qual (aN st) f aF A outer s H E) E pin (c7 st) d):kZ CX P w K mg base C m (k+1) ps (bp K (eP ps.length pin (bq n d))):=by obtain⟨f,fd,M,Fn⟩:=D;exact⟨f,fd,M,FS Fn Sc hn hb eW,Fn.binds hb⟩
theorem Mw(D:cp K mg x st)(Sc:bI N ps (aN st))(hn:N.length=ps.length+n)(hb:∀(kV doc pm:ai) (an:Option ac) (aF ct:ai) (us:List ai),us.length=ps.length->eV (fk x x (gc st) (c7 st) (aN st) .none kV doc pm an aF ct) ⟨us,[]⟩=pure (ps.zip us))(eW:∀(f:ac) (aF:ai) (A:a6) (outer:List Env) (s:am) (H:Hp) (E:XK),cB k (A.deeper (gu x (aN st) s.heap.objs.size f aF))->fc (gd CX P w K mg base N x (aN st) f aF A outer s H E) E pin (c7 st) d):cC CX P w K mg base x (k+1) ps (bp K (eP ps.length pin (bq n d))):=by obtain⟨f,fd,hm,Fn⟩:=D.ex;exact⟨f,fd,hm,FS Fn Sc hn hb eW,Fn.binds hb,Fn.kp⟩
end
section
variable{X:Cx}{e c ie:aw}{es:List aw}{ss a:List aR}{t:ag->R Bool}{du1 du2:ag->R Slot}{dg:ag->R (List bL)}{di:ag->R PV}{k k1 k2 k3:Nat}{ps ps1 ps2 ps3:List Str}{g g1 g2 g3:ag->R Slot}{x1 x2 x3:Str}{ip pos p1 p2 p3 lp sp:Pos}
def pb(t:ag->R Bool)(du1 du2:ag->R Slot):ag->R Slot:=λε=>(bA (t ε)).bind λk ε1=>if k then du1 ε1 else du2 ε1
end
section
variable{X:Cx}{e c ea eb:aw}{es:List aw}{t:ag->R Bool}{du1 du2:ag->R Slot}{dg:ag->R (List bL)}{k:Nat}{ps:List Str}{g:ag->R Slot}{x m:Str}{C:ac}{p pos apos:Pos}
theorem Kr(ht:DT X.nox E0 c t)(h1:DX X ea du1)(h2:DX X eb du2):DX X (.IfExp c ea eb pos) (pb t du1 du2):=λF S ε σ H Q XE rl h ae s I=>by
 have q0:Ok X.K E0 σ F S H (t ε) (λk ε1 F1 S1 H1=>Ok X.K (λc _ H'=>XE c H') σ F1 S1 H1 (if k then du1 ε1 else du2 ε1) (λs _ F' S' H'=>∀v Sr,jO X.K H' F' s v Sr->(∀b,Sr b->H b=af/\¬F' b/\¬U S' b/\∃o,H' b=aa o/\cy o)->Q v H')):=by
  unfold pb at h;cases e0:t ε with
  |no=>rw[e0]at h;exact h.elim
  |er c ε'=>rw[e0]at h;exact h.elim
  |ok k ε1=>rw[e0]at h;exact λF1 S1 H1 r1 g1=>Ok.from h g1
 have wt:=(ht F S ε σ H (λk H1=>∃F1 S1 ε1,aI X.K F1 S1 ε1 σ H1/\(∀b,H1 b=af->H b=af)/\Ok X.K (λc _ H'=>XE c H') σ F1 S1 H1 (if k then du1 ε1 else du2 ε1) (λs _ F' S' H'=>∀v Sr,jO X.K H' F' s v Sr->(∀b,Sr b->H b=af/\¬F' b/\¬U S' b/\∃o,H' b=aa o/\cy o)->Q v H')) rl (q0.imp λk ε1 F1 S1 H1 r1 g1 q=>⟨F1,S1,ε1,r1,λb z=>j7 g1 z,q⟩)).run ae s (I.wish _);refine wpAny_IfExp (d5 wt (λkk s1 ⟨H1,I1,F1,S1,ε1,r1,fb,q⟩=>?_) λ_ _ z=>z.elim);have I1:=I1.unwish;cases kk with
 |true=>exact h1 F1 S1 ε1 σ H1 Q XE r1 (q.imp λsl ε' F' S' H' r' g' hq v Sr rs fr=>hq v Sr rs λb z=>⟨fb b (fr b z).1,(fr b z).2⟩) ae s1 I1
 |false=>exact h2 F1 S1 ε1 σ H1 Q XE r1 (q.imp λsl ε' F' S' H' r' g' hq v Sr rs fr=>hq v Sr rs λb z=>⟨fb b (fr b z).1,(fr b z).2⟩) ae s1 I1
theorem JL{pl:Sem Bool}(i:Nat)(c:Cls X.K C)(mt:kZ (bT X.prog X.w) X.prog X.w X.K X.mg X.base C m k ps (bp X.K g))(hr:cB k X.A)(hN:X.N[i]?=aa x:=by rfl) (hv:cx X.env.scope x:=by first|exact Or.inl rfl|exact Or.inr (Or.inl rfl)|exact Or.inr (Or.inr rfl)) (hd:(x == ("__debug__" : Str))=aj:=by decide) (a8:(x == ("__classdict__" : Str))=aj:=by decide)(ht:aG (.Call (.Attribute (.Name x p) m apos) [] [] pos) X.env=(do
   let ov ←aG (.Name x p) X.env
   standAt apos.atName
   let (f,first) ←pA [ov] (uu ov m pl)
   callWith pos f first (bU pos (aH [] X.env)) (jW pos (jX [] X.env))):=by rfl) :
  DX X (.Call (.Attribute (.Name x p) m apos) [] [] pos) (eM C m i g):=λF S ε σ H Q XE rl h ae s I=>by
 unfold eM at h;by_cases mo:kU ε C m i=ah
 ·rw[if_pos mo]at h;obtain⟨f,fd,hm,Fn,hb⟩:=mt.ex;obtain⟨a,dx,ws,ea,hH,hl⟩:=AA rl mo;have wv:=cF (X:=X.nox) (pos:=p) hN hv hd a8 ae s σ H (λv H1=>v=.ref a/\H1=H) (I.wish _) ⟨.ref a,ea,rfl,rfl⟩;refine GL (pl:=pl) (d5 wv (λu s1 ⟨v,H1,I1,rv,e1,e2⟩=>?_) λ_ _ z=>z.elim) ht;have I1:=I1.unwish;subst e1 e2;obtain rfl:u=Value.ref a:=rv;refine yA I1 hH c hm hl ?_;have av2:eO X.K σ F H1 [.inr i] [.ref a]:=⟨.ref a,[],rfl,ea,rfl⟩
  exact PySem.W.callWith_K0 (first:=[.ref a]) I1.kIn hm.kp (Gs (us:=[.ref a]) (vs:=[.ref a]) Fn hr hb I1 (.cons rfl .nil) (wD (v3 rl av2 h) λv H' ⟨sl,ε',F',S',Sr,r',g',rs,fr,hq⟩=>hq v Sr rs fr))
 ·rw[if_neg mo]at h;exact h.elim
def tQ(C:ac)(m:Str)(i:Nat)(g:ag->R Slot)(dg:ag->R (List bL)):ag->R Slot:=λε=>if kU ε C m i then(bA (dg ε)).bind λas ε1=>jq ε1 (.inr i::as) g else .no
theorem KJ{pl:Sem Bool}(i:Nat)(c:Cls X.K C)(mt:kZ (bT X.prog X.w) X.prog X.w X.K X.mg X.base C m k ps (bp X.K g))(hr:cB k X.A)(ha:DG X.nox E0 (e::es) dg)(hN:X.N[i]?=aa x:=by rfl) (hv:cx X.env.scope x:=by first|exact Or.inl rfl|exact Or.inr (Or.inl rfl)|exact Or.inr (Or.inr rfl)) (hd:(x == ("__debug__" : Str))=aj:=by decide) (a8:(x == ("__classdict__" : Str))=aj:=by decide)(h1:aH (e::es) X.env=(aj,aG e X.env)::aH es X.env:=by rfl) (h2:(bU pos (aH es X.env)).any (·.1)=aj:=by rfl)(ht:aG (.Call (.Attribute (.Name x p) m apos) (e::es) [] pos) X.env=(do
   let ov ←aG (.Name x p) X.env
   standAt apos.atName
   let (f,first) ←pA [ov] (uu ov m pl)
   callWith pos f first (bU pos (aH (e::es) X.env)) (jW pos (jX [] X.env))):=by rfl) :
  DX X (.Call (.Attribute (.Name x p) m apos) (e::es) [] pos) (tQ C m i g dg):=λF S ε σ H Q XE rl h ae s I=>by
 unfold tQ at h;by_cases mo:kU ε C m i=ah
 ·rw[if_pos mo]at h;obtain⟨f,fd,hm,Fn,hb⟩:=mt.ex;obtain⟨a,dx,ws,ea,hH,hl⟩:=AA rl mo;have q0:Ok X.K E0 σ F S H (dg ε) (λas ε1 F1 S1 H1=>Ok X.K (λc _ H'=>XE c H') σ F1 S1 H1 (jq ε1 (.inr i::as) g) (λs _ F' S' H'=>∀v Sr,jO X.K H' F' s v Sr->(∀b,Sr b->H b=af/\¬F' b/\¬U S' b/\∃o,H' b=aa o/\cy o)->Q v H')):=by
   cases e0:dg ε with
   |no=>rw[e0]at h;exact h.elim
   |er c ε'=>rw[e0]at h;exact h.elim
   |ok as ε1=>rw[e0]at h;exact λF1 S1 H1 r1 g1=>Ok.from h g1
  have wv:=cF (X:=X.nox) (pos:=p) hN hv hd a8 ae s σ H (λv H1=>v=.ref a/\H1=H) (I.wish _) ⟨.ref a,ea,rfl,rfl⟩;refine GL (pl:=pl) (d5 wv (λu s1 ⟨v,H1,I1,rv,e1,e2⟩=>?_) λ_ _ z=>z.elim) ht;subst e1 e2;obtain rfl:u=Value.ref a:=rv;refine yA I1.unwish hH c hm hl ?_;have wa:=(ha F S ε σ H1 (λvs H2=>∃F1 S1 ε1 as,aI X.K F1 S1 ε1 σ H2/\eO X.K σ F1 H2 as vs/\(∀b,H2 b=af->H1 b=af)/\Ok X.K (λc _ H'=>XE c H') σ F1 S1 H2 (jq ε1 (.inr i::as) g) (λs _ F' S' H'=>∀v Sr,jO X.K H' F' s v Sr->(∀b,Sr b->H1 b=af/\¬F' b/\¬U S' b/\∃o,H' b=aa o/\cy o)->Q v H')) rl (q0.imp λas ε1 F1 S1 H2 r1 g1 q vs av=>⟨F1,S1,ε1,as,r1,av,λb z=>j7 g1 z,q⟩)).run pos ae s1 I1;refine A8 (first:=[.ref a]) (h₀:=X.base) I.ok.mod.kin hm.kp (d5 wa (λus s2 ⟨vs,H2,I2,r,F1,S1,ε1,as,r1,av,fb,q⟩=>⟨I2.unwish.kIn,?_⟩) λ_ _ z=>z.elim) h1 h2;have av2:eO X.K σ F1 H2 (.inr i::as) (.ref a::vs):=⟨.ref a,vs,rfl,ea,av⟩
  exact Gs (us:=.ref a::us) (vs:=.ref a::vs) Fn hr hb I2.unwish (.cons rfl r) (wD (v3 r1 av2 q) λv H' ⟨sl,ε',F',S',Sr,r',g',rs,fr,hq⟩=>hq v Sr rs λb z=>⟨fb b (fr b z).1,(fr b z).2⟩)
 ·rw[if_neg mo]at h;exact h.elim
end
section
variable{X:Cx}{E:XK}{x y z:Str}{C:ac}{p zp ap lp pos:Pos}
def p9(C:ac)(y:Str)(i j:Nat):ag->R PV:=λε=>(aC (g7 ε C y i) ε).bind λq ε=>match ε[j]? with
 |some (.val pv)=>if q.2.length+1<=1000 then .ok (.lst (q.2++[pv])) ε else .no
 |_=>.no
theorem Ib(i j:Nat)(c:Cls X.K C)(n:gF X.K C y)(hN:X.N[i]?=aa x:=by rfl)(hv:cx X.env.scope x:=by first|exact Or.inl rfl|exact Or.inr (Or.inl rfl)|exact Or.inr (Or.inr rfl))(hd:(x == ("__debug__" : Str))=aj:=by decide)(a8:(x == ("__classdict__" : Str))=aj:=by decide) (hN2:X.N[j]?=aa z:=by rfl) (si:cx X.env.scope z:=by first|exact Or.inl rfl|exact Or.inr (Or.inl rfl)|exact Or.inr (Or.inr rfl)) (pT:(z == ("__debug__" : Str))=aj:=by decide)(hcd2:(z == ("__classdict__" : Str))=aj:=by decide) (hb:e9 (.Name x p) y X.env (aG (.Name x p) X.env)=aG (.Name x p) X.env:=by rfl) (hs:aH [.Name z zp] X.env=(aj,aG (.Name z zp) X.env)::aH [] X.env:=by rfl):DE X E (.BinOp (.Attribute (.Name x p) y ap) .Add (.List [.Name z zp] lp) pos) (p9 C y i j):=λF S ε σ H Q rl h=>by
 unfold p9 at h;cases e0:g7 ε C y i with
 |none=>rw[e0]at h;exact h.elim
 |some q=>
  rw[e0]at h;simp only[bw,R.bind_ok]at h;split at h
  ·rename_i pv e1;split at h
   ·rename_i hle;obtain⟨a,ea,dx,ws,b,vs,ha,fr,hy,i4,hx,fZ,hS⟩:=rl.own i _ (oR e0);obtain⟨v,ev,rv⟩:=rl.val j pv e1;have aS:vs.length=q.2.length:=hx.len;refine bJ (BM Dq (nr (cF hN hv hd a8) hb) (FZ (ff (cF hN2 si pT hcd2) gB hs))) ⟨.ref a,ea,a,C,dx,_,.ref b,rfl,ha,c,n,sK (fr.miss hy),v,ev,?_⟩;refine⟨by show 1<=bn;decide,λl hl=>⟨b,l,vs,[v],rfl,rfl,.inl ?_,.inl upd_same,by rw[nQ];simp;lia,λt ht=>?_⟩⟩
    ·rw[bh (by rintro rfl;rw[hl]at i4;cases i4)];exact i4
    ·have a1:Al F F H (upd H l (.lst [v])):=Al.new0 hl;have a2:Al F (λc=>F c\/c=t) (upd H l (.lst [v])) (upd (upd H l (.lst [v])) t (.lst (vs++[v]))):=Al.new ht;refine h _ S _ ((rl.al a1).al a2) ((a1.grow (O:=U S)).trans a2.grow) _ ⟨t,vs++[v],rfl,.inl upd_same,.inr rfl,a2.reps (a1.reps (hx.app (.one rv)))⟩
   ·exact h.elim
  ·exact h.elim
end
section
variable{X:Cx}{E:XK}{pin:List Nat}{x y:Str}{C:ac}{e o:aw}{p ap apos cpos pos:Pos}
def qR(i:Nat):ag->R PV:=λε=>(aC (cm ε i) ε).bind λxs ε=>(aC xs.getLast? ε).bind λv ε=>.ok v (ε.set i (.own (.lst xs.dropLast)))
theorem LY(i:Nat)(hN:X.N[i]?=aa x:=by rfl)(hv:cx X.env.scope x:=by first|exact Or.inl rfl|exact Or.inr (Or.inl rfl)|exact Or.inr (Or.inr rfl))(hd:(x == ("__debug__" : Str))=aj:=by decide)(a8:(x == ("__classdict__" : Str))=aj:=by decide) (h1:e9 (.Name x p) "pop" X.env (aG (.Name x p) X.env)=aG (.Name x p) X.env:=by rfl) (h3:(apos.endLine == cpos.line)=ah:=by rfl):DE X E (.Call (.Attribute (.Name x p) "pop" apos) [] [] cpos) (qR i):=λF S ε σ H Q rl h=>by
 unfold qR at h;cases e0:cm ε i with
 |none=>rw[e0]at h;exact h.elim
 |some xs=>
  rw[e0]at h;simp only[bw,R.bind_ok]at h;obtain⟨a,vs,ea,ha,hx,_,_⟩:=rl.lstAt (hZ e0);cases e1:xs.getLast? with
  |none=>rw[e1]at h;exact h.elim
  |some v=>
   rw[e1]at h;obtain⟨r3,g3⟩:=rl.upd (hZ e0) ea hx.dropL;have e2:xs[xs.length-1]?=aa v:=by rw[←List.getLast?_eq_getElem?];exact e1
   obtain⟨u,hu,ru⟩:=hx.get e2;refine bJ (yU pO PySem.F.slot_list_pop PySem.F.type_list_pop D6 (cF hN hv hd a8) h1 h3) ⟨.ref a,ea,.inl ⟨rfl,_,bZ.of ha⟩,a,vs,u,rfl,rfl,ha,by rw[hx.len];exact hu,?_⟩;exact h F S _ r3 g3 u (ru.grow g3 rl.fit)
def qo(d:ag->R Slot)(de:ag->R PV):ag->R aK:=λε=>(d ε).bind λs ε1=>match s with
 |.own (.lst xs)=>if xs.length<bC then(de ε1).bind λ_ ε2=>.ok .next ε2 else .no
 |_=>.no
theorem aI.beside{K:aq}{F:ac->Prop}{S:Nat->ac->Prop}{ε:ag}{σ:St}{H:Hp}{l:ac}{ob:HO}(ob':HO)(r:aI K F S ε σ H)(el:H l=aa ob)(n:cy ob)(nF:¬F l)(nS:¬U S l):aI K F S ε σ (L2.upd H l ob'):=by
 have gl:bd (λb=>U S b\/b=l) (U S) F F H (L2.upd H l ob'):=⟨λ_ z=>z,λb o e n=>by rw[L2.bh λz=>n (.inr z)];exact e,λb o e=>by
  by_cases hb:b=l
  ·subst hb;exact⟨_,L2.upd_same⟩
  ·exact⟨o,by rw[L2.bh hb];exact e⟩,λ_ z=>.inl z,λ_ z=>.inl (.inl z)⟩
 have fit:jo (λb=>U S b\/b=l) F H:=λb z=>by
  rcases z with z|rfl
  ·exact r.fit b z
  ·exact⟨nF,_,el,n⟩
 refine⟨r.len,λb z=>let ⟨o,q⟩:=r.ex b z;gl.there b o q,λj pv e=>?_,λj po e=>?_,λj b z=>?_,r.dist⟩
 ·obtain⟨w,x1,x2⟩:=r.val j pv e;exact⟨w,x1,x2.grow gl fit⟩
 ·obtain⟨w,x1,x2⟩:=r.own j po e;refine⟨w,x1,x2.mono (λ_ _ q=>q.grow gl fit) (λ_ _ q=>q.grow gl fit) λb o z q=>?_⟩;rw[L2.bh (by rintro rfl;exact nS ⟨j,z⟩)];exact q
 ·obtain⟨x1,x2,o,x3,x4⟩:=r.foot j b z;exact⟨x1,x2,o,by rw[L2.bh (by rintro rfl;exact nS ⟨j,z⟩)];exact x3,x4⟩
theorem QF{d:ag->R Slot}{de:ag->R PV}(ho:DR X E o d)(he:DE X E e de)(h1:e9 o "append" X.env (aG o X.env)=aG o X.env:=by rfl)(h2:((bU cpos (aH [e] X.env)).all (λx=>!x.1)&&(jW cpos (jX [] X.env)).all (λx=>x.1.isSome)&&decide ([e].length+([]:List im).length+(if([]:List im).isEmpty then 0 else 1)<30))=ah:=by rfl)(h3:(apos.endLine == cpos.line)=ah:=by rfl) (h4:aH [e] X.env=(aj,aG e X.env)::aH [] X.env:=by rfl) (h5:(bU cpos (aH [] X.env)).any (·.1)=aj:=by rfl)(hs:ik (.Call (.Attribute o "append" apos) [e] [] cpos) af pos.line X.env=pure aj:=by rfl):DS X E pin (.Expr (.Call (.Attribute o "append" apos) [e] [] cpos) pos) (qo d de):=λF S ε σ H D rl h=>by
 refine fI (tG (qO pO G6 G7 wj bB (ff bB gB h4) h1 h2 h3 h4 h5) hs) ?_;unfold qo at h;refine ho F S ε σ H _ rl ?_;cases e0:d ε with
 |no=>rw[e0]at h;exact h.elim
 |er c ε'=>rw[e0]at h;exact λx F' S' H' r' g'=>h x F' S' σ H' r' g' (iH.refl _ _)
 |ok sl ε1=>
  rw[e0]at h;simp only[R.bind_ok]at h;intro F1 S1 H1 r1 g1 v Sr rv fr;split at h
  ·rename_i xs;split at h
   ·rename_i hl;obtain⟨a,rfl,⟨vs,ha,rx⟩,hS⟩:=rv;obtain⟨f1,f2,f3,_⟩:=fr a ((hS a).mpr rfl);refine⟨.inl ⟨rfl,_,bZ.of ha⟩,he F1 S1 ε1 σ H1 _ r1 ?_⟩;cases e1:de ε1 with
    |no=>rw[e1]at h;exact h.elim
    |er c ε'=>rw[e1]at h;exact λx F' S' H' r' g'=>h x F' S' σ H' r' (g1.trans g') (iH.refl _ _)
    |ok y ε2=>
     rw[e1]at h;simp only[R.bind_ok]at h;intro F2 S2 H2 r2 g2 u ru;obtain⟨k1,k2,k3⟩:=g2.stay ha f3 f2;have r3:=r2.beside (.lst (vs++[u])) k1 trivial k2 k3;have gg:=g1.trans g2;refine⟨a,vs,u,rfl,rfl,k1,by rw[rx.len];exact gG hl kf,h F2 S2 σ _ r3 ⟨gg.fro,λb o e n=>?_,λb o e=>?_,gg.fnew,gg.onew⟩ (iH.refl _ _)⟩
     ·rw[bh (by rintro rfl;rw[f1]at e;cases e)];exact gg.keep b o e n
     ·rw[bh (by rintro rfl;rw[f1]at e;cases e)];exact gg.there b o e
   ·exact h.elim
  ·exact h.elim
end
section
variable{CX:eI}{P:ba}{w:aP}{K:aq}{mg:Str->Option ai}{base:aE}{C:ac}{m x qual:Str}{st:aR}{N ps:List Str}{k:Nat}{e:aw}{rp:Pos}
def qD(len:Nat)(dn:ag->R PO):ag->R Slot:=λss=>if ss.length=len then(dn ss).bind λpo aL=>.ok (.own po) aL else .no
theorem Ig{dn:ag->R PO}(D:jp K C m qual st)(Sc:bI N ps (aN st))(hn:N.length=ps.length)(hb:∀(kV doc pm:ai) (an:Option ac) (aF ct:ai) (us:List ai),us.length=ps.length->eV (fk m qual (gc st) (c7 st) (aN st) .none kV doc pm an aF ct) ⟨us,[]⟩=pure (ps.zip us))(he:c7 st=[.Return (aa e) rp])(j3:∀(f:ac) (aF:ai) (A:a6) (outer:List Env) (s:am) (H:Hp) (E:XK),cB k (A.deeper (gu qual (aN st) s.heap.objs.size f aF))->DN (gd CX P w K mg base N qual (aN st) f aF A outer s H E) E e dn):kZ CX P w K mg base C m (k+1) ps (bp K (qD ps.length dn)):=by
 obtain⟨f,fd,M,Fn⟩:=D;refine⟨f,fd,M,?_,Fn.binds hb⟩;have aS:∀ss,qD ps.length dn ss≠.no->ss.length=ps.length:=λss h=>by
  unfold qD at h;by_cases z:ss.length=ps.length
  ·exact z
  ·rw[if_neg z]at h;exact absurd rfl h
 obtain⟨oc,od,kV,doc,pm,an,aF,ct,osl,rfl,lk,a8⟩:=Fn.ex;refine BX lk a8 Sc (yw aS) λA outer s H vs Q E hr io=>⟨_,o8,?_⟩
 obtain⟨F,S,ss,rl,ok⟩:=io;have hl:=aS ss (tW ok);have h2:=rl.len;rw[c9]at h2;have es:L2.start N vs=vs.map aa:=by unfold L2.start;rw[show N.length-vs.length=0 by lia];simp
 rw[es,he];refine wM (CL y0) (fI (sO bB) (j3 _ _ A outer s H E hr F S ss _ H _ rl ?_));unfold qD at ok;rw[if_pos hl]at ok;cases e0:dn ss with
 |no=>rw[e0]at ok;exact ok.elim
 |er c ε'=>rw[e0]at ok;exact λx F' S' H' r' g'=>ok x F' S' H' r' g'
 |ok po aL=>rw[e0]at ok;intro F1 S1 H1 r1 g1 a Sa ow fr;exact ok _ F1 S1 H1 Sa r1 ⟨g1.fro,g1.keep,g1.there,g1.fnew,λb z=>z.elim (g1.onew b) λw=>.inr (fr b w).1⟩ ⟨a,rfl,ow⟩ (λb z=>let ⟨_,x2,x3,x4⟩:=fr b z;⟨x2,x3,x4⟩) λb z=>(fr b z).1
end
section
variable{X:Cx}{E:XK}{pin:List Nat}{scope:dO}{x z:Str}{N':List Str}{cap:List Nat}{elt iter:aw}{y:Str}{px pz tp py pos spos:Pos}{k j:Nat}{di:ag->R (List (PV×PV))}{dt:ag->R Bool}{de:ag->R PV}{ifs:List aw}
theorem PD(i:Nat)(hN:X.N.Nodup)(B:iL X scope x N' (j::cap))(hc:X.calm=ah)(hi:zJ X E (.Tuple [.Name x px,.Name z pz] k tp) iter di)(ht:∀C s₀ H₀ ex pn,DF (bE X scope N' C s₀ H₀ ex pn) E0 ifs dt) (he:∀C s₀ H₀ ex pn,DE (bE X scope N' C s₀ H₀ ex pn) E0 elt de) (hz:N'[1]?=aa z:=by rfl) (hl:scope.names.lookup z=aa .local:=by rfl)(hp:i∉pin:=by decide) (pW:X.N[i]?=aa y:=by rfl) (hx:Loc X.env.scope y:=by first|exact Or.inl rfl|exact Or.inr rfl) (pX:ik (.ListComp elt [⟨.Tuple [.Name x px,.Name z pz] k tp,iter,ifs,0⟩] scope pos) (aa (.Name y py)) spos.line X.env=pure ah:=by rfl)(hf:X.fn y=ah\/X.env.scope.names.lookup y=aa .local:=by first|exact .inl rfl|exact .inr rfl) (hs:∀x,nP iter X.env x=pure x:=by intro _;rfl):DS X E pin (.Assign [.Name y py] (.ListComp elt [⟨.Tuple [.Name x px,.Name z pz] k tp,iter,ifs,0⟩] scope pos) spos) (a9 i (dF (oU cap di dt de))):=λF S ε σ H D rl h=>
 fI (Ep (k:=1) (tgf:=Ae) (wi:=l_ X (.Tuple [.Name x px,.Name z pz] k tp) iter) (ts:=λσ H Q=>∀C s₀ H₀ ex pn,oS (bE X scope N' C s₀ H₀ ex pn) ifs σ H Q) (te:=λσ H Q=>∀C s₀ H₀ ex pn,f9 (bE X scope N' C s₀ H₀ ex pn) elt σ H Q) B (by simp) hc xr (HS B hc hz hl)
  (λC s₀ H₀ ex pn ae s σ H Q I h=>(h C s₀ H₀ ex pn).run ae s I) (λC s₀ H₀ ex pn ae s σ H Q I h=>(h C s₀ H₀ ex pn).run ae s I) hN pW hx pX hf hs) (I_ hi ht he rl (CH hp rl h))
end
section
variable{X:Cx}{E:XK}{a:aw}{da:ag->R PV}{y:Str}{yp pos:Pos}
def p8(f:PV->PV->Option PV)(da:ag->R PV)(i:Nat):ag->R PV:=λε=>(da ε).bind λk ε1=>(aC (cm ε1 i) ε1).bind λxs ε1=>aC (eJ (f k (.lst xs))) ε1
theorem QJ{F:ac->Prop}{S:Nat->ac->Prop}{ε:ag}{σ:St}{H:Hp}{Q:VK}{i:Nat}{r:R2}{f:PV->PV->Option PV}(hp:P2 X.K r f)(ha:DE X E a da)(rl:aI X.K F S ε σ H)(h:Ok X.K E σ F S H (p8 f da i ε) (λpv _ F' _ H'=>∀v,aU X.K H' F' pv v->Q v H')):f9 X a σ H λu H1=>∃v,σ[i]?=aa (aa v)/\r u v H1 Q:=by
 unfold p8 at h;refine ha F S ε σ H _ rl ((Ok.bind h).imp λk ε1 F1 S1 H1 r1 g1 q u ru=>?_);cases e1:cm ε1 i with
 |none=>rw[e1]at q;exact q.elim
 |some xs=>
  rw[e1]at q;simp only[bw,R.bind_ok]at q;obtain⟨a',ea',nF,ra,r_,dR⟩:=r1.look (hZ e1);refine⟨.ref a',ea',?_⟩;cases e2:eJ (f k (.lst xs))with
  |none=>rw[e2]at q;exact q.elim
  |some pv=>rw[e2]at q;obtain⟨e3,e4⟩:=vc e2;exact hp _ H1 k (.lst xs) u (.ref a') Q pv (aU.mono (λ_ z=>.inl z) (λ_ _ _ z=>z) (λ_ _ z _=>z) _ _ ru) ra e3 λw F' H' al rw'=>q _ S1 H' (r1.al (dR al)) (dR al).grow w (aU.imm pv e4 rw')
theorem Io(i:Nat){op:CmpOp}{r:R2}{f:PV->PV->Option PV}(ho:bY X (d7 op) r)(hp:P2 X.K r f)(ha:DE X E a da)(hm:ml op (.Name y yp)=aj)(hN:X.N[i]?=aa y:=by rfl)(dQ:cx X.env.scope y:=by first|exact Or.inl rfl|exact Or.inr (Or.inl rfl)|exact Or.inr (Or.inr rfl))(hd:(y == ("__debug__" : Str))=aj:=by decide) (a8:(y == ("__classdict__" : Str))=aj:=by decide):DT X E (.Compare a [op] [.Name y yp] pos) (dB (p8 f da i)):=λF S ε σ H Q rl h=>pc (za ho bB (cF hN dQ hd a8) hm) (QJ (Q:=λx H'=>∃k,x=.bl k/\Q k H') hp ha rl (oz h))
end
end Pu
local macro_rules | `(tactic| simp! [$xs,*]) => `(tactic| simp [Pu.ay, Pu.bi, Pu.dB, Pu.d2, Pu.d1, Pu.dV, Pu.dC, Pu.dL, Pu.dF, Pu.ar, Pu.aA, Pu.bH, Pu.lF, Pu.a9, Pu.cg, Pu.aM, Pu.gV, Pu.gO, Pu.bK, Pu.cb, Pu.b_, Pu.bu, Pu.bW, Pu.cf, Pu.R.bind, Pu.aC, Pu.bD, Pu.eZ, Pu.bq, Pu.back, Pu.fQ, Pu.lD, Pu.lc, Pu.sN, Pu.t7, Pu.tN, Pu.aW, Pu.ix, Pu.bX, Pu.eu, Pu.bS, Pu.ug, Pu.kr, Pu.Az, Pu.fO, Pu.t6, Pu.j5, Pu.fu, Pu.gx, Pu.zS, Pu.m9, Pu.cc, Pu.cm, Pu.ge, Pu.eK, Pu.eJ, Pu.imm, Pu.iQ, Pu.kW, bG, mv, $xs,*])
local macro_rules | `(tactic| and_intros) => `(tactic| (refine' Pu.Q7 ?a ?l ?c ?k; (case a => k_is); (case l => k_is); (case c => k_is); (case k => k_is)))
namespace K06
open L2 Pu Sh
def cr(i:Nat):aR:=PySem.Challenge.pw_slitview_k06_whole_slits.main.body.getD i (.Pass ⟨0,0,0,0⟩)
def qK(s:aR)(j:Nat):aR:=match s with
 |.ClassDef _ _ _ b _ _ _ _ _ _ _=>b.getD j (.Pass ⟨0,0,0,0⟩)
 |_=>.Pass ⟨0,0,0,0⟩
abbrev yv:aR:=cr 40
abbrev yf:aR:=cr 41
abbrev zH:aR:=cr 42
abbrev yh:aR:=cr 45
abbrev AE:aR:=cr 43
abbrev zq:aR:=cr 44
abbrev xu:aR:=cr 47
abbrev vj:aR:=cr 46
abbrev yY:aR:=cr 16
abbrev AU:aR:=cr 17
abbrev vI:aR:=cr 15
abbrev Ap:aR:=cr 18
abbrev vM:aR:=cr 19
abbrev Ag:aR:=cr 20
abbrev zU:aR:=cr 21
abbrev AV:aR:=cr 24
abbrev zb:aR:=cr 32
abbrev yN:aR:=cr 31
abbrev xk:aR:=cr 33
abbrev zv:aR:=cr 34
abbrev sw:aR:=cr 50
abbrev ze:aR:=cr 48
abbrev zj:aR:=qK (cr 38) 5
abbrev zG:aR:=cr 23
abbrev yC:aR:=cr 37
abbrev AK:aR:=qK (cr 38) 2
abbrev z8:aR:=cr 49
abbrev AZ:aR:=cr 22
abbrev yO:aR:=qK (cr 38) 0
abbrev zP:aR:=qK (cr 38) 3
abbrev vL:aR:=cr 25
abbrev ym:aR:=cr 27
abbrev yI:aR:=cr 28
abbrev ti:aR:=cr 29
abbrev zK:aR:=cr 36
abbrev wp:aR:=qK (cr 38) 4
abbrev y6:aR:=qK (cr 38) 1
abbrev sq:aR:=cr 51
structure cj(K:aq)(mg:Str->Option ai)(base:aE)(a:Ad):Prop where
 yaA:cp K mg "_law_cell_at" yv
 yaD:cp K mg "_law_mixed" yf
 yaC:cp K mg "_law_draw" zH
 yaG:cp K mg "_law_seen" yh
 yaF:cp K mg "_law_pick" AE
 yaH:cp K mg "_law_text" zq
 yaJ:cp K mg "_law_within" xu
 yaz:cp K mg "_law_all" vj
 yav:cp K mg "is_whole_number" yY
 yaw:cp K mg "is_width" AU
 yar:cp K mg "has_only" vI
 yax:cp K mg "is_window" Ap
 yak:cp K mg "are_windows" vM
 yau:cp K mg "is_view_with" Ag
 yat:cp K mg "is_view" zU
 yal:cp K mg "check_view" AV
 yaj:cp K mg "add_endings" zb
 yao:cp K mg "counted" yN
 yaM:cp K mg "texts" xk
 yas:cp K mg "how_many" zv
 yaE:cp K mg "_law_next" sw
 yaI:cp K mg "_law_which" ze
 ybe:jp K a.Slit "undo" "Slit.undo" zj
 yan:cp K mg "check_window" zG
 yaN:cp K mg "texts_with" yC
 ybb:jp K a.Slit "come" "Slit.come" AK
 yaB:cp K mg "_law_do" z8
 yam:cp K mg "check_width" AZ
 yaP:vO K a.Slit "Slit.__init__" yO
 ybd:jp K a.Slit "told" "Slit.told" zP
 yaO:cp K mg "windows_that_fit" vL
 yap:cp K mg "excesses" ym
 yaK:cp K mg "reached_pieces" yI
 yaq:cp K mg "find_bar" ti
 yaL:cp K mg "some_text_has" zK
 ybc:jp K a.Slit "fitting" "Slit.fitting" wp
 ybf:jp K a.Slit "windows" "Slit.windows" y6
 yay:cp K mg "law" sq
 k_Slit:Cls K a.Slit
 ya4:gF K a.Slit "came"
 ya5:gF K a.Slit "width"
 yaQ:mg "ValueError" = af
 yaR:mg "all" = af
 yaS:mg "any" = af
 yaT:mg "bool" = af
 yaU:mg "enumerate" = af
 yaV:mg "int" = af
 yaW:mg "isinstance" = af
 yaX:mg "len" = af
 yaY:mg "list" = af
 yaZ:mg "range" = af
 ya0:mg "set" = af
 ya1:mg "sorted" = af
 ya2:mg "str" = af
 ya3:mg "tuple" = af
 ybg:∃t,mg "LETTERS" = aa (.str (tS [97,98,99]) t)
 ybh:∃t,mg "MOST_LETTERS" = aa (.int 12 t)
 ybi:∃t,mg "MOST_WINDOWS" = aa (.int 9 t)
 ybj:∃t,mg "POINT" = aa (.str (tS [46]) t)
 ybk:∃t,mg "WIDEST" = aa (.int 4 t)
 yai:mg "SlitError" = aa (.ref a.SlitError)
 yac:mg "NoText" = aa (.ref a.NoText)
 yae:mg "NoWidth" = aa (.ref a.NoWidth)
 yad:mg "NoView" = aa (.ref a.NoView)
 yaf:mg "NoWindow" = aa (.ref a.NoWindow)
 yab:mg "Never" = aa (.ref a.Never)
 yaa:mg "Full" = aa (.ref a.Full)
 yag:mg "Nothing" = aa (.ref a.Nothing)
 yah:mg "Slit" = aa (.ref a.Slit)
 ya7:OwnCls "NoView" a.NoView [.type "ValueError",.type "Exception",.type "BaseException",.type "object"] "ValueError.__new__" mg base
 yba:OwnCls "Nothing" a.Nothing [.type "ValueError",.type "Exception",.type "BaseException",.type "object"] "ValueError.__new__" mg base
 ya9:OwnCls "NoWindow" a.NoWindow [.type "ValueError",.type "Exception",.type "BaseException",.type "object"] "ValueError.__new__" mg base
 ya6:OwnCls "Full" a.Full [.type "ValueError",.type "Exception",.type "BaseException",.type "object"] "ValueError.__new__" mg base
 ya8:OwnCls "NoWidth" a.NoWidth [.type "ValueError",.type "Exception",.type "BaseException",.type "object"] "ValueError.__new__" mg base
 err_SlitError:o_ base a.SlitError
 und:∀c,mS a c=ah->Under base a.SlitError c
 tab:y9 K (km a)
section
variable{P:ba}{w:aP}{K:aq}{mg:Str->Option ai}{base:aE}{a:Ad}
theorem N4:bI ["_law_script","_law_k"] ["_law_script","_law_k"] (aN yv):=by ac_nf
theorem Oe(G:cj K mg base a):cC (bT P w) P w K mg base "_law_cell_at" 1 ["_law_script","_law_k"] (bp K (qz a)) :=
 dA (k:=0) (pin:=[]) G.yaA N4 rfl (λ_ _ _ _ _ _ us hl=>Pu.Q9 (λ_ _=>rfl) us hl) (λf aF A outer s H E hr=>by exact
  (aY (dG (c_ wT iA (ao 1) (ci et eD G.yaX d_ (aJ (ao 0) aT)) rfl) (aX (cM (gZ ii ij (ao 0) (ao 1)))) d8)
  (aY (dG (c_ (gD hr.units) gy (ao 0) (jP aT) rfl) (aX (cM aZ)) d8)
  (aX (cM (b0 eT eN (b0 lR lM (gZ ii ij (ao 0) (b0 vt xt (ao 1) (ci et eD G.yaX d_ (aJ (ao 0) aT)))) aZ) (ao 1)))))))
def yaD(a:Ad):ag->R aK:=ay (a9 3 (d2 i8 (d2 eC (d2 bg (d2 bg (aW (aM (qz a) (gV (dV 0) (gV (dV 1) (bK))))) (d2 eC (dC (.int 7919)) (dV 1))) (dC (.int 1))) (dC (.int 48271))) (dC (.int 2147483647))))
 (bH (d2 i8 (d2 i8 (d2 bg (d2 bg (d2 eC (dV 3) (dV 3)) (d2 eC (dC (.int 7)) (dV 3))) (dV 1)) (dC (.int 2147483629))) (dV 2)))
def w8(a:Ad):ag->R Slot:=bD 3 [] (bq 1 (yaD a))
theorem M7:bI ["_law_script","_law_k","_law_many","_law_drawn"] ["_law_script","_law_k","_law_many"] (aN yf):=by ac_nf
theorem HA(G:cj K mg base a):cC (bT P w) P w K mg base "_law_mixed" 2 ["_law_script","_law_k","_law_many"] (bp K (w8 a)) :=
 dA (k:=1) (pin:=[]) G.yaD M7 rfl (λ_ _ _ _ _ _ us hl=>Pu.Ri (λ_ _ _=>rfl) us hl) (λf aF A outer s H E hr=>by exact
  (aY (cK 3 M7.nd (b0 vt xt (b0 lR lM (b0 eT eN (b0 eT eN ((b8 (Oe G) (hr.mono (by decide)) cJ (a_ (ao 0) (a_ (ao 1) bP)))).de (b0 lR lM aZ (ao 1))) aZ) aZ) aZ))
  (aX (cM (b0 vt xt (b0 vt xt (b0 eT eN (b0 eT eN (b0 lR lM (ao 3) (ao 3)) (b0 lR lM aZ (ao 3))) (ao 1)) aZ) (ao 2))))))
def yaC(a:Ad):ag->R aK:=ay (ge 1 (dC (.int 0)))
 (lF (aM (w8 a) (gV (dV 0) (gV (eK (λxs=>eJ (bc xs)) 1) (gV (dV 2) (bK))))))
def jg(a:Ad):ag->R Slot:=bD 3 [1] (bq 0 (yaC a))
theorem PY:bI ["_law_script","_law_town","_law_many"] ["_law_script","_law_town","_law_many"] (aN zH):=by ac_nf
theorem qa(G:cj K mg base a):cC (bT P w) P w K mg base "_law_draw" 3 ["_law_script","_law_town","_law_many"] (bp K (jg a)) :=
 dA (k:=2) (pin:=[1]) G.yaC PY rfl (λ_ _ _ _ _ _ us hl=>Pu.Ri (λ_ _ _=>rfl) us hl) (λf aF A outer s H E hr=>by exact
  (aY (tE 1 aZ)
  (aX (vf (b8 (HA G) (hr.mono (by decide)) cJ (a_ (ao 0) (a_ (wH 1 et eD G.yaX d_) (a_ (ao 2) bP))))))))
def yaG(a:Ad):ag->R aK:=ay (cg 2 (dL bX (aA)))
 (ay (λε=>cA (bR 3 (dL iO (ar (dL bc (ar (dV 0) (aA))) (aA))) (bi (dB (d2 (cc λi j=>decide (i<=j)) (d2 bg (dV 3) (dV 1)) (dL bc (ar (dV 0) (aA))))) (ge 2 (cS df (dV 0) (cG (dV 3)) (cG (d2 bg (dV 3) (dV 1))))) (bS)) ε))
 (bH (dL i_ (ar (dF (eK (λxs=>iQ (jc xs)) 2)) (aA)))))
def kc(a:Ad):ag->R Slot:=bD 2 [] (bq 2 (yaG a))
theorem O4:bI ["_law_text_here","_law_width","_law_made","_law_at"] ["_law_text_here","_law_width"] (aN yh):=by ac_nf
theorem yr(G:cj K mg base a):cC (bT P w) P w K mg base "_law_seen" 1 ["_law_text_here","_law_width"] (bp K (kc a)) :=
 dA (k:=0) (pin:=[]) G.yaG O4 rfl (λ_ _ _ _ _ _ us hl=>Pu.Q9 (λ_ _=>rfl) us hl) (λf aF A outer s H E hr=>by exact
  (aY (iP 2 O4.nd (j_ aT))
  (aY (kb (iM 3 iW rfl O4.nd (sJ G.yaZ (aJ (ci et eD G.yaX d_ (aJ (ao 0) aT)) aT)) (aX (dG (c_ ox iA (b0 eT eN (ao 3) (ao 1)) (ci et eD G.yaX d_ (aJ (ao 0) aT)) rfl) (aX (tE 2 (js jv jt (ao 0) (i5 (ao 3)) (i5 (b0 eT eN (ao 3) (ao 1)))))) d8))))
  (aX (cM (rh qN qQ G.ya3 mY (aJ (wA 2 qe ql G.ya1 ng).de aT)))))))
def yaF(a:Ad):ag->R aK:=bH (d2 b7 (dV 2) (aW (aM (jg a) (gV (dV 0) (gO 1 (gV (dL bc (ar (dV 2) (aA))) (bK)))))))
def lP(a:Ad):ag->R Slot:=bD 3 [1] (bq 0 (yaF a))
theorem Na:bI ["_law_script","_law_town","_law_some"] ["_law_script","_law_town","_law_some"] (aN AE):=by ac_nf
theorem AO(G:cj K mg base a):cC (bT P w) P w K mg base "_law_pick" 4 ["_law_script","_law_town","_law_some"] (bp K (lP a)) :=
 dA (k:=3) (pin:=[1]) G.yaF Na rfl (λ_ _ _ _ _ _ us hl=>Pu.Ri (λ_ _ _=>rfl) us hl) (λf aF A outer s H E hr=>by exact
  (aX (cM (gZ ii ij (ao 2) ((b8 (qa G) (hr.mono (by decide)) cJ (a_ (ao 0) (iq 1 (a_ (ci et eD G.yaX d_ (aJ (ao 2) aT)) bP))))).de))))
def yaH(a:Ad):ag->R aK:=ay (a9 4 (aW (aM (lP a) (gV (dV 0) (gO 1 (gV (dF (dL bX (ar (dC (.int 1)) (ar (dC (.int 2)) (ar (dC (.int 2)) (ar (dC (.int 3)) (ar (dC (.int 3)) (ar (dC (.int 3)) (aA))))))))) (bK)))))))
 (ay (a9 5 (dC (.str [])))
 (ay (λε=>cA (bR 6 (dL iO (ar (d2 bg (dV 2) (aW (aM (jg a) (gV (dV 0) (gO 1 (gV (d2 bg (d2 gR (dV 3) (dV 2)) (dC (.int 1))) (bK))))))) (aA))) (a9 5 (d2 bg (dV 5) (d2 b7 (dC (.str [97,98,99])) (aW (aM (jg a) (gV (dV 0) (gO 1 (gV (dV 4) (bK))))))))) ε))
 (bH (dV 5))))
def kQ(a:Ad):ag->R Slot:=bD 4 [1] (bq 3 (yaH a))
theorem QD:bI ["_law_script","_law_town","_law_low","_law_most","_law_few","_law_made","_law_k"] ["_law_script","_law_town","_law_low","_law_most"] (aN zq):=by ac_nf
theorem CI(G:cj K mg base a):cC (bT P w) P w K mg base "_law_text" 5 ["_law_script","_law_town","_law_low","_law_most"] (bp K (kQ a)) :=
 dA (k:=4) (pin:=[1]) G.yaH QD rfl (λ_ _ _ _ _ _ us hl=>Pu.Ry (λ_ _ _ _=>rfl) us hl) (λf aF A outer s H E hr=>by exact
  (aY (cK 4 QD.nd ((b8 (AO G) (hr.mono (by decide)) cJ (a_ (ao 0) (iq 1 (a_ (jP (aJ aZ (aJ aZ (aJ aZ (aJ aZ (aJ aZ (aJ aZ aT))))))) bP))))).de)
  (aY (cK 5 QD.nd (dH []))
  (aY (kb (iM 6 iW rfl QD.nd (sJ G.yaZ (aJ (b0 eT eN (ao 2) ((b8 (qa G) (hr.mono (by decide)) fS (a_ (ao 0) (iq 1 (a_ (b0 eT eN (b0 qb qc (ao 3) (ao 2)) aZ) bP))))).de) aT)) (aX (cK 5 QD.nd (b0 eT eN (ao 5) (gZ ii ij (dH [97,98,99]) ((b8 (qa G) (hr.mono (by decide)) fS (a_ (ao 0) (iq 1 (a_ (ao 4) bP))))).de))))))
  (aX (cM (ao 5)))))))
def yaJ(a:Ad):ag->R aK:=ay (a9 3 (aW (aM (kc a) (gV (dV 0) (gV (dV 1) (bK))))))
 (bH (dL lX (ar (dF (cq [3,2] (bo (dV 3)) (ef) (d2 (cc λi j=>decide (i<=j)) (qj kY (dV 1) (dV 0)) (qj kY (dV 2) (dV 0))))) (aA))))
def me(a:Ad):ag->R Slot:=bD 3 [] (bq 1 (yaJ a))
theorem Oy:bI ["_law_text_here","_law_width","_law_windows","_law_made"] ["_law_text_here","_law_width","_law_windows"] (aN xu):=by ac_nf
theorem MC(G:cj K mg base a):cC (bT P w) P w K mg base "_law_within" 2 ["_law_text_here","_law_width","_law_windows"] (bp K (me a)) :=
 dA (k:=1) (pin:=[]) G.yaJ Oy rfl (λ_ _ _ _ _ _ us hl=>Pu.Ri (λ_ _ _=>rfl) us hl) (λf aF A outer s H E hr=>by exact
  (aY (cK 3 Oy.nd ((b8 (yr G) (hr.mono (by decide)) cJ (a_ (ao 0) (a_ (ao 1) bP)))).de)
  (aX (cM (ci (wZ rfl) xz G.yaR xl (aJ (kK (cap:=[3,2]) (N':=["_law_window","_law_made","_law_windows"]) (iL.of ["_law_text_here","_law_width","_law_windows","_law_made"] (aN xu) rfl rfl (by decide +kernel)) rfl (fU (ao 3)) (λC s₀ H₀ ex pn=>by exact oF) (λC s₀ H₀ ex pn=>by exact(lf ox iA (EN (ao 1) (ao 0)) (EN (ao 2) (ao 0)) rfl))).de aT))))))
def yaz(a:Ad):ag->R aK:=ay (zR 1 2 (dV 0))
 (ay (a9 3 (d2 gR (d2 bg (dL bc (ar (dV 2) (aA))) (dV 1)) (dC (.int 1))))
 (ay (a9 4 (dF (dL bX (ar (dC (.str [])) (aA)))))
 (ay (λε=>cA (bR 5 (dL iO (ar (dV 3) (aA))) (ay (cg 6 (dL bX (aA)))
 (ay (bR 7 (bo (dV 4)) (bR 8 (bo (dC (.str [97,98,99]))) (bi (dB (aW (aM (me a) (gV (d2 bg (dV 7) (dV 8)) (gV (dV 1) (gV (dV 2) (bK))))))) (ge 6 (d2 bg (dV 7) (dV 8))) (bS))))
 (a9 4 (dM 6)))) ε))
 (lA (cq [1,2] (bo (dV 4)) (dB (d2 (eqT aj) (aW (aM (kc a) (gV (dV 0) (gV (dV 1) (bK))))) (dV 2))) (dV 0))))))
def mZ(a:Ad):ag->R Slot:=bD 1 [] (bq 8 (yaz a))
theorem J5:bI ["_law_asked","_law_width","_law_windows","_law_long","_law_rows","_law_k","_law_longer","_law_line","_law_letter"] ["_law_asked"] (aN vj):=by ac_nf
theorem CW(G:cj K mg base a):cC (bT P w) P w K mg base "_law_all" 3 ["_law_asked"] (bp K (mZ a)) :=
 dA (k:=2) (pin:=[]) G.yaz J5 rfl (λ_ _ _ _ _ _ us hl=>Pu.Rm (λ_=>rfl) us hl) (λf aF A outer s H E hr=>by exact
  (aY (Qi 1 2 rfl J5.nd (ao 0))
  (aY (cK 3 J5.nd (b0 qb qc (b0 eT eN (ci et eD G.yaX d_ (aJ (ao 2) aT)) (ao 1)) aZ))
  (aY (cK 4 J5.nd (jP (aJ (dH []) aT)))
  (aY (kb (iM 5 iW rfl J5.nd (sJ G.yaZ (aJ (ao 3) aT)) (aY (iP 6 J5.nd (j_ aT))
  (aY (iM 7 iW rfl J5.nd (fU (ao 4)) (aX (iM 8 iW rfl J5.nd (fU (dH [97,98,99])) (aX (dG (jS ((b8 (MC G) (hr.mono (by decide)) fS (a_ (b0 eT eN (ao 7) (ao 8)) (a_ (ao 1) (a_ (ao 2) bP))))).de) (aX (tE 6 (b0 eT eN (ao 7) (ao 8)))) d8)))))
  (aX (cK 4 J5.nd (xg 6)))))))
  (aX (zt (kK (cap:=[1,2]) (N':=["_law_line","_law_width","_law_windows"]) (iL.of ["_law_asked","_law_width","_law_windows","_law_long","_law_rows","_law_k","_law_longer","_law_line","_law_letter"] (aN vj) rfl rfl (by decide +kernel)) rfl (fU (ao 4)) (λC s₀ H₀ ex pn=>by exact tw (c_ (gD hr.units) gy ((b8 (yr G) (hr.mono (by decide)) fS (a_ (ao 0) (a_ (ao 1) bP)))).de (ao 2) rfl)) (λC s₀ H₀ ex pn=>by exact(ao 0))))))))))
theorem Lj:bI ["thing"] ["thing"] (aN yY):=by ac_nf
theorem Ja(G:cj K mg base a):cC (bT P w) P w K mg base "is_whole_number" 1 ["thing"] (bp K (vm a)) :=
 dA (k:=0) (pin:=[]) G.yav Lj rfl (λ_ _ _ _ _ _ us hl=>Pu.Rm (λ_=>rfl) us hl) (λf aF A outer s H E hr=>by exact
  (aX (cM (nz (ci oA oP G.yaW jb (aJ (ao 0) (aJ (oC G.yaV NA) aT))) (p_ (Ou (ci oA oP G.yaW jb (aJ (ao 0) (aJ (oC G.yaT Nm) aT)))))))))
theorem Pq:bI ["thing"] ["thing"] (aN AU):=by ac_nf
theorem DU(G:cj K mg base a):cC (bT P w) P w K mg base "is_width" 2 ["thing"] (bp K (ph a)) :=
 dA (k:=1) (pin:=[]) G.yaw Pq rfl (λ_ _ _ _ _ _ us hl=>Pu.Rm (λ_=>rfl) us hl) (λf aF A outer s H E hr=>by exact
  (aX (cM (nz ((b8 (Ja G) (hr.mono (by decide)) cJ (a_ (ao 0) bP))).de (p_ (Qg ox ox iA iA aZ (ao 0) (wW G.ybk)))))))
theorem Jp:bI ["text","signs"] ["text","signs"] (aN vI):=by ac_nf
theorem Nh(G:cj K mg base a):cC (bT P w) P w K mg base "has_only" 1 ["text","signs"] (bp K (xa a)) :=
 dA (k:=0) (pin:=[]) G.yar Jp rfl (λ_ _ _ _ _ _ us hl=>Pu.Q9 (λ_ _=>rfl) us hl) (λf aF A outer s H E hr=>by exact
  (aX (cM (ci (wZ rfl) xz G.yaR xl (aJ (kK (cap:=[1]) (N':=["sign","signs"]) (iL.of ["text","signs"] (aN vI) rfl rfl (by decide +kernel)) rfl (fU (ao 0)) (λC s₀ H₀ ex pn=>by exact oF) (λC s₀ H₀ ex pn=>by exact(lf FD B0 (ao 0) (ao 1) rfl))).de aT)))))
theorem Jw:bI ["thing","width","signs"] ["thing","width","signs"] (aN Ap):=by ac_nf
theorem DH(G:cj K mg base a):cC (bT P w) P w K mg base "is_window" 2 ["thing","width","signs"] (bp K (k_ a)) :=
 dA (k:=1) (pin:=[]) G.yax Jw rfl (λ_ _ _ _ _ _ us hl=>Pu.Ri (λ_ _ _=>rfl) us hl) (λf aF A outer s H E hr=>by exact
  (aX (cM (nz (ci oA oP G.yaW jb (aJ (ao 0) (aJ (oC G.ya2 El) aT))) (nz (lf (gD hr.units) gy (ci et eD G.yaX d_ (aJ (ao 0) aT)) (ao 1) rfl) (p_ ((b8 (Nh G) (hr.mono (by decide)) cJ (a_ (ao 0) (a_ (ao 2) bP)))).de))))))
theorem Oz:bI ["thing","width","signs"] ["thing","width","signs"] (aN vM):=by ac_nf
theorem LL(G:cj K mg base a):cC (bT P w) P w K mg base "are_windows" 3 ["thing","width","signs"] (bp K (nh a)) :=
 dA (k:=2) (pin:=[]) G.yak Oz rfl (λ_ _ _ _ _ _ us hl=>Pu.Ri (λ_ _ _=>rfl) us hl) (λf aF A outer s H E hr=>by exact
  (aY (dG ((oE (j6 (jS (ci oA oP G.yaW jb (aJ (ao 0) (aJ (oC G.ya3 mY) aT))))) (qg (j6 (Ju ox ox iA iA aZ (ci et eD G.yaX d_ (aJ (ao 0) aT)) (wW G.ybi)))))).dt (aX (cM kh)) d8)
  (aY (dG (j6 (jS (ci (wZ rfl) xz G.yaR xl (aJ (kK (cap:=[1,2]) (N':=["window","width","signs"]) (iL.of ["thing","width","signs"] (aN vM) rfl rfl (by decide +kernel)) rfl (fU (ao 0)) (λC s₀ H₀ ex pn=>by exact oF) (λC s₀ H₀ ex pn=>by exact((b8 (DH G) (hr.mono (by decide)) fS (a_ (ao 0) (a_ (ao 1) (a_ (ao 2) bP))))).de)).de aT)))) (aX (cM kh)) d8)
  (aX (cM (lf (gD hr.units) gy (Ek AQ zQ G.yaY yS (aJ (ao 0) aT)).de (CN qe ql G.ya1 ng (aJ (ao 0) aT)).de rfl))))))
theorem HL:bI ["thing","signs"] ["thing","signs"] (aN Ag):=by ac_nf
theorem Jx(G:cj K mg base a):cC (bT P w) P w K mg base "is_view_with" 4 ["thing","signs"] (bp K (qE a)) :=
 dA (k:=3) (pin:=[]) G.yau HL rfl (λ_ _ _ _ _ _ us hl=>Pu.Q9 (λ_ _=>rfl) us hl) (λf aF A outer s H E hr=>by exact
  (aY (dG ((oE (j6 (jS (ci oA oP G.yaW jb (aJ (ao 0) (aJ (oC G.ya3 mY) aT))))) (qg (c_ (lG hr.units) lZ (ci et eD G.yaX d_ (aJ (ao 0) aT)) aZ rfl)))).dt (aX (cM kh)) d8)
  (aX (cM (nz ((b8 (DU G) (hr.mono (by decide)) cJ (a_ (gZ ii ij (ao 0) aZ) bP))).de (p_ ((b8 (LL G) (hr.mono (by decide)) cJ (a_ (gZ ii ij (ao 0) aZ) (a_ (gZ ii ij (ao 0) aZ) (a_ (ao 1) bP))))).de))))))
theorem IN:bI ["thing"] ["thing"] (aN zU):=by ac_nf
theorem Ov(G:cj K mg base a):cC (bT P w) P w K mg base "is_view" 5 ["thing"] (bp K (wq a)) :=
 dA (k:=4) (pin:=[]) G.yat IN rfl (λ_ _ _ _ _ _ us hl=>Pu.Rm (λ_=>rfl) us hl) (λf aF A outer s H E hr=>by exact
  (aX (vf (b8 (Jx G) (hr.mono (by decide)) cJ (a_ (ao 0) (a_ (qV G.ybg) bP))))))
theorem QH:bI ["thing"] ["thing"] (aN AV):=by ac_nf
theorem OP(G:cj K mg base a):cC (bT P w) P w K mg base "check_view" 6 ["thing"] (bp K (vN a)) :=
 dA (k:=5) (pin:=[]) G.yal QH rfl (λ_ _ _ _ _ _ us hl=>Pu.Rm (λ_=>rfl) us hl) (λf aF A outer s H E hr=>by exact
  (aX (dG (j6 (jS ((b8 (Ov G) (hr.mono (by decide)) cJ (a_ (ao 0) bP))).de)) (aX (tI sG rfl G.ya7 xT (dH [97,32,118,105,101,119,32,105,115,32,97,32,116,117,112,108,101,32,111,102,32,97,32,119,105,100,116,104,32,97,110,100,32,97,32,114,105,115,105,110,103,32,116,117,112,108,101,32,111,102,32,49,32,116,111,32,57,32,119,105,110,100,111,119,115]))) d8)))
theorem Cz:bI ["text","width","left","found","head","letter","window"] ["text","width","left","found"] (aN zb):=by ac_nf
theorem L8(G:cj K mg base a)(m:Nat):cC (bT P w) P w K mg base "add_endings" (1+m) ["text","width","left","found"] (bp K (nJ a m)):=by
 induction m with
 |zero=>exact dA (k:=0) (pin:=[2,3]) G.yaj Cz rfl (λ_ _ _ _ _ _ us hl=>Pu.Ry (λ_ _ _ _=>rfl) us hl) (λf aF A outer s H E hr=>P0)
 |succ m ih=>exact dA (k:=1+m) (pin:=[2,3]) G.yaj Cz rfl (λ_ _ _ _ _ _ us hl=>Pu.Ry (λ_ _ _ _=>rfl) us hl) (λf aF A outer s H E hr=>by exact
  (aY (dG (j6 (jS (MQ 2 rfl G.yaS))) (aY (tE 3 (ao 0))
  (aX PQ)) d8)
  (aY (cK 4 Cz.nd (js jv jt (ao 0) (i5 (b0 eT eN (b0 qb qc (ci et eD G.yaX d_ (aJ (ao 0) aT)) (ao 1)) aZ)) jK))
  (aX (kb (iM 5 iW rfl Cz.nd (fU (qV G.ybg)) (aY (cK 6 Cz.nd (b0 eT eN (ao 4) (ao 5)))
  (aX (dG (c_ sY iA (wL 2 hr.units (ao 6) aZ) aZ rfl) (aY (pf 2 hr.units (ao 6) (b0 qb qc (vW 2 hr.units (ao 6)) aZ))
  (aY (sv (b8 ih (hr.mono ∅) fS (a_ (b0 eT eN (ao 0) (ao 5)) (a_ (ao 1) (iq 2 (iq 3 bP))))))
  (aX (pf 2 hr.units (ao 6) (b0 eT eN (vW 2 hr.units (ao 6)) aZ))))) d8)))))))))
theorem IC:bI ["windows","counts","window"] ["windows"] (aN yN):=by ac_nf
theorem JZ(G:cj K mg base a):cC (bT P w) P w K mg base "counted" 1 ["windows"] (bp K (uf a)) :=
 dA (k:=0) (pin:=[]) G.yao IC rfl (λ_ _ _ _ _ _ us hl=>Pu.Rm (λ_=>rfl) us hl) (λf aF A outer s H E hr=>by exact
  (aY (iP 1 IC.nd (CQ))
  (aY (kb (iM 2 iW rfl IC.nd (fU (ao 0)) (aX (pf 1 hr.units (ao 2) (b0 eT eN (wL 1 hr.units (ao 2) aZ) aZ)))))
  (aX (ww 1)))))
theorem QL:bI ["view","width","found","head"] ["view"] (aN xk):=by ac_nf
theorem Cg(G:cj K mg base a):cC (bT P w) P w K mg base "texts" 14 ["view"] (bp K (qM a)) :=
 dA (k:=13) (pin:=[]) G.yaM QL rfl (λ_ _ _ _ _ _ us hl=>Pu.Rm (λ_=>rfl) us hl) (λf aF A outer s H E hr=>by exact
  (aY (sv (b8 (OP G) (hr.mono (by decide)) cJ (a_ (ao 0) bP)))
  (aY (cK 1 QL.nd (gZ ii ij (ao 0) aZ))
  (aY (iP 2 QL.nd (j_ aT))
  (aY (kb (iM 3 iW rfl QL.nd (fU (L4 rfl (aJ (kK (cap:=[]) (N':=["window"]) (iL.of ["view","width","found","head"] (aN xk) rfl rfl (by decide +kernel)) rfl (fU (gZ ii ij (ao 0) aZ)) (λC s₀ H₀ ex pn=>by exact oF) (λC s₀ H₀ ex pn=>by exact(js jv jt (ao 0) jK (i5 (nj mW nK aZ))))).de aT) G.ya1 G.ya0).de) (aX (sv (OC (L8 G 12) (hr.mono (by decide)) fS (Cj (ao 3) (Cj (ao 1) (Kw (((b8 (JZ G) (hr.mono (by decide)) fS (a_ (gZ ii ij (ao 0) aZ) bP))).dn) (iq 2 bP)))))))))
  (aX (ww 2)))))))
theorem NE:bI ["view"] ["view"] (aN zv):=by ac_nf
theorem JI(G:cj K mg base a):cC (bT P w) P w K mg base "how_many" 15 ["view"] (bp K (tf a)) :=
 dA (k:=14) (pin:=[]) G.yas NE rfl (λ_ _ _ _ _ _ us hl=>Pu.Rm (λ_=>rfl) us hl) (λf aF A outer s H E hr=>by exact
  (aX (cM (ci et eD G.yaX d_ (aJ ((b8 (Cg G) (hr.mono (by decide)) cJ (a_ (ao 0) bP))).de aT)))))
def yaE(a:Ad):ag->R aK:=ay (a9 2 (dF (dL bX (ar (dC (.str [])) (aA)))))
 (ay (λε=>cA (bR 3 (dL iO (ar (dV 0) (aA))) (ay (cg 4 (dL bX (aA)))
 (ay (bR 5 (bo (dV 2)) (nv 4 (dF (cq [5] (bo (dC (.str [97,98,99]))) (ef) (d2 bg (dV 1) (dV 0))))))
 (a9 2 (dM 4)))) ε))
 (lA (cq [0,1] (bo (dV 2)) (dB (d2 (cc λi j=>decide (j<i)) (aW (aM (tf a) (gV (dL eu (ar (dV 1) (ar (dL i_ (ar (dF (dL jc (ar (d2 bg (dV 2) (dF (dL bX (ar (dV 0) (aA))))) (aA)))) (aA))) (aA)))) (bK)))) (dC (.int 0)))) (dV 0))))
def rm(a:Ad):ag->R Slot:=bD 2 [] (bq 4 (yaE a))
theorem Ql:bI ["_law_width","_law_row","_law_made","_law_turn","_law_longer","_law_text_here"] ["_law_width","_law_row"] (aN sw):=by ac_nf
theorem Qe(G:cj K mg base a):cC (bT P w) P w K mg base "_law_next" 16 ["_law_width","_law_row"] (bp K (rm a)) :=
 dA (k:=15) (pin:=[]) G.yaE Ql rfl (λ_ _ _ _ _ _ us hl=>Pu.Q9 (λ_ _=>rfl) us hl) (λf aF A outer s H E hr=>by exact
  (aY (cK 2 Ql.nd (jP (aJ (dH []) aT)))
  (aY (kb (iM 3 iW rfl Ql.nd (sJ G.yaZ (aJ (ao 0) aT)) (aY (iP 4 Ql.nd (j_ aT))
  (aY (iM 5 iW rfl Ql.nd (fU (ao 2)) (aX (zr 4 (kK (cap:=[5]) (N':=["_law_letter","_law_text_here"]) (iL.of ["_law_width","_law_row","_law_made","_law_turn","_law_longer","_law_text_here"] (aN sw) rfl rfl (by decide +kernel)) rfl (fU (dH [97,98,99])) (λC s₀ H₀ ex pn=>by exact oF) (λC s₀ H₀ ex pn=>by exact(b0 eT eN (ao 1) (ao 0)))).de)))
  (aX (cK 2 Ql.nd (xg 4)))))))
  (aX (zt (kK (cap:=[0,1]) (N':=["_law_window","_law_width","_law_row"]) (iL.of ["_law_width","_law_row","_law_made","_law_turn","_law_longer","_law_text_here"] (aN sw) rfl rfl (by decide +kernel)) rfl (fU (ao 2)) (λC s₀ H₀ ex pn=>by exact tw (c_ sY iA ((b8 (JI G) (hr.mono (by decide)) fS (a_ (jn (aJ (ao 1) (aJ (rh qN qQ G.ya3 mY (aJ (CN qe ql G.ya1 ng (aJ (b0 eT eN (ao 2) (jP (aJ (ao 0) aT))) aT)).de aT)) aT))) bP))).de aZ rfl)) (λC s₀ H₀ ex pn=>by exact(ao 0))))))))
def yaI(a:Ad):ag->R aK:=ay (cg 1 (dL bX (ar (dL (kN (km a)) (ar (dV 0) (ar (dC (.raw (.ref a.NoText))) (aA)))) (ar (dL (kN (km a)) (ar (dV 0) (ar (dC (.raw (.ref a.NoWidth))) (aA)))) (ar (dL (kN (km a)) (ar (dV 0) (ar (dC (.raw (.ref a.NoView))) (aA)))) (ar (dL (kN (km a)) (ar (dV 0) (ar (dC (.raw (.ref a.NoWindow))) (aA)))) (aA)))))))
 (ay (nv 1 (dF (dL bX (ar (dL (kN (km a)) (ar (dV 0) (ar (dC (.raw (.ref a.Never))) (aA)))) (ar (dL (kN (km a)) (ar (dV 0) (ar (dC (.raw (.ref a.Full))) (aA)))) (ar (dL (kN (km a)) (ar (dV 0) (ar (dC (.raw (.ref a.Nothing))) (aA)))) (aA)))))))
 (ay (bi (fu (dB (d2 (eqT ah) (qC kY 1 (dC (.bl ah))) (dC (.int 1)))) (fO (dB (dL (kN (km a)) (ar (dV 0) (ar (dC (.raw (.ty "ValueError"))) (aA))))))) (bH (dL eu (ar (dC (.str [114,101,102,117,115,101,100])) (ar (d1 fG (dC (.int 1))) (aA))))) (bS))
 (bH (dL eu (ar (dC (.str [114,101,102,117,115,101,100])) (ar (qC Ac 1 (dC (.bl ah))) (aA)))))))
def l6(a:Ad):ag->R Slot:=bD 1 [] (bq 1 (yaI a))
theorem JB:bI ["_law_e","_law_own"] ["_law_e"] (aN ze):=by ac_nf
theorem Lk(G:cj K mg base a):vK P w K mg base "_law_which" 1 ["_law_e"] (bp K (l6 a)) :=
 JJ (k:=0) (pin:=[]) G.yaI JB rfl (λ_ _ _ _ _ _ us hl=>Pu.Rm (λ_=>rfl) us hl) (λf aF A outer s H hr=>by exact
  (aY (iP 1 JB.nd (j_ (aJ (ci nA (m_ G.tab) G.yaW jb (aJ (ao 0) (aJ (oV G.yac) aT))) (aJ (ci nA (m_ G.tab) G.yaW jb (aJ (ao 0) (aJ (oV G.yae) aT))) (aJ (ci nA (m_ G.tab) G.yaW jb (aJ (ao 0) (aJ (oV G.yad) aT))) (aJ (ci nA (m_ G.tab) G.yaW jb (aJ (ao 0) (aJ (oV G.yaf) aT))) aT))))))
  (aY (zr 1 (jP (aJ (ci nA (m_ G.tab) G.yaW jb (aJ (ao 0) (aJ (oV G.yab) aT))) (aJ (ci nA (m_ G.tab) G.yaW jb (aJ (ao 0) (aJ (oV G.yaa) aT))) (aJ (ci nA (m_ G.tab) G.yaW jb (aJ (ao 0) (aJ (oV G.yag) aT))) aT)))))
  (aY (dG ((oE (c_ (lG hr.units) lZ (Ka 1 kh) aZ rfl) (qg (j6 (jS (ci nA (m_ G.tab) G.yaW jb (aJ (ao 0) (aJ (oC G.yaQ OA) aT)))))))).dt (aX (cM (jn (aJ (dH [114,101,102,117,115,101,100]) (aJ (nj mW nK aZ) aT))))) d8)
  (aX (cM (jn (aJ (dH [114,101,102,117,115,101,100]) (aJ (IJ 1 kh) aT)))))))))
def zO(a:Ad):ag->R aK:=ay (bi (dB (d2 (eqT aj) (i9 (λxs=>eJ (bc xs)) a.Slit "came" 0) (dC (.int 0)))) (lH (.ref a.Nothing) (λε=>bA ((dC (.str [116,104,101,114,101,32,105,115,32,110,111,32,119,105,110,100,111,119,32,116,111,32,116,97,107,101,32,98,97,99,107])) ε))) (bS))
 (bH (vE a.Slit "came" 0))
def nG(a:Ad):ag->R Slot:=eP 1 [0] (bq 0 (zO a))
theorem IX:bI ["self"] ["self"] (aN zj):=by ac_nf
theorem J3(G:cj K mg base a):kZ (bT P w) P w K mg base a.Slit "undo" 1 ["self"] (bp K (nG a)) :=
 v6 (k:=0) (pin:=[0]) G.ybe IX rfl (λ_ _ _ _ _ _ us hl=>Pu.Rm (λ_=>rfl) us hl) (λf aF A outer s H E hr=>by exact
  (aY (dG (c_ (gD hr.units) gy (EG 0 G.k_Slit G.ya4 et eD G.yaX d_) aZ rfl) (aX (tI sG rfl G.yba xT (dH [116,104,101,114,101,32,105,115,32,110,111,32,119,105,110,100,111,119,32,116,111,32,116,97,107,101,32,98,97,99,107]))) d8)
  (aX (cM (Ic 0 G.k_Slit G.ya4)))))
def yan(a:Ad):ag->R aK:=bi (fO (dB (aW (aM (k_ a) (gV (dV 0) (gV (dV 1) (gV (dC (.str [97,98,99])) (bK)))))))) (lH (.ref a.NoWindow) (λε=>bA ((dC (.str [97,32,119,105,110,100,111,119,32,104,97,115,32,97,115,32,109,97,110,121,32,108,101,116,116,101,114,115,32,97,44,32,98,44,32,99,32,97,115,32,116,104,101,32,115,108,105,116,32,105,115,32,119,105,100,101])) ε))) (bS)
def qA(a:Ad):ag->R Slot:=bD 2 [] (bq 0 (yan a))
theorem LU:bI ["thing","width"] ["thing","width"] (aN zG):=by ac_nf
theorem MG(G:cj K mg base a):cC (bT P w) P w K mg base "check_window" 3 ["thing","width"] (bp K (qA a)) :=
 dA (k:=2) (pin:=[]) G.yan LU rfl (λ_ _ _ _ _ _ us hl=>Pu.Q9 (λ_ _=>rfl) us hl) (λf aF A outer s H E hr=>by exact
  (aX (dG (j6 (jS ((b8 (DH G) (hr.mono (by decide)) cJ (a_ (ao 0) (a_ (ao 1) (a_ (qV G.ybg) bP))))).de)) (aX (tI sG rfl G.ya9 xT (dH [97,32,119,105,110,100,111,119,32,104,97,115,32,97,115,32,109,97,110,121,32,108,101,116,116,101,114,115,32,97,44,32,98,44,32,99,32,97,115,32,116,104,101,32,115,108,105,116,32,105,115,32,119,105,100,101]))) d8)))
def yaN(a:Ad):ag->R aK:=ay (bi (dB (d2 (eqT aj) (eK (λxs=>eJ (bc xs)) 0) (dC (.int 0)))) (lA (dL bX (aA))) (bS))
 (lF (aM (qM a) (gV (dL eu (ar (dV 1) (ar (dL i_ (ar (dF (eK (λxs=>iQ (jc xs)) 0)) (aA))) (aA)))) (bK))))
def qI(a:Ad):ag->R Slot:=bD 2 [0] (bq 0 (yaN a))
theorem Jt:bI ["windows","width"] ["windows","width"] (aN yC):=by ac_nf
theorem Fh(G:cj K mg base a):cC (bT P w) P w K mg base "texts_with" 15 ["windows","width"] (bp K (qI a)) :=
 dA (k:=14) (pin:=[0]) G.yaN Jt rfl (λ_ _ _ _ _ _ us hl=>Pu.Q9 (λ_ _=>rfl) us hl) (λf aF A outer s H E hr=>by exact
  (aY (dG (c_ (gD hr.units) gy (wH 0 et eD G.yaX d_) aZ rfl) (aX (zt (j_ aT))) d8)
  (aX (vf (b8 (Cg G) (hr.mono (by decide)) cJ (a_ (jn (aJ (ao 1) (aJ (rh qN qQ G.ya3 mY (aJ (wA 0 qe ql G.ya1 ng).de aT)) aT))) bP))))))
def xy(a:Ad):ag->R aK:=ay (kr (aM (qA a) (gV (dV 1) (gV (kL a.Slit "came" 0 "width") (bK)))))
 (ay (bi (dB (d2 (eqT aj) (i9 (λxs=>eJ (bc xs)) a.Slit "came" 0) (dC (.int 9)))) (lH (.ref a.Full) (λε=>bA ((dC (.str [97,32,115,108,105,116,32,116,97,107,101,115,32,117,112,32,116,111,32,57,32,119,105,110,100,111,119,115])) ε))) (bS))
 (ay (xc a.Slit "came" 0 (dV 1))
 (bH (dL bc (ar (aW (nt a.Slit "came" "width" 0 (qI a))) (aA))))))
def lg(a:Ad):ag->R Slot:=eP 2 [0] (bq 0 (xy a))
theorem HB:bI ["self","window"] ["self","window"] (aN AK):=by ac_nf
theorem NV(G:cj K mg base a):kZ (bT P w) P w K mg base a.Slit "come" 16 ["self","window"] (bp K (lg a)) :=
 v6 (k:=15) (pin:=[0]) G.ybb HB rfl (λ_ _ _ _ _ _ us hl=>Pu.Q9 (λ_ _=>rfl) us hl) (λf aF A outer s H E hr=>by exact
  (aY (sv (b8 (MG G) (hr.mono (by decide)) cJ (a_ (ao 1) (a_ (CP 0 "came" G.k_Slit G.ya5) bP))))
  (aY (dG (c_ (gD hr.units) gy (EG 0 G.k_Slit G.ya4 et eD G.yaX d_) (wW G.ybi) rfl) (aX (tI sG rfl G.ya6 xT (dH [97,32,115,108,105,116,32,116,97,107,101,115,32,117,112,32,116,111,32,57,32,119,105,110,100,111,119,115]))) d8)
  (aY (Ms 0 G.k_Slit G.ya4 (ao 1))
  (aX (cM (ci et eD G.yaX d_ (aJ ((FI 0 G.k_Slit G.ya4 G.ya5 (Fh G) (hr.mono (by decide)) cJ)).de aT))))))))
def yaB(a:Ad):ag->R aK:=nq 2 (mS a) (pb (dB (d2 (eqT aj) (dV 1) (dC (.str [117,110,100,111])))) (eM a.Slit "undo" 0 (nG a)) (tQ a.Slit "come" 0 (lg a) (gV (dV 1) (bK)))) (lF (λε=>bA (aM (l6 a) (gV (dV 2) (bK)) ε)))
def g6(a:Ad):ag->R Slot:=eP 2 [0] (bq 1 (yaB a))
theorem Oa:bI ["_law_slit","_law_window","_law_e"] ["_law_slit","_law_window"] (aN z8):=by ac_nf
theorem Et(G:cj K mg base a):cC (bT P w) P w K mg base "_law_do" 17 ["_law_slit","_law_window"] (bp K (g6 a)) :=
 Mw (k:=16) (pin:=[0]) G.yaB Oa rfl (λ_ _ _ _ _ _ us hl=>Pu.Q9 (λ_ _=>rfl) us hl) (λf aF A outer s H E hr=>by
  have hrh:=λad=>cB.hand (v:=aa (.ref ad)) hr;exact
  (aX (K6 2 Oa.nd (Kr (c_ (gD hr.units) gy (ao 1) (dH [117,110,100,111]) rfl) (JL 0 G.k_Slit (J3 G) (hr.mono (by decide))) (KJ 0 G.k_Slit (NV G) (hr.mono (by decide)) (a_ (ao 1) bP))) G.yai G.err_SlitError G.und (λad=>by exact(aX (vf (MJ (Lk G) ((hrh ad).mono (by decide)) (a_ (ao 2) bP))))))))
theorem HE:bI ["thing"] ["thing"] (aN AZ):=by ac_nf
theorem PJ(G:cj K mg base a):cC (bT P w) P w K mg base "check_width" 3 ["thing"] (bp K (wE a)) :=
 dA (k:=2) (pin:=[]) G.yam HE rfl (λ_ _ _ _ _ _ us hl=>Pu.Rm (λ_=>rfl) us hl) (λf aF A outer s H E hr=>by exact
  (aX (dG (j6 (jS ((b8 (DU G) (hr.mono (by decide)) cJ (a_ (ao 0) bP))).de)) (aX (tI sG rfl G.ya8 xT (dH [97,32,119,105,100,116,104,32,105,115,32,97,32,119,104,111,108,101,32,110,117,109,98,101,114,32,102,114,111,109,32,49,32,116,111,32,52]))) d8)))
def EH(a:Ad):ag->R aK:=ay (kr (aM (wE a) (gV (dV 1) (bK))))
 (ay (yV a.Slit 0 "width" (dV 1))
 (vJ a.Slit 0 "came" (dL bX (aA))))
def nI(a:Ad):ag->R Slot:=bD 2 [0] (bq 0 (EH a))
theorem Oj:bI ["self","width"] ["self","width"] (aN yO):=by ac_nf
theorem E7(G:cj K mg base a):AW (bT P w) P w K mg base a.Slit 4 ["self","width"] (bp K (nI a)) :=
 KZ (k:=3) (pin:=[0]) G.yaP Oj rfl (λ_ _ _ _ _ _ us hl=>Pu.Q9 (λ_ _=>rfl) us hl) (λf aF A outer s H E hr=>by exact
  (aY (sv (b8 (PJ G) (hr.mono (by decide)) cJ (a_ (ao 1) bP)))
  (aY (My 0 G.k_Slit G.ya5 (ao 1))
  (aX (On 0 G.k_Slit G.ya4 (j_ aT))))))
def vF(a:Ad):ag->R aK:=ay (a9 1 (aW (nt a.Slit "came" "width" 0 (qI a))))
 (bH (bi (dB (d2 (eqT aj) (dL bc (ar (dV 1) (aA))) (dC (.int 1)))) (d2 b7 (dV 1) (dC (.int 0))) (dC .non)))
def lh(a:Ad):ag->R Slot:=eP 1 [0] (bq 1 (vF a))
theorem PR:bI ["self","having"] ["self"] (aN zP):=by ac_nf
theorem Ca(G:cj K mg base a):kZ (bT P w) P w K mg base a.Slit "told" 16 ["self"] (bp K (lh a)) :=
 v6 (k:=15) (pin:=[0]) G.ybd PR rfl (λ_ _ _ _ _ _ us hl=>Pu.Rm (λ_=>rfl) us hl) (λf aF A outer s H E hr=>by exact
  (aY (cK 1 PR.nd ((FI 0 G.k_Slit G.ya4 G.ya5 (Fh G) (hr.mono (by decide)) cJ)).de)
  (aX (cM (wo (c_ (gD hr.units) gy (ci et eD G.yaX d_ (aJ (ao 1) aT)) aZ rfl) (gZ ii ij (ao 1) aZ) mR)))))
theorem LS:bI ["blurred_window","found","sign","letters","longer","start"] ["blurred_window"] (aN vL):=by ac_nf
theorem NF(G:cj K mg base a):cC (bT P w) P w K mg base "windows_that_fit" 1 ["blurred_window"] (bp K (sU a)) :=
 dA (k:=0) (pin:=[]) G.yaO LS rfl (λ_ _ _ _ _ _ us hl=>Pu.Rm (λ_=>rfl) us hl) (λf aF A outer s H E hr=>by exact
  (aY (cK 1 LS.nd (jP (aJ (dH []) aT)))
  (aY (kb (iM 2 iW rfl LS.nd (fU (ao 0)) (aY (cK 3 LS.nd (wo (c_ (gD hr.units) gy (ao 2) (qV G.ybj) rfl) (qV G.ybg) (ao 2)))
  (aY (iP 4 LS.nd (j_ aT))
  (aY (iM 5 iW rfl LS.nd (fU (ao 1)) (aX (zr 4 (kK (cap:=[5]) (N':=["letter","start"]) (iL.of ["blurred_window","found","sign","letters","longer","start"] (aN vL) rfl rfl (by decide +kernel)) rfl (fU (ao 3)) (λC s₀ H₀ ex pn=>by exact oF) (λC s₀ H₀ ex pn=>by exact(b0 eT eN (ao 1) (ao 0)))).de)))
  (aX (cK 1 LS.nd (xg 4))))))))
  (aX (cM (ao 1))))))
theorem Ls:bI ["windows","excess","window"] ["windows"] (aN ym):=by ac_nf
theorem N3(G:cj K mg base a):cC (bT P w) P w K mg base "excesses" 1 ["windows"] (bp K (qd a)) :=
 dA (k:=0) (pin:=[]) G.yap Ls rfl (λ_ _ _ _ _ _ us hl=>Pu.Rm (λ_=>rfl) us hl) (λf aF A outer s H E hr=>by exact
  (aY (iP 1 Ls.nd (CQ))
  (aY (kb (iM 2 iW rfl Ls.nd (fU (ao 0)) (aY (pf 1 hr.units (js jv jt (ao 2) jK (i5 (nj mW nK aZ))) (b0 eT eN (wL 1 hr.units (js jv jt (ao 2) jK (i5 (nj mW nK aZ))) aZ) aZ))
  (aX (pf 1 hr.units (js jv jt (ao 2) (i5 aZ) jK) (b0 qb qc (wL 1 hr.units (js jv jt (ao 2) (i5 aZ) jK) aZ) aZ))))))
  (aX (ww 1)))))
theorem PU:bI ["windows","reached","known","window"] ["windows"] (aN yI):=by ac_nf
theorem OE(G:cj K mg base a):cC (bT P w) P w K mg base "reached_pieces" 1 ["windows"] (bp K (nu a)) :=
 dA (k:=0) (pin:=[]) G.yaK PU rfl (λ_ _ _ _ _ _ us hl=>Pu.Rm (λ_=>rfl) us hl) (λf aF A outer s H E hr=>by exact
  (aY (iP 1 PU.nd (KW (js jv jt (gZ ii ij (ao 0) aZ) jK (i5 (nj mW nK aZ))) kh))
  (aY (cK 2 PU.nd aZ)
  (aY (kb (L9 (λ_=>1000) iW (c_ wT iA (ao 2) (FE 1 G.yaX) rfl) (aY (cK 2 PU.nd (FE 1 G.yaX))
  (aX (iM 3 iW rfl PU.nd (fU (ao 0)) (aX (dG ((oE (zI 1 hr.units (js jv jt (ao 3) jK (i5 (nj mW nK aZ)))) (qg (zI 1 hr.units (js jv jt (ao 3) (i5 aZ) jK))))).dt (aY (pf 1 hr.units (js jv jt (ao 3) jK (i5 (nj mW nK aZ))) kh)
  (aX (pf 1 hr.units (js jv jt (ao 3) (i5 aZ) jK) kh))) d8)))))))
  (aX (ww 1))))))
theorem N8:bI ["windows","excess","starts","reached","places"] ["windows"] (aN ti):=by ac_nf
theorem NN(G:cj K mg base a):cC (bT P w) P w K mg base "find_bar" 2 ["windows"] (bp K (mV a)) :=
 dA (k:=1) (pin:=[]) G.yaq N8 rfl (λ_ _ _ _ _ _ us hl=>Pu.Rm (λ_=>rfl) us hl) (λf aF A outer s H E hr=>by exact
  (aY (iP 1 N8.nd (((b8 (N3 G) (hr.mono (by decide)) cJ (a_ (ao 0) bP))).dn))
  (aY (Ih 2 N8.nd (cap:=[1]) (N':=["piece","excess"]) (iL.of ["windows","excess","starts","reached","places"] (aN ti) rfl rfl (by decide +kernel)) rfl (fU (Mb 1 rfl G.ya1).de) (λC s₀ H₀ ex pn=>by exact tw (c_ sY iA (vW 1 hr.units (ao 0)) aZ rfl)) (λC s₀ H₀ ex pn=>by exact(ao 0)))
  (aY (dG (c_ sY iA (ci et eD G.yaX d_ (aJ (ao 2) aT)) aZ rfl) (aX (cM (jn (aJ (dH [116,119,111]) (aJ (gZ ii ij (ao 2) aZ) (aJ (gZ ii ij (ao 2) aZ) aT)))))) d8)
  (aY (dG ((D8 (c_ (gD hr.units) gy (ci et eD G.yaX d_ (aJ (ao 2) aT)) aZ rfl) (B2 (c_ sY iA (vW 1 hr.units (gZ ii ij (ao 2) aZ)) aZ rfl)))).dt (aX (cM (jn (aJ (dH [109,111,114,101]) (aJ (gZ ii ij (ao 2) aZ) aT))))) d8)
  (aY (iP 3 N8.nd (((b8 (OE G) (hr.mono (by decide)) cJ (a_ (ao 0) bP))).dn))
  (aY (PD 4 N8.nd (cap:=[3]) (j:=5) (N':=["place","window","reached"]) (iL.of ["windows","excess","starts","reached","places"] (aN ti) rfl rfl (by decide +kernel)) rfl (NQ G.yaU (aJ (ao 0) aT)) (λC s₀ H₀ ex pn=>by exact tw (zI 2 hr.units (js jv jt (ao 1) jK (i5 (nj mW nK aZ))))) (λC s₀ H₀ ex pn=>by exact(ao 0)))
  (aY (dG (c_ wT iA (ci et eD G.yaX d_ (aJ (ao 4) aT)) (ci et eD G.yaX d_ (aJ (ao 0) aT)) rfl) (aX (cM (jn (aJ (dH [97,112,97,114,116]) (aJ (rh qN qQ G.ya3 mY (aJ (ao 4) aT)) aT))))) d8)
  (aX (cM mR))))))))))
def yaL(a:Ad):ag->R aK:=bH (gx (d2 (cc λi j=>decide (i<=j)) (d2 gR (d2 bg (dL bc (ar (dV 0) (aA))) (dV 1)) (dC (.int 1))) (dC (.int 12))) (d2 (ka aj) (aW (aM (mV a) (gV (dV 0) (bK)))) (dC .non)))
def sT(a:Ad):ag->R Slot:=bD 2 [] (bq 0 (yaL a))
theorem Qn:bI ["windows","width"] ["windows","width"] (aN zK):=by ac_nf
theorem Kq(G:cj K mg base a):cC (bT P w) P w K mg base "some_text_has" 3 ["windows","width"] (bp K (sT a)) :=
 dA (k:=2) (pin:=[]) G.yaL Qn rfl (λ_ _ _ _ _ _ us hl=>Pu.Q9 (λ_ _=>rfl) us hl) (λf aF A outer s H E hr=>by exact
  (aX (cM (nz (lf ox iA (b0 qb qc (b0 eT eN (ci et eD G.yaX d_ (aJ (ao 0) aT)) (ao 1)) aZ) (wW G.ybh) rfl) (p_ (lf BP FG ((b8 (NN G) (hr.mono (by decide)) cJ (a_ (ao 0) bP))).de mR rfl))))))
def u6(a:Ad):ag->R aK:=ay (a9 1 (kL a.Slit "came" 0 "width"))
 (bH (dF (cq [0,1] (bo (aW (aM (sU a) (gV (d2 eC (dC (.str [46])) (dV 1)) (bK))))) (dB (aW (aM (sT a) (gV (p9 a.Slit "came" 1 0) (gV (dV 2) (bK)))))) (dV 0))))
def qX(a:Ad):ag->R Slot:=eP 1 [0] (bq 1 (u6 a))
theorem Ob:bI ["self","width"] ["self"] (aN wp):=by ac_nf
theorem J8(G:cj K mg base a):kZ (bT P w) P w K mg base a.Slit "fitting" 4 ["self"] (bp K (qX a)) :=
 v6 (k:=3) (pin:=[0]) G.ybc Ob rfl (λ_ _ _ _ _ _ us hl=>Pu.Rm (λ_=>rfl) us hl) (λf aF A outer s H E hr=>by exact
  (aY (cK 1 Ob.nd (CP 0 "came" G.k_Slit G.ya5))
  (aX (cM ((kK (cap:=[0,1]) (N':=["window","self","width"]) (iL.of ["self","width"] (aN wp) rfl rfl (by decide +kernel)) rfl (fU ((b8 (NF G) (hr.mono (by decide)) cJ (a_ (b0 lR lM (qV G.ybj) (ao 1)) bP))).de) (λC s₀ H₀ ex pn=>by exact tw (jS ((b8 (Kq G) (hr.mono (by decide)) fS (a_ (Ib 1 0 G.k_Slit G.ya4) (a_ (ao 2) bP)))).de)) (λC s₀ H₀ ex pn=>by exact(ao 0))).de)))))
def j4(a:Ad):ag->R Slot:=qD 1 (i9 (λxs=>iQ (nk xs)) a.Slit "came" 0)
theorem Po:bI ["self"] ["self"] (aN y6):=by ac_nf
theorem zx(G:cj K mg base a):kZ (bT P w) P w K mg base a.Slit "windows" 1 ["self"] (bp K (j4 a)) :=
 Ig (k:=0) G.ybf Po rfl (λ_ _ _ _ _ _ us hl=>Pu.Rm (λ_=>rfl) us hl) rfl (λf aF A outer s H E hr=>by exact
  (OD 0 G.k_Slit G.ya4 AQ zQ G.yaY yS))
def yay(a:Ad):ag->R aK:=ay (cg 1 (dL bX (aA)))
 (ay (a9 2 (d2 bg (dC (.int 2)) (aW (aM (jg a) (gV (dV 0) (gO 1 (gV (dC (.int 3)) (bK))))))))
 (ay (a9 3 (dF (dL nk (ar (aW (aM (kc a) (gV (aW (aM (kQ a) (gV (dV 0) (gO 1 (gV (dV 2) (gV (dC (.int 9)) (bK))))))) (gV (dV 2) (bK))))) (aA)))))
 (ay (cg 4 (oO a.Slit (nI a) (gV (dV 2) (bK))))
 (ay (cg 5 (oO a.Slit (nI a) (gV (dC (.int 1)) (bK))))
 (ay (cg 6 (dL bX (aA)))
 (ay (λε=>cA (bR 7 (dL iO (ar (aW (aM (jg a) (gV (dV 0) (gO 1 (gV (dC (.int 16)) (bK)))))) (aA))) (ay (a9 8 (aW (aM (lP a) (gV (dV 0) (gO 1 (gV (dV 3) (bK)))))))
 (ay (a9 9 (aW (aM (jg a) (gV (dV 0) (gO 1 (gV (dC (.int 8)) (bK)))))))
 (ay (bi (dB (d2 (eqT aj) (dV 9) (dC (.int 0)))) (a9 8 (aW (aM (kQ a) (gV (dV 0) (gO 1 (gV (dV 2) (gV (dV 2) (bK)))))))) (bS))
 (ay (bi (dB (d2 (eqT aj) (dV 9) (dC (.int 1)))) (a9 8 (aW (aM (lP a) (gV (dV 0) (gO 1 (gV (dF (dL bX (ar (dC .non) (ar (dC (.str [])) (ar (d2 eC (dC (.str [97])) (d2 bg (dV 2) (dC (.int 1)))) (ar (d2 eC (dC (.str [100])) (dV 2)) (ar (dC (.int 1)) (ar (d2 eC (dC (.str [65])) (dV 2)) (aA))))))))) (bK))))))) (bS))
 (ay (bi (dB (d2 (eqT aj) (dV 9) (dC (.int 2)))) (a9 8 (dC (.str [117,110,100,111]))) (bS))
 (ay (a9 10 (dC .non))
 (ay (bi (dB (d2 (eqT aj) (dV 8) (dC (.str [117,110,100,111])))) (a9 10 (bi (dB (lz (eqT ah) 6 (dF (dL bX (aA))))) (qR 6) (dL eu (ar (dC (.str [114,101,102,117,115,101,100])) (ar (dC (.int 6)) (aA)))))) (bi (fu (fO (dB (dL gk (ar (dV 8) (ar (dC (.raw (.ty "str"))) (aA)))))) (fu (dB (d2 (eqT ah) (dL bc (ar (dV 8) (aA))) (dV 2))) (fO (dB (dL lX (ar (dF (cq [] (bo (dV 8)) (ef) (d2 (jF aj) (dV 0) (dC (.str [97,98,99]))))) (aA))))))) (a9 10 (dL eu (ar (dC (.str [114,101,102,117,115,101,100])) (ar (dC (.int 3)) (aA))))) (bi (dB (d2 (eqT aj) (eK (λxs=>eJ (bc xs)) 6) (dC (.int 9)))) (a9 10 (dL eu (ar (dC (.str [114,101,102,117,115,101,100])) (ar (dC (.int 5)) (aA))))) (ay (ge 6 (dV 8))
 (a9 10 (dL bc (ar (aW (aM (mZ a) (gV (dL eu (ar (dV 2) (ar (dL i_ (ar (dF (eK (λxs=>iQ (jc xs)) 6)) (aA))) (aA)))) (bK)))) (aA))))))))
 (ay (bi (fu (dB (d2 (eqT ah) (aW (aM (g6 a) (gO 4 (gV (dV 8) (bK))))) (dV 10))) (dB (p8 (eqT ah) (aW (eM a.Slit "windows" 4 (j4 a))) 6))) (bH (dC (.bl aj))) (bS))
 (ay (qo (eM a.Slit "windows" 4 (j4 a)) (dC .non))
 (ay (a9 11 (dF (dL bX (aA))))
 (ay (bi (dB (lz (eqT ah) 6 (dF (dL bX (aA))))) (a9 11 (aW (aM (mZ a) (gV (dL eu (ar (dV 2) (ar (dL i_ (ar (dF (eK (λxs=>iQ (jc xs)) 6)) (aA))) (aA)))) (bK))))) (bS))
 (bi (dB (d2 (eqT ah) (aW (eM a.Slit "told" 4 (lh a))) (bi (dB (d2 (eqT aj) (dL bc (ar (dV 11) (aA))) (dC (.int 1)))) (d2 b7 (dV 11) (dC (.int 0))) (dC .non)))) (bH (dC (.bl aj))) (bS))))))))))))) ε))
 (ay (bi (j5 (dB (d2 (cc λi j=>decide (i<j)) (eK (λxs=>eJ (bc xs)) 6) (dC (.int 9)))) (dB (d2 (eqT ah) (aW (eM a.Slit "fitting" 4 (qX a))) (aW (aM (rm a) (gV (dV 2) (gV (dM 6) (bK)))))))) (bH (dC (.bl aj))) (bS))
 (bH (gx (d2 (eqT aj) (aW (eM a.Slit "windows" 5 (j4 a))) (dF (dL bX (aA)))) (gx (d2 (ka aj) (aW (eM a.Slit "told" 5 (lh a))) (dC .non)) (d2 (eqT aj) (aW (aM (g6 a) (gO 5 (gV (dC (.str [117,110,100,111])) (bK))))) (dL eu (ar (dC (.str [114,101,102,117,115,101,100])) (ar (dC (.int 6)) (aA)))))))))))))))
def sL(a:Ad):ag->R Slot:=bD 1 [] (bq 11 (yay a))
theorem MP:bI ["_law_script","_law_town","_law_width","_law_pool","_law_slit","_law_second","_law_row","_law_k","_law_window","_law_kind","_law_due","_law_some"] ["_law_script"] (aN sq):=by ac_nf
theorem Mz(G:cj K mg base a){f:ac}{fd:gn}(Fn:kT K "law" "law" sq f fd):gL P w K mg base (bT P w) 18 f fd ["_law_script"] (bp K (sL a)) :=
 D7 (k:=17) (pin:=[]) Fn MP rfl (λ_ _ _ _ _ _ us hl=>Pu.Rm (λ_=>rfl) us hl) (λf aF A outer s H E hr=>by exact
  (aY (iP 1 MP.nd (j_ aT))
  (aY (cK 2 MP.nd (b0 eT eN aZ ((b8 (qa G) (hr.mono (by decide)) cJ (a_ (ao 0) (iq 1 (a_ aZ bP))))).de))
  (aY (cK 3 MP.nd (Ek AQ zQ G.yaY yS (aJ ((b8 (yr G) (hr.mono (by decide)) cJ (a_ ((b8 (CI G) (hr.mono (by decide)) cJ (a_ (ao 0) (iq 1 (a_ (ao 2) (a_ aZ bP)))))).de (a_ (ao 2) bP)))).de aT)).de)
  (aY (iP 4 MP.nd (C1 (E7 G) (hr.mono (by decide)) cJ G.yah (a_ (ao 2) bP)))
  (aY (iP 5 MP.nd (C1 (E7 G) (hr.mono (by decide)) cJ G.yah (a_ aZ bP)))
  (aY (iP 6 MP.nd (j_ aT))
  (aY (kb (iM 7 iW rfl MP.nd (sJ G.yaZ (aJ ((b8 (qa G) (hr.mono (by decide)) fS (a_ (ao 0) (iq 1 (a_ aZ bP))))).de aT)) (aY (cK 8 MP.nd ((b8 (AO G) (hr.mono (by decide)) fS (a_ (ao 0) (iq 1 (a_ (ao 3) bP))))).de)
  (aY (cK 9 MP.nd ((b8 (qa G) (hr.mono (by decide)) fS (a_ (ao 0) (iq 1 (a_ aZ bP))))).de)
  (aY (dG (c_ (gD hr.units) gy (ao 9) aZ rfl) (aX (cK 8 MP.nd ((b8 (CI G) (hr.mono (by decide)) fS (a_ (ao 0) (iq 1 (a_ (ao 2) (a_ (ao 2) bP)))))).de)) d8)
  (aY (dG (c_ (gD hr.units) gy (ao 9) aZ rfl) (aX (cK 8 MP.nd ((b8 (AO G) (hr.mono (by decide)) fS (a_ (ao 0) (iq 1 (a_ (jP (aJ mR (aJ (dH []) (aJ (b0 lR lM (dH [97]) (b0 eT eN (ao 2) aZ)) (aJ (b0 lR lM (dH [100]) (ao 2)) (aJ aZ (aJ (b0 lR lM (dH [65]) (ao 2)) aT))))))) bP))))).de)) d8)
  (aY (dG (c_ (gD hr.units) gy (ao 9) aZ rfl) (aX (cK 8 MP.nd (dH [117,110,100,111]))) d8)
  (aY (cK 10 MP.nd mR)
  (aY (dG (c_ (gD hr.units) gy (ao 8) (dH [117,110,100,111]) rfl) (aX (cK 10 MP.nd (wo (CJ 6 (lG hr.units) lZ (jP aT) rfl) (LY 6) (jn (aJ (dH [114,101,102,117,115,101,100]) (aJ aZ aT)))))) (aX (dG ((oE (j6 (jS (ci oA oP G.yaW jb (aJ (ao 8) (aJ (oC G.ya2 El) aT))))) (oE (c_ (lG hr.units) lZ (ci et eD G.yaX d_ (aJ (ao 8) aT)) (ao 2) rfl) (qg (j6 (jS (ci (wZ rfl) xz G.yaR xl (aJ (kK (cap:=[]) (N':=["_law_sign"]) (iL.of ["_law_script","_law_town","_law_width","_law_pool","_law_slit","_law_second","_law_row","_law_k","_law_window","_law_kind","_law_due","_law_some"] (aN sq) rfl rfl (by decide +kernel)) rfl (fU (ao 8)) (λC s₀ H₀ ex pn=>by exact oF) (λC s₀ H₀ ex pn=>by exact(lf FD B0 (ao 0) (dH [97,98,99]) rfl))).de aT)))))))).dt (aX (cK 10 MP.nd (jn (aJ (dH [114,101,102,117,115,101,100]) (aJ aZ aT))))) (aX (dG (c_ (gD hr.units) gy (wH 6 et eD G.yaX d_) aZ rfl) (aX (cK 10 MP.nd (jn (aJ (dH [114,101,102,117,115,101,100]) (aJ aZ aT))))) (aY (tE 6 (ao 8))
  (aX (cK 10 MP.nd (ci et eD G.yaX d_ (aJ ((b8 (CW G) (hr.mono (by decide)) fS (a_ (jn (aJ (ao 2) (aJ (rh qN qQ G.ya3 mY (aJ (wA 6 qe ql G.ya1 ng).de aT)) aT))) bP))).de aT))))))))))
  (aY (dG ((oE (c_ (lG hr.units) lZ ((b8 (Et G) (hr.mono (by decide)) fS (iq 4 (a_ (ao 8) bP)))).de (ao 10) rfl) (qg (Io 6 (lG hr.units) lZ ((q8 4 G.k_Slit (zx G) (hr.mono (by decide)) fS)).de rfl)))).dt (aX (cM kh)) d8)
  (aY (QF (q8 4 G.k_Slit (zx G) (hr.mono (by decide)) fS) mR)
  (aY (cK 11 MP.nd (jP aT))
  (aY (dG (CJ 6 (lG hr.units) lZ (jP aT) rfl) (aX (cK 11 MP.nd ((b8 (CW G) (hr.mono (by decide)) fS (a_ (jn (aJ (ao 2) (aJ (rh qN qQ G.ya3 mY (aJ (wA 6 qe ql G.ya1 ng).de aT)) aT))) bP))).de)) d8)
  (aX (dG (c_ (lG hr.units) lZ ((q8 4 G.k_Slit (Ca G) (hr.mono (by decide)) fS)).de (wo (c_ (gD hr.units) gy (ci et eD G.yaX d_ (aJ (ao 11) aT)) aZ rfl) (gZ ii ij (ao 11) aZ) mR) rfl) (aX (cM kh)) d8)))))))))))))))
  (aY (dG ((D8 (c_ wT iA (wH 6 et eD G.yaX d_) aZ rfl) (B2 (c_ (lG hr.units) lZ ((q8 4 G.k_Slit (J8 G) (hr.mono (by decide)) cJ)).de ((b8 (Qe G) (hr.mono (by decide)) cJ (a_ (ao 2) (a_ (xg 6) bP)))).de rfl)))).dt (aX (cM kh)) d8)
  (aX (cM (nz (lf (gD hr.units) gy ((q8 5 G.k_Slit (zx G) (hr.mono (by decide)) cJ)).de (jP aT) rfl) (nz (lf BP FG ((q8 5 G.k_Slit (Ca G) (hr.mono (by decide)) cJ)).de mR rfl) (p_ (lf (gD hr.units) gy ((b8 (Et G) (hr.mono (by decide)) cJ (iq 5 (a_ (dH [117,110,100,111]) bP)))).de (jn (aJ (dH [114,101,102,117,115,101,100]) (aJ aZ aT))) rfl)))))))))))))))
end
end K06
namespace Mx
open L2 Pu
def bM:Tx:=[97,98,99]
def dE:Nat->List Tx
 |0=>[[]]
 |k+1=>bM.flatMap λc=>(dE k).map (c::·)
theorem lU:∀(k:Nat) (x:Tx),x∈dE k↔x.length=k/\∀c∈x,c∈bM
 |0,x=>by
  simp only[dE,mG];constructor
  ·rintro rfl;simp
  ·rintro⟨h,_⟩;exact n8.mp h
 |k+1,x=>by
  simp only[dE,List.mem_flatMap,cR];constructor
  ·rintro⟨c,hc,y,hy,rfl⟩;obtain⟨h1,h2⟩:=(lU k y).mp hy;refine⟨by simp[h1],λd hd=>?_⟩;rcases bQ.mp hd with rfl|hd
   ·exact hc
   ·exact h2 d hd
  ·rintro⟨h1,h2⟩;cases x with
   |nil=>cases h1
   |cons c y=>exact⟨c,h2 c (by simp),y,(lU k y).mpr ⟨xS h1,λd hd=>h2 d (by simp[hd])⟩,rfl⟩
theorem AB:∀k:Nat,(dE k).length=3^k
 |0=>rfl
 |k+1=>by simp only[dE,bM,rP,Ha,dI,c9,AB k,nX,Nat.pow_succ];lia
theorem Ey(i j:Nat):dE (i+j)=(dE i).flatMap λh=>(dE j).map (h++·):=by
 induction i with
 |zero=>simp[dE]
 |succ i ih=>rw[show i+1+j=(i+j)+1 by lia];simp only[dE,ih,List.flatMap_assoc,List.map_flatMap,List.flatMap_map,fM,Function.comp_def,Bu]
theorem IG(k:Nat):dE (k+1)=(dE k).flatMap λh=>bM.map λc=>h++[c]:=by rw[Ey k 1];congr 1
theorem Aq:∀k:Nat,(dE k).Pairwise (λa b=>a<b)
 |0=>by simp[dE]
 |k+1=>by
  simp only[dE];rw[List.pairwise_flatMap];refine⟨λc _=>?_,?_⟩
  ·rw[List.pairwise_map];exact(Aq k).imp λh=>List.cons_lt_cons_iff.mpr (.inr ⟨rfl,h⟩)
  ·have:bM.Pairwise (λa b=>a<b):=by decide
   refine this.imp λh=>?_;intro x hx y hy;obtain⟨x',_,rfl⟩:=cR.mp hx;obtain⟨y',_,rfl⟩:=cR.mp hy;exact List.cons_lt_cons_iff.mpr (.inl h)
theorem HK{a b:Tx}(h:a<b):dY a b=ah:=by simp only[dY,decide_eq_true_eq];exact List.le_of_lt h
theorem IA(k:Nat):(dE k).Pairwise (λa b=>dY a b=ah):=(Aq k).imp HK
theorem Mj(k:Nat):(dE k).Nodup:=(Aq k).imp λh z=>by subst z;exact List.lt_irrefl _ h
def a5(z:Tx)(w:Nat):List Tx:=((cW z.length).filter λi=>decide (i+w<=z.length)).map λi=>(z.drop i).take w
theorem EO(w L:Nat):∀m:Nat,(cW m).filter (λi=>decide (i+w<=L))=cW (min m (L+1-w))
 |0=>by simp
 |m+1=>by
  rw[uC,Hb,EO w L m];by_cases h:m+w<=L
  ·rw[show min m (L+1-w)=m by lia,show min (m+1) (L+1-w)=m+1 by lia,uC];simp[h]
  ·rw[show min (m+1) (L+1-w)=min m (L+1-w) by lia];simp[h]
theorem nD(z:Tx)(w:Nat)(hw:1<=w):a5 z w=(cW (z.length+1-w)).map λi=>(z.drop i).take w:=by unfold a5;rw[EO,show min z.length (z.length+1-w)=z.length+1-w by lia]
def nw(w:Nat)(t:Tx):Tx->List Tx
 |[]=>[]
 |c::s=>(t.drop (t.length+1-w)++[c])::nw w (t++[c]) s
theorem FN(w:Nat)(hw:1<=w):∀(s t:Tx),w<=t.length+1->nw w t s=(cW s.length).map λi=>((t++s).drop (t.length+1-w+i)).take w
 |[],t,_=>by simp[nw]
 |c::s,t,h=>by
  rw[nw,FN w hw s (t++[c]) (by simp;lia),eF,Bl,cQ,fM];congr 1
  ·show _=((t++c::s).drop (t.length+1-w)).take w;rw[Bk ∅,List.take_append];have e1:(t.drop (t.length+1-w)).length=w-1:=by rw[my];lia
   rw[e1,pL (by rw[e1];lia),show w-(w-1)=1 by lia];rfl
  ·refine j0 λi _=>?_;simp only[pP];rw[dI,pJ,show t.length+1+1-w+i=t.length+1-w+Nat.succ i by lia];simp
theorem yK{w:Nat}(hw:1<=w){h s:Tx}(hh:h.length=w-1):a5 (h++s) w=nw w h s:=by rw[nD _ _ hw,FN w hw s h ∅,dI,show h.length+s.length+1-w=s.length by lia];refine j0 λi _=>?_;rw[show h.length+1-w+i=i by lia]
theorem Fy{w:Nat}(hw:1<=w)(t:Tx)(c:Nat):a5 (t++[c]) w=a5 t w++(if w<=t.length+1 then [((t++[c]).drop (t.length+1-w)).take w] else []):=by
 rw[nD _ _ hw,nD _ _ hw,dI,pJ];by_cases h:w<=t.length+1
 ·rw[if_pos h,show t.length+1+1-w=(t.length+1-w)+1 by lia,uC,pK];congr 1;refine j0 λi hi=>?_;have hi:i<t.length+1-w:=by simpa using hi
  rw[Bk ∅,Hc (by rw[my];lia)]
 ·rw[if_neg h,show t.length+1+1-w=0 by lia,show t.length+1-w=0 by lia];simp
theorem Km{z:Tx}{w:Nat}{x:Tx}(hx:x∈a5 z w):x.length=w/\∀c∈x,c∈z:=by simp only[a5,cR,lm,ul,decide_eq_true_eq]at hx;obtain⟨i,⟨_,h⟩,rfl⟩:=hx;exact⟨by rw[rD,my];lia,λc hc=>List.mem_of_mem_drop (List.mem_of_mem_take hc)⟩
def hG(w:Nat):Nat->Tx->List Tx->List Tx
 |0,t,_=>[t]
 |r+1,t,q=>bM.flatMap λc=>if t.drop (t.length+1-w)++[c]∈q then hG w r (t++[c]) (q.erase (t.drop (t.length+1-w)++[c]))else []
theorem B7(w:Nat):∀(r:Nat) (t:Tx) (q:List Tx),q.length=r->hG w r t q=((dE r).filter λs=>(nw w t s).isPerm q).map (t++·)
 |0,t,q,hq=>by have:q=[]:=n8.mp hq;subst this;simp[hG,dE,nw,List.isPerm]
 |r+1,t,q,hq=>by
  simp only[hG,dE,Hd,List.map_flatMap];congr 1;funext c;rw[xU,fM];by_cases h:t.drop (t.length+1-w)++[c]∈q
  ·rw[if_pos h,B7 w r (t++[c]) _ (by rw[Bv h,hq];rfl)];have e:((λs=>(nw w t s).isPerm q) ∘ λx=>c::x)=λs=>(nw w (t++[c]) s).isPerm (q.erase (t.drop (t.length+1-w)++[c])):=by funext s;show(q.contains (t.drop (t.length+1-w)++[c])&&(nw w (t++[c]) s).isPerm (q.erase (t.drop (t.length+1-w)++[c])))=_;rw[List.contains_iff_mem.mpr h,Bm]
   rw[e];refine j0 λs _=>?_;simp
  ·rw[if_neg h];have e:((λs=>(nw w t s).isPerm q) ∘ λx=>c::x)=λ_=>aj:=by
    funext s;show(q.contains (t.drop (t.length+1-w)++[c])&&(nw w (t++[c]) s).isPerm (q.erase (t.drop (t.length+1-w)++[c])))=_;have:q.contains (t.drop (t.length+1-w)++[c])=aj:=by rw[G9];intro z;exact h (List.contains_iff_mem.mp z)
    rw[this,Bool.false_and]
   rw[e];simp
def dW(w:Nat)(ls:List Tx):List Tx:=(bf (fH (ls.map n_))).flatMap λh=>hG w ls.length h ls
theorem EL{α β:Type}{l:List α}{f:α->List β}(p:α->Bool)(h:∀x∈l,p x=aj->f x=[]):l.flatMap f=(l.filter p).flatMap f:=by
 induction l with
 |nil=>rfl
 |cons x l ih=>
  rw[rP,ih λy hy=>h y (by simp[hy]),rQ];cases e:p x with
  |true=>simp
  |false=>rw[h x (by simp) e];simp
theorem wR{w:Nat}{ls:List Tx}(hw:1<=w)(hn:1<=ls.length)(hl:∀x∈ls,x.length=w/\∀c∈x,c∈bM):dW w ls=(dE (w-1+ls.length)).filter λz=>(a5 z w).isPerm ls:=by
 rw[Ey,Hd];have e1:(λh=>((dE ls.length).map (h++·)).filter λz=>(a5 z w).isPerm ls)=λh=>((dE ls.length).filter λs=>(a5 (h++s) w).isPerm ls).map (h++·):=by funext h;rw[xU];rfl
 rw[e1,EL (λh=>decide (h∈ls.map n_))]
 ·have e2:(dE (w-1)).filter (λh=>decide (h∈ls.map n_))=bf (fH (ls.map n_)):=by
   refine wQ ?_ ((IA (w-1)).filter _);refine(List.perm_ext_iff_of_nodup ((Mj (w-1)).filter _) (Qk _)).mpr λx=>?_;rw[lm,decide_eq_true_eq,s_,lU];refine⟨λh=>h.2,λh=>⟨?_,h⟩⟩;obtain⟨y,hy,rfl⟩:=cR.mp h;obtain⟨h1,h2⟩:=hl y hy;exact⟨by rw[xG,h1],λc hc=>h2 c ((List.dropLast_sublist _).mem hc)⟩
  rw[e2];unfold dW;have:∀l:List Tx,(∀h∈l,h.length=w-1)->l.flatMap (λh=>hG w ls.length h ls)=l.flatMap λh=>((dE ls.length).filter λs=>(a5 (h++s) w).isPerm ls).map (h++·):=by
   intro l
   induction l with
   |nil=>intro _;rfl
   |cons h l ih=>
    intro hh;rw[rP,rP,ih λy hy=>hh y (by simp[hy]),B7 w _ h ls rfl];have e3:(λs=>(nw w h s).isPerm ls)=λs=>(a5 (h++s) w).isPerm ls:=by funext s;rw[yK hw (hh h (by simp))]
    rw[e3]
  refine this _ λh hh=>?_;have hm:=(s_ _ _).mp ((eY _).mem_iff.mp hh);obtain⟨y,hy,rfl⟩:=cR.mp hm;rw[xG,(hl y hy).1]
 ·intro h hh hp;have aS:=((lU _ h).mp hh).1;rw[List.map_eq_nil_iff,List.filter_eq_nil_iff];intro s hs hq;have hsl:=((lU _ s).mp hs).1;rw[yK hw aS,List.isPerm_iff]at hq;cases s with
  |nil=>rw[nX]at hsl;lia
  |cons c s=>rw[nw,show h.length+1-w=0 by lia,List.drop_zero]at hq;have:h++[c]∈ls:=hq.mem_iff.mp (by simp);rw[decide_eq_false_iff_not]at hp;exact hp (cR.mpr ⟨_,this,by simp⟩)
def unD(w:Nat)(ls:List Tx)(t:Tx):Bool:=(a5 t w).all λx=>decide ((a5 t w).count x<=ls.count x)
theorem D9{w:Nat}{ls:List Tx}{t:Tx}:unD w ls t=ah↔∀x,(a5 t w).count x<=ls.count x:=by
 unfold unD;rw[mC];constructor
 ·intro h x;by_cases hx:x∈a5 t w
  ·simpa using h x hx
  ·rw[He hx];lia
 ·intro h x _;simpa using h x
theorem Jz{w:Nat}(hw:1<=w){ls:List Tx}{t:Tx}{c:Nat}(h:unD w ls (t++[c])=ah):unD w ls t=ah:=by rw[D9]at h ⊢;intro x;have:=h x;rw[Fy hw,Hf]at this;lia
def rowsOf(w:Nat)(ls:List Tx)(k:Nat):List Tx:=(dE k).filter (unD w ls)
theorem HX{w:Nat}(hw:1<=w)(ls:List Tx):rowsOf w ls 0=[[]]:=by simp[rowsOf,dE,unD,a5]
theorem Fo{w:Nat}(hw:1<=w)(ls:List Tx)(k:Nat):rowsOf w ls (k+1)=(rowsOf w ls k).flatMap λt=>(bM.map λc=>t++[c]).filter (unD w ls):=by
 unfold rowsOf;rw[IG,Hd];refine EL _ λt _ ht=>?_;rw[List.filter_eq_nil_iff];intro z hz hu;obtain⟨c,_,rfl⟩:=cR.mp hz;rw[Jz hw hu]at ht;cases ht
theorem Qm(w:Nat)(ls:List Tx)(k:Nat):(rowsOf w ls k).length<=3^k:=by rw[←AB k];exact xV _ _
theorem yG{w:Nat}{ls:List Tx}(hs:ls.Pairwise (λa b=>dY a b=ah))(L:Nat):(rowsOf w ls L).filter (λz=>decide (bf (a5 z w)=ls))=(dE L).filter λz=>(a5 z w).isPerm ls:=by
 unfold rowsOf;rw[List.filter_filter];refine List.filter_congr λz _=>?_;rw[mn,fq,decide_eq_true_eq,List.isPerm_iff];constructor
 ·rintro⟨h,_⟩;rw[←h];exact(eY _).symm
 ·intro h;refine⟨by rw[yB h,Am hs],?_⟩;rw[D9];intro x;rw[h.count_eq];exact bt _
end Mx
namespace Sh
open L2 Pu Mx
theorem jQ{α:Type}{f:List PV->Option α}{ds:ag->R (List PV)}{ε ε1:ag}{xs:List PV}{v:α}(h:ds ε=.ok xs ε1)(hf:f xs=aa v):dL f ds ε=.ok v ε1:=by unfold dL;rw[h];show aC (f xs) ε1=_;rw[hf];rfl
theorem fP{d:ag->R PV}{ds:ag->R (List PV)}{ε ε1 ε2:ag}{x:PV}{xs:List PV}(h:d ε=.ok x ε1)(hs:ds ε1=.ok xs ε2):ar d ds ε=.ok (x::xs) ε2:=by unfold ar;rw[h];show(ds ε1).bind _=_;rw[hs];rfl
theorem jG{ε:ag}:aA ε=.ok [] ε:=rfl
theorem eh(pv:PV)(ε:ag):dC pv ε=.ok pv ε:=rfl
theorem dX{f:PV->PV->Option PV}{da db:ag->R PV}{ε ε1 ε2:ag}{x y z:PV}(h:da ε=.ok x ε1)(h2:db ε1=.ok y ε2)(hf:f x y=aa z):d2 f da db ε=.ok z ε2:=by unfold d2;rw[h];show(db ε1).bind _=_;rw[h2];show aC (f x y) ε2=_;rw[hf];rfl
section
theorem zD{ls:List Tx}(h:ls.length<64):jc [.lst (ak ls)]=aa (.lst (ak (bf ls))):=by show(jf (ak ls)).bind _=_;rw[vA,jj,if_pos h]
end
section
variable{a:Ad}
abbrev cU(ns:List Int):Slot:=.val (.lst (ns.map .int))
theorem F9(ns:List Int)(k:Int)(h0:0<=k)(h:k<ns.length):∃v,f_ (ns.map PV.int) k=aa (.int v):=by
 have hk:k.toNat<ns.length:=∅
 refine⟨ns[k.toNat],?_⟩;rw[wG h0 (by rw[c9];exact hk)];simp
theorem KO(ns:List Int):Pu.eqT aj (.lst (ns.map .int)) (.lst [])=aa (.bl ns.isEmpty):=by
 cases ns with
 |nil=>rfl
 |cons x xs=>
  have hd:∀l:List Int,gX (l.map .int)=0:=λl=>by induction l with|nil=>rfl|cons y l ih=>simp[gX,iB,ih]
  have:gX ((x::xs).map .int)=0:=hd _;simp only[cQ]at this;simp[Pu.eqT,cT,cL,gf,iB,this]
theorem jM(neg:Bool)(i j:Int):Pu.eqT neg (.int i) (.int j)=aa (.bl (neg^^decide (i=j))):=by show(if oX (V.int i) (V.int j)then aa (PV.bl (neg^^decide (V.int i=V.int j)))else af)=_;have:oX (V.int i) (V.int j)=ah:=rfl;rw[if_pos this];simp
theorem qx(neg:Bool)(x y:Tx):Pu.eqT neg (.str x) (.str y)=aa (.bl (neg^^decide (x=y))):=by show(if oX (tV x) (tV y)then aa (PV.bl (neg^^decide (tV x=tV y)))else af)=_;have:oX (tV x) (tV y)=ah:=rfl;rw[if_pos this];have e:(tV x=tV y)=(x=y):=propext ⟨Lb,λh=>by rw[h]⟩;simp only[e]
theorem IH(ns:List Int)(k:Int)(h0:0<=k):∃v,qz a [cU ns,.val (.int k)]=.ok (.val (.int v)) [cU ns,.val (.int k)]:=by
 by_cases h:k<ns.length
 ·obtain⟨v,hv⟩:=F9 ns k h0 h;refine⟨v,?_⟩;simp![qz,yaA,bc,b7,hv,h]
 ·have e:=KO ns;by_cases hn:ns=[]
  ·subst hn;refine⟨0,?_⟩;simp only[rH,Hg]at e;have h':¬k<0:=∅
   simp![qz,yaA,bc,b7,e,h']
  ·have og:0<ns.length:=by cases ns with|nil=>exact absurd rfl hn|cons=>simp
   obtain⟨v,hv⟩:=F9 ns (k % ns.length) (Int.emod_nonneg _ ∅) (Hh _ ∅);refine⟨v*31+k,?_⟩;have e2:ns.isEmpty=aj:=by cases ns with|nil=>exact absurd rfl hn|cons=>rfl
   rw[e2]at e;have hm:i8 (.int k) (.int (ns.length:Int))=aa (.int (k % ns.length)):=by simp[i8];lia
   have hmul:eC (.int v) (.int 31)=aa (.int (v*31)):=by simp[eC,nH]
   simp![qz,yaA,bc,b7,h,e,hm,hv,hmul,bg]
theorem Dz{α:Type}(ps:List α)(v:Int)(h0:0<=v)(h1:v<ps.length):∃x∈ps,f_ ps v=aa x:=by
 have hk:v.toNat<ps.length:=∅
 exact⟨ps[v.toNat],GX _,wG h0 hk⟩
theorem tR{n:Nat}(h:n<=1000000):iO [.int n]=aa (e_ 0 n):=by show(if(n:Int)<=1000000/\-1000000<=(n:Int)then aa (e_ 0 (n:Int).toNat)else af)=_;rw[if_pos ⟨∅,∅⟩];simp
theorem tj{x y:Tx}(h:x.length+y.length<=bC):bg (.str x) (.str y)=aa (.str (x++y)):=by show(if(x++y).length<=bC then aa (PV.str (x++y))else af)=_;rw[if_pos (by rw[dI];exact h)]
theorem bx{d1 d2:ag->R aK}{ε ε1:ag}(h:d1 ε=.ok .next ε1):ay d1 d2 ε=d2 ε1:=by unfold ay;rw[h]
theorem iD{i:Nat}{d:ag->R PV}{ε ε1:ag}{x:PV}(h:d ε=.ok x ε1):a9 i d ε=.ok .next (ε1.set i (.val x)):=by unfold a9;rw[h];rfl
theorem yT{i:Nat}{db:ag->R aK}{I:Nat->ag->Prop}{N:Nat}(step:∀k ε x,k<N->I k ε->∃ε',db (ε.set i (.val x))=.ok .next ε'/\I (k+1) ε'):∀(xs:List PV) (k:Nat) (ε:ag),k+xs.length<=N->I k ε->∃ε',dm i db xs ε=.ok .next ε'/\I (k+xs.length) ε'
 |[],k,ε,_,h=>⟨ε,rfl,h⟩
 |x::xs,k,ε,hk,h=>by simp only[eF]at hk;obtain⟨ε1,e1,h1⟩:=step k ε x ∅ h;obtain⟨ε2,e2,h2⟩:=yT step xs (k+1) ε1 ∅ h1;refine⟨ε2,by unfold dm;rw[e1];exact e2,?_⟩;rw[eF,show k+(xs.length+1)=k+1+xs.length by lia];exact h2
theorem pe{i:Nat}{db:ag->R aK}{I:List PV->ag->Prop}(step:∀(x:PV) (r:List PV) ε,I (x::r) ε->∃ε',db (ε.set i (.val x))=.ok .next ε'/\I r ε'):∀(xs:List PV) (ε:ag),I xs ε->∃ε',dm i db xs ε=.ok .next ε'/\I [] ε'
 |[],ε,h=>⟨ε,rfl,h⟩
 |x::xs,ε,h=>by obtain⟨ε1,e1,h1⟩:=step x xs ε h;obtain⟨ε2,e2,h2⟩:=pe step xs ε1 h1;exact⟨ε2,by unfold dm;rw[e1];exact e2,h2⟩
theorem j8{cap:List Nat}{dt:ag->R Bool}{de:ag->R PV}{ε:ag}(p:PV->Bool)(f:PV->PV):∀(xs:List PV),(∀x∈xs,bA (dN cap dt x ε)=.ok (p x) ε/\(p x=ah->bA (dN cap de x ε)=.ok (f x) ε))->∀bb,lY cap dt de xs bb ε=.ok (bb++(xs.filter p).map f) ε
 |[],_,bb=>by simp[lY]
 |x::xs,h,bb=>by
  have h1:=h x (by simp);have ih:=j8 p f xs (λy hy=>h y (by simp[hy]));unfold lY;rw[h1.1];simp only[R.bind_ok];cases hp:p x with
  |false=>simp only[ih bb,rQ,hp];simp
  |true=>simp only[h1.2 hp,R.bind_ok,ih (bb++[f x]),rQ,hp];simp
theorem Mg{z:Tx}{i w:Nat}(h:i+w<=z.length):gC z (aa (i:Int)) (aa ((i:Int)+w))=(z.drop i).take w:=by
 unfold gC;have e1:HT.sIx z.length 0 (aa (i:Int))=i:=by rw[HT.sIx_nat];lia
 have e2:HT.sIx z.length z.length (aa ((i:Int)+w))=i+w:=by rw[show(i:Int)+w=((i+w:Nat):Int) by lia,HT.sIx_nat];lia
 rw[e1,e2,Nat.add_sub_cancel_left]
theorem BU{z:Tx}{w:Nat}:∀x∈a5 z w,x.length=w/\∀c∈x,c∈z:=by intro x hx;simp only[a5,cR,lm,ul,decide_eq_true_eq]at hx;obtain⟨i,⟨_,h⟩,rfl⟩:=hx;exact⟨by rw[rD,my];lia,λc hc=>List.mem_of_mem_drop (List.mem_of_mem_take hc)⟩
theorem ON{z:Tx}{w m:Nat}(hw:1<=w)(h1:w<=z.length)(h2:z.length<=w+m):1<=(a5 z w).length/\(a5 z w).length<=m+1:=by
 unfold a5;rw[c9];have:∀n,((cW n).filter λi=>decide (i+w<=z.length)).length=min n (z.length+1-w):=by
  intro n
  induction n with
  |zero=>simp
  |succ n ih=>
   rw[uC,Hb,dI,ih];by_cases h:n+w<=z.length
   ·simp[List.filter,h];lia
   ·simp[List.filter,h];lia
 rw[this];lia
structure Good(l:Tx)(w:Nat)(ls:List Tx):Prop where
 len:∀x∈ls,x.length=w
 abc:∀x∈ls,∀c∈x,c∈l
 some:1<=ls.length
 few:ls.length<=9
theorem Good.perm{l:Tx}{w:Nat}{ls ms:List Tx}(g:Good l w ls)(p:ms.Perm ls):Good l w ms:=⟨λx h=>g.len x (p.mem_iff.mp h),λx h=>g.abc x (p.mem_iff.mp h),by rw[p.length_eq];exact g.some,by rw[p.length_eq];exact g.few⟩
theorem eR(ls:List Tx):(ak ls).length=ls.length:=by simp[ak]
theorem vV(ls:List Tx):kW (ak ls)=ah:=by
 induction ls with
 |nil=>rfl
 |cons x ls ih=>show(imm (.str x)&&kW (ak ls))=ah;rw[ih];rfl
theorem qZ(ls ms:List Tx):ak ls++ak ms=ak (ls++ms):=by simp[ak]
theorem EE{α:Type}(xs:List α)(n:Nat):gC xs (aa (n:Int)) af=xs.drop n:=by
 unfold gC;have e2:HT.sIx xs.length xs.length af=xs.length:=rfl;rw[e2,HT.sIx_nat];by_cases h:n<=xs.length
 ·rw[Nat.min_eq_left h,pL (by rw[my];lia)]
 ·rw[Nat.min_eq_right ∅,Hi ∅,Hi ∅];simp
theorem lT{t T:String}{b:Bool}{x:PV}(h:pd x=aa t)(e:gH [] (.type t) (.type T)=aa b):gk [x,.raw (.ty T)]=aa (.bl b):=by show((pd x).bind λt=>(gH [] (.type t) (.type T)).map λb=>PV.bl b)=_;rw[h,jj,e];rfl
theorem Nk:gH [] (.type "int") (.type "int")=aa ah:=by decide +kernel
theorem OW:gH [] (.type "int") (.type "bool")=aa aj:=by decide +kernel
theorem Ez:gH [] (.type "str") (.type "str")=aa ah:=by decide +kernel
theorem yJ:gH [] (.type "tuple") (.type "tuple")=aa ah:=by decide +kernel
theorem Jh(bs:List Bool):lC (bs.map .bl)=aa bs:=by
 induction bs with
 |nil=>rfl
 |cons b bs ih=>show(lC (bs.map .bl)).map (b::·)=_;rw[ih];rfl
theorem vQ(bs:List Bool):lX [.lst (bs.map .bl)]=aa (.bl (bs.all id)):=by show(lC (bs.map .bl)).map _=_;rw[Jh];rfl
theorem zy(z s:Tx):xa a [.val (.str z),.val (.str s)]=.ok (.val (.bl (z.all s.contains))) [.val (.str z),.val (.str s)]:=by
 have hc:=j8 (cap:=[1]) (dt:=ef) (de:=(d2 (jF aj) (dV 0) (dV 1))) (ε:=[.val (.str z),.val (.str s)]) (λ_=>ah) (λx=>match x with|.str [c]=>.bl (s.contains c)|_=>.non) (z.map λc=>.str [c])
  (by
   intro x hx;obtain⟨c,_,rfl⟩:=cR.mp hx;refine⟨by simp![dN,dz,bA,ef],λ_=>?_⟩;have pZ:jF aj (.str [c]) (.str s)=aa (.bl (s.contains c)):=by rw[←Ct];simp[jF]
   simp![dN,dz,bA,pZ]) []
 have he:((z.map λc=>PV.str [c]).filter (λ_=>ah)).map (λx=>match x with|.str [c]=>PV.bl (s.contains c)|_=>.non)=(z.map s.contains).map .bl:=by rw[uJ.mpr (by simp),fM,fM];rfl
 rw[jz,he]at hc;have dR:(z.map s.contains).all id=z.all s.contains:=by rw[uB];rfl
 generalize z.map s.contains=bs at hc dR;have ha:=vQ bs;rw[dR]at ha;simp![xa,yar,cq,bo,iC,hc,ha]
def fA(w:Int)(s z:Tx):Bool:=decide ((z.length:Int)=w)&&z.all s.contains
theorem yL(z s:Tx)(w:Int):k_ a [.val (.str z),.val (.int w),.val (.str s)]=.ok (.val (.bl (fA w s z))) [.val (.str z),.val (.int w),.val (.str s)]:=by
 have h1:gk [.str z,.raw (.ty "str")]=aa (.bl ah):=lT rfl Ez;have hh:=zy (a:=a) z s;have hl:bc [.str z]=aa (.int (z.length:Nat)):=rfl;have he:=jM aj (z.length:Nat) w;unfold fA;by_cases h:((z.length:Nat):Int)=w
 ·simp only[h,decide_true,Bool.xor_true,Bool.not_false]at he;simp![k_,yax,h1,hl,he,hh,h]
 ·simp only[h,decide_false,Bool.xor_false]at he;simp![k_,yax,h1,hl,he,h]
theorem Co(ls ms:List Tx):gf (ak ls) (ak ms)=aa (decide (ls=ms)):=by
 induction ls generalizing ms with
 |nil=>cases ms <;> simp[ak,gf]
 |cons x ls ih=>
  cases ms with
  |nil=>simp[ak,gf]
  |cons y ms=>
   show(cL (.str x) (.str y)).bind (λa=>(gf (ak ls) (ak ms)).map λb=>a&&b)=_;rw[ih];have:cL (.str x) (.str y)=aa (decide (x=y)):=by
    show aa (tS x == tS y)=_;by_cases h:x=y
    ·subst h;simp
    ·have:tS x≠tS y:=λz=>h (qp z);simp[h,this]
   rw[this];simp[pQ]
theorem CD(ls:List Tx):gX (ak ls)=0:=by
 induction ls with
 |nil=>rfl
 |cons x ls ih=>show max (iB (.str x)) (gX (ak ls))=0;rw[ih];rfl
theorem AC(neg:Bool)(ls ms:List Tx):Pu.eqT neg (.lst (ak ls)) (.lst (ak ms))=aa (.bl (neg^^decide (ls=ms))):=by show(if iB (.lst (ak ls))<=8 then(gf (ak ls) (ak ms)).map (λk=>PV.bl (neg^^k))else af)=_;rw[if_pos (by show gX (ak ls)+1<=8;rw[CD];decide),Co];rfl
theorem JM(ls:List Tx)(w:Int)(s:Tx)(h1:1<=ls.length)(h9:ls.length<=9):nh a [.val (.tup (ak ls)),.val (.int w),.val (.str s)]=.ok (.val (.bl (ls.all (fA w s)&&decide (ls=bf ls)))) [.val (.tup (ak ls)),.val (.int w),.val (.str s)]:=by
 have k1:gk [.tup (ak ls),.raw (.ty "tuple")]=aa (.bl ah):=lT rfl yJ;have hl:bc [.tup (ak ls)]=aa (.int (ls.length:Nat)):=by simp[bc,eR]
 have c1:(1:Int)<=(ls.length:Nat):=∅
 have c2:((ls.length:Nat):Int)<=9:=∅
 have hc:=j8 (cap:=[1,2]) (dt:=ef) (de:=(aW (aM (k_ a) (gV (dV 0) (gV (dV 1) (gV (dV 2) (Pu.bK))))))) (ε:=[.val (.tup (ak ls)),.val (.int w),.val (.str s)]) (λ_=>ah) (λx=>match x with|.str z=>.bl (fA w s z)|_=>.non) (ak ls)
  (by intro x hx;obtain⟨z,_,rfl⟩:=cR.mp hx;refine⟨by simp![dN,dz,bA,ef],λ_=>?_⟩;have hw:=yL (a:=a) z s w;simp![dN,dz,bA,hw]) []
 have he:((ak ls).filter (λ_=>ah)).map (λx=>match x with|.str z=>PV.bl (fA w s z)|_=>.non)=(ls.map (fA w s)).map .bl:=by rw[uJ.mpr (by simp)];unfold ak;rw[fM,fM];rfl
 rw[jz,he]at hc;have dR:(ls.map (fA w s)).all id=ls.all (fA w s):=by rw[uB];rfl
 generalize ls.map (fA w s)=bs at hc dR;have ha:=vQ bs;have jC:ls.length<64:=∅
 have heq:=AC aj ls (bf ls);cases hb:ls.all (fA w s)with
 |false=>rw[dR,hb]at ha;simp![nh,yak,k1,hl,c1,c2,cq,bo,iC,hc,ha]
 |true=>rw[dR,hb]at ha;simp only[kE]at heq;simp![nh,yak,k1,hl,c1,c2,cq,bo,iC,hc,ha,nk,jc,vA,jC,heq]
theorem QG(ls:List Tx)(w:Int)(s:Tx)(h9:ls.length=0\/9<ls.length):nh a [.val (.tup (ak ls)),.val (.int w),.val (.str s)]=.ok (.val (.bl aj)) [.val (.tup (ak ls)),.val (.int w),.val (.str s)]:=by
 have k1:gk [.tup (ak ls),.raw (.ty "tuple")]=aa (.bl ah):=lT rfl yJ;have hl:bc [.tup (ak ls)]=aa (.int (ls.length:Nat)):=by simp[bc,eR]
 by_cases c1:(1:Int)<=(ls.length:Nat)
 ·have c2:¬((ls.length:Nat):Int)<=9:=∅
  simp![nh,yak,k1,hl,c1,c2]
 ·simp![nh,yak,k1,hl,c1]
theorem OQ(i:Int):vm a [.val (.int i)]=.ok (.val (.bl ah)) [.val (.int i)]:=by have h1:gk [.int i,.raw (.ty "int")]=aa (.bl ah):=lT rfl Nk;have h2:gk [.int i,.raw (.ty "bool")]=aa (.bl aj):=lT rfl OW;simp![vm,yav,h1,h2]
theorem Dm(i:Int):ph a [.val (.int i)]=.ok (.val (.bl (decide (1<=i/\i<=4)))) [.val (.int i)]:=by
 have h:=OQ (a:=a) i;by_cases c1:1<=i
 ·by_cases c2:i<=4
  ·simp![ph,yaw,h,c1,c2]
  ·simp![ph,yaw,h,c1,c2]
 ·simp![ph,yaw,h,c1]
def sH(s:Tx)(w:Int)(ls:List Tx):Bool:=decide (1<=w/\w<=4)&&(decide (1<=ls.length/\ls.length<=9)&&(ls.all (fA w s)&&decide (ls=bf ls)))
theorem QN(s:Tx)(w:Int)(ls:List Tx):qE a [.val (.tup [.int w,.tup (ak ls)]),.val (.str s)]=.ok (.val (.bl (sH s w ls))) [.val (.tup [.int w,.tup (ak ls)]),.val (.str s)]:=by
 have k1:gk [.tup [.int w,.tup (ak ls)],.raw (.ty "tuple")]=aa (.bl ah):=lT rfl yJ;have hl:bc [.tup [.int w,.tup (ak ls)]]=aa (.int 2):=rfl;have e2:=jM ah 2 2;simp only[decide_true,Bool.true_xor,Bool.not_true]at e2;have i0:b7 (.tup [.int w,.tup (ak ls)]) (.int 0)=aa (.int w):=rfl;have i1:b7 (.tup [.int w,.tup (ak ls)]) (.int 1)=aa (.tup (ak ls)):=rfl;have hw:=Dm (a:=a) w;unfold sH;by_cases c:1<=w/\w<=4
 ·rw[decide_eq_true c]at hw ⊢;by_cases c2:1<=ls.length/\ls.length<=9
  ·have hh:=JM (a:=a) ls w s c2.1 c2.2;rw[decide_eq_true c2];simp![qE,yau,k1,hl,e2,i0,i1,hw,hh]
  ·have hh:=QG (a:=a) ls w s ∅;rw[decide_eq_false c2];simp![qE,yau,k1,hl,e2,i0,i1,hw,hh]
 ·rw[decide_eq_false c]at hw ⊢;simp![qE,yau,k1,hl,e2,i0,i1,hw]
abbrev vw(w:Int)(ls:List Tx):Bool:=sH bM w ls
theorem K2(w:Int)(ls:List Tx):wq a [.val (.tup [.int w,.tup (ak ls)])]=.ok (.val (.bl (vw w ls))) [.val (.tup [.int w,.tup (ak ls)])]:=by have hv:=QN (a:=a) bM w ls;simp only[bM]at hv;simp![wq,yat,hv];rfl
theorem OG{w:Int}{ls:List Tx}(h:vw w ls=ah):vN a [.val (.tup [.int w,.tup (ak ls)])]=.ok (.val .non) [.val (.tup [.int w,.tup (ak ls)])]:=by have hv:=K2 (a:=a) w ls;rw[h]at hv;simp![vN,yal,hv]
theorem Good.vw{w:Nat}{ls:List Tx}(g:Good bM w ls)(w1:1<=w)(w4:w<=4)(hs:ls.Pairwise (λa b=>dY a b=ah)):vw w ls=ah:=by
 have e1:ls.all (fA w bM)=ah:=by rw[mC];intro x hx;unfold fA;rw[g.len x hx,decide_eq_true rfl,Bm,mC];intro c hc;simpa using g.abc x hx c hc
 have e2:decide (ls=bf ls)=ah:=decide_eq_true (Am hs).symm;show sH bM w ls=ah;unfold sH;rw[e1,e2,decide_eq_true (show 1<=(w:Int)/\(w:Int)<=4 by lia),decide_eq_true (show 1<=ls.length/\ls.length<=9 from⟨g.some,g.few⟩)];rfl
end
def bv(m:List (Tx×Int))(x:Tx):Option Int:=(m.find? λp=>decide (p.1=x)).map (·.2)
def cE(m:List (Tx×Int))(x:Tx)(n:Int):List (Tx×Int):=if(m.any λp=>decide (p.1=x))=ah then m.map (λp=>if p.1=x then(p.1,n)else p)else m++[(x,n)]
def dk(m:List (Tx×Int)):List (aO×PV):=m.map λp=>(Sum.inr (tS p.1),PV.int p.2)
theorem AM(x y:Tx):((Sum.inr (tS x):aO)=Sum.inr (tS y))=(x=y):=propext ⟨λh=>qp (Sum.inr.inj h),λh=>by rw[h]⟩
theorem qf(m:List (Tx×Int))(x:Tx):iI (dk m) (Sum.inr (tS x))=(bv m x).map .int:=by
 induction m with
 |nil=>rfl
 |cons p m ih=>
  show((List.find? _ ((Sum.inr (tS p.1),PV.int p.2)::dk m)).map (·.2))=_;unfold bv;rw[jZ,jZ];simp only[AM];by_cases h:p.1=x
  ·simp[h]
  ·simp only[h,decide_false];exact ih
theorem P4(m:List (Tx×Int))(x:Tx):((dk m).any λkv=>decide (kv.1=(Sum.inr (tS x):aO)))=m.any λp=>decide (p.1=x):=by unfold dk;rw[List.any_map];congr 1;funext p;simp only[pP,AM]
theorem vD(m:List (Tx×Int))(x:Tx)(n:Int):mT (dk m) (Sum.inr (tS x)) (.int n)=dk (cE m x n):=by
 unfold mT cE;rw[P4];split
 ·unfold dk;rw[fM,fM];refine j0 λp _=>?_;simp only[pP,AM];split <;> rfl
 ·unfold dk;simp
theorem Fb(m:List (Tx×Int)):o6 (dk m)=aa (m.any λp=>decide (p.2≠0)):=by
 induction m with
 |nil=>rfl
 |cons p m ih=>show(o6 (dk m)).map _=_;rw[ih];simp
theorem vn{m:List (Tx×Int)}{x:Tx}(h:(m.any λp=>decide (p.1=x))=aj):bv m x=af:=by unfold bv;rw[Option.map_eq_none_iff,List.find?_eq_none];intro p hp;have:=GF.mp h p hp;simpa using this
theorem Ll{m:List (Tx×Int)}{x y:Tx}{n:Int}(h:(m.any λp=>decide (p.1=x))=aj):bv (m++[(x,n)]) y=if y=x then aa n else bv m y:=by
 have hn:=vn h;unfold bv at hn ⊢;rw[List.find?_append];by_cases e:y=x
 ·subst e;rw[Option.map_eq_none_iff]at hn;simp[hn]
 ·rw[if_neg e];have:¬x=y:=λz=>e z.symm;cases hf:m.find? (λp=>decide (p.1=y))with
  |none=>simp[this]
  |some p=>simp
theorem IF{m:List (Tx×Int)}{x y:Tx}{n:Int}:bv (m.map λp=>if p.1=x then(p.1,n)else p) y=(bv m y).map λz=>if y=x then n else z:=by
 induction m with
 |nil=>rfl
 |cons p m ih=>
  unfold bv at ih ⊢;rw[cQ,jZ,jZ];by_cases h:p.1=x
  ·rw[if_pos h];by_cases e:p.1=y
   ·simp[e,show y=x from e.symm.trans h]
   ·simp only[e,decide_false];exact ih
  ·rw[if_neg h];by_cases e:p.1=y
   ·simp[e,show ¬y=x from λz=>h (e.trans z)]
   ·simp only[e,decide_false];exact ih
theorem Gj{m:List (Tx×Int)}{x:Tx}(h:(m.any λp=>decide (p.1=x))=ah):∃n,bv m x=aa n:=by
 unfold bv;cases hf:m.find? (λp=>decide (p.1=x))with
 |none=>rw[List.find?_eq_none]at hf;obtain⟨p,hp,hq⟩:=rR.mp h;exact absurd hq (hf p hp)
 |some p=>exact⟨_,rfl⟩
theorem lE(m:List (Tx×Int))(x y:Tx)(n:Int):bv (cE m x n) y=if y=x then aa n else bv m y:=by
 unfold cE;by_cases h:(m.any λp=>decide (p.1=x))=ah
 ·rw[if_pos h,IF];by_cases e:y=x
  ·subst e;obtain⟨k,hk⟩:=Gj h;rw[hk];simp
  ·simp[e]
 ·rw[if_neg h,Ll (G9.mpr h)]
structure nc(m:List (Tx×Int))(q:List Tx):Prop where
 nd:(m.map (·.1)).Nodup
 get:∀x,(bv m x).getD 0=(q.count x:Nat)
theorem nc.mem{m:List (Tx×Int)}{q:List Tx}(h:nc m q){p:Tx×Int}(hp:p∈m):bv m p.1=aa p.2:=by
 have nd:=h.nd;clear h
 induction m with
 |nil=>cases hp
 |cons r m ih=>
  unfold bv;rw[jZ];rcases bQ.mp hp with rfl|hp
  ·simp
  ·rw[cQ,jY]at nd;have:¬r.1=p.1:=λz=>nd.1 (cR.mpr ⟨p,hp,z.symm⟩);simp only[this,decide_false];exact ih hp nd.2
theorem Dc{m:List (Tx×Int)}{x:Tx}{n:Int}:(cE m x n).map (·.1)=if(m.any λp=>decide (p.1=x))=ah then m.map (·.1)else m.map (·.1)++[x]:=by
 unfold cE;split
 ·rw[fM];refine j0 λp _=>?_;simp only[pP];split <;> rfl
 ·simp
theorem oI{m:List (Tx×Int)}{x:Tx}{n:Int}(h:(m.map (·.1)).Nodup):((cE m x n).map (·.1)).Nodup:=by
 rw[Dc];split
 ·exact h
 ·rename_i hn;rw[G2];refine⟨h,by simp,λa ha b hb=>?_⟩;rw[mG]at hb;subst hb;rintro rfl;obtain⟨p,hp,rfl⟩:=cR.mp ha;exact hn (rR.mpr ⟨p,hp,by simp⟩)
theorem nc.any{m:List (Tx×Int)}{q:List Tx}(h:nc m q):(m.any λp=>decide (p.2≠0))=!q.isEmpty:=by
 cases q with
 |nil=>rw[Hg,Bool.not_true,GF];intro p hp;have h1:=h.get p.1;rw[h.mem hp]at h1;simpa using h1
 |cons x q=>
  rw[List.isEmpty_cons,Bool.not_false,rR];have h1:=h.get x;rw[List.count_cons_self]at h1;cases e:m.find? (λp=>decide (p.1=x))with
  |none=>unfold bv at h1;rw[e]at h1;simp at h1;lia
  |some p=>unfold bv at h1;rw[e]at h1;refine⟨p,List.mem_of_find?_eq_some e,?_⟩;simp at h1;simp;lia
theorem nc.dec{m:List (Tx×Int)}{q:List Tx}(h:nc m q){x:Tx}(hx:x∈q):∃n,bv m x=aa n/\0<n/\nc (cE m x (n-1)) (q.erase x)/\bv (cE m x (n-1)) x=aa (n-1)/\cE (cE m x (n-1)) x (n-1+1)=m:=by
 have h1:=h.get x;have hc:0<q.count x:=List.count_pos_iff.mpr hx;cases e:bv m x with
 |none=>rw[e]at h1;simp at h1;lia
 |some n=>
  rw[e]at h1;simp only[Hj]at h1;refine⟨n,rfl,∅,⟨oI h.nd,λy=>?_⟩,by rw[lE,if_pos rfl],?_⟩
  ·rw[lE];by_cases c:y=x
   ·subst c;rw[if_pos rfl,List.count_erase_self];simp only[Hj];lia
   ·rw[if_neg c,List.count_erase_of_ne (c8 (c8 c))];exact h.get y
  ·have ha:(m.any λp=>decide (p.1=x))=ah:=by
    cases z:(m.any λp=>decide (p.1=x))with
    |true=>rfl
    |false=>rw[vn z]at e;cases e
   have hb:((cE m x (n-1)).any λp=>decide (p.1=x))=ah:=by unfold cE;rw[if_pos ha];obtain⟨p,hp,hq⟩:=rR.mp ha;refine rR.mpr ⟨_,cR.mpr ⟨p,hp,rfl⟩,?_⟩;rw[decide_eq_true_eq]at hq;rw[if_pos hq];simpa using hq
   have e1:cE (cE m x (n-1)) x (n-1+1)=(m.map λp=>if p.1=x then(p.1,n-1)else p).map λp=>if p.1=x then(p.1,n-1+1)else p:=by show(if((cE m x (n-1)).any λp=>decide (p.1=x))=ah then _ else _)=_;rw[if_pos hb];unfold cE;rw[if_pos ha]
   rw[e1,fM];have:∀p∈m,((λp:Tx×Int=>if p.1=x then(p.1,n-1+1)else p) ∘ λp:Tx×Int=>if p.1=x then(p.1,n-1)else p) p=p:=by
    intro p hp;simp only[pP];by_cases c:p.1=x
    ·rw[if_pos c,if_pos c];have h2:=h.mem hp;rw[c,e]at h2;cases h2;rw[show p.2-1+1=p.2 by lia]
    ·rw[if_neg c,if_neg c]
   rw[j0 this,List.map_id''];intro p;rfl
theorem nc.zero{m:List (Tx×Int)}{q:List Tx}(h:nc m q){x:Tx}(hx:x∉q):(bv m x).getD 0=0:=by rw[h.get,He hx];rfl
section
variable{a:Ad}
theorem O8(ls:List Tx)(hl:ls.length<=100):∃m,nc m ls/\m.length<=ls.length/\uf a [.val (.tup (ak ls))]=.ok (.own (.dK (dk m))) [.val (.tup (ak ls))]:=by
 obtain⟨ε',e1,m,s2,l,rfl,hm,sj,lv⟩:=pe (i:=2) (db:=(fz 1 (dV 2) (d2 bg (h_ 1 (dV 2) (dC (.int 0))) (dC (.int 1)))))
  (I:=λr ε=>∃(m:List (Tx×Int)) (s2:Slot) (l:List Tx),ε=[.val (.tup (ak ls)),.own (.dK (dk m)),s2]/\nc m l/\m.length<=l.length/\∃q,ls=l++q/\r=ak q)
  (by
   rintro x r ε ⟨m,s2,l,rfl,hm,sj,q,hq,hr⟩;cases q with
   |nil=>cases hr
   |cons y q=>
    have jl:x::r=.str y::ak q:=hr;simp only[pQ]at jl;obtain⟨rfl,rfl⟩:=jl;have aS:m.length<bC:=by have:=congrArg mv hq;simp at this;unfold bC;lia
    refine⟨[.val (.tup (ak ls)),.own (.dK (dk (cE m y ((bv m y).getD 0+1)))),.val (.str y)],?_,cE m y ((bv m y).getD 0+1),_,l++[y],rfl,⟨oI hm.nd,λz=>?_⟩,?_,q,by rw[hq];simp,rfl⟩
    ·have hv:=qf m y;have hp:=vD m y ((bv m y).getD 0+1);have hd:(dk m).length<bC:=by unfold dk;rw[c9];exact aS
     have hg:((bv m y).map PV.int).getD (.int 0)=.int ((bv m y).getD 0):=by cases bv m y <;> rfl
     generalize dk m=D at hv hp hd;simp![fz,h_,cH,iu,hv,hg,bg,hd,hp]
    ·rw[lE];by_cases c:z=y
     ·subst c;rw[if_pos rfl,Hf,List.count_singleton_self];have:=hm.get z;simp only[Hj];lia
     ·rw[if_neg c,Hf,hm.get z];have:[y].count z=0:=He (by simpa using c);rw[this];rfl
    ·have:(cE m y ((bv m y).getD 0+1)).length<=m.length+1:=by
      unfold cE;split <;> simp
     rw[dI,pJ];lia)
  (ak ls) [.val (.tup (ak ls)),.own (.dK (dk [])),.none] ⟨[],.none,[],rfl,⟨by simp,λx=>by simp[bv]⟩,by simp,ls,by simp,rfl⟩
 obtain⟨q,hq,hq2⟩:=lv;have:q=[]:=by cases q with|nil=>rfl|cons=>cases hq2
 subst this;rw[gq]at hq;subst hq;refine⟨m,hm,sj,?_⟩;have e0:dk []=[]:=rfl;rw[e0]at e1;simp![uf,yao,qw,bR,bo,iC,cA,e1,jN]
theorem Ny{t:Tx}{w:Nat}(hw:w<=t.length+1)(h1:1<=w):df (.str t) (aa ((t.length:Int)-w+1)) af=aa (.str (t.drop (t.length+1-w))):=by show aa (PV.str (gC t _ af))=_;rw[show((t.length:Int)-w+1)=((t.length+1-w:Nat):Int) by lia,EE]
def gA(c:Nat):PV:=.str [c]
theorem EF(w:Nat)(w1:1<=w):∀(r ft:Nat) (t:Tx) (m:List (Tx×Int)) (q:List Tx) (gw:List Tx),r<ft->q.length=r->nc m q->w<=t.length+1->t.length+r<=1000->m.length<=1000->gw.length+(hG w r t q).length<=bC -> nJ a ft [.val (.str t),.val (.int w),.own (.dK (dk m)),.own (.lst (ak gw))]=.ok (.val .non) [.val (.str t),.val (.int w),.own (.dK (dk m)),.own (.lst (ak (gw++hG w r t q)))]
 |0,0,_,_,_,_,h,_,_,_,_,_,_=>absurd h ∅
 |r+1,0,_,_,_,_,h,_,_,_,_,_,_=>absurd h ∅
 |0,ft+1,t,m,q,gw,_,hq,hm,hw,ht,sj,hs=>by
  have hq0:q=[]:=n8.mp hq;subst hq0;have ha:=Fb m;rw[hm.any]at ha;simp only[Hg,Bool.not_true]at ha;have hl:(ak gw).length<bC:=by rw[eR];simp only[hG,pJ]at hs;lia
  have e:ak (gw++hG w 0 t [])=ak gw++[.str t]:=by simp[ak,hG]
  rw[e];generalize dk m=D at ha;generalize ak gw=L at hl;simp![nJ,yaj,tm,cH,ha,hl]
 |r+1,ft+1,t,m,q,gw,hf,hq,hm,hw,ht,sj,hs=>by
  have dw:q.isEmpty=aj:=by cases q with|nil=>cases hq|cons=>rfl
  have ha:=Fb m;rw[hm.any,dw]at ha;simp only[Bool.not_false]at ha;have hcut:=Ny (t:=t) hw w1;have bO:bc [.str t]=aa (.int (t.length:Nat)):=rfl;have oa:gR (.int (t.length:Nat)) (.int w)=aa (.int ((t.length:Int)-w)):=rfl;have kF:bg (.int ((t.length:Int)-w)) (.int 1)=aa (.int ((t.length:Int)-w+1)):=rfl
  let H:=t.drop (t.length+1-w)
  let f:=λc=>if H++[c]∈q then hG w r (t++[c]) (q.erase (H++[c]))else []
  have hE:hG w (r+1) t q=bM.flatMap f:=rfl;have hH:H.length<=1000:=by simp only[H,my];lia
  obtain⟨ε',e1,s5,s6,p,rest,hp,p0,rfl⟩:=pe (i:=5) (db:=(ay (a9 6 (d2 bg (dV 4) (dV 5)))
 (bi (dB (d2 (cc λi j=>decide (j<i)) (h_ 2 (dV 6) (dC (.int 0))) (dC (.int 0)))) (ay (fz 2 (dV 6) (d2 gR (ig 2 (dV 6)) (dC (.int 1))))
 (ay (kr (aM (nJ a ft) (gV (d2 bg (dV 0) (dV 5)) (gV (dV 1) (gO 2 (gO 3 (Pu.bK)))))))
 (fz 2 (dV 6) (d2 bg (ig 2 (dV 6)) (dC (.int 1)))))) (bS))))
   (I:=λr' ε=>∃(s5 s6:Slot) (p rest:Tx),bM=p++rest/\r'=rest.map gA/\ε=[.val (.str t),.val (.int w),.own (.dK (dk m)),.own (.lst (ak (gw++p.flatMap f))),.val (.str H),s5,s6])
   (by
    rintro x r' ε ⟨s5,s6,p,rest,hp,jl,rfl⟩;cases rest with
    |nil=>cases jl
    |cons c rest=>
     have Hu:x::r'=gA c::rest.map gA:=jl;simp only[pQ]at Hu;obtain⟨rfl,rfl⟩:=Hu;have hx1:bg (.str H) (.str [c])=aa (.str (H++[c])):=tj (by simp[bC];lia);have se:bg (.str t) (.str [c])=aa (.str (t++[c])):=tj (by simp[bC];lia);have Q1:gw.length+(p.flatMap f).length+(f c).length<=bC:=by rw[hE,hp,Hk,rP,dI,dI]at hs;lia
     have oq:ak (gw++(p++[c]).flatMap f)=ak ((gw++p.flatMap f)++f c):=by simp
     by_cases hc:H++[c]∈q
     ·obtain⟨n,g1,g2,g3,g4,g5⟩:=hm.dec hc;have hfc:f c=hG w r (t++[c]) (q.erase (H++[c])):=if_pos hc;have ih:=EF w w1 r ft (t++[c]) (cE m (H++[c]) (n-1)) (q.erase (H++[c])) (gw++p.flatMap f) ∅ (by rw[Bv hc,hq];rfl) g3 (by simp;lia) (by simp;lia)
       (by
        have:(cE m (H++[c]) (n-1)).length=m.length:=by
         have:=congrArg mv (Dc (m:=m) (x:=H++[c]) (n:=n-1));have ha:(m.any λp=>decide (p.1=H++[c]))=ah:=by
          cases z:(m.any λp=>decide (p.1=H++[c]))with
          |true=>rfl
          |false=>rw[vn z]at g1;cases g1
         rw[if_pos ha]at this;simpa using this
        lia)
       (by rw[←hfc,dI];exact Q1)
      rw[←hfc]at ih;have p4:=qf m (H++[c]);rw[g1]at p4;have mQ:=vD m (H++[c]) (n-1);have si:=qf (cE m (H++[c]) (n-1)) (H++[c]);rw[g4]at si;have kH:=vD (cE m (H++[c]) (n-1)) (H++[c]) (n-1+1);rw[g5,show n-1+1=n by lia]at kH;have hd1:(dk m).length<bC:=by unfold dk;rw[c9];unfold bC;lia
      have pT:(dk (cE m (H++[c]) (n-1))).length<bC:=by
       unfold dk;rw[c9];have:(cE m (H++[c]) (n-1)).length<=m.length+1:=by unfold cE;split <;> simp
       unfold bC;lia
      have gt:(0:Int)<n:=g2;refine⟨[.val (.str t),.val (.int w),.own (.dK (dk m)),.own (.lst (ak (gw++(p++[c]).flatMap f))),.val (.str H),.val (.str [c]),.val (.str (H++[c]))],?_,_,_,p++[c],rest,by rw[hp];simp,rfl,rfl⟩;rw[oq];have s1:gR (.int n) (.int 1)=aa (.int (n-1)):=rfl;have s2:bg (.int (n-1)) (.int 1)=aa (.int n):=by show aa (PV.int (n-1+1))=_;congr 2;lia
      simp only[uF]at p4 si;generalize dk m=D at p4 mQ kH hd1;generalize dk (cE m (H++[c]) (n-1))=D2 at si mQ kH ih pT;generalize ak (gw++p.flatMap f)=L at ih;generalize ak ((gw++p.flatMap f)++f c)=L2 at ih;clear_value H f;simp![gA,hx1,h_,ig,fz,cH,iu,p4,gt,s1,hd1,mQ,se,ih,si,s2,pT,kH]
     ·have hfc:f c=[]:=if_neg hc;have hz:=hm.zero hc;have p4:=qf m (H++[c]);have hg:((bv m (H++[c])).map PV.int).getD (.int 0)=.int 0:=by
       cases e:bv m (H++[c])with
       |none=>rfl
       |some k=>rw[e]at hz;simp at hz;subst hz;rfl
      refine⟨[.val (.str t),.val (.int w),.own (.dK (dk m)),.own (.lst (ak (gw++(p++[c]).flatMap f))),.val (.str H),.val (.str [c]),.val (.str (H++[c]))],?_,_,_,p++[c],rest,by rw[hp];simp,rfl,rfl⟩;rw[oq,hfc,gq];generalize dk m=D at p4;generalize ak (gw++p.flatMap f)=L;clear_value H f;simp![gA,hx1,h_,cH,iu,p4,hg])
   (bM.map gA) [.val (.str t),.val (.int w),.own (.dK (dk m)),.own (.lst (ak (gw++([]:Tx).flatMap f))),.val (.str H),.none,.none] ⟨.none,.none,[],bM,by simp,rfl,rfl⟩
  have p5:rest=[]:=by cases rest with|nil=>rfl|cons=>cases p0
  subst p5;rw[gq]at hp;rw[hE];rw[←hp]at e1;simp only[Ha,gq]at e1;have BI:iC (.str [97,98,99])=aa (bM.map gA):=rfl;have Q6:df (.str t) (aa ((t.length:Int)-w+1)) af=aa (.str H):=hcut;generalize dk m=D at ha e1;generalize ak gw=L at e1;generalize ak (gw++bM.flatMap f)=L2 at e1;clear_value H f;simp![nJ,yaj,tm,cH,ha,cS,cG,dD,bO,oa,kF,Q6,cA,bR,bo,BI,e1]
end
section
variable{a:Ad}
abbrev fg(w:Nat)(ls:List Tx):PV:=.tup [.int w,.tup (ak ls)]
theorem EI{α:Type}(xs:List α):gC xs af (aa (-1))=xs.dropLast:=by unfold gC;rw[show HT.sIx xs.length 0 af=0 from rfl,List.drop_zero,Nat.sub_zero,Hl];congr 1;show(HT.sIx xs.length xs.length (aa (-1)))=_;show(if(-1:Int)<0 then((-1:Int)+(xs.length:Int)).toNat else min (-1:Int).toNat xs.length)=_;rw[if_pos (by decide)];lia
theorem MW{w:Nat}{ls:List Tx}(g:Good bM w ls)(w1:1<=w)(w4:w<=4):(dW w ls).length<=531441:=by rw[wR w1 g.some λx hx=>⟨g.len x hx,g.abc x hx⟩];refine dP (xV _ _) ?_;rw[AB];exact dP (Nat.pow_le_pow_right (by decide) (show w-1+ls.length<=12 by have:=g.few;lia)) (by decide)
theorem Im(V:PV)(ls:List Tx)(w:Nat)(s2 s3:Slot):lY [] ef (cS df (dV 0) dD (cG (d1 fG (dC (.int 1))))) (ak ls) [] [.val V,.val (.int w),s2,s3]=.ok (ak (ls.map n_)) [.val V,.val (.int w),s2,s3]:=by
 have hc:=j8 (cap:=[]) (dt:=ef) (de:=(cS df (dV 0) dD (cG (d1 fG (dC (.int 1)))))) (ε:=[.val V,.val (.int w),s2,s3]) (λ_=>ah) (λx=>match x with|.str z=>.str z.dropLast|_=>.non) (ak ls)
  (by
   intro x hx;obtain⟨z,_,rfl⟩:=cR.mp hx;refine⟨by simp![dN,dz,bA,ef],λ_=>?_⟩;have hs:df (.str z) af (aa (-1))=aa (.str z.dropLast):=by show aa (PV.str (gC z af (aa (-1))))=_;rw[EI]
   have hn:fG (.int 1)=aa (.int (-1)):=rfl;simp![dN,dz,bA,cS,dD,cG,hn,hs]) []
 rw[hc,jz,uJ.mpr (by simp)];unfold ak;rw[fM,fM];rfl
theorem FY{w:Nat}{ls:List Tx}(g:Good bM w ls)(w1:1<=w)(w4:w<=4)(hs:ls.Pairwise (λa b=>dY a b=ah)):qM a [.val (fg w ls)]=.ok (.own (.lst (ak (dW w ls)))) [.val (fg w ls)]:=by
 have hck:=OG (a:=a) (g.vw w1 w4 hs);have i0:b7 (fg w ls) (.int 0)=aa (.int w):=rfl;have i1:b7 (fg w ls) (.int 1)=aa (.tup (ak ls)):=rfl;obtain⟨m,hm,hml0,hcm⟩:=O8 (a:=a) ls (by have:=g.few;lia);have sj:m.length<=1000:=by have:=g.few;lia
 let hd:=bf (fH (ls.map n_))
 have hdl:∀h∈hd,h.length=w-1:=λh hh=>by have hm:=(s_ _ _).mp ((eY _).mem_iff.mp hh);obtain⟨y,hy,rfl⟩:=cR.mp hm;rw[xG,g.len y hy]
 let f:=λh=>hG w ls.length h ls
 have hT:dW w ls=hd.flatMap f:=rfl;have hTl:=MW g w1 w4;obtain⟨ε',e1,s3,p,rest,hp,p0,rfl⟩:=pe (i:=3) (db:=(kr (su (nJ a 12) (qB (dV 3) (qB (dV 1) (gN (ix (aM (uf a) (gV (d2 b7 (dV 0) (dC (.int 1))) (Pu.bK)))) (gO 2 (Pu.bK))))))))
  (I:=λr ε=>∃(s3:Slot) (p rest:List Tx),hd=p++rest/\r=ak rest/\ε=[.val (fg w ls),.val (.int w),.own (.lst (ak (p.flatMap f))),s3])
  (by
   rintro x r ε ⟨s3,p,rest,hp,hr,rfl⟩;cases rest with
   |nil=>cases hr
   |cons h rest=>
    have jl:x::r=.str h::ak rest:=hr;simp only[pQ]at jl;obtain⟨rfl,rfl⟩:=jl;have hh:h.length=w-1:=hdl h (by rw[hp];simp);have ha:=EF (a:=a) w w1 ls.length 12 h m ls (p.flatMap f) (by have:=g.few;lia) rfl hm ∅ (by have:=g.few;lia) sj (by rw[hT,hp,Hk,rP,dI,dI]at hTl;show(p.flatMap f).length+(f h).length<=bC;unfold bC;lia);refine⟨[.val (fg w ls),.val (.int w),.own (.lst (ak ((p++[h]).flatMap f))),.val (.str h)],?_,_,p++[h],rest,by rw[hp];simp,rfl,rfl⟩;have e2:(p++[h]).flatMap f=p.flatMap f++hG w ls.length h ls:=by simp[f]
    rw[e2];generalize ak (p.flatMap f)=L at ha;generalize ak (p.flatMap f++hG w ls.length h ls)=L2 at ha;generalize dk m=D at ha hcm;simp only[fg]at i1 ⊢;generalize ak ls=T at hcm i1;clear_value f hd;simp![su,qB,gN,Eb,i1,hcm,ha])
  (ak hd) [.val (fg w ls),.val (.int w),.own (.lst (ak (([]:List Tx).flatMap f))),.none] ⟨.none,[],hd,by simp,rfl,rfl⟩
 have p5:rest=[]:=by cases rest with|nil=>rfl|cons=>cases p0
 subst p5;rw[gq]at hp;rw[←hp,←hT]at e1;simp only[Ha]at e1;have hco:=Im (fg w ls) ls w (.own (.lst [])) .none;have hss:tu [.lst (ak (ls.map n_))]=aa (.lst (ak hd)):=by show(jf (ak _)).bind _=_;have h2:=g.few;rw[vA,jj,if_pos ⟨λz=>by have:=congrArg mv z;have:=g.some;simp at *;simp_all,Bj (N6 _) (by rw[c9];lia)⟩]
 have e0:ak ([]:List Tx)=[]:=rfl;rw[e0]at e1;generalize ak (dW w ls)=L at e1;generalize ak hd=D at e1 hss;generalize ak (ls.map n_)=D0 at hco hss;simp only[fg]at hck i0 i1 hco e1 ⊢;generalize hTT:ak ls=T at hck i0 i1 hco e1;clear_value f hd;simp![qM,yaM,hck,i0,i1,cA,bR,bo,iC,cq,hco,hss,e1,jN]
theorem IU{w:Nat}{ls:List Tx}(g:Good bM w ls)(w1:1<=w)(w4:w<=4)(hs:ls.Pairwise (λa b=>dY a b=ah)):tf a [.val (fg w ls)]=.ok (.val (.int ((dW w ls).length:Nat))) [.val (fg w ls)]:=by
 have ht:=FY (a:=a) g w1 w4 hs;have hl:bc [.lst (ak (dW w ls))]=aa (.int ((dW w ls).length:Nat)):=by simp[bc,eR]
 generalize ak (dW w ls)=L at ht hl;simp![tf,yas,ht,hl]
theorem Ly(ls:List Tx):iz (ak ls)=aa (dZ ls):=by
 induction ls with
 |nil=>rfl
 |cons x ls ih=>show(cT (.str x)).bind (λv=>(iz (ak ls)).map (v::·))=_;rw[ih];rfl
theorem Fv(ls:List Tx)(x:Tx):kY (ak ls) (.str x)=aa (.int (ls.count x:Nat)):=by show(cT (.str x)).bind (λv=>(iz (ak ls)).map λws=>PV.int (ws.countP λz=>dU z v))=_;rw[Ly,←JE];rfl
theorem O5(neg:Bool)(ls ms:List Tx):Pu.eqT neg (.tup (ak ls)) (.tup (ak ms))=aa (.bl (neg^^decide (ls=ms))):=by show(if iB (.tup (ak ls))<=8 then(gf (ak ls) (ak ms)).map (λk=>PV.bl (neg^^k))else af)=_;rw[if_pos (by show gX (ak ls)+1<=8;rw[CD];decide),Co];rfl
def nextT(w:Nat)(ls:List Tx)(t:Tx):List Tx:=(bM.map λc=>t++[c]).filter (unD w ls)
theorem Pi{k:Nat}(h:k<=12):3^k<=531441:=dP (Nat.pow_le_pow_right (by decide) h) (by decide)
end
end Sh
namespace Mx
open L2 Pu
def ma(z:Tx)(i:Nat):Nat:=z.getD (i % z.length) 0
def K9(z:Tx)(w:Nat):Tx:=((bG w z).flatten).take (z.length+w-1)
theorem len_sub{l m:List Tx}(nd:l.Nodup)(h:∀x∈l,x∈m):l.length<=m.length:=by
 induction l generalizing m with
 |nil=>simp
 |cons x l ih=>rw[jY]at nd;have hx:x∈m:=h x (by simp);have:=ih (m:=m.erase x) nd.2 λy hy=>(List.mem_erase_of_ne (λz=>nd.1 (by rw[←z];exact hy))).mpr (h y (by simp[hy]));rw[Bv hx]at this;have h0:0<m.length:=List.length_pos_of_mem hx;rw[eF];lia
theorem nE{z:Tx}{w:Nat}(hw:1<=w):(a5 z w).length=z.length+1-w:=by rw[nD z w hw];simp
def Op(t:Tx)(w:Nat):List Tx:=(dE t.length).filter λz=>(a5 z w).isPerm (a5 t w)
theorem BL{w:Nat}{ls:List Tx}(hw:1<=w)(hn:1<=ls.length)(hl:∀x∈ls,x.length=w/\∀c∈x,c∈bM)(hs:ls.Pairwise (λa b=>dY a b=ah)){z:Tx}(hz:∀c∈z,c∈bM):z∈dW w ls↔bf (a5 z w)=ls:=by
 rw[wR hw hn hl,lm,lU,List.isPerm_iff];constructor
 ·rintro⟨_,p⟩;rw[yB p,Am hs]
 ·intro e;have p:(a5 z w).Perm ls:=by rw[←e];exact(eY _).symm
  have aS:=p.length_eq;rw[nE hw]at aS;exact⟨⟨∅,hz⟩,p⟩
theorem HW{w:Nat}{ls:List Tx}(hw:1<=w)(hn:1<=ls.length)(hl:∀x∈ls,x.length=w/\∀c∈x,c∈bM){z:Tx}(h:z∈dW w ls):z.length=w-1+ls.length/\∀c∈z,c∈bM:=by rw[wR hw hn hl,lm,lU]at h;exact h.1
end Mx
namespace Sh
open L2 Pu Mx
structure Vd where
 w:Nat
 ls:List Tx
def tx(v:Vd):List Tx:=dW v.w v.ls
section
variable{a:Ad}
theorem PN{w:Nat}(w1:1<=w)(w4:w<=4):wE a [.val (.int w)]=.ok (.val .non) [.val (.int w)]:=by have h:=Dm (a:=a) w;rw[decide_eq_true (show 1<=(w:Int)/\(w:Int)<=4 by lia)]at h;simp![wE,yam,h]
def CC(t:Tx)(v:Nat):List Tx:=(cW (t.length+1-v)).map λi=>(t.drop i).take v
structure Tv(t:Tx)(w:Nat):Prop where
 w1:1<=w
 w4:w<=4
 h1:w<=t.length
 h9:t.length+1<=w+9
 abc:∀c∈t,c∈bM
theorem Tv.good{t:Tx}{w:Nat}(h:Tv t w):Good bM w (a5 t w):=by have hm:=ON (m:=8) h.w1 h.h1 (by have:=h.h9;lia);exact⟨λx hx=>(BU x hx).1,λx hx c hc=>h.abc c ((BU x hx).2 c hc),hm.1,hm.2⟩
end
end Sh
namespace K06
open L2 Pu Mx Sh
section
variable{a:Ad}
abbrev fw(w:Nat):List (Str×PV):=[(cI "width",.int w)]
def SL(a:Ad)(w:Nat)(L:List PV):PO:=.inl a.Slit (fw w) (cI "came") L
theorem l8(w:Nat)(L:List PV)(ε:ag):g7 (.own (SL a w L)::ε) a.Slit (cI "came") 0=aa (fw w,L):=by show(if a.Slit=a.Slit/\_=_ then _ else _)=_;rw[if_pos ⟨rfl,rfl⟩]
theorem sS(w:Nat):(fw w).lookup (cI "width")=aa (.int w):=rfl
theorem FU{z:Tx}{w:Nat}(h:fA w bM z=ah):qA a [.val (.str z),.val (.int w)]=.ok (.val .non) [.val (.str z),.val (.int w)]:=by
 have hw:k_ a [.val (.str z),.val (.int w),.val (.str [97,98,99])]=.ok (.val (.bl ah)) [.val (.str z),.val (.int w),.val (.str [97,98,99])]:=by have:=yL (a:=a) z bM w;rw[h]at this;exact this
 simp![qA,yan,hw]
theorem IZ{w:Nat}(w1:1<=w)(w4:w<=4):nI a [.own (.ins a.Slit []),.val (.int w)]=.ok (.val .non) [.own (SL a w []),.val (.int w)]:=by
 have hc:=PN (a:=a) w1 w4;have p1:qP (cI "width") (.int w) []=fw w:=rfl;have p2:(fw w).lookup (cI "came")=af:=rfl;unfold SL;have p3:(fw w).length<1000:=by simp[fw]
 generalize fw w=f at p1 p2 p3 ⊢;simp![nI,EH,hc,yV,oK,p1,vJ,p2,p3]
def TW(w:Nat)(ws:List Tx):List Tx:=if ws=[] then [] else dW w (bf ws)
theorem C7{w:Nat}{ws:List Tx}(w1:1<=w)(w4:w<=4)(hw:∀z∈ws,z.length=w/\∀c∈z,c∈bM)(h9:ws.length<=9):qI a [.own (.lst (ak ws)),.val (.int w)]=.ok (.own (.lst (ak (TW w ws)))) [.own (.lst (ak ws)),.val (.int w)]:=by
 have aS:bc [.lst (ak ws)]=aa (.int (ws.length:Nat)):=by show aa (PV.int _)=_;rw[eR]
 have he:=jM aj (ws.length:Nat) 0;unfold TW;by_cases q:ws=[]
 ·subst q;simp only[nX]at he aS;have he:Pu.eqT aj (.int ((0:Nat):Int)) (.int 0)=aa (.bl ah):=by rw[jM];rfl
  rw[if_pos rfl];show _=R.ok (Slot.own (PO.lst [])) _;generalize ak []=L at aS ⊢;simp at he aS;simp![qI,yaN,lA,aS,he]
 ·rw[if_neg q];have n0:¬((ws.length:Nat):Int)=0:=by have:=Bw.mpr q;lia
  simp only[n0,decide_false,kE]at he;have g:Good bM w (bf ws):=Good.perm (ls:=ws) ⟨λx hx=>(hw x hx).1,λx hx=>(hw x hx).2,by have:=Bw.mpr q;lia,h9⟩ (eY _);have ht:=FY (a:=a) g w1 w4 (o9 _);have hs:jc [.lst (ak ws)]=aa (.lst (ak (bf ws))):=by show(jf (ak ws)).bind _=_;rw[vA,jj,if_pos ∅]
  have uZ:=vV (bf ws);have htu:i_ [.lst (ak (bf ws))]=aa (.tup (ak (bf ws))):=rfl;have ht:qM a [.val (.tup [.int w,.tup (ak (bf ws))])]=.ok (.own (.lst (ak (dW w (bf ws))))) [.val (.tup [.int w,.tup (ak (bf ws))])]:=ht;generalize ak (bf ws)=SS at hs htu ht uZ;generalize ak (dW w (bf ws))=TT at ht ⊢;generalize ak ws=L at aS hs ⊢;generalize ((ws.length:Nat):Int)=n at aS he;simp[qI,yaN,ay,bi,dB,d2,d1,dV,dC,dL,dF,ar,aA,bH,lF,a9,cg,aM,gV,gO,Pu.bK,cb,b_,bu,bW,cf,R.bind,aC,bD,eZ,bq,back,fQ,lD,lc,sN,t7,tN,aW,ix,bX,eu,bS,ug,kr,Az,fO,t6,j5,fu,gx,zS,m9,cc,cm,ge,eK,iQ,bG,mv,eJ,imm,tU,aS,he,hs,uZ,htu,ht]
theorem ye{w:Nat}{z:Tx}(h:z.length=w/\∀c∈z,c∈bM):fA w bM z=ah:=by unfold fA;rw[decide_eq_true ∅,Bm,mC];intro c hc;simpa using h.2 c hc
def eU(w:Nat)(ws:List Tx):Prop:=∀z∈ws,z.length=w/\∀c∈z,c∈bM
theorem eU.app{w:Nat}{ws:List Tx}{z:Tx}(h:eU w ws)(hz:z.length=w/\∀c∈z,c∈bM):eU w (ws++[z]):=λx hx=>by
 rcases nM.mp hx with hx|hx
 ·exact h x hx
 ·rw[mG.mp hx];exact hz
theorem HZ{w:Nat}{ws:List Tx}{z:Tx}(w1:1<=w)(w4:w<=4)(hw:eU w ws)(h9:ws.length<=8)(hz:z.length=w/\∀c∈z,c∈bM):lg a [.own (SL a w (ak ws)),.val (.str z)]=.ok (.val (.int ((TW w (ws++[z])).length:Nat))) [.own (SL a w (ak (ws++[z]))),.val (.str z)]:=by
 have hc:=FU (a:=a) (ye hz);have ht:=C7 (a:=a) w1 w4 (hw.app hz) (by rw[dI,pJ];lia);have aS:bc [.lst (ak ws)]=aa (.int (ws.length:Nat)):=by show aa (PV.int _)=_;rw[eR]
 have BD:bc [.lst (ak (TW w (ws++[z])))]=aa (.int ((TW w (ws++[z])).length:Nat)):=by show aa (PV.int _)=_;rw[eR]
 have he:=jM aj (ws.length:Nat) 9;have n9:¬((ws.length:Nat):Int)=9:=∅
 simp only[n9,decide_false,kE]at he;have hl:(ak ws).length<bC:=by rw[eR];unfold bC;lia
 have ea:ak (ws++[z])=ak ws++[.str z]:=by unfold ak;rw[pK];rfl
 rw[ea]at ht ⊢;have h1:=λL=>l8 (a:=a) w L [.val (.str z)];have h2:=sS w;have h0:∀L L',([.own (SL a w L),.val (.str z)]:ag).set 0 (.own (.inl a.Slit (fw w) (cI "came") L'))=[.own (SL a w L'),.val (.str z)]:=λ_ _=>rfl;have h4:∀L',(PO.inl a.Slit (fw w) (cI "came") L')=SL a w L':=λ_=>rfl;generalize ak (TW w (ws++[z]))=TT at ht BD;generalize (((TW w (ws++[z])).length:Nat):Int)=m at BD ⊢;generalize ((ws.length:Nat):Int)=n at aS he;generalize ak ws=L at aS hl ht ⊢;generalize SL a w=P at h1 h4 ⊢;generalize fw w=f at h1 h2 h4;simp![lg,xy,eP,fh,gM,kL,i9,xc,nt,h1,h2,h4,hc,aS,BD,he,hl,ht]
theorem Kk{w:Nat}{ws:List Tx}:j4 a [.own (SL a w (ak ws))]=.ok (.own (.lst (ak ws))) [.own (SL a w (ak ws))]:=by have h1:=λL=>l8 (a:=a) w L [];have uZ:=vV ws;have hl:nk [.lst (ak ws)]=aa (.lst (ak ws)):=rfl;generalize ak ws=L at uZ hl ⊢;generalize SL a w=P at h1 ⊢;generalize fw w=f at h1;simp[j4,qD,ay,bi,dB,d2,d1,dV,dC,dL,dF,ar,aA,bH,lF,a9,cg,aM,gV,gO,Pu.bK,cb,b_,bu,bW,cf,R.bind,aC,bD,eZ,bq,back,fQ,lD,lc,sN,t7,tN,aW,ix,bX,eu,bS,ug,kr,Az,fO,t6,j5,fu,gx,zS,m9,cc,cm,ge,eK,iQ,bG,mv,i9,tU,h1,hl,uZ]
theorem Kn{w:Nat}{ws:List Tx}{z:Tx}:nG a [.own (SL a w (ak (ws++[z])))]=.ok (.val (.str z)) [.own (SL a w (ak ws))]:=by
 have h1:=λL=>l8 (a:=a) w L [];have aS:bc [.lst (ak (ws++[z]))]=aa (.int ((ws.length+1:Nat):Int)):=by show aa (PV.int _)=_;rw[eR,dI,pJ]
 have he:=jM aj ((ws.length+1:Nat):Int) 0;have n9:¬((ws.length+1:Nat):Int)=0:=∅
 simp only[n9,decide_false,kE]at he;have ea:ak (ws++[z])=ak ws++[.str z]:=by unfold ak;rw[pK];rfl
 rw[ea]at aS ⊢;have h4:∀L',(PO.inl a.Slit (fw w) (cI "came") L')=SL a w L':=λ_=>rfl;generalize ((ws.length+1:Nat):Int)=n at aS he;generalize ak ws=L at aS ⊢;generalize SL a w=P at h1 h4 ⊢;generalize fw w=f at h1 h4;simp![nG,zO,eP,fh,gM,i9,vE,h1,h4,aS,he]
def jH(w:Nat)(ws:List Tx):PV:=match TW w ws with
 |[t]=>.str t
 |_=>.non
theorem JF{w:Nat}{ws:List Tx}(w1:1<=w)(w4:w<=4)(hw:eU w ws)(h9:ws.length<=9):lh a [.own (SL a w (ak ws))]=.ok (.val (jH w ws)) [.own (SL a w (ak ws))]:=by
 have ht:=C7 (a:=a) w1 w4 hw h9;have h1:=λL ε=>l8 (a:=a) w L ε;have h2:=sS w;have h4:∀L',(PO.inl a.Slit (fw w) (cI "came") L')=SL a w L':=λ_=>rfl;have aS:bc [.lst (ak (TW w ws))]=aa (.int ((TW w ws).length:Nat)):=by show aa (PV.int _)=_;rw[eR]
 have he:=jM aj ((TW w ws).length:Nat) 1;unfold jH;generalize TW w ws=T at ht aS he ⊢
 match T with
 |[t]=>have hi:b7 (.lst (ak [t])) (.int 0)=aa (.str t):=rfl;have he:Pu.eqT aj (.int (([t].length:Nat):Int)) (.int 1)=aa (.bl ah):=rfl;simp only;generalize (([t].length:Nat):Int)=n at aS he;generalize ak [t]=TT at ht aS hi;generalize ak ws=L at ht ⊢;generalize SL a w=P at h1 h4 ⊢;generalize fw w=f at h1 h2 h4;simp![lh,vF,eP,fh,gM,nt,h1,h2,h4,aS,he,hi,ht]
 |[]=>have he:Pu.eqT aj (.int ((([]:List Tx).length:Nat):Int)) (.int 1)=aa (.bl aj):=rfl;simp only;generalize ((([]:List Tx).length:Nat):Int)=n at aS he;generalize ak []=TT at ht aS;generalize ak ws=L at ht ⊢;generalize SL a w=P at h1 h4 ⊢;generalize fw w=f at h1 h2 h4;simp![lh,vF,eP,fh,gM,nt,h1,h2,h4,aS,he,ht]
 |t::t2::r=>
  have n1:¬(((t::t2::r).length:Nat):Int)=1:=by simp;lia
  simp only[n1,decide_false,kE]at he;simp only;generalize (((t::t2::r).length:Nat):Int)=n at aS he;generalize ak (t::t2::r)=TT at ht aS;generalize ak ws=L at ht ⊢;generalize SL a w=P at h1 h4 ⊢;generalize fw w=f at h1 h2 h4;simp![lh,vF,eP,fh,gM,nt,h1,h2,h4,aS,he,ht]
theorem MA(ns:List Int)(k m:Int)(h0:0<=k)(hm:0<m):∃v,0<=v/\v<m/\w8 a [cU ns,.val (.int k),.val (.int m)]=.ok (.val (.int v)) [cU ns,.val (.int k),.val (.int m)]:=by
 obtain⟨c,hc⟩:=IH (a:=a) ns k h0;have d0:0<=(c+7919*k+1)*48271 % 2147483647:=Int.emod_nonneg _ (by decide);have d1:(c+7919*k+1)*48271 % 2147483647<2147483647:=Hh _ (by decide);have m1:eC (.int (c+7919*k+1)) (.int 48271)=aa (.int ((c+7919*k+1)*48271)):=by simp[eC,nH]
 have m2:eC (.int 7919) (.int k)=aa (.int (7919*k)):=by simp[eC,nH]
 have m3:i8 (.int ((c+7919*k+1)*48271)) (.int 2147483647)=aa (.int ((c+7919*k+1)*48271 % 2147483647)):=by simp[i8]
 generalize (c+7919*k+1)*48271 % 2147483647=d at d0 d1 m3;have sd:nH d=ah:=by unfold nH;simp;lia
 have m4:eC (.int d) (.int d)=aa (.int (d*d)):=by simp[eC,sd]
 have m5:eC (.int 7) (.int d)=aa (.int (7*d)):=by simp[eC,nH]
 have m6:i8 (.int (d*d+7*d+k)) (.int 2147483629)=aa (.int ((d*d+7*d+k) % 2147483629)):=by simp[i8]
 generalize (d*d+7*d+k) % 2147483629=d6 at m6;have m7:i8 (.int d6) (.int m)=aa (.int (d6 % m)):=by simp[i8,hm]
 refine⟨d6 % m,Int.emod_nonneg _ ∅,Hh _ hm,?_⟩;simp![w8,yaD,hc,m1,m2,m3,m4,m5,m6,m7,bg]
theorem qY(ns:List Int)(xs:List PV)(m:Int)(hm:0<m)(hx:xs.length<=1000):∃v,0<=v/\v<m/\jg a [cU ns,.own (.lst xs),.val (.int m)]=.ok (.val (.int v)) [cU ns,.own (.lst (xs++[.int 0])),.val (.int m)]:=by
 obtain⟨v,v0,v1,hv⟩:=MA (a:=a) ns ((xs.length:Int)+1) m ∅ hm;refine⟨v,v0,v1,?_⟩;have kI:xs.length<bC:=by unfold bC;lia
 simp![jg,yaC,bc,kI,hv]
theorem Ak(ns:List Int)(xs ps:List PV)(hx:xs.length<=1000)(hp:0<ps.length):∃x∈ps,lP a [cU ns,.own (.lst xs),.val (.lst ps)]=.ok (.val x) [cU ns,.own (.lst (xs++[.int 0])),.val (.lst ps)]:=by obtain⟨v,v0,v1,hv⟩:=qY (a:=a) ns xs (ps.length:Nat) ∅ hx;obtain⟨x,hm,se⟩:=Dz ps v v0 v1;refine⟨x,hm,?_⟩;simp![lP,yaF,bc,b7,hv,se]
theorem E8(ns:List Int)(xs:List PV)(low most:Nat)(hlm:low<=most)(hm:most<=100)(hx:xs.length<=500):∃(z:Tx) (ys:List PV),low<=z.length/\z.length<=most/\(∀c∈z,c∈bM)/\ys.length<=xs.length+2+most /\ kQ a [cU ns,.own (.lst xs),.val (.int low),.val (.int most)]=.ok (.val (.str z)) [cU ns,.own (.lst ys),.val (.int low),.val (.int most)]:=by
 obtain⟨f,hf,hp⟩:=Ak (a:=a) ns xs [.int 1,.int 2,.int 2,.int 3,.int 3,.int 3] ∅ (by decide);obtain⟨few,rfl,f0,f1⟩:∃few:Int,f=.int few/\0<few/\few<=3:=by simp only[bQ,iV,or_false]at hf;rcases hf with rfl|rfl|rfl|rfl|rfl|rfl <;> exact⟨_,rfl,by decide,by decide⟩
 obtain⟨m,m0,m1,hd⟩:=qY (a:=a) ns (xs++[.int 0]) ((most:Int)-low+1) ∅ (by simp;lia);obtain⟨n,hn⟩:∃n:Nat,(low:Int)+m=n:=⟨(low+m).toNat,∅⟩
 have hr:iO [.int ((low:Int)+m)]=aa (e_ 0 n):=by rw[hn];exact tR ∅
 have aS:(e_ 0 n).length=n:=by simp[e_]
 obtain⟨ε',e1,ys,z,s6,rfl,hz,hy,BJ⟩:=yT (i:=6) (db:=a9 5 (d2 bg (dV 5) (d2 b7 (dC (.str [97,98,99])) (aW (aM (jg a) (gV (dV 0) (gO 1 (gV (dV 4) (Pu.bK)))))))))
  (I:=λk ε=>∃ys z s6,ε=[cU ns,.own (.lst ys),.val (.int low),.val (.int most),.val (.int few),.val (.str z),s6]/\z.length=k/\ys.length<=xs.length+2+k/\∀c∈z,c∈bM) (N:=n)
  (by
   rintro k ε x hk ⟨ys,z,s6,rfl,hz,hy,BJ⟩;obtain⟨v,v0,v1,hv⟩:=qY (a:=a) ns ys few f0 ∅;obtain⟨c,hc,hc2⟩:=Dz bM v v0 (by simp[bM];lia);refine⟨[cU ns,.own (.lst (ys++[.int 0])),.val (.int low),.val (.int most),.val (.int few),.val (.str (z++[c])),.val x],?_,ys++[.int 0],z++[c],.val x,rfl,by simp[hz],by simp;lia,λd hd=>?_⟩
   ·have hc3:b7 (.str [97,98,99]) (.int v)=aa (.str [c]):=by
     show(f_ bM v).map _=_;rw[hc2];rfl
    have kF:bg (.str z) (.str [c])=aa (.str (z++[c])):=tj (by simp[bC];lia);simp![hv,hc3,kF]
   ·simp only[nM,mG]at hd;rcases hd with hd|rfl
    ·exact BJ d hd
    ·exact hc)
  (e_ 0 n) 0 [cU ns,.own (.lst (xs++[.int 0]++[.int 0])),.val (.int low),.val (.int most),.val (.int few),.val (.str []),.none] ∅ ⟨xs++[.int 0]++[.int 0],[],.none,rfl,rfl,by simp,by simp⟩
 refine⟨z,ys,∅,∅,BJ,∅,?_⟩;have oa:gR (.int most) (.int low)=aa (.int ((most:Int)-low)):=rfl;have ha1:bg (.int ((most:Int)-low)) (.int 1)=aa (.int ((most:Int)-low+1)):=rfl;have ou:bg (.int low) (.int m)=aa (.int ((low:Int)+m)):=rfl;simp only[iU,Bu,jz]at e1;simp![kQ,yaH,hp,oa,ha1,ou,hd,bR,hr,cA,e1]
theorem Ah(z:Tx)(w:Nat)(hz:z.length<=60):kc a [.val (.str z),.val (.int w)]=.ok (.val (.tup (ak (bf (a5 z w))))) [.val (.str z),.val (.int w)]:=by
 have hr:iO [.int (z.length:Nat)]=aa (e_ 0 z.length):=tR ∅;have hlz:bc [.str z]=aa (.int (z.length:Nat)):=rfl
 let W:=λ(l:List Nat)=>((l.filter λi=>decide (i+w<=z.length)).map λi=>(z.drop i).take w)
 obtain⟨ε',e1,s3,q,l,hq,hq2,rfl⟩:=pe (i:=3) (db:=(bi (dB (d2 (cc λi j=>decide (i<=j)) (d2 bg (dV 3) (dV 1)) (dL bc (ar (dV 0) (aA))))) (ge 2 (cS df (dV 0) (cG (dV 3)) (cG (d2 bg (dV 3) (dV 1))))) (bS)))
  (I:=λr ε=>∃(s3:Slot) (q l:List Nat),cW z.length=l++q/\r=q.map (λ(i:Nat)=>PV.int (0+(i:Nat)))/\ε=[.val (.str z),.val (.int w),.own (.lst (ak (W l))),s3])
  (by
   rintro x r ε ⟨s3,q,l,hl,hr,rfl⟩;cases q with
   |nil=>cases hr
   |cons i q=>
    simp only[cQ,pQ]at hr;obtain⟨rfl,rfl⟩:=hr;have hi:i<z.length:=by
     have:i∈cW z.length:=by rw[hl];simp
     simpa using this
    have aS:(W l).length<=60:=by
     have h1:=xV (λi=>decide (i+w<=z.length)) l;have h2:l.length<=z.length:=by have:=congrArg mv hl;simp at this;lia
     simp only[W,c9];lia
    by_cases c:i+w<=z.length
    ·refine⟨[.val (.str z),.val (.int w),.own (.lst (ak (W (l++[i])))),.val (.int (0+(i:Nat)))],?_,_,q,l++[i],by rw[hl];simp,rfl,rfl⟩;have e:W (l++[i])=W l++[(z.drop i).take w]:=by simp[W,c]
     have hs:df (.str z) (aa (i:Int)) (aa ((i:Int)+w))=aa (.str ((z.drop i).take w)):=by show aa (PV.str (gC z _ _))=_;rw[Mg c]
     have ha:bg (.int i) (.int w)=aa (.int ((i:Int)+w)):=rfl;have c':(i:Int)+w<=(z.length:Nat):=∅
     have hm:(ak (W l)).length<bC:=by rw[eR];unfold bC;lia
     rw[e,←qZ];simp only[Int.zero_add];generalize ak (W l)=L at hm;simp![ha,hlz,c',cS,cG,hs,hm,ak]
    ·refine⟨[.val (.str z),.val (.int w),.own (.lst (ak (W (l++[i])))),.val (.int (0+(i:Nat)))],?_,_,q,l++[i],by rw[hl];simp,rfl,rfl⟩;have e:W (l++[i])=W l:=by simp[W,c]
     have ha:bg (.int i) (.int w)=aa (.int ((i:Int)+w)):=rfl;have c':¬(i:Int)+w<=(z.length:Nat):=∅
     rw[e];simp only[Int.zero_add];generalize ak (W l)=L;simp![ha,hlz,c'])
  (e_ 0 z.length) [.val (.str z),.val (.int w),.own (.lst (ak (W []))),.none] ⟨.none,cW z.length,[],by simp,rfl,rfl⟩
 have hq3:q=[]:=by cases q with|nil=>rfl|cons=>cases hq2
 subst hq3;rw[gq]at hq;have hW:W l=a5 z w:=by rw[←hq];rfl
 have hW0:W []=[]:=rfl;have hl:(a5 z w).length<64:=by unfold a5;rw[c9];have:=xV (λi=>decide (i+w<=z.length)) (cW z.length);rw[GU]at this;lia
 rw[hW,hW0]at e1;simp only[ak,rH]at e1;change dm 3 _ _ _=R.ok aK.next [.val (.str z),.val (.int w),.own (.lst (ak (a5 z w))),s3]at e1;clear_value W;have hs2:=zD (ls:=a5 z w) ∅;simp[kc,yaG,ay,bi,dB,d2,d1,dV,dC,dL,dF,ar,aA,bH,lF,a9,cg,aM,gV,gO,Pu.bK,cb,b_,bu,bW,cf,R.bind,aC,bD,eZ,bq,back,fQ,lD,lc,sN,t7,tN,aW,ix,bX,eu,bS,ug,kr,Az,fO,t6,j5,fu,gx,zS,m9,cc,cm,ge,eK,iQ,bG,mv,hlz,hr,bR,cA,e1,hs2,i_,tU,vV]
theorem JC(w:Nat)(ls:List Tx)(t:Tx)(ht:t.length<=60):me a [.val (.str t),.val (.int w),.val (.tup (ak ls))]=.ok (.val (.bl (unD w ls t))) [.val (.str t),.val (.int w),.val (.tup (ak ls))]:=by
 have rT:=Ah (a:=a) t w ht
 let M:=bf (a5 t w)
 have hc:=j8 (cap:=[3,2]) (dt:=ef) (de:=(d2 (cc λi j=>decide (i<=j)) (qj kY (dV 1) (dV 0)) (qj kY (dV 2) (dV 0)))) (ε:=[.val (.str t),.val (.int w),.val (.tup (ak ls)),.val (.tup (ak M))]) (λ_=>ah) (λx=>match x with|.str z=>.bl (decide (M.count z<=ls.count z))|_=>.non) (ak M)
  (by intro x hx;obtain⟨z,_,rfl⟩:=cR.mp hx;refine⟨by simp![dN,dz,bA,ef],λ_=>?_⟩;have h1:=Fv M z;have h2:=Fv ls z;generalize ak M=A at h1;generalize ak ls=B at h2;simp![dN,dz,bA,qj,h1,h2]) []
 have he:((ak M).filter (λ_=>ah)).map (λx=>match x with|.str z=>PV.bl (decide (M.count z<=ls.count z))|_=>.non)=(M.map λz=>decide (M.count z<=ls.count z)).map .bl:=by rw[uJ.mpr (by simp)];unfold ak;rw[fM,fM];rfl
 rw[jz,he]at hc;have dR:(M.map λz=>decide (M.count z<=ls.count z)).all id=unD w ls t:=by
  rw[uB];unfold unD;have hp:=eY (a5 t w);rw[mn,mC,mC];constructor
  ·intro h x hx;have:=h x (hp.mem_iff.mpr hx);simp only[pP,id,M,hp.count_eq]at this;exact this
  ·intro h x hx;have:=h x (hp.mem_iff.mp hx);simp only[pP,id,M,hp.count_eq];exact this
 generalize (M.map λz=>decide (M.count z<=ls.count z))=bs at hc dR;have ha:=vQ bs;rw[dR]at ha;change kc a _=R.ok (Slot.val (.tup (ak M))) _ at rT;generalize ak M=MM at rT hc;clear_value M;simp![me,yaJ,rT,cq,bo,iC,hc,ha]
theorem KM(w:Nat)(ls:List Tx)(V s3 s4 s5:Slot)(t:Tx)(base:List Tx)(ht:t.length<=50)(hb:base.length+(nextT w ls t).length<=999999)(s8:Slot):∃f8,dm 8 (bi (dB (aW (aM (me a) (gV (d2 bg (dV 7) (dV 8)) (gV (dV 1) (gV (dV 2) (Pu.bK))))))) (ge 6 (d2 bg (dV 7) (dV 8))) (bS)) (bM.map gA) [V,.val (.int w),.val (.tup (ak ls)),s3,s4,s5,.own (.lst (ak base)),.val (.str t),s8]=.ok .next [V,.val (.int w),.val (.tup (ak ls)),s3,s4,s5,.own (.lst (ak (base++nextT w ls t))),.val (.str t),f8]:=by
 let f:=λ(l:Tx)=>(l.map λc=>t++[c]).filter (unD w ls)
 obtain⟨ε',e1,f8,p,rest,hp,p0,rfl⟩:=pe (i:=8) (db:=(bi (dB (aW (aM (me a) (gV (d2 bg (dV 7) (dV 8)) (gV (dV 1) (gV (dV 2) (Pu.bK))))))) (ge 6 (d2 bg (dV 7) (dV 8))) (bS)))
  (I:=λr ε=>∃(f8:Slot) (p rest:Tx),bM=p++rest/\r=rest.map gA/\ε=[V,.val (.int w),.val (.tup (ak ls)),s3,s4,s5,.own (.lst (ak (base++f p))),.val (.str t),f8])
  (by
   rintro x r ε ⟨f8,p,rest,hp,hr,rfl⟩;cases rest with
   |nil=>cases hr
   |cons c rest=>
    have jl:x::r=gA c::rest.map gA:=hr;simp only[pQ]at jl;obtain⟨rfl,rfl⟩:=jl;have hx:bg (.str t) (.str [c])=aa (.str (t++[c])):=tj (by simp[bC];lia);have hw:=JC (a:=a) w ls (t++[c]) (by simp;lia);have hf:f (p++[c])=f p++(if unD w ls (t++[c])=ah then [t++[c]] else []):=by simp only[f,pK,Hb,cQ,rH];congr 1;by_cases h:unD w ls (t++[c])=ah <;> simp[h]
    have hN:nextT w ls t=f p++f (c::rest):=by show(bM.map _).filter _=_;rw[hp];simp[f]
    cases hu:unD w ls (t++[c])with
    |false=>rw[hu]at hw hf;simp only[xM,if_false,gq]at hf;refine⟨[V,.val (.int w),.val (.tup (ak ls)),s3,s4,s5,.own (.lst (ak (base++f (p++[c])))),.val (.str t),.val (.str [c])],?_,_,p++[c],rest,by rw[hp];simp,rfl,rfl⟩;rw[hf];generalize ak (base++f p)=L;generalize ak ls=B at hw;clear_value f;simp![gA,hx,hw]
    |true=>
     rw[hu]at hw hf;simp only[if_true]at hf;have hl:(ak (base++f p)).length<bC:=by rw[eR,dI];rw[hN,dI]at hb;unfold bC;lia
     refine⟨[V,.val (.int w),.val (.tup (ak ls)),s3,s4,s5,.own (.lst (ak (base++f (p++[c])))),.val (.str t),.val (.str [c])],?_,_,p++[c],rest,by rw[hp];simp,rfl,rfl⟩;have e2:ak (base++f (p++[c]))=ak (base++f p)++[.str (t++[c])]:=by rw[hf];simp[ak]
     rw[e2];generalize ak (base++f p)=L at hl;generalize ak ls=B at hw;clear_value f;simp![gA,hx,hw,hl])
  (bM.map gA) [V,.val (.int w),.val (.tup (ak ls)),s3,s4,s5,.own (.lst (ak (base++f []))),.val (.str t),s8] ⟨s8,[],bM,by simp,rfl,rfl⟩
 have p5:rest=[]:=by cases rest with|nil=>rfl|cons=>cases p0
 subst p5;rw[gq]at hp;rw[←hp]at e1;have e0:f []=[]:=rfl;rw[e0,gq]at e1;exact⟨f8,e1⟩
theorem PP(w:Nat)(ls:List Tx)(V s3 s4 s5 s7 s8:Slot)(rows:List Tx)(ht:∀t∈rows,t.length<=50)(hb:(rows.flatMap (nextT w ls)).length<=999999):∃lx f8,dm 7 (bR 8 (bo (dC (.str [97,98,99]))) (bi (dB (aW (aM (me a) (gV (d2 bg (dV 7) (dV 8)) (gV (dV 1) (gV (dV 2) (Pu.bK))))))) (ge 6 (d2 bg (dV 7) (dV 8))) (bS))) (ak rows) [V,.val (.int w),.val (.tup (ak ls)),s3,s4,s5,.own (.lst []),s7,s8]=.ok .next [V,.val (.int w),.val (.tup (ak ls)),s3,s4,s5,.own (.lst (ak (rows.flatMap (nextT w ls)))),lx,f8]:=by
 obtain⟨ε',e1,lx,f8,p,rest,hp,p0,rfl⟩:=pe (i:=7) (db:=(bR 8 (bo (dC (.str [97,98,99]))) (bi (dB (aW (aM (me a) (gV (d2 bg (dV 7) (dV 8)) (gV (dV 1) (gV (dV 2) (Pu.bK))))))) (ge 6 (d2 bg (dV 7) (dV 8))) (bS))))
  (I:=λr ε=>∃(lx f8:Slot) (p rest:List Tx),rows=p++rest/\r=ak rest/\ε=[V,.val (.int w),.val (.tup (ak ls)),s3,s4,s5,.own (.lst (ak (p.flatMap (nextT w ls)))),lx,f8])
  (by
   rintro x r ε ⟨lx,f8,p,rest,hp,hr,rfl⟩;cases rest with
   |nil=>cases hr
   |cons t rest=>
    have jl:x::r=.str t::ak rest:=hr;simp only[pQ]at jl;obtain⟨rfl,rfl⟩:=jl;obtain⟨s8'',h1⟩:=KM (a:=a) w ls V s3 s4 s5 t (p.flatMap (nextT w ls)) (ht t (by rw[hp];simp)) (by rw[hp,Hk,rP,dI,dI]at hb;lia) f8;refine⟨_,?_,.val (.str t),s8'',p++[t],rest,by rw[hp];simp,rfl,rfl⟩;have e2:(p++[t]).flatMap (nextT w ls)=p.flatMap (nextT w ls)++nextT w ls t:=by simp
    rw[e2];have BI:iC (.str [97,98,99])=aa (bM.map gA):=rfl;show bR 8 _ _ [V,.val (.int w),.val (.tup (ak ls)),s3,s4,s5,.own (.lst (ak (p.flatMap (nextT w ls)))),.val (.str t),f8]=_;unfold bR bo dC;simp only[R.bind_ok,BI,bw];exact h1)
  (ak rows) [V,.val (.int w),.val (.tup (ak ls)),s3,s4,s5,.own (.lst (ak (([]:List Tx).flatMap (nextT w ls)))),s7,s8] ⟨s7,s8,[],rows,by simp,rfl,rfl⟩
 have p5:rest=[]:=by cases rest with|nil=>rfl|cons=>cases p0
 subst p5;rw[gq]at hp;rw[←hp]at e1;exact⟨lx,f8,e1⟩
theorem NB{w:Nat}{ls:List Tx}(g:Good bM w ls)(w1:1<=w)(w4:w<=4)(hs:ls.Pairwise (λa b=>dY a b=ah)):mZ a [.val (fg w ls)]=.ok (.own (.lst (ak (dW w ls)))) [.val (fg w ls)]:=by
 have hL:dW w ls=(rowsOf w ls (ls.length+w-1)).filter (λz=>decide (bf (a5 z w)=ls)):=by rw[yG hs,wR w1 g.some λx hx=>⟨g.len x hx,g.abc x hx⟩];congr 2;lia
 obtain⟨L,hLe⟩:∃L:Nat,ls.length+w-1=L:=⟨_,rfl⟩
 rw[hLe]at hL;have hL12:L<=12:=by have:=g.few;lia
 have aS:bc [.tup (ak ls)]=aa (.int (ls.length:Nat)):=by simp[bc,eR]
 have ha1:bg (.int (ls.length:Nat)) (.int w)=aa (.int ((ls.length:Int)+w)):=rfl;have ou:gR (.int ((ls.length:Int)+w)) (.int 1)=aa (.int L):=by show aa (PV.int ((ls.length:Int)+w-1))=_;congr 2;lia
 have hr:iO [.int L]=aa (e_ 0 L):=tR ∅;have hlr:(e_ 0 L).length=L:=by simp[e_]
 obtain⟨ε',e1,s5,s6,s7,s8,rfl⟩:=yT (i:=5) (db:=(ay (cg 6 (dL bX (aA)))
 (ay (bR 7 (bo (dV 4)) (bR 8 (bo (dC (.str [97,98,99]))) (bi (dB (aW (aM (me a) (gV (d2 bg (dV 7) (dV 8)) (gV (dV 1) (gV (dV 2) (Pu.bK))))))) (ge 6 (d2 bg (dV 7) (dV 8))) (bS))))
 (a9 4 (dM 6)))))
  (I:=λk ε=>∃(s5 s6 s7 s8:Slot),ε=[.val (fg w ls),.val (.int w),.val (.tup (ak ls)),.val (.int L),.val (.lst (ak (rowsOf w ls k))),s5,s6,s7,s8]) (N:=L)
  (by
   rintro k ε x hk ⟨s5,s6,s7,s8,rfl⟩;have hrow:∀t∈rowsOf w ls k,t.length<=50:=λt ht=>by have:=((lU k t).mp (lm.mp ht).1).1;lia
   have hbd:((rowsOf w ls k).flatMap (nextT w ls)).length<=999999:=by have e:(rowsOf w ls k).flatMap (nextT w ls)=rowsOf w ls (k+1):=(Fo w1 ls k).symm;rw[e];have h1:=Qm w ls (k+1);have h2:=Pi (show k+1<=12 by lia);lia
   obtain⟨lx,f8,h1⟩:=PP (a:=a) w ls (.val (fg w ls)) (.val (.int L)) (.val (.lst (ak (rowsOf w ls k)))) (.val x) s7 s8 (rowsOf w ls k) hrow hbd;have e:(rowsOf w ls k).flatMap (nextT w ls)=rowsOf w ls (k+1):=(Fo w1 ls k).symm;rw[e]at h1;refine⟨_,?_,.val x,.val (.lst (ak (rowsOf w ls (k+1)))),lx,f8,rfl⟩;generalize ak (rowsOf w ls (k+1))=R1 at h1;generalize hR0:ak (rowsOf w ls k)=R0 at h1;simp only[fg]at h1 ⊢;have hfor:∀(d:ag->R aK) (xs:List PV) (ε:ag),ε[4]?=aa (.val (.lst xs))->bR 7 (bo (dV 4)) d ε=dm 7 d xs ε:=λd xs ε h=>by unfold bR bo dV;rw[h];rfl
   refine(bx (ε1:=[.val (.tup [.int w,.tup (ak ls)]),.val (.int w),.val (.tup (ak ls)),.val (.int L),.val (.lst R0),.val x,.own (.lst []),s7,s8]) (by simp![])).trans ?_;refine(bx ((hfor _ R0 _ rfl).trans h1)).trans ?_;simp[a9,dM,R.bind])
  (e_ 0 L) 0 [.val (fg w ls),.val (.int w),.val (.tup (ak ls)),.val (.int L),.val (.lst (ak (rowsOf w ls 0))),.none,.none,.none,.none] ∅ ⟨.none,.none,.none,.none,rfl⟩
 rw[hlr,kD,HX w1]at e1;have hc:=j8 (cap:=[1,2]) (dt:=(dB (d2 (Pu.eqT aj) (aW (aM (kc a) (gV (dV 0) (gV (dV 1) (Pu.bK))))) (dV 2)))) (de:=dV 0) (ε:=[.val (fg w ls),.val (.int w),.val (.tup (ak ls)),.val (.int L),.val (.lst (ak (rowsOf w ls L))),s5,s6,s7,s8])
  (λx=>match x with|.str z=>decide (bf (a5 z w)=ls)|_=>aj) (λx=>x) (ak (rowsOf w ls L))
  (by
   intro x hx;obtain⟨z,hz,rfl⟩:=cR.mp hx;have hzl:z.length<=60:=by have:=((lU L z).mp (lm.mp hz).1).1;lia
   have rT:=Ah (a:=a) z w hzl;have he:=O5 aj (bf (a5 z w)) ls;simp only[kE]at he;generalize ak (bf (a5 z w))=M at rT he;generalize hD:decide (bf (a5 z w)=ls)=D at he;generalize ak (rowsOf w ls L)=RR;simp only[fg];refine⟨?_,λ_=>?_⟩
   ·simp only[hD];generalize ak ls=B at he;simp![dN,dz,bA,rT,he]
   ·generalize ak ls=B;simp![dN,dz,bA]) []
 have he:((ak (rowsOf w ls L)).filter (λx=>match x with|.str z=>decide (bf (a5 z w)=ls)|_=>aj)).map (λx=>x)=ak (dW w ls):=by rw[List.map_id',hL];unfold ak;rw[xU];rfl
 rw[jz,he]at hc;have e0:ak [[]]=[.str []]:=rfl;rw[e0]at e1;generalize ak (dW w ls)=T at hc;generalize ak (rowsOf w ls L)=RR at hc e1;simp only[fg]at hc e1 ⊢;generalize ak ls=B at hc e1 aS;simp![mZ,yaz,zR,aS,ha1,ou,cA,bR,hr,e1,lA,cq,bo,iC,hc]
end
end K06
namespace Sh
open L2 Pu Mx
section
variable{a:Ad}
def qt(lo hi:Nat):List Nat:=List.range' lo (hi-lo)
def part(t:Tx)(i j:Nat):Tx:=(t.drop i).take (j-i)
def ma(row:List Tx)(i:Nat):Tx:=row.getD i []
def Oh(t:Tx)(s e g l:Nat):Tx:=t.take s++part t g l++part t e g++part t s e++t.drop l
def Os(t:Tx)(row:List Tx)(s g e:Nat):List Tx:=(qt (g+1) row.length).flatMap λl=>if ma row e=ma row l then [Oh t s e g l] else []
def Lm(t:Tx)(row:List Tx)(s g:Nat):List Tx:=(qt (s+1) (g+1)).flatMap λe=>Os t row s g e
theorem Dw{i:Nat}{ε:ag}{po:PO}(h:ε[i]?=aa (.own po)):jN i ε=.ok (.ret (.own po)) (ε.set i .none):=by unfold jN;rw[h]
theorem qF{i:Nat}{di:ag->R (List PV)}{db:ag->R aK}{ε ε1 ε2:ag}{xs:List PV}(h:di ε=.ok xs ε1)(h2:dm i db xs ε1=.ok .next ε2):bR i di db ε=.ok .next ε2:=by unfold bR;rw[h];exact h2
theorem P_{i:Nat}{di:ag->R (List PV)}{db:ag->R aK}{ε ε1 ε2:ag}{xs:List PV}(h:di ε=.ok xs ε1)(h2:dm i db xs ε1=.ok .next ε2):(λε=>cA (bR i di db ε)) ε=.ok .next ε2:=by show cA _=_;rw[qF h h2];rfl
theorem Jj{i:Nat}{di:ag->R (List PV)}{db d2:ag->R aK}{ε ε1 ε2:ag}{xs:List PV}(h:di ε=.ok xs ε1)(h2:dm i db xs ε1=.ok .next ε2):ay (λε=>cA (bR i di db ε)) d2 ε=d2 ε2 :=bx (d1:=λε=>cA (bR i di db ε)) (P_ h h2)
def II(t:Tx)(row:List Tx)(s:Nat):List Tx:=(qt (s+1) row.length).flatMap λg=>if ma row s=ma row g then Lm t row s g else []
def Nq(t:Tx)(row:List Tx):List Tx:=(qt 0 row.length).flatMap λs=>II t row s
theorem d9{i:Nat}{ε:ag}{v:PV}(h:ε[i]?=aa (.val v)):dV i ε=.ok v ε:=by unfold dV;rw[h]
theorem vx{d:ag->R PV}{dg:ag->R (List bL)}{ε ε1 ε2:ag}{x:PV}{as:List bL}(h:d ε=.ok x ε1)(h2:dg ε1=.ok as ε2):gV d dg ε=.ok (.inl x::as) ε2:=by unfold gV;rw[h,R.bind_ok,h2];rfl
theorem D1{ε:ag}:Pu.bK ε=.ok [] ε:=rfl
theorem kl{α:Type}{c:ag->R Bool}{d1 d2:ag->R α}{ε ε1:ag}(h:c ε=.ok ah ε1):bi c d1 d2 ε=d1 ε1:=by unfold bi;rw[h];rfl
theorem iy{α:Type}{c:ag->R Bool}{d1 d2:ag->R α}{ε ε1:ag}(h:c ε=.ok aj ε1):bi c d1 d2 ε=d2 ε1:=by unfold bi;rw[h];rfl
theorem dS{d:ag->R PV}{b:Bool}{ε ε1:ag}(h:d ε=.ok (.bl b) ε1):dB d ε=.ok b ε1:=by unfold dB;rw[h];rfl
def HG(t:Tx)(m w:Nat):List Tx:=(qt 1 m).map λp=>K9 ((t.take m).drop p++(t.take m).take p) w
def LW(t:Tx)(row:List Tx)(w:Nat):List Tx:=if ma row 0=ma row (row.length-1)then HG t (row.length-1) w else []
def JS(t:Tx)(w:Nat):List Tx:=Nq t (CC t (w-1))++LW t (CC t (w-1)) w
end
section
variable{a:Ad}
def Jn(t:Tx)(m:Nat):List Tx:=(qt 1 m).map λp=>part (bG 3 (t.take m)).flatten p (p+t.length)
def jI(t:Tx)(row:List Tx):List Tx:=if ma row 0=ma row (row.length-1)then Jn t (row.length-1)else []
theorem zL{t:ag->R Bool}{db:ag->R aK}{n:Nat}{ε ε1 ε2:ag}(h:t ε=.ok ah ε1)(h2:db ε1=.ok .next ε2):iE t db (n+1) ε=iE t db n ε2:=by rw[iE,h,R.bind_ok];simp only;rw[h2]
theorem FA{t:ag->R Bool}{db:ag->R aK}{n:Nat}{ε ε1:ag}(h:t ε=.ok aj ε1):iE t db (n+1) ε=.ok .next ε1:=by rw[iE,h,R.bind_ok]
end
abbrev gr(t:Tx)(v i:Nat):Tx:=(t.drop i).take v
theorem qm{t:Tx}{v i:Nat}:(gr t (v+1) i).take v=gr t v i:=by unfold gr;rw[List.take_take,Nat.min_eq_left ∅]
theorem vY{t:Tx}{v i:Nat}:(gr t (v+1) i).tail=gr t v (i+1):=by
 unfold gr;refine xQ λk=>?_;rw[List.getElem?_tail,List.getElem?_take,List.getElem?_take,G3,G3];by_cases h:k<v
 ·rw[if_pos ∅,if_pos h];congr 1;lia
 ·rw[if_neg ∅,if_neg h]
theorem Km{t:Tx}{v:Nat}{x:Tx}:x∈a5 t (v+1)↔∃i,i+v<t.length/\x=gr t (v+1) i:=by
 rw[nD _ _ ∅,cR];constructor
 ·rintro⟨i,hi,rfl⟩;exact⟨i,by have:=ul.mp hi;lia,rfl⟩
 ·rintro⟨i,hi,rfl⟩;exact⟨i,ul.mpr ∅,rfl⟩
theorem AJ{v:Nat}{y:Tx}:∀(k:Nat) (t:Tx) (i:Nat),((List.range' i k).map λj=>if gr t v j=y then 1 else 0).sum+(if gr t v (i+k)=y then 1 else 0)=((List.range' i k).map λj=>if gr t v (j+1)=y then 1 else 0).sum+(if gr t v i=y then 1 else 0)
 |0,t,i=>by simp
 |k+1,t,i=>by have ih:=AJ (v:=v) (y:=y) k t (i+1);rw[List.range'_succ,cQ,cQ,j2,j2,show i+(k+1)=i+1+k by lia];lia
theorem RC{t z:Tx}{v:Nat}(hl:z.length=t.length)(hv:v<t.length)(hw:(a5 z (v+1)).Perm (a5 t (v+1))):gr t v 0=gr z v 0\/gr t v 0=gr t v (t.length-v):=by
 have hc:∀u:Tx,u.length=t.length->((a5 u (v+1)).map λx=>if x.take v=gr t v 0 then 1 else 0).sum+(if gr u v (u.length-v)=gr t v 0 then 1 else 0)=((a5 u (v+1)).map λx=>if x.tail=gr t v 0 then 1 else 0).sum+(if gr u v 0=gr t v 0 then 1 else 0):=by
  intro u hu;have:=AJ (v:=v) (y:=gr t v 0) (u.length-v) u 0;rw[kD]at this;rw[nD _ _ ∅,fM,fM,show u.length+1-(v+1)=u.length-v by lia,List.range_eq_range'];have e1:∀j,((λx:Tx=>if x.take v=gr t v 0 then 1 else 0) ∘ λi=>(u.drop i).take (v+1)) j=if gr u v j=gr t v 0 then 1 else 0:=λj=>by show(if(gr u (v+1) j).take v=_ then 1 else 0)=_;rw[qm]
  have e2:∀j,((λx:Tx=>if x.tail=gr t v 0 then 1 else 0) ∘ λi=>(u.drop i).take (v+1)) j=if gr u v (j+1)=gr t v 0 then 1 else 0:=λj=>by show(if(gr u (v+1) j).tail=_ then 1 else 0)=_;rw[vY]
  rw[j0 λj _=>e1 j,j0 λj _=>e2 j];exact this
 have h1:=hc t rfl;have h2:=hc z hl;have p1:=((hw.map λx:Tx=>if x.take v=gr t v 0 then 1 else 0)).sum_nat;have p2:=((hw.map λx:Tx=>if x.tail=gr t v 0 then 1 else 0)).sum_nat;rw[p1,p2]at h2;rw[if_pos rfl]at h1;by_cases c:gr z v 0=gr t v 0
 ·exact .inl c.symm
 ·right;rw[if_neg c]at h2;by_cases d:gr t v (t.length-v)=gr t v 0
  ·exact d.symm
  ·rw[if_neg d]at h1;lia
end Sh
namespace Mx
open L2 Pu
theorem C0(w:Nat):∀(s r t:Tx),nw w t (s++r)=nw w t s++nw w (t++s) r
 |[],r,t=>by simp[nw]
 |c::s,r,t=>by rw[Bu,nw,nw,C0 w s r (t++[c]),Bu,iU];rfl
end Mx
namespace Sh
open L2 Pu Mx
section
variable{v:Nat}
def oc(v:Nat)(M:List Tx)(y:Tx):Nat:=(M.map λx=>if x.take v=y then 1 else 0).sum
def ic(M:List Tx)(y:Tx):Nat:=(M.map λx=>if x.tail=y then 1 else 0).sum
theorem v5(M N:List Tx)(y:Tx):oc v (M++N) y=oc v M y+oc v N y:=by simp[oc]
theorem wP(M N:List Tx)(y:Tx):ic (M++N) y=ic M y+ic N y:=by simp[ic]
theorem sy{M N:List Tx}(h:M.Perm N)(y:Tx):oc v M y=oc v N y:=(h.map _).sum_nat
theorem sA{M N:List Tx}(h:M.Perm N)(y:Tx):ic M y=ic N y:=(h.map _).sum_nat
theorem Re{M:List Tx}{y:Tx}:0<oc v M y↔∃x∈M,x.take v=y:=by
 unfold oc
 induction M with
 |nil=>simp
 |cons a M ih=>
  rw[cQ,j2];by_cases c:a.take v=y
  ·rw[if_pos c];exact⟨λ_=>⟨a,by simp,c⟩,λ_=>∅⟩
  ·rw[if_neg c,kD,ih];exact⟨λ⟨x,h1,h2⟩=>⟨x,by simp[h1],h2⟩,λ⟨x,h1,h2⟩=>⟨x,(bQ.mp h1).resolve_left λe=>c (e ▸ h2),h2⟩⟩
theorem RB{M:List Tx}{y:Tx}:0<ic M y↔∃x∈M,x.tail=y:=by
 unfold ic
 induction M with
 |nil=>simp
 |cons a M ih=>
  rw[cQ,j2];by_cases c:a.tail=y
  ·rw[if_pos c];exact⟨λ_=>⟨a,by simp,c⟩,λ_=>∅⟩
  ·rw[if_neg c,kD,ih];exact⟨λ⟨x,h1,h2⟩=>⟨x,by simp[h1],h2⟩,λ⟨x,h1,h2⟩=>⟨x,(bQ.mp h1).resolve_left λe=>c (e ▸ h2),h2⟩⟩
abbrev en(v:Nat)(t:Tx):Tx:=t.drop (t.length-v)
abbrev b2(p:Prop)[Decidable p]:Nat:=if p then 1 else 0
theorem Jr{t:Tx}:gr t v (t.length-v)=en v t:=by unfold gr en;exact pL (by simp;lia)
theorem tF{t:Tx}(h:v<=t.length)(y:Tx):oc v (a5 t (v+1)) y+b2 (en v t=y)=ic (a5 t (v+1)) y+b2 (t.take v=y):=by
 have:=AJ (v:=v) (y:=y) (t.length-v) t 0;rw[kD,Jr]at this;unfold oc ic b2;rw[nD _ _ ∅,fM,fM,show t.length+1-(v+1)=t.length-v by lia,List.range_eq_range'];have e1:∀j,((λx:Tx=>if x.take v=y then 1 else 0) ∘ λi=>(t.drop i).take (v+1)) j=if gr t v j=y then 1 else 0:=λj=>by show(if(gr t (v+1) j).take v=_ then 1 else 0)=_;rw[qm]
 have e2:∀j,((λx:Tx=>if x.tail=y then 1 else 0) ∘ λi=>(t.drop i).take (v+1)) j=if gr t v (j+1)=y then 1 else 0:=λj=>by show(if(gr t (v+1) j).tail=_ then 1 else 0)=_;rw[vY]
 rw[j0 λj _=>e1 j,j0 λj _=>e2 j];simpa[gr]using this
theorem B1{t:Tx}(h:v<=t.length)(c:Nat):a5 (t++[c]) (v+1)=a5 t (v+1)++[en v t++[c]]:=by rw[Fy ∅,if_pos ∅];congr 2;rw[show t.length+1-(v+1)=t.length-v by lia,Bk ∅];exact pL (by simp;lia)
theorem yg{M:List Tx}(hM:∀x∈M,x.length=v+1):∀(n:Nat) (t:Tx) (R:List Tx),R.length=n->v<=t.length->(a5 t (v+1)++R).Perm M -> ∃t' R',t'.take v=t.take v/\v<=t'.length/\(a5 t' (v+1)++R').Perm M/\∀x∈R',x.take v≠en v t'
 |0,t,R,hn,ht,hp=>⟨t,R,rfl,ht,hp,λx hx=>by rw[n8.mp hn]at hx;simp at hx⟩
 |n+1,t,R,hn,ht,hp=>by
  by_cases q:∃x∈R,x.take v=en v t
  ·obtain⟨x,hx,e⟩:=q;have hxl:x.length=v+1:=hM x (hp.mem_iff.mp (iR _ hx));have hxe:x=en v t++[x.getLastD 0]:=by
    have h1:x=x.take v++x.drop v:=(xI v x).symm;have h2:∃c,x.drop v=[c]:=List.length_eq_one_iff.mp (by rw[my];lia);obtain⟨c,hc⟩:=h2;rw[hc]at h1;have h3:x.getLastD 0=c:=by rw[h1];simp
    rw[h3,←e];exact h1
   have gY:(a5 (t++[x.getLastD 0]) (v+1)++R.erase x).Perm M:=by rw[B1 ht,←hxe,iU];exact(G0 _ (List.perm_cons_erase hx).symm).trans hp
   obtain⟨t',R',a1,a2,a3,a4⟩:=yg hM n (t++[x.getLastD 0]) (R.erase x) (by rw[Bv hx];lia) (by simp;lia) gY;exact⟨t',R',by rw[a1,Hc ht],a2,a3,a4⟩
  ·exact⟨t,R,rfl,ht,hp,λx hx e=>q ⟨x,hx,e⟩⟩
theorem P9{M:List Tx}(hM:∀x∈M,x.length=v+1)(bal:∀y,oc v M y=ic M y){p:Tx}(hp:p.length=v):∃t R,t.take v=p/\v<=t.length/\(a5 t (v+1)++R).Perm M/\en v t=p/\(∀x∈R,x.take v≠p)/\∀y,oc v R y=ic R y:=by
 have h0:a5 p (v+1)=[]:=n8.mp (by rw[nE ∅];lia);obtain⟨t,R,a1,a2,a3,a4⟩:=yg hM M.length p M rfl ∅ (by rw[h0];exact .refl _);rw[show p.take v=p from pL ∅]at a1;have e0:oc v R (en v t)=0:=by
  rcases Hm (oc v R (en v t))with q|q
  ·exact q
  ·obtain⟨x,h1,h2⟩:=Re.mp q;exact absurd h2 (a4 x h1)
 have c1:=tF a2 (en v t);have c2:=sy (v:=v) a3 (en v t);have c3:=sA a3 (en v t);have c4:=bal (en v t);rw[v5]at c2;rw[wP]at c3;rw[a1]at c1;unfold b2 at c1;rw[if_pos rfl]at c1;have rW:p=en v t:=by
  by_cases q:p=en v t
  ·exact q
  ·rw[if_neg q]at c1;lia
 refine⟨t,R,a1,a2,a3,rW.symm,by rw[rW];exact a4,λy=>?_⟩;have d1:=tF a2 y;have d2:=sy (v:=v) a3 y;have d3:=sA a3 y;rw[v5]at d2;rw[wP]at d3;rw[a1,←rW]at d1;have:=bal y;lia
theorem MN{t c:Tx}{i:Nat}(hi:i+v<=t.length)(hc:v<=c.length)(h1:c.take v=gr t v i)(h2:en v c=gr t v i):∃t',t'.take v=t.take v/\v<=t'.length/\en v t'=en v t/\(a5 t' (v+1)).Perm (a5 t (v+1)++a5 c (v+1)):=by
 let T1:=t.take (i+v)
 let T2:=t.drop (i+v)
 have hT:t=T1++T2:=(xI _ _).symm;have l1:T1.length=i+v:=by simp[T1];lia
 have g1:T1=t.take i++gr t v i:=by show t.take (i+v)=_;rw[List.take_add]
 have gl:(gr t v i).length=v:=by unfold gr;simp;lia
 let s:=c.drop v
 have uT:c=gr t v i++s:=by rw[←h1];exact(xI _ _).symm
 have wn:∀(a b:Tx),(a++gr t v i).length=a.length+v->a5 (a++gr t v i++b) (v+1)=a5 (a++gr t v i) (v+1)++nw (v+1) (gr t v i) b:=by
  intro a b _;have gen:∀(n:Nat) (b:Tx),b.length=n->a5 (a++gr t v i++b) (v+1)=a5 (a++gr t v i) (v+1)++nw (v+1) (gr t v i) b:=by
   intro n
   induction n with
   |zero=>intro b hb;rw[n8.mp hb];simp[nw]
   |succ n ih=>
    intro b hb;obtain⟨b',x,rfl⟩:∃b' x,b=b'++[x]:=⟨b.dropLast,b.getLast (by intro e;rw[e]at hb;simp at hb),(G_ _).symm⟩
    rw[←iU,B1 (by simp[gl];lia),ih b' (by simp at hb;lia),C0,iU];congr 2;simp only[nw];congr 2;have e:(a++gr t v i++b').length-v=a.length+((gr t v i++b').length+1-(v+1)):=by simp[gl];lia
    unfold en;rw[e,iU,List.drop_append];simp
  exact gen b.length b rfl
 have w1:a5 t (v+1)=a5 T1 (v+1)++nw (v+1) (gr t v i) T2:=by have:=wn (t.take i) T2 (by simp[gl]);rw[←g1]at this;rw[←this,←hT]
 have w2:a5 (T1++s) (v+1)=a5 T1 (v+1)++nw (v+1) (gr t v i) s:=by have:=wn (t.take i) s (by simp[gl]);rw[←g1]at this;exact this
 have w3:a5 c (v+1)=nw (v+1) (gr t v i) s:=by
  conv=>lhs;rw[uT]
  exact yK ∅ (by rw[gl];lia)
 have hes:T1++s=t.take i++c.take (c.length-v)++gr t v i:=by rw[g1,iU,←uT,iU,←h2];congr 1;exact(xI _ _).symm
 have w4:a5 (T1++s++T2) (v+1)=a5 (T1++s) (v+1)++nw (v+1) (gr t v i) T2:=by have:=wn (t.take i++c.take (c.length-v)) T2 (by simp[gl];lia);rw[←hes]at this;exact this
 refine⟨T1++s++T2,?_,by simp[l1];lia,?_,?_⟩
 ·rw[iU,Hc ∅];show(t.take (i+v)).take v=_;rw[List.take_take,Nat.min_eq_left ∅]
 ·have key:∀a:Tx,en v (a++(gr t v i++T2))=en v (gr t v i++T2):=λa=>by
   unfold en;rw[List.drop_append,Hi (by simp[gl];lia),jz];congr 1;simp[gl];lia
  have eA:T1++s++T2=(t.take i++c.take (c.length-v))++(gr t v i++T2):=by rw[hes];simp only[iU]
  have eB:t.take i++(gr t v i++T2)=t:=by rw[←iU,←g1];exact hT.symm
  have:=key (t.take i);rw[eB]at this;rw[eA,key,this]
 ·rw[w4,w2,w1,w3,iU,iU];exact G0 _ List.perm_append_comm
def oH(v:Nat)(M:List Tx):Prop:=∀V:Tx->Prop,(∃x∈M,V (x.take v))->(∀x∈M,V (x.take v)\/V x.tail->V (x.take v)/\V x.tail)->∀x∈M,V (x.take v)
theorem Nu{M:List Tx}(hM:∀x∈M,x.length=v+1)(con:oH v M):∀(n:Nat) (t:Tx) (R:List Tx),R.length<=n->v<t.length->(a5 t (v+1)++R).Perm M->(∀y,oc v R y=ic R y)->∃t',t'.take v=t.take v/\v<t'.length/\(a5 t' (v+1)).Perm M:=by
 intro n
 induction n with
 |zero=>intro t R hn ht hp _;rw[n8.mp (show R.length=0 by lia),gq]at hp;exact⟨t,rfl,ht,hp⟩
 |succ n ih=>
  intro t R hn ht hp bal;by_cases hR:R=[]
  ·rw[hR,gq]at hp;exact⟨t,rfl,ht,hp⟩
  ·obtain⟨x0,sh⟩:=List.exists_mem_of_ne_nil R hR;have touch:∃i,i+v<=t.length/\∃x∈R,x.take v=gr t v i\/x.tail=gr t v i:=by
    refine Hn λno=>?_;have no':∀i,i+v<=t.length->∀x∈R,¬(x.take v=gr t v i\/x.tail=gr t v i):=λi hi x hx q=>no ⟨i,hi,x,hx,q⟩;have:=con (λy=>∃i,i+v<=t.length/\gr t v i=y)
     ⟨gr t (v+1) 0,hp.mem_iff.mp (uo _ (Km.mpr ⟨0,∅,rfl⟩)),0,∅,by rw[qm]⟩
     (λx hx q=>by
      rcases nM.mp (hp.mem_iff.mpr hx)with hx|hx
      ·obtain⟨j,hj,rfl⟩:=Km.mp hx;exact⟨⟨j,∅,by rw[qm]⟩,⟨j+1,∅,by rw[vY]⟩⟩
      ·rcases q with⟨i,hi,e⟩|⟨i,hi,e⟩
       ·exact absurd (.inl e.symm) (no' i hi x hx)
       ·exact absurd (.inr e.symm) (no' i hi x hx))
     x0 (hp.mem_iff.mp (iR _ sh))
    obtain⟨i,hi,e⟩:=this;exact no' i hi x0 sh (.inl e.symm)
   obtain⟨i,hi,x,hx,hq⟩:=touch;have og:0<oc v R (gr t v i):=by
    rcases hq with q|q
    ·exact Re.mpr ⟨x,hx,q⟩
    ·rw[bal];exact RB.mpr ⟨x,hx,q⟩
   have hRl:∀x∈R,x.length=v+1:=λx hx=>hM x (hp.mem_iff.mp (iR _ hx));obtain⟨c,R2,c1,c2,c3,c4,c5,c6⟩:=P9 hRl bal (p:=gr t v i) (by unfold gr;simp;lia);have dw:R2.length<R.length:=by
    have hl:=c3.length_eq;rw[dI]at hl;rcases Hm (a5 c (v+1)).length with z|z
    ·rw[n8.mp z,jz]at c3;obtain⟨y,hy,e⟩:=Re.mp og;exact absurd e (c5 y (c3.mem_iff.mpr hy))
    ·lia
   obtain⟨t',d1,d2,d3,d4⟩:=MN hi c2 c1 c4;have gY:(a5 t' (v+1)++R2).Perm M:=by refine(d4.append_right R2).trans ?_;rw[iU];exact(c3.append_left _).trans hp
   have bO:v<t'.length:=by have:=d4.length_eq;rw[dI,nE ∅,nE ∅]at this;lia
   obtain⟨t2,f1,f2,f3⟩:=ih t' R2 ∅ bO gY c6;exact⟨t2,by rw[f1,d1],f2,f3⟩
theorem Cc{M:List Tx}(hM:∀x∈M,x.length=v+1)(con:oH v M){s0 e:Tx}(hs:∃x∈M,x.take v=s0)(deg:∀y,oc v M y+b2 (e=y)=ic M y+b2 (s0=y)):∃t,t.take v=s0/\v<t.length/\(a5 t (v+1)).Perm M:=by
 obtain⟨x0,sh,e0⟩:=hs;have hsl:s0.length=v:=by rw[←e0,rD,hM x0 sh];lia
 have h0:a5 s0 (v+1)=[]:=n8.mp (by rw[nE ∅];lia);obtain⟨t,R,a1,a2,a3,a4⟩:=yg hM M.length s0 M rfl ∅ (by rw[h0];exact .refl _);rw[show s0.take v=s0 from pL ∅]at a1;have z0:oc v R (en v t)=0:=by
  rcases Hm (oc v R (en v t))with q|q
  ·exact q
  ·obtain⟨x,h1,h2⟩:=Re.mp q;exact absurd h2 (a4 x h1)
 have c1:=tF a2 (en v t);have c2:=sy (v:=v) a3 (en v t);have c3:=sA a3 (en v t);have c4:=deg (en v t);rw[v5]at c2;rw[wP]at c3;rw[a1]at c1;unfold b2 at c1 c4;rw[if_pos rfl]at c1;have rW:e=en v t:=by
  by_cases q:e=en v t
  ·exact q
  ·rw[if_neg q]at c4;lia
 have bal:∀y,oc v R y=ic R y:=λy=>by have d1:=tF a2 y;have d2:=sy (v:=v) a3 y;have d3:=sA a3 y;have d4:=deg y;rw[v5]at d2;rw[wP]at d3;rw[a1,←rW]at d1;lia
 have bO:v<t.length:=by
  rcases Nat.lt_or_ge v t.length with q|q
  ·exact q
  ·have ht:t=s0:=by rw[←a1];exact(pL ∅).symm
   subst ht;rw[h0,jz]at a3;have:en v t=t:=by unfold en;rw[show t.length-v=0 by lia];rfl
   exact absurd (by rw[this];exact e0) (a4 x0 (a3.mem_iff.mpr sh))
 obtain⟨t',f1,f2,f3⟩:=Nu hM con R.length t R (bt _) bO a3 bal;exact⟨t',by rw[f1,a1],f2,f3⟩
theorem OZ{t:Tx}{M:List Tx}(hp:(a5 t (v+1)).Perm M):oH v M:=by
 intro V ⟨x,hx,hv⟩ hc z hz;obtain⟨i,hi,rfl⟩:=Km.mp (hp.mem_iff.mpr hx);obtain⟨j,hj,rfl⟩:=Km.mp (hp.mem_iff.mpr hz);rw[qm]at hv ⊢;have step:∀k,k+v<t.length->(V (gr t v k)↔V (gr t v (k+1))):=λk hk=>by have:=hc (gr t (v+1) k) (hp.mem_iff.mp (Km.mpr ⟨k,hk,rfl⟩));rw[qm,vY]at this;exact⟨λq=>(this (.inl q)).2,λq=>(this (.inr q)).1⟩
 have all:∀k,k+v<t.length->(V (gr t v 0)↔V (gr t v k)):=λk=>by
  induction k with
  |zero=>intro _;exact nZ
  |succ k ih=>intro hk;exact(ih ∅).trans (step k ∅)
 exact(all j hj).mp ((all i hi).mpr hv)
end
inductive WN(w:Nat):Nat->Tx->Tx->Prop
 |here (n:Nat) (t:Tx):WN w n t t
 |on {n:Nat}{t u z:Tx}:WN w n t u->z∈JS u w->WN w (n+1) t z
def Full(w:Nat)(t:Tx)(k:Nat):Prop:=∀z∈Op t w,WN w k t z
theorem z_{i:Nat}{db:ag->R aK}{σ τ:Type}(env:σ->τ->ag)(f:σ->Tx->σ)(P:σ->Prop):∀(xs:List Tx) (st:σ) (s:τ),P st -> (∀x∈xs,∀st s,P st->P (f st x)/\∃s',db ((env st s).set i (.val (.str x)))=.ok .next (env (f st x) s'))->∃s',dm i db (ak xs) (env st s)=.ok .next (env (xs.foldl f st) s')/\P (xs.foldl f st)
 |[],st,s,h,_=>⟨s,rfl,h⟩
 |x::xs,st,s,h,step=>by obtain⟨h1,s1,e1⟩:=step x (by simp) st s h;obtain⟨s2,e2,h2⟩:=z_ env f P xs (f st x) s1 h1 λy hy=>step y (by simp[hy]);refine⟨s2,?_,h2⟩;show dm i db (.str x::ak xs) _=_;rw[dm,e1];exact e2
abbrev ks(m:List (Tx×Int)):List Tx:=m.map (·.1)
theorem Ml(m:List (Tx×Int))(z:Tx):(m.any λp=>decide (p.1=z))=decide (z∈ks m):=by rw[mn,rR,decide_eq_true_eq,cR];exact⟨λ⟨p,h1,h2⟩=>⟨p,h1,of_decide_eq_true h2⟩,λ⟨p,h1,h2⟩=>⟨p,h1,decide_eq_true h2⟩⟩
theorem qL(m:List (Tx×Int))(z:Tx):(bv m z).isSome=decide (z∈ks m):=by
 rw[←Ml];cases h:m.any λp=>decide (p.1=z)with
 |false=>rw[vn h];rfl
 |true=>obtain⟨n,e⟩:=Gj h;rw[e];rfl
theorem M3(m:List (Tx×Int)):(dk m).length=m.length:=by simp[dk]
theorem CA{i:Nat}{db de:ag->R PV}{ε ε1 ε2:ag}{z:Tx}{n:Int}{m:List (Tx×Int)}(he:de ε=.ok (.int n) ε1)(hb:db ε1=.ok (.str z) ε2)(r9:∃x,cH ε1 i=aa x)(ho:cH ε2 i=aa (dk m))(hl:m.length<bC):fz i db de ε=.ok .next (ε2.set i (.own (.dK (dk (cE m z n))))):=by unfold fz;obtain⟨x,hx⟩:=r9;rw[he,R.bind_ok,hx];simp only[bw,R.bind_ok];rw[hb,R.bind_ok,ho];simp only[bw,R.bind_ok];show(aC (aa (Sum.inr (tS z))) ε2).bind _=_;simp only[bw,R.bind_ok];rw[M3,if_pos hl,vD]
theorem E9{i:Nat}{db:ag->R PV}{ε ε1:ag}{z:Tx}{n:Int}{m:List (Tx×Int)}(ho0:∃x,cH ε i=aa x)(hb:db ε=.ok (.str z) ε1)(ho:cH ε1 i=aa (dk m))(hg:bv m z=aa n):ig i db ε=.ok (.int n) ε1:=by unfold ig;obtain⟨x,hx⟩:=ho0;rw[hx];simp only[bw,R.bind_ok];rw[hb,R.bind_ok,ho];simp only[bw,R.bind_ok];show aC (iI (dk m) (.inr (tS z))) ε1=_;rw[qf,hg];rfl
theorem Lq{i:Nat}{de:ag->R PV}{ε ε1:ag}{x:PV}{xs0 xs:List PV}(h0:cm ε i=aa xs0)(h:de ε=.ok x ε1)(h1:cm ε1 i=aa xs)(hl:xs.length<bC):ge i de ε=.ok .next (ε1.set i (.own (.lst (xs++[x])))):=by unfold ge;rw[h0];simp only[bw,R.bind_ok];rw[h];simp only[R.bind_ok];rw[h1];simp only[bw,R.bind_ok];rw[if_pos hl]
section
variable{a:Ad}
theorem iw{d:ag->R Slot}{ε ε1:ag}{x:PV}(h:d ε=.ok (.val x) ε1):aW d ε=.ok x ε1:=by unfold aW;rw[h];rfl
end
def cn(ks:List Tx):List (aO×PV):=ks.map λx=>(Sum.inr (tS x),PV.bl ah)
def fe(ks:List Tx)(x:Tx):List Tx:=if x∈ks then ks else ks++[x]
theorem Rv{ks:List Tx}{x z:Tx}:z∈fe ks x↔z∈ks\/z=x:=by
 unfold fe;by_cases c:x∈ks
 ·rw[if_pos c];exact⟨.inl,λh=>h.elim id λe=>e ▸ c⟩
 ·rw[if_neg c];simp
theorem C_{ks:List Tx}{x:Tx}(h:ks.Nodup):(fe ks x).Nodup:=by
 unfold fe;by_cases c:x∈ks
 ·rw[if_pos c];exact h
 ·rw[if_neg c];exact G2.mpr ⟨h,by simp,λa ha b hb e=>by simp at hb;subst hb;subst e;exact c ha⟩
theorem wF{ks:List Tx}{x:Tx}:ks.length<=(fe ks x).length/\(x∉ks->ks.length<(fe ks x).length):=by
 unfold fe;by_cases c:x∈ks
 ·rw[if_pos c];exact⟨bt _,λq=>absurd c q⟩
 ·rw[if_neg c];simp
theorem Db(ks:List Tx)(x:Tx):((cn ks).any λkv=>decide (kv.1=(Sum.inr (tS x):aO)))=decide (x∈ks):=by
 unfold cn;rw[List.any_map,mn,rR,decide_eq_true_eq];constructor
 ·rintro⟨z,h1,h2⟩;have:=of_decide_eq_true h2;rw[←qp (Sum.inr.inj this)];exact h1
 ·intro h;exact⟨x,h,by simp⟩
theorem OS(ks:List Tx)(x:Tx):mT (cn ks) (Sum.inr (tS x)) (.bl ah)=cn (fe ks x):=by
 unfold mT fe;rw[Db];by_cases c:x∈ks
 ·rw[decide_eq_true c,if_pos rfl,if_pos c];unfold cn;rw[fM];refine j0 λz _=>?_;simp only[pP];split
  ·rfl
  ·rfl
 ·rw[decide_eq_false c,if_neg (by simp),if_neg c];unfold cn;simp
theorem L6(ks:List Tx)(x:Tx):(iI (cn ks) (Sum.inr (tS x))).isSome=decide (x∈ks):=by rw[←Db];unfold iI;rw[GR,List.isSome_find?]
theorem vG(ks:List Tx):(cn ks).length=ks.length:=by simp[cn]
theorem zu{neg:Bool}{i:Nat}{db:ag->R PV}{ε ε1:ag}{z:Tx}{ks:List Tx}(hb:db ε=.ok (.str z) ε1)(ho:cH ε1 i=aa (cn ks)):iJ neg i db ε=.ok (.bl (neg^^decide (z∈ks))) ε1:=by unfold iJ;rw[hb,R.bind_ok,ho];simp only[bw,R.bind_ok];show aC (aa (PV.bl (neg^^(iI (cn ks) (.inr (tS z))).isSome))) ε1=_;rw[L6];rfl
theorem B4{i:Nat}{db de:ag->R PV}{ε ε1 ε2:ag}{z:Tx}{ks:List Tx}(he:de ε=.ok (.bl ah) ε1)(hb:db ε1=.ok (.str z) ε2)(r9:∃x,cH ε1 i=aa x)(ho:cH ε2 i=aa (cn ks))(hl:ks.length<bC):fz i db de ε=.ok .next (ε2.set i (.own (.dK (cn (fe ks z))))):=by unfold fz;obtain⟨x,hx⟩:=r9;rw[he,R.bind_ok,hx];simp only[bw,R.bind_ok];rw[hb,R.bind_ok,ho];simp only[bw,R.bind_ok];show(aC (aa (Sum.inr (tS z))) ε2).bind _=_;simp only[bw,R.bind_ok];rw[vG,if_pos hl,OS]
def rS(ks:List Tx)(x:Tx):List Tx:=if x.dropLast∈ks\/x.tail∈ks then fe (fe ks x.dropLast) x.tail else ks
theorem LQ{ks:List Tx}{x z:Tx}(h:z∈ks):z∈rS ks x:=by
 unfold rS;split
 ·exact Rv.mpr (.inl (Rv.mpr (.inl h)))
 ·exact h
theorem EX:∀(ls:List Tx) {ks:List Tx}{z:Tx},z∈ks->z∈ls.foldl rS ks
 |[],_,_,h=>h
 |x::ls,_,_,h=>EX ls (LQ h)
theorem BW{ks:List Tx}{x:Tx}(h:ks.Nodup):(rS ks x).Nodup:=by
 unfold rS;split
 ·exact C_ (C_ h)
 ·exact h
theorem BO:∀(ls:List Tx) {ks:List Tx},ks.Nodup->(ls.foldl rS ks).Nodup
 |[],_,h=>h
 |x::ls,_,h=>BO ls (BW h)
theorem zN(ks:List Tx)(x:Tx):ks.length<=(rS ks x).length:=by
 unfold rS;split
 ·exact dP wF.1 wF.1
 ·exact bt _
theorem sB:∀(ls ks:List Tx),ks.length<=(ls.foldl rS ks).length
 |[],ks=>bt _
 |x::ls,ks=>dP (zN ks x) (sB ls (rS ks x))
theorem wU:∀(ls ks:List Tx),(ls.foldl rS ks).length=ks.length->∀x∈ls,x.dropLast∈ks\/x.tail∈ks->x.dropLast∈ks/\x.tail∈ks
 |[],_,_,x,hx=>by simp at hx
 |y::ls,ks,h,x,hx=>by
  rw[nY]at h;have h1:=zN ks y;have h2:=sB ls (rS ks y);have e1:(rS ks y).length=ks.length:=∅
  have same:rS ks y=ks/\(y.dropLast∈ks\/y.tail∈ks->y.dropLast∈ks/\y.tail∈ks):=by
   unfold rS at e1 ⊢;by_cases c:y.dropLast∈ks\/y.tail∈ks
   ·rw[if_pos c]at e1 ⊢;have k1:=wF (ks:=ks) (x:=y.dropLast);have k2:=wF (ks:=fe ks y.dropLast) (x:=y.tail);have m1:y.dropLast∈ks:=Hn λq=>by have:=k1.2 q;lia
    have q1:fe ks y.dropLast=ks:=by unfold fe;rw[if_pos m1]
    rw[q1]at k2 e1 ⊢;have m2:y.tail∈ks:=Hn λq=>by have:=k2.2 q;lia
    exact⟨by unfold fe;rw[if_pos m2],λ_=>⟨m1,m2⟩⟩
   ·rw[if_neg c];exact⟨rfl,λq=>absurd q c⟩
  rcases bQ.mp hx with rfl|hx
  ·exact same.2
  ·rw[same.1]at h;exact wU ls ks h x hx
theorem Cq{V:Tx->Prop}:∀(ls ks:List Tx),(∀x∈ls,V x.dropLast\/V x.tail->V x.dropLast/\V x.tail)->(∀z∈ks,V z)->∀z∈ls.foldl rS ks,V z
 |[],_,_,h,z,hz=>h z hz
 |x::ls,ks,hc,h,z,hz=>by
  refine Cq ls (rS ks x) (λy hy=>hc y (by simp[hy])) (λy hy=>?_) z hz;unfold rS at hy;split at hy
  ·rename_i c;have hv:=hc x (by simp) (c.imp (h _) (h _));rcases Rv.mp hy with hy|rfl
   ·rcases Rv.mp hy with hy|rfl
    ·exact h y hy
    ·exact hv.1
   ·exact hv.2
  ·exact h y hy
theorem yq:∀(ls ks:List Tx),(ls.foldl rS ks).length=ks.length->ls.foldl rS ks=ks
 |[],_,_=>rfl
 |y::ls,ks,h=>by
  rw[nY]at h ⊢;have h1:=zN ks y;have h2:=sB ls (rS ks y);have e:rS ks y=ks:=by
   have e1:(rS ks y).length=ks.length:=∅
   have st:=wU [y] ks e1 y (by simp);unfold rS;by_cases c:y.dropLast∈ks\/y.tail∈ks
   ·obtain⟨m1,m2⟩:=st c;have q1:fe ks y.dropLast=ks:=by unfold fe;rw[if_pos m1]
    rw[if_pos c,q1];unfold fe;rw[if_pos m2]
   ·rw[if_neg c]
  rw[e]at h ⊢;exact yq ls ks h
def e7(ls:List Tx):List Tx:=ls.map n_++ls.map List.tail
theorem Gu{ls ks:List Tx}(h:∀z∈ks,z∈e7 ls){x:Tx}(hx:x∈ls):∀z∈rS ks x,z∈e7 ls:=λz hz=>by
 unfold rS at hz;split at hz
 ·rcases Rv.mp hz with hz|rfl
  ·rcases Rv.mp hz with hz|rfl
   ·exact h z hz
   ·exact uo _ (cR.mpr ⟨x,hx,rfl⟩)
  ·exact iR _ (cR.mpr ⟨x,hx,rfl⟩)
 ·exact h z hz
structure Rch(ls ks:List Tx):Prop where
 nd:ks.Nodup
 sub:∀z∈ks,z∈e7 ls
 start:∀x r,ls=x::r->x.dropLast∈ks
 least:∀V:Tx->Prop,(∀x∈ls,V x.dropLast\/V x.tail->V x.dropLast/\V x.tail)->(∀x r,ls=x::r->V x.dropLast)->∀z∈ks,V z
theorem Rch.few{ls ks:List Tx}(h:Rch ls ks):ks.length<=2*ls.length:=by have:=len_sub h.nd h.sub;unfold e7 at this;simp at this;lia
theorem Rch.next{ls ks:List Tx}(h:Rch ls ks):Rch ls (ls.foldl rS ks):=by
 refine⟨BO ls h.nd,?_,λx r e=>EX ls (h.start x r e),λV hc hs=>Cq ls ks hc (h.least V hc hs)⟩;have gen:∀(l:List Tx) (ks:List Tx),(∀x∈l,x∈ls)->(∀z∈ks,z∈e7 ls)->∀z∈l.foldl rS ks,z∈e7 ls:=by
  intro l
  induction l with
  |nil=>exact λks _ h=>h
  |cons x l ih=>exact λks hl h=>ih (rS ks x) (λy hy=>hl y (by simp[hy])) (Gu h (hl x (by simp)))
 exact gen ls ks (λ_ h=>h) h.sub
section
variable{a:Ad}
theorem xb(x:Tx):df (.str x) af (aa (-1))=aa (.str x.dropLast):=by show aa (PV.str (gC x af (aa (-1))))=_;rw[EI]
theorem B9(x:Tx):df (.str x) (aa 1) af=aa (.str x.tail):=by show aa (PV.str (gC x (aa ((1:Nat):Int)) af))=_;rw[EE,List.drop_one]
def tt:ag->R PV:=cS df (dV 3) (dD) (cG (d1 fG (dC (.int 1))))
def sF:ag->R PV:=cS df (dV 3) (cG (dC (.int 1))) (dD)
def rI:ag->R aK:=bi (fu (dB (iJ aj 1 tt)) (dB (iJ aj 1 sF))) (ay (fz 1 tt (dC (.bl ah))) (fz 1 sF (dC (.bl ah)))) (bS)
def rC:ag->R Bool:=dB (d2 (cc λi j=>decide (i<j)) (dV 2) (l5 1))
def rB:ag->R aK:=ay (a9 2 (l5 1)) (bR 3 (bo (dV 0)) rI)
theorem Pd:yaK a=ay (cg 1 (sC (cS df (d2 b7 (dV 0) (dC (.int 0))) (dD) (cG (d1 fG (dC (.int 1))))) (dC (.bl ah)))) (ay (a9 2 (dC (.int 0))) (ay (λε=>cA (iE rC rB 1000 ε)) (jN 1))):=rfl
def dj(W:PV)(ks:List Tx)(n:Nat)(s3:Slot):ag:=[.val W,.own (.dK (cn ks)),.val (.int n),s3]
theorem FO(W:PV)(ks:List Tx)(n:Nat)(x:Tx):tt (dj W ks n (.val (.str x)))=.ok (.str x.dropLast) (dj W ks n (.val (.str x))):=by have h:=xb x;have hn:fG (.int 1)=aa (.int (-1)):=rfl;simp[tt,dj,cS,dD,cG,dV,d1,dC,R.bind,aC,hn,lc,h]
theorem Ev(W:PV)(ks:List Tx)(n:Nat)(x:Tx):sF (dj W ks n (.val (.str x)))=.ok (.str x.tail) (dj W ks n (.val (.str x))):=by have h:=B9 x;simp[sF,dj,cS,dD,cG,dV,dC,R.bind,aC,lc,h]
theorem Gy(W:PV)(ls:List Tx)(hl:ls.length<=100)(hW:iC W=aa (ak ls))(ks:List Tx)(h:Rch ls ks)(n:Nat)(s3:Slot):∃fN,bR 3 (bo (dV 0)) rI (dj W ks n s3)=.ok .next (dj W (ls.foldl rS ks) n fN):=by
 obtain⟨fN,e,_⟩:=z_ (i:=3) (db:=rI) (λks s3=>dj W ks n s3) rS (λks=>ks.Nodup/\∀z∈ks,z∈e7 ls) ls ks s3 ⟨h.nd,h.sub⟩
  (by
   rintro x hx ks s3 ⟨p1,p2⟩;refine⟨⟨BW p1,Gu p2 hx⟩,.val (.str x),?_⟩;have x6:ks.length<=200:=by have:=len_sub p1 p2;unfold e7 at this;simp at this;lia
   have i1:=dS (zu (neg:=aj) (i:=1) (FO W ks n x) rfl);have i2:=dS (zu (neg:=aj) (i:=1) (Ev W ks n x) rfl);rw[kE]at i1 i2;have hor:fu (dB (iJ aj 1 tt)) (dB (iJ aj 1 sF)) (dj W ks n (.val (.str x)))=.ok (decide (x.dropLast∈ks\/x.tail∈ks)) (dj W ks n (.val (.str x))):=by
    unfold fu;rw[i1,R.bind_ok];by_cases c:x.dropLast∈ks
    ·rw[decide_eq_true c,decide_eq_true (.inl c)]
    ·rw[decide_eq_false c];simp only;rw[i2];congr 1;simp[c]
   show rI (dj W ks n (.val (.str x)))=_;unfold rI rS;by_cases c:x.dropLast∈ks\/x.tail∈ks
   ·rw[decide_eq_true c]at hor;rw[if_pos c];refine(kl hor).trans ?_;have p1:=B4 (i:=1) (de:=dC (.bl ah)) (ε:=dj W ks n (.val (.str x))) rfl (FO W ks n x) ⟨_,rfl⟩ rfl (by unfold bC;lia);refine(bx p1).trans ?_;have lv:(fe ks x.dropLast).length<=ks.length+1:=by unfold fe;split <;> simp
    exact B4 (i:=1) (de:=dC (.bl ah)) (ε:=dj W (fe ks x.dropLast) n (.val (.str x))) rfl (Ev W (fe ks x.dropLast) n x) ⟨_,rfl⟩ rfl (by unfold bC;lia)
   ·rw[decide_eq_false c]at hor;rw[if_neg c];exact(iy hor).trans rfl)
 refine⟨fN,qF ?_ e⟩;unfold bo;rw[d9 (v:=W) rfl,R.bind_ok,hW];rfl
theorem vp(W:PV)(ks:List Tx)(n:Nat)(s3:Slot):rC (dj W ks n s3)=.ok (decide (n<ks.length)) (dj W ks n s3):=by
 have h1:l5 1 (dj W ks n s3)=.ok (.int (ks.length:Nat)) (dj W ks n s3):=by show R.ok (PV.int ((cn ks).length:Nat)) _=_;rw[vG]
 have hd:decide ((n:Int)<(ks.length:Nat))=decide (n<ks.length):=by
  by_cases q:n<ks.length
  ·rw[decide_eq_true q,decide_eq_true ∅]
  ·rw[decide_eq_false q,decide_eq_false ∅]
 refine dS (dX (x:=.int n) (d9 rfl) h1 ?_);show aa (PV.bl (decide ((n:Int)<(ks.length:Nat))))=_;rw[hd]
theorem NZ(W:PV)(ls:List Tx)(hl:ls.length<=100)(hW:iC W=aa (ak ls)):∀(j:Nat) (ks:List Tx) (n ft:Nat) (s3:Slot),2*ls.length<=ks.length+j->j+2<=ft->n<ks.length->Rch ls ks -> ∃ks' n' fN,Rch ls ks'/\(∀x∈ls,x.dropLast∈ks'\/x.tail∈ks'->x.dropLast∈ks'/\x.tail∈ks')/\iE rC rB ft (dj W ks n s3)=.ok .next (dj W ks' n' fN):=by
 intro j
 induction j with
 |zero=>
  intro ks n ft s3 h1 hf hn h;obtain⟨f,rfl⟩:∃f,ft=f+1+1:=⟨ft-2,∅⟩
  obtain⟨fN,e⟩:=Gy W ls hl hW ks h ks.length s3;have k0:=h.few;have k1:=h.next.few;have k2:=sB ls ks;have x5:=yq ls ks ∅;have fY:=wU ls ks (by rw[x5]);rw[x5]at e;have c:=vp W ks n s3;rw[decide_eq_true hn]at c;have hb:rB (dj W ks n s3)=.ok .next (dj W ks ks.length fN):=by
   unfold rB;have k:a9 2 (l5 1) (dj W ks n s3)=.ok .next (dj W ks ks.length s3):=by refine iD (x:=.int (ks.length:Nat)) (ε1:=dj W ks n s3) ?_;show R.ok (PV.int ((cn ks).length:Nat)) _=_;rw[vG]
   exact(bx k).trans e
  have c2:=vp W ks ks.length fN;rw[decide_eq_false (fj _)]at c2;exact⟨ks,ks.length,fN,h,fY,(zL c hb).trans (FA c2)⟩
 |succ j ih=>
  intro ks n ft s3 h1 hf hn h;obtain⟨f,rfl⟩:∃f,ft=f+1:=⟨ft-1,∅⟩
  obtain⟨fN,e⟩:=Gy W ls hl hW ks h ks.length s3;have k2:=sB ls ks;have c:=vp W ks n s3;rw[decide_eq_true hn]at c;have hb:rB (dj W ks n s3)=.ok .next (dj W (ls.foldl rS ks) ks.length fN):=by
   unfold rB;have k:a9 2 (l5 1) (dj W ks n s3)=.ok .next (dj W ks ks.length s3):=by refine iD (x:=.int (ks.length:Nat)) (ε1:=dj W ks n s3) ?_;show R.ok (PV.int ((cn ks).length:Nat)) _=_;rw[vG]
   exact(bx k).trans e
  by_cases q:(ls.foldl rS ks).length=ks.length
  ·have x5:=yq ls ks q;have fY:=wU ls ks q;rw[x5]at hb;obtain⟨f',rfl⟩:∃f',f=f'+1:=⟨f-1,∅⟩
   have c2:=vp W ks ks.length fN;rw[decide_eq_false (fj _)]at c2;exact⟨ks,ks.length,fN,h,fY,(zL c hb).trans (FA c2)⟩
  ·obtain⟨ks',n',s',r1,r2,r3⟩:=ih (ls.foldl rS ks) ks.length f fN ∅ ∅ ∅ h.next;exact⟨ks',n',s',r1,r2,(zL c hb).trans r3⟩
theorem Ps(W:PV)(x:Tx)(r:List Tx)(hl:r.length<=50)(hW:iC W=aa (ak (x::r)))(hW0:b7 W (.int 0)=aa (.str x)):∃ks,Rch (x::r) ks/\(∀y∈x::r,y.dropLast∈ks\/y.tail∈ks->y.dropLast∈ks/\y.tail∈ks)/\nu a [.val W]=.ok (.own (.dK (cn ks))) [.val W]:=by
 have h0:Rch (x::r) [x.dropLast]:=⟨by simp,λz hz=>by simp at hz;rw[hz];simp[e7],λy q e=>by cases e;simp,λV _ hs z hz=>by simp at hz;rw[hz];exact hs x r rfl⟩
 obtain⟨ks,n,s3,p1,p2,hw⟩:=NZ W (x::r) (by simp;lia) hW (2*(x::r).length) [x.dropLast] 0 1000 .none ∅ (by simp;lia) (by simp) h0;refine⟨ks,p1,p2,?_⟩;have hsl:=xb x;have hn:fG (.int 1)=aa (.int (-1)):=rfl;have k1:cg 1 (sC (cS df (d2 b7 (dV 0) (dC (.int 0))) (dD) (cG (d1 fG (dC (.int 1))))) (dC (.bl ah))) [.val W,.none,.none,.none]=.ok .next [.val W,.own (.dK (cn [x.dropLast])),.none,.none]:=by simp[cg,sC,cS,dD,cG,d2,d1,dV,dC,R.bind,aC,hW0,hn,lc,hsl,iu,cn]
 have k2:a9 2 (dC (.int 0)) [.val W,.own (.dK (cn [x.dropLast])),.none,.none]=.ok .next (dj W [x.dropLast] 0 .none):=rfl;have hb:yaK a [.val W,.none,.none,.none]=.ok (.ret (.own (.dK (cn ks)))) [.val W,.none,.val (.int n),s3]:=by rw[Pd];refine(bx k1).trans ?_;refine(bx k2).trans ?_;refine(bx (d1:=λε=>cA (iE rC rB 1000 ε)) (by show cA _=_;rw[hw];rfl)).trans ?_;exact Dw rfl
 unfold nu;generalize yaK a=D at hb;generalize cn ks=A at hb;simp[bD,eZ,bq,bG,hb,back,aC,R.bind,fQ]
theorem NL{v:Nat}{x:Tx}{r ks:List Tx}(hl:∀y∈x::r,y.length=v+1)(h:Rch (x::r) ks)(hc:∀y∈x::r,y.dropLast∈ks\/y.tail∈ks->y.dropLast∈ks/\y.tail∈ks):(∀y∈x::r,y.dropLast∈ks)↔oH v (x::r):=by
 have hd:∀y∈x::r,y.take v=y.dropLast:=λy hy=>by rw[Hl,hl y hy];rfl
 constructor
 ·intro ha V ⟨y,hy,hv⟩ pV z hz;have hV:∀y∈x::r,V y.dropLast\/V y.tail->V y.dropLast/\V y.tail:=λy hy q=>by have:=pV y hy;rw[hd y hy]at this;exact this q
  rw[hd y hy]at hv;rw[hd z hz];by_cases c:V x.dropLast
  ·exact h.least V hV (λ_ _ e=>by cases e;exact c) _ (ha z hz)
  ·have:=h.least (λq=>¬V q) (λy hy q=>by
     have:=hV y hy;refine⟨λn=>?_,λn=>?_⟩
     ·rcases q with q|q
      ·exact q n
      ·exact q (this (.inl n)).2
     ·rcases q with q|q
      ·exact q (this (.inr n)).1
      ·exact q n) (λ_ _ e=>by cases e;exact c) _ (ha y hy)
   exact absurd hv this
 ·intro con y hy;have:=con (λq=>q∈ks) ⟨x,by simp,by rw[hd x (by simp)];exact h.start x r rfl⟩ (λy hy q=>by rw[hd y hy]at q ⊢;exact hc y hy q) y hy;rwa[hd y hy]at this
end
def kn(m:List (Tx×Int))(x:Tx):List (Tx×Int):=cE (cE m x.dropLast ((bv m x.dropLast).getD 0+1)) x.tail ((bv (cE m x.dropLast ((bv m x.dropLast).getD 0+1)) x.tail).getD 0-1)
def b1(p:Prop)[Decidable p]:Int:=if p then 1 else 0
theorem Nr(m:List (Tx×Int))(x y:Tx):(bv (kn m x) y).getD 0=(bv m y).getD 0+b1 (x.dropLast=y)-b1 (x.tail=y):=by
 unfold kn b1;rw[lE,lE,lE];by_cases h1:y=x.tail
 ·subst h1;by_cases h2:x.tail=x.dropLast
  ·rw[if_pos rfl,if_pos h2,if_pos h2.symm,if_pos rfl,h2];simp
  ·rw[if_pos rfl,if_neg h2,if_neg (c8 h2),if_pos rfl];simp
 ·rw[if_neg h1,if_neg (c8 h1)];by_cases h2:y=x.dropLast
  ·subst h2;rw[if_pos rfl,if_pos rfl];simp
  ·rw[if_neg h2,if_neg (c8 h2)];simp
theorem Dx(m:List (Tx×Int))(x y:Tx):y∈ks (kn m x)↔y∈ks m\/y=x.dropLast\/y=x.tail:=by
 have k:∀(m:List (Tx×Int)) (z:Tx),z∈ks m↔(bv m z).isSome=ah:=λm z=>by rw[qL,decide_eq_true_eq]
 rw[k,k];unfold kn;generalize (bv (cE m x.dropLast ((bv m x.dropLast).getD 0+1)) x.tail).getD 0-1=n1;generalize (bv m x.dropLast).getD 0+1=n2;rw[lE,lE];by_cases h1:y=x.tail
 ·rw[if_pos h1];simp[h1]
 ·rw[if_neg h1];by_cases h2:y=x.dropLast
  ·rw[if_pos h2];simp[h2]
  ·rw[if_neg h2];simp[h1,h2]
def br(ls:List Tx):List (Tx×Int):=ls.foldl kn []
def exc(ls:List Tx)(y:Tx):Int:=(ls.map λx=>b1 (x.dropLast=y)-b1 (x.tail=y)).sum
theorem Em:∀(ls:List Tx) (m:List (Tx×Int)) (y:Tx),(bv (ls.foldl kn m) y).getD 0=(bv m y).getD 0+exc ls y
 |[],m,y=>by simp[exc]
 |x::ls,m,y=>by rw[nY,Em ls,Nr];simp only[exc,cQ,j2];lia
theorem Av(ls:List Tx)(y:Tx):(bv (br ls) y).getD 0=exc ls y:=by unfold br;rw[Em];show 0+_=_;lia
theorem Fu:∀(ls:List Tx) (m:List (Tx×Int)) (y:Tx),y∈ks (ls.foldl kn m)↔y∈ks m\/y∈e7 ls
 |[],m,y=>by simp[e7]
 |x::ls,m,y=>by
  rw[nY,Fu ls,Dx];simp only[e7,cQ,nM,bQ];constructor
  ·rintro((h|h|h)|h|h)
   ·exact .inl h
   ·exact .inr (.inl (.inl h))
   ·exact .inr (.inr (.inl h))
   ·exact .inr (.inl (.inr h))
   ·exact .inr (.inr (.inr h))
  ·rintro(h | (h|h)|h|h)
   ·exact .inl (.inl h)
   ·exact .inl (.inr (.inl h))
   ·exact .inr (.inl h)
   ·exact .inl (.inr (.inr h))
   ·exact .inr (.inr h)
theorem vh(ls:List Tx)(y:Tx):y∈ks (br ls)↔y∈e7 ls:=by unfold br;rw[Fu];simp
theorem DV:∀(ls:List Tx) (m:List (Tx×Int)),(ks m).Nodup->(ks (ls.foldl kn m)).Nodup
 |[],_,h=>h
 |x::ls,m,h=>DV ls _ (oI (oI h))
theorem FF(ls:List Tx):(ks (br ls)).Nodup:=DV ls [] (by simp)
section
variable{a:Ad}
def ua:ag->R PV:=cS df (dV 2) (dD) (cG (d1 fG (dC (.int 1))))
def re:ag->R PV:=cS df (dV 2) (cG (dC (.int 1))) (dD)
def xB:ag->R aK:=ay (fz 1 ua (d2 bg (h_ 1 ua (dC (.int 0))) (dC (.int 1)))) (fz 1 re (d2 gR (h_ 1 re (dC (.int 0))) (dC (.int 1))))
theorem Mu:yap a=ay (cg 1 (qw)) (ay (λε=>cA (bR 2 (bo (dV 0)) xB ε)) (jN 1)):=rfl
def g8(W:PV)(m:List (Tx×Int))(s:Slot):ag:=[.val W,.own (.dK (dk m)),s]
theorem CG(W:PV)(m:List (Tx×Int))(x:Tx):ua (g8 W m (.val (.str x)))=.ok (.str x.dropLast) (g8 W m (.val (.str x))):=by have h:=xb x;have hn:fG (.int 1)=aa (.int (-1)):=rfl;simp[ua,g8,cS,dD,cG,dV,d1,dC,R.bind,aC,hn,lc,h]
theorem Gd(W:PV)(m:List (Tx×Int))(x:Tx):re (g8 W m (.val (.str x)))=.ok (.str x.tail) (g8 W m (.val (.str x))):=by have h:=B9 x;simp[re,g8,cS,dD,cG,dV,dC,R.bind,aC,lc,h]
theorem BR{i:Nat}{db:ag->R PV}{ε:ag}{z:Tx}{m:List (Tx×Int)}{n:Int}(hb:db ε=.ok (.str z) ε)(ho:cH ε i=aa (dk m)):h_ i db (dC (.int n)) ε=.ok (.int ((bv m z).getD n)) ε:=by
 unfold h_;rw[ho];simp only[bw,R.bind_ok];rw[hb,R.bind_ok];show((R.ok (PV.int n) ε).bind _)=_;rw[R.bind_ok,ho];simp only[bw,R.bind_ok];show aC (aa ((iI (dk m) (.inr (tS z))).getD (.int n))) ε=_;rw[qf];cases bv m z <;> rfl
theorem Pk(W:PV)(ls:List Tx)(hl:ls.length<=100)(hW:iC W=aa (ak ls)):qd a [.val W]=.ok (.own (.dK (dk (br ls)))) [.val W]:=by
 obtain⟨s2,e,_⟩:=z_ (i:=2) (db:=xB) (λm s=>g8 W m s) kn (λm=>(ks m).Nodup/\∀z∈ks m,z∈e7 ls) ls [] .none ⟨by simp,by simp⟩
  (by
   rintro x hx m s ⟨p1,p2⟩;have m1:(ks (kn m x)).Nodup:=oI (oI p1);have hd:x.dropLast∈e7 ls:=by unfold e7;exact uo _ (By hx)
   have ht:x.tail∈e7 ls:=by unfold e7;exact iR _ (By hx)
   refine⟨⟨m1,λz hz=>?_⟩,.val (.str x),?_⟩
   ·rcases(Dx m x z).mp hz with h|h|h
    ·exact p2 z h
    ·rw[h];exact hd
    ·rw[h];exact ht
   ·have few:∀{q:List (Tx×Int)},(ks q).Nodup->(∀z∈ks q,z∈e7 ls)->q.length<=200:=λ{q} n s=>by
     have:=len_sub n s;unfold e7 at this;simp at this;lia
    have hm:=few p1 p2;have hM:(1000:Nat)<=bC:=by decide
    have g1:=BR (i:=1) (n:=0) (CG W m x) rfl;have e1:d2 bg (h_ 1 ua (dC (.int 0))) (dC (.int 1)) (g8 W m (.val (.str x)))=.ok (.int ((bv m x.dropLast).getD 0+1)) (g8 W m (.val (.str x))):=by unfold d2;rw[g1,R.bind_ok];rfl
    have s1:=CA (i:=1) e1 (CG W m x) ⟨_,rfl⟩ rfl (m:=m) ∅;generalize hm1:cE m x.dropLast ((bv m x.dropLast).getD 0+1)=q at s1;have q1:(ks q).Nodup:=by rw[←hm1];exact oI p1
    have q2:∀z∈ks q,z∈e7 ls:=λz hz=>by
     have:(bv q z).isSome=ah:=by rw[qL];exact decide_eq_true hz
     rw[←hm1,lE]at this;by_cases c:z=x.dropLast
     ·rw[c];exact hd
     ·rw[if_neg c,qL,decide_eq_true_eq]at this;exact p2 z this
    have hq:=few q1 q2;have g2:=BR (i:=1) (n:=0) (Gd W q x) rfl;have e2:d2 gR (h_ 1 re (dC (.int 0))) (dC (.int 1)) (g8 W q (.val (.str x)))=.ok (.int ((bv q x.tail).getD 0-1)) (g8 W q (.val (.str x))):=by unfold d2;rw[g2,R.bind_ok];rfl
    have s2:=CA (i:=1) e2 (Gd W q x) ⟨_,rfl⟩ rfl (m:=q) ∅;show xB (g8 W m (.val (.str x)))=_;unfold xB;refine(bx s1).trans ?_;refine Eq.trans (show fz 1 re _ _=_ from s2) ?_;unfold kn;rw[hm1];rfl)
 have hb:yap a [.val W,.none,.none]=.ok (.ret (.own (.dK (dk (br ls))))) [.val W,.none,s2]:=by
  rw[Mu];refine(bx (show cg 1 qw [.val W,.none,.none]=.ok .next (g8 W [] .none)from rfl)).trans ?_;have hf:bR 2 (bo (dV 0)) xB (g8 W [] .none)=.ok .next (g8 W (br ls) s2):=by
   unfold bR;have:bo (dV 0) (g8 W [] .none)=.ok (ak ls) (g8 W [] .none):=by unfold bo;show(R.ok W _).bind _=_;rw[R.bind_ok,hW];rfl
   rw[this,R.bind_ok];exact e
  refine(bx (d1:=λε=>cA (bR 2 (bo (dV 0)) xB ε)) (by show cA _=_;rw[hf];rfl)).trans ?_;exact Dw rfl
 unfold qd;generalize yap a=D at hb;generalize dk (br ls)=A at hb;simp[bD,eZ,bq,bG,hb,back,aC,R.bind,fQ]
end
theorem wb{ε:ag}{i:Nat}{s:Slot}(h:ε[i]?=aa s):ε.set i s=ε:=by
 apply xQ;intro j;by_cases hj:i=j
 ·subst hj;rw[cP (cO.mp h).1,h]
 ·rw[cu hj]
theorem Gi{α:Type}{d:ag->R α}{x:PV}{ε:ag}{i:Nat}{po:PO}{r:α}(hi:ε[i]?=aa (.own po))(hd:d [.val x,.own po]=.ok r [.val x,.own po]):bA (dN [i] d x ε)=.ok r ε:=by simp[dN,dz,hi,bA,R.bind,aC,bu,bW,hd,cb,cf,b_,wb hi]
theorem C6{α:Type}{d:ag->R α}{x y:PV}{ε:ag}{i:Nat}{po:PO}{r:α}(hi:ε[i]?=aa (.own po))(hd:d [.val x,.val y,.own po]=.ok r [.val x,.val y,.own po]):bA (k9 [i] d x y ε)=.ok r ε:=by simp[k9,dz,hi,bA,R.bind,aC,bu,bW,hd,cb,cf,b_,wb hi]
theorem DQ{cap:List Nat}{dt:ag->R Bool}{de:ag->R PV}{ε:ag}(p:PV×PV->Bool)(f:PV×PV->PV):∀(xs:List (PV×PV)),(∀x∈xs,bA (k9 cap dt x.1 x.2 ε)=.ok (p x) ε/\(p x=ah->bA (k9 cap de x.1 x.2 ε)=.ok (f x) ε))->∀bb,m8 cap dt de xs bb ε=.ok (bb++(xs.filter p).map f) ε
 |[],_,bb=>by simp[m8]
 |x::xs,h,bb=>by
  have h1:=h x (by simp);have ih:=DQ p f xs (λy hy=>h y (by simp[hy]));unfold m8;rw[h1.1,R.bind_ok];cases hp:p x
  ·rw[ih bb,rQ,hp];rfl
  ·show(bA (k9 cap de x.1 x.2 ε)).bind _=_;rw[h1.2 hp,R.bind_ok,ih,rQ,hp];simp
theorem Fi:∀m:List (Tx×Int),o0 (dk m)=aa (ks m)
 |[]=>rfl
 |p::m=>by show(o0 (dk m)).map _=_;rw[Fi m];simp[tS]
def gQ(ls:List Tx):List Tx:=(bf (ks (br ls))).filter λy=>decide (0<exc ls y)
def Gn(ls:List Tx):PV->Bool
 |.str y=>decide (0<exc ls y)
 |_=>aj
theorem Ma(ls:List Tx)(zs:List Tx):((ak zs).filter (Gn ls)).map (λx=>x)=ak (zs.filter λy=>decide (0<exc ls y)):=by rw[List.map_id'];unfold ak;rw[xU];rfl
def tT(ks:List Tx):PV×PV->Bool
 | (_,.str y)=>decide (y.dropLast∈ks)
 |_=>aj
theorem Gc(ks:List Tx):∀(n:Nat) (ls:List Tx),((i7 (λi=>PV.int (i:Nat)) n (ak ls)).filter (tT ks)).length=(ls.filter λy=>decide (y.dropLast∈ks)).length
 |n,[]=>rfl
 |n,y::ls=>by
  have ih:=Gc ks (n+1) ls;show(((PV.int n,PV.str y)::i7 _ (n+1) (ak ls)).filter (tT ks)).length=_;have e:tT ks (PV.int n,PV.str y)=decide (y.dropLast∈ks):=rfl;rw[rQ,rQ,e];by_cases c:y.dropLast∈ks
  ·rw[decide_eq_true c,if_pos rfl,if_pos rfl,eF,eF,ih]
  ·rw[decide_eq_false c,if_neg (by decide),if_neg (by decide)];exact ih
theorem D5(f:Nat->PV):∀(n:Nat) (ls:List Tx),∀q∈i7 f n (ak ls),∃k y,q=(f k,.str y)
 |n,[],q,h=>by cases h
 |n,y::ls,q,h=>by
  rcases bQ.mp h with h|h
  ·exact⟨n,y,h⟩
  ·exact D5 f (n+1) ls q h
section
variable{a:Ad}
def sE:ag->R PV:=cS df (dV 1) (dD) (cG (d1 fG (dC (.int 1))))
def f2(a:Ad):ag->R aK:=a9 2 (dF (cq [1] (bo (dF (nL 1))) (dB (d2 (cc λi j=>decide (j<i)) (ig 1 (dV 0)) (dC (.int 0)))) (dV 0)))
def f3:ag->R aK:=bi (dB (d2 (cc λi j=>decide (j<i)) (dL bc (ar (dV 2) (aA))) (dC (.int 1)))) (bH (dL eu (ar (dC (.str [116,119,111])) (ar (d2 b7 (dV 2) (dC (.int 0))) (ar (d2 b7 (dV 2) (dC (.int 1))) (aA)))))) (bS)
def f4:ag->R aK:=bi (j5 (dB (d2 (eqT aj) (dL bc (ar (dV 2) (aA))) (dC (.int 1)))) (dB (d2 (cc λi j=>decide (j<i)) (ig 1 (d2 b7 (dV 2) (dC (.int 0)))) (dC (.int 1))))) (bH (dL eu (ar (dC (.str [109,111,114,101])) (ar (d2 b7 (dV 2) (dC (.int 0))) (aA))))) (bS)
def f6:ag->R aK:=a9 4 (dF (oU [3] (tq (ar (dV 0) (aA))) (dB (iJ aj 2 sE)) (dV 0)))
def f7:ag->R aK:=bi (dB (d2 (cc λi j=>decide (i<j)) (dL bc (ar (dV 4) (aA))) (dL bc (ar (dV 0) (aA))))) (bH (dL eu (ar (dC (.str [97,112,97,114,116])) (ar (dL i_ (ar (dV 4) (aA))) (aA))))) (bS)
theorem Qs:yaq a=ay (cg 1 (ix (aM (qd a) (gV (dV 0) (Pu.bK))))) (ay (f2 a) (ay f3 (ay f4 (ay (cg 3 (ix (aM (nu a) (gV (dV 0) (Pu.bK))))) (ay f6 (ay f7 (bH (dC .non)))))))):=rfl
theorem BK{G:ag->R Slot}{W:PV}{ε:ag}{i:Nat}{po:PO}(h0:ε[0]?=aa (.val W))(hg:G [.val W]=.ok (.own po) [.val W])(hi:i<ε.length):cg i (ix (aM G (gV (dV 0) (Pu.bK)))) ε=.ok .next (ε.set i (.own po)):=by simp[cg,ix,aM,gV,Pu.bK,dV,h0,R.bind,aC,bu,bW,hg,cb,cf,b_,tN,hi]
theorem LR(W:PV)(ls:List Tx)(hl:ls.length<=20)(hx:∀y∈ls,y.length<=100)(s2 s3 s4:Slot):f2 a [.val W,.own (.dK (dk (br ls))),s2,s3,s4]=.ok .next [.val W,.own (.dK (dk (br ls))),.val (.lst (ak (gQ ls))),s3,s4]:=by
 unfold f2;have few:(ks (br ls)).length<64:=by have:=len_sub (FF ls) (λz hz=>(vh ls z).mp hz);unfold e7 at this;simp at this ⊢;lia
 have sm:∀z∈ks (br ls),z.length<=bC:=λz hz=>by
  have:=(vh ls z).mp hz;have hM:(1000:Nat)<=bC:=by decide
  unfold e7 at this;simp only[nM,cR]at this;rcases this with⟨y,hy,rfl⟩|⟨y,hy,rfl⟩
  ·have:=hx y hy;simp;lia
  ·have:=hx y hy;simp;lia
 have hs:nL 1 [.val W,.own (.dK (dk (br ls))),s2,s3,s4]=.ok (.lst (ak (bf (ks (br ls))))) [.val W,.own (.dK (dk (br ls))),s2,s3,s4]:=by unfold nL;show aC (vS (dk (br ls))) _=_;unfold vS;rw[Fi];show aC (if _ then _ else _) _=_;rw[if_pos ⟨few,sm⟩];rfl
 have hi:bo (dF (nL 1)) [.val W,.own (.dK (dk (br ls))),s2,s3,s4]=.ok (ak (bf (ks (br ls)))) [.val W,.own (.dK (dk (br ls))),s2,s3,s4]:=by unfold bo dF;rw[hs];rfl
 have hc:=j8 (cap:=[1]) (dt:=dB (d2 (cc λi j=>decide (j<i)) (ig 1 (dV 0)) (dC (.int 0)))) (de:=dV 0) (ε:=[.val W,.own (.dK (dk (br ls))),s2,s3,s4]) (Gn ls) (λx=>x) (ak (bf (ks (br ls)))) (λx hx=>by
  obtain⟨y,hy,rfl⟩:=cR.mp hx;have hk:y∈ks (br ls):=(eY _).mem_iff.mp hy;have hg:bv (br ls) y=aa (exc ls y):=by
   have h1:(bv (br ls) y).isSome=ah:=by rw[qL];exact decide_eq_true hk
   have h2:=Av ls y;cases h:bv (br ls) y with
   |none=>rw[h]at h1;cases h1
   |some n=>rw[h]at h2;rw[←h2];rfl
  refine⟨Gi rfl ?_,λ_=>Gi rfl rfl⟩;refine dS ?_;unfold d2;rw[E9 (i:=1) (db:=dV 0) (ε:=[.val (.str y),.own (.dK (dk (br ls)))]) ⟨_,rfl⟩ rfl rfl hg,R.bind_ok];rfl) []
 refine(iD (x:=.lst (ak (gQ ls))) (ε1:=[.val W,.own (.dK (dk (br ls))),s2,s3,s4]) ?_).trans rfl;have hk:cq [1] (bo (dF (nL 1))) (dB (d2 (cc λi j=>decide (j<i)) (ig 1 (dV 0)) (dC (.int 0)))) (dV 0) [.val W,.own (.dK (dk (br ls))),s2,s3,s4]=.ok (.lst (ak (gQ ls))) [.val W,.own (.dK (dk (br ls))),s2,s3,s4]:=by unfold cq;rw[hi,R.bind_ok,hc,R.bind_ok,jz,Ma];rfl
 show(cq _ _ _ _ _).bind _=_;rw[hk];rfl
def jd(ks ls:List Tx):List PV:=((tO (ak ls)).filter (tT ks)).map (·.1)
theorem wx(y:Tx)(r:List Tx):b7 (.lst (ak (y::r))) (.int 0)=aa (.str y):=by show f_ (.str y::ak r) 0=_;rw[wG (by decide) (by simp)];rfl
theorem Oi(y z:Tx)(r:List Tx):b7 (.lst (ak (y::z::r))) (.int 1)=aa (.str z):=by show f_ (.str y::.str z::ak r) 1=_;rw[wG (by decide) (by simp)];rfl
theorem Ip(ls ks:List Tx)(s1 s2 s4:Slot):f6 [.val (.lst (ak ls)),s1,s2,.own (.dK (cn ks)),s4]=.ok .next [.val (.lst (ak ls)),s1,s2,.own (.dK (cn ks)),.val (.lst (jd ks ls))]:=by
 unfold f6;have hi:tq (ar (dV 0) (aA)) [.val (.lst (ak ls)),s1,s2,.own (.dK (cn ks)),s4]=.ok (tO (ak ls)) [.val (.lst (ak ls)),s1,s2,.own (.dK (cn ks)),s4]:=rfl;have hc:=DQ (cap:=[3]) (dt:=dB (iJ aj 2 sE)) (de:=dV 0) (ε:=[.val (.lst (ak ls)),s1,s2,.own (.dK (cn ks)),s4]) (tT ks) (·.1) (tO (ak ls)) (λx hx=>by
  obtain⟨k,y,rfl⟩:=D5 _ 0 ls x hx;refine⟨C6 rfl ?_,λ_=>C6 rfl rfl⟩;have hb:sE [.val (PV.int k),.val (.str y),.own (.dK (cn ks))]=.ok (.str y.dropLast) [.val (PV.int k),.val (.str y),.own (.dK (cn ks))]:=by have h:=xb y;have hn:fG (.int 1)=aa (.int (-1)):=rfl;simp[sE,cS,dD,cG,dV,d1,dC,R.bind,aC,hn,lc,h]
  have:=dS (zu (neg:=aj) (i:=2) hb rfl);rw[kE]at this;exact this) []
 refine(iD (x:=.lst (jd ks ls)) (ε1:=[.val (.lst (ak ls)),s1,s2,.own (.dK (cn ks)),s4]) ?_).trans rfl;have hk:oU [3] (tq (ar (dV 0) (aA))) (dB (iJ aj 2 sE)) (dV 0) [.val (.lst (ak ls)),s1,s2,.own (.dK (cn ks)),s4]=.ok (.lst (jd ks ls)) [.val (.lst (ak ls)),s1,s2,.own (.dK (cn ks)),s4]:=by unfold oU;rw[hi,R.bind_ok,hc,R.bind_ok,jz];rfl
 show(oU _ _ _ _ _).bind _=_;rw[hk];rfl
theorem BQ(ks ls:List Tx):(jd ks ls).length<ls.length↔¬∀y∈ls,y.dropLast∈ks:=by
 have e:(jd ks ls).length=(ls.filter λy=>decide (y.dropLast∈ks)).length:=by unfold jd;rw[c9];exact Gc ks 0 ls
 rw[e];constructor
 ·intro h ha;rw[uJ.mpr (λy hy=>decide_eq_true (ha y hy))]at h;lia
 ·intro h;refine Decidable.byContradiction λq=>h λy hy=>?_;have hle:=xV (λy:Tx=>decide (y.dropLast∈ks)) ls;have:=List.length_filter_eq_length_iff.mp (show(ls.filter λy=>decide (y.dropLast∈ks)).length=ls.length by lia) y hy;exact of_decide_eq_true this
theorem xf{W pv:PV}{ε:ag}(h:yaq a [.val W,.none,.none,.none,.none]=.ok (.ret (.val pv)) (.val W::ε)):mV a [.val W]=.ok (.val pv) [.val W]:=by unfold mV;generalize yaq a=D at h;simp[bD,eZ,bq,bG,h,back,aC,R.bind,fQ]
theorem Pt{v:Nat}{x:Tx}{r:List Tx}(hl:∀y∈x::r,y.length=v+1)(hv:v<=20)(hr:r.length<=15):∃pv,mV a [.val (.lst (ak (x::r)))]=.ok (.val pv) [.val (.lst (ak (x::r)))]/\(pv=.non\/∃zs,pv=.tup zs) /\ (pv=.non↔(gQ (x::r)).length<=1/\(∀s∈gQ (x::r),exc (x::r) s<=1)/\oH v (x::r)):=by
 have h1:=BK (G:=qd a) (W:=.lst (ak (x::r))) (ε:=[.val (.lst (ak (x::r))),.none,.none,.none,.none]) (i:=1) rfl (Pk _ (x::r) (by simp;lia) rfl) (by simp);have h2:=LR (a:=a) (.lst (ak (x::r))) (x::r) (by simp;lia) (λy hy=>by have:=hl y hy;lia) .none .none .none;obtain⟨ks,k1,k2,hg⟩:=Ps (a:=a) (.lst (ak (x::r))) x r ∅ rfl (wx x r);have hcon:=NL hl k1 k2;have og:∀s∈gQ (x::r),bv (br (x::r)) s=aa (exc (x::r) s):=λs hs=>by
  have hk:s∈Sh.ks (br (x::r)):=(eY _).mem_iff.mp (lm.mp hs).1;have h1:(bv (br (x::r)) s).isSome=ah:=by rw[qL];exact decide_eq_true hk
  have h2:=Av (x::r) s;cases h:bv (br (x::r)) s with
  |none=>rw[h]at h1;cases h1
  |some n=>rw[h]at h2;rw[←h2];rfl
 have tail:∀S:List Tx,∃pv ε,ay (cg 3 (ix (aM (nu a) (gV (dV 0) (Pu.bK))))) (ay f6 (ay f7 (bH (dC .non)))) [.val (.lst (ak (x::r))),.own (.dK (dk (br (x::r)))),.val (.lst (ak S)),.none,.none]=.ok (.ret (.val pv)) (.val (.lst (ak (x::r)))::ε)/\(pv=.non\/∃zs,pv=.tup zs)/\(pv=.non↔oH v (x::r)):=by
  intro S;have h5:=BK (G:=nu a) (W:=.lst (ak (x::r))) (ε:=[.val (.lst (ak (x::r))),.own (.dK (dk (br (x::r)))),.val (.lst (ak S)),.none,.none]) (i:=3) rfl hg (by simp);have h6:=Ip (x::r) ks (.own (.dK (dk (br (x::r))))) (.val (.lst (ak S))) .none;rw[bx h5,bx (show f6 ([Slot.val (.lst (ak (x::r))),.own (.dK (dk (br (x::r)))),.val (.lst (ak S)),.none,.none].set 3 (.own (.dK (cn ks))))=_ from h6)];have hc:dB (d2 (cc λi j=>decide (i<j)) (dL bc (ar (dV 4) (aA))) (dL bc (ar (dV 0) (aA)))) [.val (.lst (ak (x::r))),.own (.dK (dk (br (x::r)))),.val (.lst (ak S)),.own (.dK (cn ks)),.val (.lst (jd ks (x::r)))]=.ok (decide (((jd ks (x::r)).length:Int)<((ak (x::r)).length:Int))) [.val (.lst (ak (x::r))),.own (.dK (dk (br (x::r)))),.val (.lst (ak S)),.own (.dK (cn ks)),.val (.lst (jd ks (x::r)))]:=rfl;have htx:(ak (x::r)).length=(x::r).length:=by unfold ak;rw[c9]
  by_cases c:∀y∈x::r,y.dropLast∈ks
  ·have hn:¬(((jd ks (x::r)).length:Int)<((ak (x::r)).length:Int)):=by
    rw[htx];have:=mt (BQ ks (x::r)).mp (λh=>h c);lia
   rw[decide_eq_false hn]at hc;refine⟨.non,[.own (.dK (dk (br (x::r)))),.val (.lst (ak S)),.own (.dK (cn ks)),.val (.lst (jd ks (x::r)))],?_,.inl rfl,⟨λ_=>hcon.mp c,λ_=>rfl⟩⟩;rw[bx (show f7 _=.ok .next _ by unfold f7 bi;rw[hc];rfl)];rfl
  ·have hn:((jd ks (x::r)).length:Int)<((ak (x::r)).length:Int):=by
    rw[htx];have:=(BQ ks (x::r)).mpr c;lia
   rw[decide_eq_true hn]at hc;refine⟨.tup [.str [97,112,97,114,116],.tup (jd ks (x::r))],[.own (.dK (dk (br (x::r)))),.val (.lst (ak S)),.own (.dK (cn ks)),.val (.lst (jd ks (x::r)))],?_,.inr ⟨_,rfl⟩,⟨(λh=>by cases h),λh=>absurd (hcon.mpr h) c⟩⟩;unfold ay f7 bi;rw[hc];rfl
 have body:∀(res:R aK),ay f3 (ay f4 (ay (cg 3 (ix (aM (nu a) (gV (dV 0) (Pu.bK))))) (ay f6 (ay f7 (bH (dC .non)))))) [.val (.lst (ak (x::r))),.own (.dK (dk (br (x::r)))),.val (.lst (ak (gQ (x::r)))),.none,.none]=res->yaq a [.val (.lst (ak (x::r))),.none,.none,.none,.none]=res:=by intro res h;rw[Qs,bx h1];exact(bx h2).trans h
 generalize hS:gQ (x::r)=S at og body ⊢
 match S,og,body with
 |[],_,body=>
  obtain⟨pv,ε,e,p1,p2⟩:=tail [];refine⟨pv,xf (ε:=ε) (body _ ?_),p1,?_⟩
  ·rw[bx (show f3 _=.ok .next _ from rfl),bx (show f4 _=.ok .next _ from rfl)];exact e
  ·rw[p2];simp
 |[s],og,body=>
  have hs:=og s (by simp);have hd:dB (d2 (cc λi j=>decide (j<i)) (ig 1 (d2 b7 (dV 2) (dC (.int 0)))) (dC (.int 1))) [.val (.lst (ak (x::r))),.own (.dK (dk (br (x::r)))),.val (.lst (ak [s])),.none,.none]=.ok (decide (1<exc (x::r) s)) [.val (.lst (ak (x::r))),.own (.dK (dk (br (x::r)))),.val (.lst (ak [s])),.none,.none]:=by refine dS (dX (E9 (i:=1) (db:=d2 b7 (dV 2) (dC (.int 0))) ⟨_,rfl⟩ (dX (x:=.lst (ak [s])) rfl rfl (wx s [])) rfl hs) rfl rfl)
  have hand:j5 (dB (d2 (eqT aj) (dL bc (ar (dV 2) (aA))) (dC (.int 1)))) (dB (d2 (cc λi j=>decide (j<i)) (ig 1 (d2 b7 (dV 2) (dC (.int 0)))) (dC (.int 1)))) [.val (.lst (ak (x::r))),.own (.dK (dk (br (x::r)))),.val (.lst (ak [s])),.none,.none]=.ok (decide (1<exc (x::r) s)) [.val (.lst (ak (x::r))),.own (.dK (dk (br (x::r)))),.val (.lst (ak [s])),.none,.none]:=by unfold j5;rw[show dB (d2 (eqT aj) (dL bc (ar (dV 2) (aA))) (dC (.int 1))) [.val (.lst (ak (x::r))),.own (.dK (dk (br (x::r)))),.val (.lst (ak [s])),.none,.none]=.ok ah [.val (.lst (ak (x::r))),.own (.dK (dk (br (x::r)))),.val (.lst (ak [s])),.none,.none] from rfl,R.bind_ok];exact hd
  by_cases c:1<exc (x::r) s
  ·rw[decide_eq_true c]at hand;refine⟨.tup [.str [109,111,114,101],.str s],xf (ε:=[.own (.dK (dk (br (x::r)))),.val (.lst (ak [s])),.none,.none]) (body _ ?_),.inr ⟨_,rfl⟩,⟨(λh=>by cases h),λh=>?_⟩⟩
   ·rw[bx (show f3 _=.ok .next _ from rfl)];unfold ay f4 bi;rw[hand];rfl
   ·have:=h.2.1 s (by simp);lia
  ·rw[decide_eq_false c]at hand;obtain⟨pv,ε,e,p1,p2⟩:=tail [s];refine⟨pv,xf (ε:=ε) (body _ ?_),p1,?_⟩
   ·rw[bx (show f3 _=.ok .next _ from rfl),bx (show f4 _=.ok .next _ by unfold f4 bi;rw[hand];rfl)];exact e
   ·rw[p2];refine⟨λh=>⟨by simp,λz hz=>?_,h⟩,λh=>h.2.2⟩;have:z=s:=by simpa using hz
    subst this;lia
 |s::s2::S,og,body=>
  refine⟨.tup [.str [116,119,111],.str s,.str s2],xf (ε:=[.own (.dK (dk (br (x::r)))),.val (.lst (ak (s::s2::S))),.none,.none]) (body _ ?_),.inr ⟨_,rfl⟩,⟨λh=>(by cases h),λh=>?_⟩⟩
  ·have i0:=wx s (s2::S);have i1:=Oi s s2 S;unfold ay f3 bi;have hc:dB (d2 (cc λi j=>decide (j<i)) (dL bc (ar (dV 2) (aA))) (dC (.int 1))) [.val (.lst (ak (x::r))),.own (.dK (dk (br (x::r)))),.val (.lst (ak (s::s2::S))),.none,.none]=.ok (decide ((1:Int)<((ak (s::s2::S)).length:Int))) [.val (.lst (ak (x::r))),.own (.dK (dk (br (x::r)))),.val (.lst (ak (s::s2::S))),.none,.none]:=rfl;rw[decide_eq_true (by unfold ak;simp;lia)]at hc;rw[hc];simp[R.bind,bH,dL,ar,aA,dC,dV,d2,aC,i0,i1,eu]
  ·have:=h.1;simp at this
end
theorem Da{v:Nat}:∀{ls:List Tx},(∀y∈ls,y.length=v+1)->∀y,exc ls y=(oc v ls y:Int)-(ic ls y:Int)
 |[],_,y=>rfl
 |x::ls,h,y=>by
  have ih:=Da (λz hz=>h z (by simp[hz])) (ls:=ls) y;have hx:x.take v=x.dropLast:=by rw[Hl,h x (by simp)];rfl
  have e:exc (x::ls) y=b1 (x.dropLast=y)-b1 (x.tail=y)+exc ls y:=by simp[exc]
  rw[e,ih];unfold oc ic b1;simp only[cQ,j2,hx];split <;> split <;> lia
theorem yZ{K:List Tx}(nd:K.Nodup){s:Tx}(hs:s∈K):(K.map λy=>b1 (s=y)).sum=1:=by
 have af:∀{K:List Tx},s∉K->(K.map λy=>b1 (s=y)).sum=0:=by
  intro K
  induction K with
  |nil=>intro _;rfl
  |cons y K ih=>intro h;simp only[bQ,not_or]at h;rw[cQ,j2,ih h.2];unfold b1;rw[if_neg h.1];rfl
 induction K with
 |nil=>cases hs
 |cons y K ih=>
  rw[cQ,j2];have nd':=jY.mp nd;by_cases c:s=y
  ·subst c;rw[af nd'.1];unfold b1;rw[if_pos rfl];rfl
  ·rw[ih nd'.2 (by rcases bQ.mp hs with h|h;exact absurd h c;exact h)];unfold b1;rw[if_neg c];rfl
theorem As(f g:Tx->Int):∀K:List Tx,(K.map λy=>f y-g y).sum=(K.map f).sum-(K.map g).sum
 |[]=>rfl
 |y::K=>by simp only[cQ,j2,As f g K];lia
theorem ER(f g:Tx->Int):∀K:List Tx,(K.map λy=>f y+g y).sum=(K.map f).sum+(K.map g).sum
 |[]=>rfl
 |y::K=>by simp only[cQ,j2,ER f g K];lia
theorem CK{K:List Tx}(nd:K.Nodup):∀{ls:List Tx},(∀x∈ls,x.dropLast∈K/\x.tail∈K)->(K.map (exc ls)).sum=0
 |[],_=>by
  show(K.map λ_=>(0:Int)).sum=0;clear nd;have gen:∀K:List Tx,(K.map λ_=>(0:Int)).sum=0:=λK=>by
   induction K with
   |nil=>rfl
   |cons y K ih=>rw[cQ,j2,ih];rfl
  exact gen K
 |x::ls,h=>by
  have ih:=CK nd (ls:=ls) λz hz=>h z (by simp[hz]);have e:exc (x::ls)=λy=>(b1 (x.dropLast=y)-b1 (x.tail=y))+exc ls y:=by funext y;simp[exc]
  rw[e,ER,ih,As,yZ nd (h x (by simp)).1,yZ nd (h x (by simp)).2];rfl
theorem Ab(f:Tx->Int):∀{K:List Tx},(∀y∈K,f y<=0)->(K.map f).sum<=0/\((K.map f).sum=0->∀y∈K,f y=0)
 |[],_=>⟨by simp,λ_ y h=>by cases h⟩
 |y::K,h=>by
  have ih:=Ab f (K:=K) λz hz=>h z (by simp[hz]);have hy:=h y (by simp);rw[cQ,j2];refine⟨∅,λe z hz=>?_⟩;rcases bQ.mp hz with rfl|hz
  ·lia
  ·exact ih.2 ∅ z hz
theorem F7(f:Tx->Int):∀{K:List Tx},(∀y∈K,f y<=0)->(K.map f).sum=-1->K.Nodup->∃e∈K,f e=-1/\∀y∈K,y≠e->f y=0
 |[],_,h,_=>by simp at h
 |y::K,h,hs,nd=>by
  have hK:∀z∈K,f z<=0:=λz hz=>h z (by simp[hz]);have az:=Ab f hK;have hy:=h y (by simp);have nd':=jY.mp nd;rw[cQ,j2]at hs;by_cases c:f y=0
  ·obtain⟨e,he,h1,h2⟩:=F7 f hK ∅ nd'.2;refine⟨e,by simp[he],h1,λz hz ne=>?_⟩;rcases bQ.mp hz with rfl|hz
   ·exact c
   ·exact h2 z hz ne
  ·refine⟨y,by simp,∅,λz hz ne=>?_⟩;rcases bQ.mp hz with rfl|hz
   ·exact absurd rfl ne
   ·exact az.2 ∅ z hz
theorem Ee{ls:List Tx}{y:Tx}(h:y∉ks (br ls)):exc ls y=0:=by
 have h1:(bv (br ls) y).isSome=aj:=by rw[qL];exact decide_eq_false h
 have h2:=Av ls y;cases e:bv (br ls) y with
 |none=>rw[e]at h2;exact h2.symm
 |some n=>rw[e]at h1;cases h1
theorem Rw{ls:List Tx}{s:Tx}:s∈gQ ls↔s∈ks (br ls)/\0<exc ls s:=by unfold gQ;rw[lm,decide_eq_true_eq,(eY _).mem_iff]
theorem LA{v:Nat}{x:Tx}{r:List Tx}(hl:∀y∈x::r,y.length=v+1):((gQ (x::r)).length<=1/\(∀s∈gQ (x::r),exc (x::r) s<=1)/\oH v (x::r))↔∃t,(a5 t (v+1)).Perm (x::r):=by
 have hoi:=Da hl;have nd:=FF (x::r);have pZ:∀y∈x::r,y.dropLast∈ks (br (x::r))/\y.tail∈ks (br (x::r)):=λy hy=>by rw[vh,vh];unfold e7;exact⟨uo _ (By hy),iR _ (By hy)⟩
 have Hv:=CK nd pZ;constructor
 ·rintro⟨h1,h2,con⟩;have hle:∀y∈ks (br (x::r)),y∉gQ (x::r)->exc (x::r) y<=0:=λy hy n=>by have:=mt (λh=>Rw.mpr ⟨hy,h⟩) n;lia
  cases hS:gQ (x::r)with
  |nil=>
   have hz:=(Ab _ (λy hy=>hle y hy (by rw[hS];simp))).2 Hv;obtain⟨t,_,_,ht⟩:=Cc hl con (s0:=x.take v) (e:=x.take v) ⟨x,by simp,rfl⟩ (λy=>by
    have:exc (x::r) y=0:=by
     by_cases c:y∈ks (br (x::r))
     ·exact hz y c
     ·exact Ee c
    rw[hoi]at this;lia)
   exact⟨t,ht⟩
  |cons s S=>
   rw[hS]at h1;have hS0:S=[]:=by cases S with|nil=>rfl|cons _ _=>simp at h1
   subst hS0;have hs:s∈gQ (x::r):=by rw[hS];simp
   obtain⟨sk,s0⟩:=Rw.mp hs;have s1:=h2 s hs;have hf:∀y∈ks (br (x::r)),exc (x::r) y-b1 (s=y)<=0:=λy hy=>by
    unfold b1;by_cases c:s=y
    ·rw[if_pos c,←c];lia
    ·rw[if_neg c];have:=hle y hy (by rw[hS];simp;exact c8 c);lia
   obtain⟨e,ek,e1,e2⟩:=F7 (λy=>exc (x::r) y-b1 (s=y)) hf (by rw[As,Hv,yZ nd sk];rfl) nd;have uL:∀y,exc (x::r) y=b1 (s=y)-b1 (e=y):=λy=>by
    by_cases c:y∈ks (br (x::r))
    ·by_cases ce:e=y
     ·subst ce;have:b1 (e=e)=1:=by unfold b1;rw[if_pos rfl]
      lia
     ·have:=e2 y c (c8 ce);have:b1 (e=y)=0:=by unfold b1;rw[if_neg ce]
      lia
    ·have c1:s≠y:=λz=>c (z ▸ sk);have c2:e≠y:=λz=>c (z ▸ ek);rw[Ee c];unfold b1;rw[if_neg c1,if_neg c2];rfl
   obtain⟨t,_,_,ht⟩:=Cc hl con (s0:=s) (e:=e) (Re.mp (by have:=hoi s;lia)) (λy=>by have h1:=uL y;rw[hoi]at h1;unfold b1 at h1;unfold b2;split <;> split <;> simp_all <;> lia);exact⟨t,ht⟩
 ·rintro⟨t,ht⟩;have htv:v<=t.length:=by have:=ht.length_eq;rw[nE ∅]at this;simp at this;lia
  have hd:∀y,exc (x::r) y=b1 (t.take v=y)-b1 (en v t=y):=λy=>by have:=tF htv y;rw[sy ht,sA ht]at this;rw[hoi];unfold b1;unfold b2 at this;split <;> split <;> simp_all <;> lia
  have hp:∀s∈gQ (x::r),s=t.take v:=λs hs=>by
   have:=(Rw.mp hs).2;rw[hd]at this;unfold b1 at this;by_cases c:t.take v=s
   ·exact c.symm
   ·rw[if_neg c]at this;split at this <;> lia
  refine⟨?_,λs hs=>?_,OZ ht⟩
  ·have ndp:(gQ (x::r)).Nodup:=by
    unfold gQ;exact((eY _).nodup_iff.mpr nd).filter _
   have:=len_sub ndp (m:=[t.take v]) (λz hz=>by rw[hp z hz];simp);simpa using this
  ·rw[hd];unfold b1;split <;> split <;> lia
end Sh
namespace K06
open L2 Pu Mx Sh
section
variable{a:Ad}
def rf(n:Int):PV:=.tup [.str [114,101,102,117,115,101,100],.int n]
def Wh(a:Ad):Prop:=[l6 a [.val (.exc (.ref a.NoWindow))],l6 a [.val (.exc (.ref a.Full))],l6 a [.val (.exc (.ref a.Nothing))]] =
 [.ok (.val (rf 3)) [.val (.exc (.ref a.NoWindow))],.ok (.val (rf 5)) [.val (.exc (.ref a.Full))],.ok (.val (rf 6)) [.val (.exc (.ref a.Nothing))]]
theorem Rt (h:[l6 a [.val (.exc (.ref a.NoWindow))],l6 a [.val (.exc (.ref a.Full))],l6 a [.val (.exc (.ref a.Nothing))]]=[.ok (.val (rf 3)) [.val (.exc (.ref a.NoWindow))],.ok (.val (rf 5)) [.val (.exc (.ref a.Full))],.ok (.val (rf 6)) [.val (.exc (.ref a.Nothing))]]):Wh a:=h
def sP(a:Ad)(c:ac)(n:Int):Prop:=mS a (.ref c)=ah/\l6 a [.val (.exc (.ref c))]=.ok (.val (rf n)) [.val (.exc (.ref c))]
theorem CM(h:Wh a):sP a a.NoWindow 3/\sP a a.Full 5/\sP a a.Nothing 6:=by unfold Wh at h;simp only[pQ,and_true]at h;exact⟨⟨by simp[mS,gh],h.1⟩,⟨by simp[mS,gh],h.2.1⟩,by simp[mS,gh],h.2.2⟩
def sr(a:Ad)(w:Nat)(x:PV):Prop:=k_ a [.val x,.val (.int w),.val (.str [97,98,99])]=.ok (.val (.bl aj)) [.val x,.val (.int w),.val (.str [97,98,99])]
theorem PX{w:Nat}{x:PV}(h:sr a w x):qA a [.val x,.val (.int w)]=.er (.ref a.NoWindow) [.val x,.val (.int w)]:=by unfold sr at h;simp![qA,yan,lH,bA,h]
theorem KU{w:Nat}{L:List PV}{x:PV}(h:sr a w x):lg a [.own (SL a w L),.val x]=.er (.ref a.NoWindow) [.own (SL a w L),.val x]:=by have hc:=PX h;have h1:=l8 (a:=a) w L [.val x];have h2:=sS w;generalize SL a w L=P at h1 ⊢;generalize fw w=f at h1 h2;simp![lg,xy,eP,fh,gM,kL,h1,h2,hc]
theorem NR{w:Nat}{ws:List Tx}{z:Tx}(h9:ws.length=9)(hz:z.length=w/\∀c∈z,c∈bM):lg a [.own (SL a w (ak ws)),.val (.str z)]=.er (.ref a.Full) [.own (SL a w (ak ws)),.val (.str z)]:=by
 have hc:=FU (a:=a) (ye hz);have aS:bc [.lst (ak ws)]=aa (.int 9):=by show aa (PV.int _)=_;rw[eR,h9];rfl
 have he:Pu.eqT aj (.int 9) (.int 9)=aa (.bl ah):=rfl;have h1:=l8 (a:=a) w (ak ws) [.val (.str z)];have h2:=sS w;generalize ak ws=L at aS h1 ⊢;generalize SL a w L=P at h1 ⊢;generalize fw w=f at h1 h2;simp![lg,xy,eP,fh,gM,kL,i9,h1,h2,hc,aS,he,lH,bA]
theorem DJ{w:Nat}:nG a [.own (SL a w [])]=.er (.ref a.Nothing) [.own (SL a w [])]:=by have h1:=l8 (a:=a) w [] [];have aS:bc [.lst []]=aa (.int 0):=rfl;have he:Pu.eqT aj (.int 0) (.int 0)=aa (.bl ah):=rfl;generalize SL a w []=P at h1 ⊢;generalize fw w=f at h1;simp![nG,zO,eP,fh,gM,i9,h1,aS,he,lH,bA]
def fJ:Tx:=[117,110,100,111]
theorem pj{ε:ag}{i:Nat}{w:Nat}{L:List PV}{m:Str}(hi:ε[i]?=aa (.own (SL a w L)))(h1:(fw w).lookup m=af)(h2:m≠cI "came"):kU ε a.Slit m i=ah:=by unfold kU;rw[hi];show(decide (a.Slit=a.Slit)&&((fw w).lookup m).isNone&&decide (m≠cI "came"))=ah;rw[decide_eq_true rfl,h1,decide_eq_true h2];rfl
theorem Le{w:Nat}{L L':List PV}{r:PV}(h:nG a [.own (SL a w L)]=.ok (.val r) [.own (SL a w L')]):g6 a [.own (SL a w L),.val (.str fJ)]=.ok (.val r) [.own (SL a w L'),.val (.str fJ)]:=by
 have hm:=pj (a:=a) (ε:=[.own (SL a w L),.val (.str fJ),.none]) (i:=0) (w:=w) (L:=L) (m:=cI "undo") rfl rfl (by decide);have he:Pu.eqT aj (.str fJ) (.str [117,110,100,111])=aa (.bl ah):=by rw[qx];rfl
 generalize SL a w L=P at hm h ⊢;generalize SL a w L'=P' at h ⊢;generalize fJ=u at hm he ⊢;simp![g6,yaB,eP,fh,gM,nq,pb,bA,he,eM,hm,jq,h]
theorem E5{w:Nat}{L:List PV}{c:ac}{n:Int}(wh:sP a c n)(h:nG a [.own (SL a w L)]=.er (.ref c) [.own (SL a w L)]):g6 a [.own (SL a w L),.val (.str fJ)]=.ok (.val (rf n)) [.own (SL a w L),.val (.str fJ)]:=by
 have hm:=pj (a:=a) (ε:=[.own (SL a w L),.val (.str fJ),.none]) (i:=0) (w:=w) (L:=L) (m:=cI "undo") rfl rfl (by decide);have he:Pu.eqT aj (.str fJ) (.str [117,110,100,111])=aa (.bl ah):=by rw[qx];rfl
 obtain⟨w1,w2⟩:=wh;generalize SL a w L=P at hm h ⊢;generalize fJ=u at hm he ⊢;generalize rf n=z at w2 ⊢;simp![g6,yaB,eP,fh,gM,nq,pb,bA,he,eM,hm,jq,h,w1,w2]
theorem LB{w:Nat}{L L':List PV}{x r:PV}(hx:Pu.eqT aj x (.str [117,110,100,111])=aa (.bl aj))(h:lg a [.own (SL a w L),.val x]=.ok (.val r) [.own (SL a w L'),.val x]):g6 a [.own (SL a w L),.val x]=.ok (.val r) [.own (SL a w L'),.val x]:=by have hm:=pj (a:=a) (ε:=[.own (SL a w L),.val x,.none]) (i:=0) (w:=w) (L:=L) (m:=cI "come") rfl rfl (by decide);generalize SL a w L=P at hm h ⊢;generalize SL a w L'=P' at h ⊢;simp![g6,yaB,eP,fh,gM,nq,pb,bA,hx,tQ,hm,jq,h]
theorem CF{w:Nat}{L:List PV}{x:PV}{c:ac}{n:Int}(wh:sP a c n)(hx:Pu.eqT aj x (.str [117,110,100,111])=aa (.bl aj))(h:lg a [.own (SL a w L),.val x]=.er (.ref c) [.own (SL a w L),.val x]):g6 a [.own (SL a w L),.val x]=.ok (.val (rf n)) [.own (SL a w L),.val x]:=by have hm:=pj (a:=a) (ε:=[.own (SL a w L),.val x,.none]) (i:=0) (w:=w) (L:=L) (m:=cI "come") rfl rfl (by decide);obtain⟨w1,w2⟩:=wh;generalize SL a w L=P at hm h ⊢;generalize rf n=z at w2 ⊢;simp![g6,yaB,eP,fh,gM,nq,pb,bA,hx,tQ,hm,jq,h,w1,w2]
end
theorem NI{t:Tx}{w:Nat}(w1:1<=w)(hw:w<=t.length)(h:∀x∈a5 t w,∀c∈x,c∈bM):∀c∈t,c∈bM:=by
 intro c hc;obtain⟨i,hi,rfl⟩:=List.mem_iff_getElem.mp hc;have hj:min i (t.length-w)<t.length+1-w:=∅
 refine h ((t.drop (min i (t.length-w))).take w) ?_ _ ?_
 ·rw[nD t w w1];exact cR.mpr ⟨_,ul.mpr hj,rfl⟩
 ·refine List.mem_iff_getElem.mpr ⟨i-min i (t.length-w),by simp;lia,?_⟩;rw[List.getElem_take,List.getElem_drop];congr 1;lia
theorem O9{w:Nat}{ls:List Tx}(w1:1<=w)(hn:1<=ls.length)(hl:eU w ls):(∃t,(a5 t w).Perm ls)↔dW w (bf ls)≠[]:=by
 have mO:∀x∈bf ls,x.length=w/\∀c∈x,c∈bM:=λx hx=>hl x ((eY ls).mem_iff.mp hx);have pS:1<=(bf ls).length:=by rw[(eY ls).length_eq];exact hn
 constructor
 ·rintro⟨t,ht⟩ e;have aS:=ht.length_eq;rw[nE w1]at aS;have ha:=NI (t:=t) w1 ∅ (λx hx=>(hl x (ht.mem_iff.mp hx)).2);have:=(BL w1 pS mO (o9 ls) ha).mpr (yB ht);rw[e]at this;cases this
 ·intro h;obtain⟨z,r,e⟩:=List.exists_cons_of_ne_nil h;have hz:z∈dW w (bf ls):=by rw[e];simp
  have ha:=(HW w1 pS mO hz).2;have:=(BL w1 pS mO (o9 ls) ha).mp hz;refine⟨z,(eY _).symm.trans ?_⟩;rw[this];exact eY ls
def fits(w:Nat)(ws:List Tx)(z:Tx):Bool:=decide (dW w (bf (ws++[z]))≠[])
section
variable{a:Ad}
theorem zy{w:Nat}{ws:List Tx}{z:Tx}(w1:1<=w)(w4:w<=4)(hw:eU w (ws++[z]))(h8:ws.length<=8):sT a [.val (.lst (ak (ws++[z]))),.val (.int w)]=.ok (.val (.bl (fits w ws z))) [.val (.lst (ak (ws++[z]))),.val (.int w)]:=by
 obtain⟨x,r,e⟩:∃x r,ws++[z]=x::r:=List.exists_cons_of_ne_nil (by simp);have aS:(ws++[z]).length=ws.length+1:=by simp
 have hfit:fits w ws z=decide (dW w (bf (x::r))≠[]):=by unfold fits;rw[e]
 rw[hfit];rw[e]at hw aS ⊢;obtain⟨v,rfl⟩:∃v,w=v+1:=⟨w-1,∅⟩
 have hl:∀y∈x::r,y.length=v+1:=λy hy=>(hw y hy).1;obtain⟨pv,p1,p2,p3⟩:=Pt (a:=a) hl ∅ (by simp at aS;lia);rw[LA hl,O9 ∅ (by simp) hw]at p3;have hi:ka aj pv .non=aa (.bl (decide (dW (v+1) (bf (x::r))≠[]))):=by
  rcases p2 with rfl|⟨zs,rfl⟩
  ·rw[decide_eq_true (p3.mp rfl)];rfl
  ·rw[decide_eq_false (λh=>nomatch p3.mpr h)];rfl
 have mL:bc [.lst (ak (x::r))]=aa (.int ((x::r).length:Nat)):=by show aa (PV.int _)=_;rw[eR]
 have h1:bg (.int ((x::r).length:Nat)) (.int ((v+1:Nat):Int))=aa (.int (((x::r).length:Nat)+((v+1:Nat):Int))):=rfl;have h2:gR (.int (((x::r).length:Nat)+((v+1:Nat):Int))) (.int 1)=aa (.int (((x::r).length:Nat)+((v+1:Nat):Int)-1)):=rfl;have h3:cc (λi j=>decide (i<=j)) (.int (((x::r).length:Nat)+((v+1:Nat):Int)-1)) (.int 12)=aa (.bl ah):=by show aa (PV.bl (decide _))=_;rw[decide_eq_true (by rw[aS];lia)]
 generalize (decide (dW (v+1) (bf (x::r))≠[]))=B at hi ⊢;generalize PV.lst (ak (x::r))=L at p1 mL ⊢;generalize ((x::r).length:Nat)=n at mL h1 h2 h3;generalize ((v+1:Nat):Int)=m at h1 h2 h3 ⊢;generalize (n:Int)+m=k at h1 h2 h3;generalize (k:Int)-1=k2 at h2 h3;have hb:gx (d2 (cc λi j=>decide (i<=j)) (d2 gR (d2 bg (dL bc (ar (dV 0) (aA))) (dV 1)) (dC (.int 1))) (dC (.int 12))) (d2 (ka aj) (aW (aM (mV a) (gV (dV 0) (Pu.bK)))) (dC .non)) [.val L,.val (.int m)]=.ok (.bl B) [.val L,.val (.int m)]:=by
  have q0:dL bc (ar (dV 0) (aA)) [.val L,.val (.int m)]=.ok (.int n) [.val L,.val (.int m)]:=by simp[dL,ar,aA,dV,R.bind,aC,mL]
  have q4:aM (mV a) (gV (dV 0) (Pu.bK)) [.val L,.val (.int m)]=.ok (.val pv) [.val L,.val (.int m)]:=by simp[aM,gV,Pu.bK,dV,R.bind,aC,bu,bW,p1,cb,cf,b_]
  have q1:d2 (cc λi j=>decide (i<=j)) (d2 gR (d2 bg (dL bc (ar (dV 0) (aA))) (dV 1)) (dC (.int 1))) (dC (.int 12)) [.val L,.val (.int m)]=.ok (.bl ah) [.val L,.val (.int m)] :=dX (dX (dX q0 rfl h1) rfl h2) rfl h3;have q2:d2 (ka aj) (aW (aM (mV a) (gV (dV 0) (Pu.bK)))) (dC .non) [.val L,.val (.int m)]=.ok (.bl B) [.val L,.val (.int m)] :=dX (iw q4) rfl hi;unfold gx;rw[dS q1,R.bind_ok];exact q2
 unfold sT yaL;generalize gx _ _=D at hb;simp[bD,eZ,bq,bG,bH,hb,back,aC,R.bind,fQ]
def more(ts:List Tx):List Tx:=ts.flatMap λt=>bM.map λc=>t++[c]
def bz:Nat->List Tx
 |0=>[[]]
 |n+1=>more (bz n)
theorem sR:∀(n:Nat),∀t∈bz n,t.length=n/\∀c∈t,c∈bM
 |0,t,h=>by simp[bz]at h;subst h;simp
 |n+1,t,h=>by
  simp only[bz,more,List.mem_flatMap,cR]at h;obtain⟨u,hu,c,hc,rfl⟩:=h;obtain⟨h1,h2⟩:=sR n u hu;refine⟨by simp[h1],λd hd=>?_⟩;rcases nM.mp hd with hd|hd
  ·exact h2 d hd
  ·rw[mG.mp hd];exact hc
theorem Di:∀{n:Nat},n<=4->(bz n).length<=81
 |0,_=>by decide
 |1,_=>by decide
 |2,_=>by decide
 |3,_=>by decide
 |4,_=>by decide
 |n+5,h=>∅
theorem Qt{di:ag->R (List PV)}{ε:ag}{t:Tx}{L:List Tx}(hd:di ε=.ok (bM.map gA) ε)(h5:ε[5]?=aa (.val (.str t)))(h4:cm ε 4=aa (ak L))(ht:t.length<=100)(hL:L.length<=1000):nv 4 (dF (cq [5] di ef (d2 bg (dV 1) (dV 0)))) ε=.ok .next (ε.set 4 (.own (.lst (ak (L++bM.map λc=>t++[c]))))):=by
 have hc:=j8 (cap:=[5]) (dt:=ef) (de:=d2 bg (dV 1) (dV 0)) (ε:=ε) (λ_=>ah) (λx=>match x with|.str [c]=>.str (t++[c])|_=>.non) (bM.map gA) (by intro x hx;obtain⟨c,_,rfl⟩:=cR.mp hx;have ha:bg (.str t) (.str [c])=aa (.str (t++[c])):=tj (by simp[bC];lia);simp only[gA];generalize t++[c]=tc at ha;exact⟨by simp[dN,dz,bA,h5,ef,R.bind,aC,bu,bW,cb,cf,b_],λ_=>by simp[dN,dz,bA,h5,R.bind,aC,bu,bW,d2,dV,ha,cb,cf,b_]⟩) [];have hk:dF (cq [5] di ef (d2 bg (dV 1) (dV 0))) ε=.ok (.lst (ak (bM.map λc=>t++[c]))) ε:=by
  have:cq [5] di ef (d2 bg (dV 1) (dV 0)) ε=.ok (.lst (ak (bM.map λc=>t++[c]))) ε:=by unfold cq;rw[hd,R.bind_ok,hc,R.bind_ok];rfl
  unfold dF;rw[this];rfl
 unfold nv;rw[h4];simp only[bw,R.bind_ok];rw[hk,R.bind_ok,h4];simp only[bw,R.bind_ok];rw[if_pos (by rw[eR,eR];have:(bM.map λc=>t++[c]).length=3:=rfl;unfold bC;lia),qZ]
def mB(di:ag->R (List PV)):ag->R aK:=nv 4 (dF (cq [5] di ef (d2 bg (dV 1) (dV 0))))
theorem De{di:ag->R (List PV)}{e0 e1 e2 e3:Slot}(hd:∀s4 s5,di [e0,e1,e2,e3,s4,s5]=.ok (bM.map gA) [e0,e1,e2,e3,s4,s5])(ts:List Tx)(ht:∀t∈ts,t.length<=100):∀(L:List Tx) (s5:Slot),L.length+3*ts.length<=1000->∃iG,dm 5 (mB di) (ak ts) [e0,e1,e2,e3,.own (.lst (ak L)),s5]=.ok .next [e0,e1,e2,e3,.own (.lst (ak (L++more ts))),iG]:=by
 induction ts with
 |nil=>intro L s5 _;exact⟨s5,by rw[show more []=[] from rfl,gq];rfl⟩
 |cons t ts ih=>intro L s5 hl;have e1':=Qt (di:=di) (ε:=[e0,e1,e2,e3,.own (.lst (ak L)),.val (.str t)]) (t:=t) (L:=L) (hd _ _) rfl rfl (ht t (by simp)) ∅;obtain⟨iG,om⟩:=ih (λu hu=>ht u (by simp[hu])) (L++bM.map λc=>t++[c]) (.val (.str t)) (by rw[dI,c9];simp at hl;have:bM.length=3:=rfl;lia);refine⟨iG,?_⟩;show dm 5 (mB di) (.str t::ak ts) _=_;rw[dm];have:mB di ([e0,e1,e2,e3,.own (.lst (ak L)),s5].set 5 (.val (.str t)))=.ok .next [e0,e1,e2,e3,.own (.lst (ak (L++bM.map λc=>t++[c]))),.val (.str t)]:=e1';rw[this];show dm 5 (mB di) (ak ts) _=_;rw[om,iU];rfl
def fB:ag->R aK:=ay (a9 3 (bi (dB (d2 (eqT aj) (dV 2) (dC (.str [46])))) (dC (.str [97,98,99])) (dV 2))) (ay (cg 4 (dL bX (aA))) (ay (bR 5 (bo (dV 1)) (mB (bo (dV 3)))) (a9 1 (dM 4))))
theorem HH:yaO a=ay (a9 1 (dF (dL bX (ar (dC (.str [])) (aA))))) (ay (λε=>cA (bR 2 (bo (dV 0)) fB ε)) (bH (dV 1))):=rfl
theorem Iv(P:PV)(n:Nat)(hn:n<4)(s3 s4 s5:Slot):∃fN p6 iG,fB [.val P,.val (.lst (ak (bz n))),.val (.str [46]),s3,s4,s5]=.ok .next [.val P,.val (.lst (ak (bz (n+1)))),.val (.str [46]),fN,p6,iG]:=by obtain⟨iG,e⟩:=De (di:=bo (dV 3)) (e0:=.val P) (e1:=.val (.lst (ak (bz n)))) (e2:=.val (.str [46])) (e3:=.val (.str [97,98,99])) (λ_ _=>rfl) (bz n) (λt ht=>by have:=(sR n t ht).1;lia) [] s5 (by have:=Di (n:=n) ∅;simp;lia);refine⟨.val (.str [97,98,99]),.val (.lst (ak (bz (n+1)))),iG,?_⟩;unfold fB;refine(bx (ε1:=[.val P,.val (.lst (ak (bz n))),.val (.str [46]),.val (.str [97,98,99]),s4,s5]) rfl).trans ?_;refine(bx (ε1:=[.val P,.val (.lst (ak (bz n))),.val (.str [46]),.val (.str [97,98,99]),.own (.lst (ak [])),s5]) rfl).trans ?_;refine(bx (qF (xs:=ak (bz n)) rfl e)).trans ?_;rfl
theorem Cd(P:PV):∀(m n:Nat) (s2 s3 s4 s5:Slot),n+m<=4->∃s2' fN p6 iG,dm 2 fB (bG m (.str [46])) [.val P,.val (.lst (ak (bz n))),s2,s3,s4,s5]=.ok .next [.val P,.val (.lst (ak (bz (n+m)))),s2',fN,p6,iG]
 |0,n,s2,s3,s4,s5,_=>⟨s2,s3,s4,s5,rfl⟩
 |m+1,n,s2,s3,s4,s5,h=>by obtain⟨fN,p6,iG,e⟩:=Iv P n ∅ s3 s4 s5;obtain⟨t2,t3,t4,t5,e2⟩:=Cd P m (n+1) (.val (.str [46])) fN p6 iG ∅;refine⟨t2,t3,t4,t5,?_⟩;rw[nW,dm];have:fB ([Slot.val P,.val (.lst (ak (bz n))),s2,s3,s4,s5].set 2 (.val (.str [46])))=_:=e;rw[this];show dm 2 fB _ _=_;rw[e2,show n+1+m=n+(m+1) by lia]
theorem Ld{w:Nat}(w4:w<=4):sU a [.val (.str (bG w 46))]=.ok (.val (.lst (ak (bz w)))) [.val (.str (bG w 46))]:=by
 obtain⟨t2,t3,t4,t5,e⟩:=Cd (.str (bG w 46)) w 0 .none .none .none .none ∅;rw[kD]at e;have hb:yaO a [.val (.str (bG w 46)),.none,.none,.none,.none,.none]=.ok (.ret (.val (.lst (ak (bz w))))) [.val (.str (bG w 46)),.val (.lst (ak (bz w))),t2,t3,t4,t5]:=by
  rw[HH];refine(bx (ε1:=[.val (.str (bG w 46)),.val (.lst (ak (bz 0))),.none,.none,.none,.none]) rfl).trans ?_;have hi:bo (dV 0) [.val (.str (bG w 46)),.val (.lst (ak (bz 0))),.none,.none,.none,.none]=.ok (bG w (.str [46])) [.val (.str (bG w 46)),.val (.lst (ak (bz 0))),.none,.none,.none,.none]:=by show R.ok ((bG w 46).map λc=>PV.str [c]) _=_;rw[List.map_replicate]
  refine(bx (d1:=λε=>cA (bR 2 (bo (dV 0)) fB ε)) (by show cA _=_;rw[qF hi e];rfl)).trans ?_;rfl
 unfold sU;generalize yaO a=D at hb;generalize PV.str (bG w 46)=P at hb ⊢;simp[bD,eZ,bq,bG,hb,back,aC,R.bind,fQ]
def z5(w:Nat)(ws:List Tx):PV->Bool
 |.str z=>fits w ws z
 |_=>aj
theorem DZ(w:Nat)(ws zs:List Tx):((ak zs).filter (z5 w ws)).map (λx=>x)=ak (zs.filter (fits w ws)):=by rw[List.map_id'];unfold ak;rw[xU];rfl
def uh(a:Ad):ag->R Bool:=dB (aW (aM (sT a) (gV (p9 a.Slit (cI "came") 1 0) (gV (dV 2) (Pu.bK)))))
def wX(a:Ad):ag->R (List PV):=bo (aW (aM (sU a) (gV (d2 eC (dC (.str [46])) (dV 1)) (Pu.bK))))
theorem Nc:u6 a=ay (a9 1 (kL a.Slit (cI "came") 0 (cI "width"))) (bH (dF (cq [0,1] (wX a) (uh a) (dV 0)))):=rfl
theorem Kg(w:Nat)(w4:w<=4):eC (.str [46]) (.int w)=aa (.str (bG w 46)):=by
 have h:∀n:Nat,(bG n [46]).flatten=bG n 46:=λn=>by
  induction n with
  |zero=>rfl
  |succ n ih=>rw[nW,Bf,ih];rfl
 match w,w4 with
 |0,_=>rfl
 |1,_=>rfl
 |2,_=>rfl
 |3,_=>rfl
 |4,_=>rfl
theorem Qd{w:Nat}{ws:List Tx}(w1:1<=w)(w4:w<=4)(hw:eU w ws)(h8:ws.length<=8):qX a [.own (SL a w (ak ws))]=.ok (.val (.lst (ak ((bz w).filter (fits w ws))))) [.own (SL a w (ak ws))]:=by
 have h0:a9 1 (kL a.Slit (cI "came") 0 (cI "width")) [.own (SL a w (ak ws)),.none]=.ok .next [.own (SL a w (ak ws)),.val (.int w)]:=by have h1:=l8 (a:=a) w (ak ws) [.none];have h2:=sS w;generalize SL a w (ak ws)=P at h1 ⊢;generalize fw w=f at h1 h2;simp[a9,kL,h1,h2,aC,R.bind]
 have hi:wX a [.own (SL a w (ak ws)),.val (.int w)]=.ok (ak (bz w)) [.own (SL a w (ak ws)),.val (.int w)]:=by have h1:=Ld (a:=a) w4;have h2:=Kg w w4;generalize SL a w (ak ws)=P;generalize ak (bz w)=L at h1 ⊢;generalize PV.str (bG w 46)=T at h1 h2;simp[wX,bo,aW,aM,gV,Pu.bK,d2,dC,dV,h2,aC,R.bind,bu,bW,h1,cb,cf,b_,t7,iC]
 have hc:=j8 (cap:=[0,1]) (dt:=uh a) (de:=dV 0) (ε:=[.own (SL a w (ak ws)),.val (.int w)]) (z5 w ws) (λx=>x) (ak (bz w)) (λx hx=>by
  obtain⟨z,hz,rfl⟩:=cR.mp hx;have hg:=zy (a:=a) w1 w4 (hw.app (sR w z hz)) h8;have hA:p9 a.Slit (cI "came") 1 0 [.val (.str z),.own (SL a w (ak ws)),.val (.int w)]=.ok (.lst (ak (ws++[z]))) [.val (.str z),.own (SL a w (ak ws)),.val (.int w)]:=by unfold p9;have h1:g7 [.val (.str z),.own (SL a w (ak ws)),.val (.int w)] a.Slit (cI "came") 1=aa (fw w,ak ws):=l8 (a:=a) w (ak ws) [];rw[h1];simp only[bw,R.bind_ok];show(if(ak ws).length+1<=1000 then _ else _)=_;rw[if_pos (by rw[eR];lia),show ak ws++[PV.str z]=ak (ws++[z])from qZ ws [z]]
  have hT:uh a [.val (.str z),.own (SL a w (ak ws)),.val (.int w)]=.ok (fits w ws z) [.val (.str z),.own (SL a w (ak ws)),.val (.int w)]:=by refine dS (iw ?_);generalize SL a w (ak ws)=P at hA ⊢;generalize PV.lst (ak (ws++[z]))=L at hA hg;simp[aM,gV,Pu.bK,hA,dV,R.bind,aC,bu,bW,hg,cb,cf,b_]
  show bA (dN [0,1] (uh a) (.str z) _)=.ok (fits w ws z) _/\_;generalize fits w ws z=b at hT ⊢;generalize SL a w (ak ws)=P at hT ⊢;exact⟨by simp[dN,dz,bA,R.bind,aC,bu,bW,hT,cb,cf,b_],λ_=>by simp[dN,dz,bA,R.bind,aC,bu,bW,dV,cb,cf,b_]⟩) []
 have hk:cq [0,1] (wX a) (uh a) (dV 0) [.own (SL a w (ak ws)),.val (.int w)]=.ok (.lst (ak ((bz w).filter (fits w ws)))) [.own (SL a w (ak ws)),.val (.int w)]:=by unfold cq;rw[hi,R.bind_ok,hc,R.bind_ok,jz,DZ]
 have hb:u6 a [.own (SL a w (ak ws)),.none]=.ok (.ret (.val (.lst (ak ((bz w).filter (fits w ws)))))) [.own (SL a w (ak ws)),.val (.int w)]:=by rw[Nc];refine(bx h0).trans ?_;unfold bH dF;rw[hk];rfl
 unfold qX;generalize u6 a=D at hb;generalize SL a w (ak ws)=P at hb ⊢;generalize ak ((bz w).filter (fits w ws))=L at hb ⊢;simp[eP,fh,gM,bq,bG,hb,back,aC,R.bind]
def nB:ag->R aK:=ay (cg 4 (dL bX (aA))) (ay (bR 5 (bo (dV 2)) (mB (bo (dC (.str [97,98,99]))))) (a9 2 (dM 4)))
def nT(a:Ad):ag->R Bool:=dB (d2 (cc λi j=>decide (j<i)) (aW (aM (tf a) (gV (dL eu (ar (dV 1) (ar (dL i_ (ar (dF (dL jc (ar (d2 bg (dV 2) (dF (dL bX (ar (dV 0) (aA))))) (aA)))) (aA))) (aA)))) (Pu.bK)))) (dC (.int 0)))
theorem PZ:yaE a=ay (a9 2 (dF (dL bX (ar (dC (.str [])) (aA))))) (ay (λε=>cA (bR 3 (dL iO (ar (dV 0) (aA))) nB ε)) (lA (cq [0,1] (bo (dV 2)) (nT a) (dV 0)))):=rfl
theorem EY(e0 e1:Slot):∀(xs:List PV) (n:Nat) (s3 s4 s5:Slot),n+xs.length<=4->∃fN p6 iG,dm 3 nB xs [e0,e1,.val (.lst (ak (bz n))),s3,s4,s5]=.ok .next [e0,e1,.val (.lst (ak (bz (n+xs.length)))),fN,p6,iG]
 |[],n,s3,s4,s5,_=>⟨s3,s4,s5,rfl⟩
 |x::xs,n,s3,s4,s5,h=>by
  rw[eF]at h;obtain⟨iG,e⟩:=De (di:=bo (dC (.str [97,98,99]))) (e0:=e0) (e1:=e1) (e2:=.val (.lst (ak (bz n)))) (e3:=.val x) (λ_ _=>rfl) (bz n) (λt ht=>by have:=(sR n t ht).1;lia) [] s5 (by have:=Di (n:=n) ∅;simp;lia);have st:nB [e0,e1,.val (.lst (ak (bz n))),.val x,s4,s5]=.ok .next [e0,e1,.val (.lst (ak (bz (n+1)))),.val x,.val (.lst (ak (bz (n+1)))),iG]:=by unfold nB;refine(bx (ε1:=[e0,e1,.val (.lst (ak (bz n))),.val x,.own (.lst (ak [])),s5]) rfl).trans ?_;refine(bx (qF (xs:=ak (bz n)) rfl e)).trans ?_;rfl
  obtain⟨t3,t4,t5,e2⟩:=EY e0 e1 xs (n+1) (.val x) (.val (.lst (ak (bz (n+1))))) iG ∅;refine⟨t3,t4,t5,?_⟩;rw[dm];have:nB ([e0,e1,.val (.lst (ak (bz n))),s3,s4,s5].set 3 (.val x))=_:=st;rw[this];show dm 3 nB _ _=_;rw[e2,eF,show n+1+xs.length=n+(xs.length+1) by lia]
theorem JT{w:Nat}{ws:List Tx}(w1:1<=w)(w4:w<=4)(hw:eU w ws)(h8:ws.length<=8):rm a [.val (.int w),.val (.lst (ak ws))]=.ok (.own (.lst (ak ((bz w).filter (fits w ws))))) [.val (.int w),.val (.lst (ak ws))]:=by
 obtain⟨t3,t4,t5,e⟩:=EY (.val (.int w)) (.val (.lst (ak ws))) (e_ 0 w) 0 .none .none .none (by simp[e_];lia);have hlr:(e_ 0 w).length=w:=by simp[e_]
 rw[kD,hlr]at e;have hc:=j8 (cap:=[0,1]) (dt:=nT a) (de:=dV 0) (ε:=[.val (.int w),.val (.lst (ak ws)),.val (.lst (ak (bz w))),t3,t4,t5]) (z5 w ws) (λx=>x) (ak (bz w)) (λx hx=>by
  obtain⟨z,hz,rfl⟩:=cR.mp hx;have hwz:eU w (ws++[z]):=hw.app (sR w z hz);have g:Good bM w (bf (ws++[z])):=(Good.perm ⟨λx hx=>(hwz x hx).1,λx hx=>(hwz x hx).2,by simp,by simp;lia⟩ (eY _))
  have hm:=IU (a:=a) g w1 w4 (o9 _);have kF:bg (.lst (ak ws)) (.lst [.str z])=aa (.lst (ak (ws++[z]))):=by show(if(ak ws).length + [PV.str z].length<=bC then aa (PV.lst (ak ws++[.str z]))else af)=_;rw[if_pos (by rw[eR];unfold bC;simp;lia),show ak ws++[PV.str z]=ak (ws++[z])from qZ ws [z]]
  have hs:=zD (ls:=ws++[z]) (by simp;lia);have hT:nT a [.val (.str z),.val (.int w),.val (.lst (ak ws))]=.ok (fits w ws z) [.val (.str z),.val (.int w),.val (.lst (ak ws))]:=by
   refine dS (dX (x:=.int ((dW w (bf (ws++[z]))).length:Nat)) (y:=.int 0) (iw ?_) rfl ?_)
   ·unfold fg at hm;generalize ak (bf (ws++[z]))=L2 at hs hm;generalize ak (ws++[z])=L1 at hs kF;generalize ak ws=L0 at kF ⊢;simp[aM,gV,Pu.bK,dL,dF,ar,aA,dV,d2,bX,sN,kF,hs,i_,eu,aC,R.bind,bu,bW,hm,cb,cf,b_]
   ·show aa (PV.bl (decide _))=_;congr 2;unfold fits;rw[decide_eq_decide];rw[←Bw];lia
  show bA (dN [0,1] (nT a) (.str z) _)=.ok (fits w ws z) _/\_;generalize fits w ws z=b at hT ⊢;generalize ak ws=L at hT ⊢;exact⟨by simp[dN,dz,bA,R.bind,aC,bu,bW,hT,cb,cf,b_],λ_=>by simp[dN,dz,bA,R.bind,aC,bu,bW,dV,cb,cf,b_]⟩) []
 have hk:cq [0,1] (bo (dV 2)) (nT a) (dV 0) [.val (.int w),.val (.lst (ak ws)),.val (.lst (ak (bz w))),t3,t4,t5]=.ok (.lst (ak ((bz w).filter (fits w ws)))) [.val (.int w),.val (.lst (ak ws)),.val (.lst (ak (bz w))),t3,t4,t5]:=by unfold cq;rw[show bo (dV 2) [.val (.int w),.val (.lst (ak ws)),.val (.lst (ak (bz w))),t3,t4,t5]=.ok (ak (bz w)) [.val (.int w),.val (.lst (ak ws)),.val (.lst (ak (bz w))),t3,t4,t5] from rfl,R.bind_ok,hc,R.bind_ok,jz,DZ]
 have hb:yaE a [.val (.int w),.val (.lst (ak ws)),.none,.none,.none,.none]=.ok (.ret (.own (.lst (ak ((bz w).filter (fits w ws)))))) [.val (.int w),.val (.lst (ak ws)),.val (.lst (ak (bz w))),t3,t4,t5]:=by
  rw[PZ];refine(bx (ε1:=[.val (.int w),.val (.lst (ak ws)),.val (.lst (ak (bz 0))),.none,.none,.none]) rfl).trans ?_;have hi:dL iO (ar (dV 0) (aA)) [.val (.int w),.val (.lst (ak ws)),.val (.lst (ak (bz 0))),.none,.none,.none]=.ok (e_ 0 w) [.val (.int w),.val (.lst (ak ws)),.val (.lst (ak (bz 0))),.none,.none,.none]:=by have:=tR (n:=w) ∅;simp[dL,ar,aA,dV,R.bind,aC,this]
  refine(bx (d1:=λε=>cA (bR 3 (dL iO (ar (dV 0) (aA))) nB ε)) (by show cA _=_;rw[qF hi e];rfl)).trans ?_;unfold lA;rw[hk];rfl
 unfold rm;generalize yaE a=D at hb;generalize PV.lst (ak ws)=P at hb ⊢;generalize PO.lst (ak ((bz w).filter (fits w ws)))=L at hb ⊢;simp[bD,eZ,bq,bG,hb,back,aC,R.bind,fQ]
end
section
variable{a:Ad}
theorem w6{d:ag->R PO}{ε ε1:ag}{xs:List PV}(h:d ε=.ok (.lst xs) ε1):dF d ε=.ok (.lst xs) ε1:=by unfold dF;rw[h];rfl
theorem y_{c1 c2:ag->R Bool}{ε ε1 ε2:ag}{b:Bool}(h1:c1 ε=.ok aj ε1)(h2:c2 ε1=.ok b ε2):fu c1 c2 ε=.ok b ε2:=by unfold fu;rw[h1,R.bind_ok];exact h2
theorem Gr{c1 c2:ag->R Bool}{ε ε1:ag}(h1:c1 ε=.ok ah ε1):fu c1 c2 ε=.ok ah ε1:=by unfold fu;rw[h1,R.bind_ok]
theorem not_of{c:ag->R Bool}{ε ε1:ag}{b:Bool}(h:c ε=.ok b ε1):fO c ε=.ok (!b) ε1:=by unfold fO;rw[h];rfl
theorem sI{G:ag->R Slot}{ε:ag}{d:ag->R PV}{v0 v r:PV}{p p':PO}(h0:ε[0]?=aa (.val v0))(h1:ε[1]?=aa (.own p))(hd:d ε=.ok v ε)(hg:G [.val v0,.own p,.val v]=.ok (.val r) [.val v0,.own p',.val v]):aM G (gV (dV 0) (gO 1 (gV d (Pu.bK)))) ε=.ok (.val r) (ε.set 1 (.own p')):=by simp[aM,gV,gO,Pu.bK,dV,h0,h1,hd,R.bind,aC,bu,bW,hg,cb,cf,b_]
theorem Dh{G:ag->R Slot}{ε:ag}{d d':ag->R PV}{v0 v v' r:PV}{p p':PO}(h0:ε[0]?=aa (.val v0))(h1:ε[1]?=aa (.own p))(hd:d ε=.ok v ε)(uO:d' ε=.ok v' ε)(hg:G [.val v0,.own p,.val v,.val v']=.ok (.val r) [.val v0,.own p',.val v,.val v']):aM G (gV (dV 0) (gO 1 (gV d (gV d' (Pu.bK))))) ε=.ok (.val r) (ε.set 1 (.own p')):=by simp[aM,gV,gO,Pu.bK,dV,h0,h1,hd,uO,R.bind,aC,bu,bW,hg,cb,cf,b_]
theorem Cf{G:ag->R Slot}{ε:ag}{i:Nat}{d:ag->R PV}{v r:PV}{p p':PO}(h1:ε[i]?=aa (.own p))(hd:d ε=.ok v ε)(hg:G [.own p,.val v]=.ok (.val r) [.own p',.val v]):aM G (gO i (gV d (Pu.bK))) ε=.ok (.val r) (ε.set i (.own p')):=by simp[aM,gV,gO,Pu.bK,h1,hd,R.bind,aC,bu,bW,hg,cb,cf,b_]
theorem QU{G:ag->R Slot}{ε:ag}{d:ag->R PV}{v:PV}{s:Slot}(hd:d ε=.ok v ε)(hg:G [.val v]=.ok s [.val v]):aM G (gV d (Pu.bK)) ε=.ok s ε:=by simp[aM,gV,Pu.bK,hd,R.bind,aC,bu,bW,hg,cb,cf,b_]
theorem zz{g:ag->R Slot}{ε:ag}{i:Nat}{C:ac}{m:Str}{s:Slot}{po:PO}(hm:kU ε C m i=ah)(hi:ε[i]?=aa (.own po))(hg:g [.own po]=.ok s [.own po]):eM C m i g ε=.ok s ε:=by unfold eM;rw[if_pos hm];simp[jq,bu,bW,hi,hg,cb,b_,cf,aC,R.bind,wb hi]
theorem AT{ε:ag}{i:Nat}{w:Nat}{ws:List Tx}(hi:ε[i]?=aa (.own (SL a w (ak ws)))):eM a.Slit (cI "windows") i (j4 a) ε=.ok (.own (.lst (ak ws))) ε :=zz (pj hi rfl (by decide)) hi Kk
theorem E6{ε:ag}{i:Nat}{w:Nat}{ws:List Tx}(w1:1<=w)(w4:w<=4)(hw:eU w ws)(h9:ws.length<=9)(hi:ε[i]?=aa (.own (SL a w (ak ws)))):eM a.Slit (cI "told") i (lh a) ε=.ok (.val (jH w ws)) ε :=zz (pj hi rfl (by decide)) hi (JF w1 w4 hw h9)
theorem HF{ε:ag}{i:Nat}{w:Nat}{ws:List Tx}(w1:1<=w)(w4:w<=4)(hw:eU w ws)(h8:ws.length<=8)(hi:ε[i]?=aa (.own (SL a w (ak ws)))):eM a.Slit (cI "fitting") i (qX a) ε=.ok (.val (.lst (ak ((bz w).filter (fits w ws))))) ε :=zz (pj hi rfl (by decide)) hi (Qd w1 w4 hw h8)
theorem F8{ε:ag}{w:Nat}{d:ag->R PV}(w1:1<=w)(w4:w<=4)(hd:d ε=.ok (.int w) ε):oO a.Slit (nI a) (gV d Pu.bK) ε=.ok (SL a w []) ε:=by have hi:=IZ (a:=a) w1 w4;simp[oO,gV,Pu.bK,hd,jq,bu,bW,hi,cb,b_,cf,aC,R.bind]
theorem v7{d:ag->R Slot}{ε ε1:ag}{xs:List PV}(h:d ε=.ok (.own (.lst xs)) ε1):aW d ε=.ok (.lst xs) ε1:=by unfold aW;rw[h];rfl
theorem Ds(x:Tx):Pu.eqT ah (.str x) (.str x)=aa (.bl aj):=by rw[qx];simp
theorem ui(x:List Tx):Pu.eqT ah (.lst (ak x)) (.lst (ak x))=aa (.bl aj):=by rw[AC];simp
theorem KL(i:Int):Pu.eqT ah (.int i) (.int i)=aa (.bl aj):=by rw[jM];simp
theorem Pe(w:Nat)(ws:List Tx):Pu.eqT ah (jH w ws) (jH w ws)=aa (.bl aj):=by
 unfold jH;split
 ·exact Ds _
 ·rfl
def qy:ag->R Bool:=fu (fO (dB (dL gk (ar (dV 8) (ar (dC (.raw (.ty "str"))) (aA)))))) (fu (dB (d2 (eqT ah) (dL bc (ar (dV 8) (aA))) (dV 2))) (fO (dB (dL lX (ar (dF (cq [] (bo (dV 8)) (ef) (d2 (jF aj) (dV 0) (dC (.str [97,98,99]))))) (aA))))))
theorem D3{ε:ag}{z:Tx}{w:Nat}(h8:ε[8]?=aa (.val (.str z)))(h2:ε[2]?=aa (.val (.int w))):qy ε=.ok (!(fA w bM z)) ε:=by
 have h1:gk [.str z,.raw (.ty "str")]=aa (.bl ah):=lT rfl Ez;have e1:fO (dB (dL gk (ar (dV 8) (ar (dC (.raw (.ty "str"))) (aA))))) ε=.ok aj ε:=not_of (dS (jQ (fP (d9 h8) (fP (eh _ _) jG)) h1));have e2:dB (d2 (eqT ah) (dL bc (ar (dV 8) (aA))) (dV 2)) ε=.ok (!(decide ((z.length:Int)=w))) ε:=by refine dS (dX (jQ (fP (d9 h8) jG) (v:=.int (z.length:Nat)) rfl) (d9 h2) ?_);rw[jM,Bool.true_xor]
 have hc:=j8 (cap:=[]) (dt:=ef) (de:=(d2 (jF aj) (dV 0) (dC (.str [97,98,99])))) (ε:=ε) (λ_=>ah) (λx=>match x with|.str [c]=>.bl (bM.contains c)|_=>.non) (z.map λc=>.str [c])
  (by
   intro x hx;obtain⟨c,_,rfl⟩:=cR.mp hx;have pZ:jF aj (.str [c]) (.str [97,98,99])=aa (.bl (bM.contains c)):=by rw[show bM.contains c=_ from rfl,←Ct];simp[jF];rfl
   exact⟨by simp[dN,dz,bA,ef,R.bind,aC,bu,bW,cb,cf,b_],λ_=>by simp[dN,dz,bA,d2,dV,dC,R.bind,aC,bu,bW,pZ,cb,cf,b_]⟩) []
 have he:((z.map λc=>PV.str [c]).filter (λ_=>ah)).map (λx=>match x with|.str [c]=>PV.bl (bM.contains c)|_=>.non)=(z.map bM.contains).map .bl:=by rw[uJ.mpr (by simp),fM,fM];rfl
 rw[jz,he]at hc;have dR:(z.map bM.contains).all id=z.all bM.contains:=by rw[uB];rfl
 have ha:=vQ (z.map bM.contains);rw[dR]at ha;have e3:fO (dB (dL lX (ar (dF (cq [] (bo (dV 8)) (ef) (d2 (jF aj) (dV 0) (dC (.str [97,98,99]))))) (aA)))) ε=.ok (!(z.all bM.contains)) ε:=by refine not_of (dS (jQ (fP (w6 ?_) jG) ha));unfold cq;rw[show bo (dV 8) ε=.ok (z.map λc=>.str [c]) ε by unfold bo;rw[d9 h8];rfl,R.bind_ok,hc];rfl
 unfold qy;rw[y_ e1 (show fu _ _ ε=.ok (!(fA w bM z)) ε from ?_)];unfold fA;by_cases c:(z.length:Int)=w
 ·rw[decide_eq_true c]at e2 ⊢;rw[y_ e2 e3];simp
 ·rw[decide_eq_false c]at e2 ⊢;rw[Gr e2];rfl
theorem Ng{ε:ag}{x:PV}{t:String}(h8:ε[8]?=aa (.val x))(h:pd x=aa t)(e:gH [] (.type t) (.type "str")=aa aj):qy ε=.ok ah ε:=Gr (not_of (dS (jQ (fP (d9 h8) (fP (eh _ _) jG)) (lT h e))))
structure t_(a:Ad)(w:Nat)(x:PV):Prop where
 no:sr a w x
 un:Pu.eqT aj x (.str [117,110,100,111])=aa (.bl aj)
 t:∀ε:ag,ε[8]?=aa (.val x)->ε[2]?=aa (.val (.int w))->qy ε=.ok ah ε
theorem t_.thing{w:Nat}{x:PV}{t:String}(h:pd x=aa t)(e:gH [] (.type t) (.type "str")=aa aj)(hu:Pu.eqT aj x (.str [117,110,100,111])=aa (.bl aj)):t_ a w x:=by refine⟨?_,hu,λε h8 h2=>Ng h8 h e⟩;have h1:gk [x,.raw (.ty "str")]=aa (.bl aj):=lT h e;unfold sr;simp![k_,yax,h1]
theorem t_.str{w:Nat}{z:Tx}(h:fA w bM z=aj)(hu:z≠fJ):t_ a w (.str z):=by
 refine⟨?_,?_,λε h8 h2=>?_⟩
 ·have:=yL (a:=a) z bM w;rw[h]at this;exact this
 ·rw[qx,decide_eq_false (show z≠[117,110,100,111] from hu)];rfl
 ·have:=D3 h8 h2;rwa[h]at this
theorem AS{w:Nat}{z:Tx}(h:z.length=w/\∀c∈z,c∈bM):Pu.eqT aj (.str z) (.str [117,110,100,111])=aa (.bl aj):=by
 rw[qx,decide_eq_false]
 ·rfl
 ·rintro rfl;have:=h.2 117 (by simp);revert this;decide
theorem yz{w n c:Nat}(hn:1<=n)(hc:c≠117)(h:n≠w\/c∉bM):t_ a w (.str (bG n c)):=by
 refine t_.str ?_ ?_
 ·unfold fA;rcases h with h|h
  ·rw[decide_eq_false (by simp;lia)];rfl
  ·obtain⟨m,rfl⟩:∃m,n=m+1:=⟨n-1,∅⟩
   have:(bG (m+1) c).all bM.contains=aj:=by
    rw[nW,pG];have:bM.contains c=aj:=by simpa using h
    rw[this];rfl
   rw[this];simp
 ·obtain⟨m,rfl⟩:∃m,n=m+1:=⟨n-1,∅⟩
  intro e;rw[nW]at e;unfold fJ at e;injection e with e1 _;exact hc e1
def uc(w:Nat):List PV:=[.non,.str [],.str (bG (w+1) 97),.str (bG w 100),.int 1,.str (bG w 65)]
theorem PH{w:Nat}(w2:2<=w):∀x∈uc w,t_ a w x:=by
 intro x hx;unfold uc at hx;simp only[bQ,iV,or_false]at hx;rcases hx with rfl|rfl|rfl|rfl|rfl|rfl
 ·exact t_.thing (t:="NoneType") rfl (by decide +kernel) rfl
 ·refine t_.str ?_ (by unfold fJ;simp);unfold fA;rw[decide_eq_false (by simp;lia)];rfl
 ·exact yz ∅ (by decide) (.inl ∅)
 ·exact yz ∅ (by decide) (.inr (by decide))
 ·exact t_.thing (t:="int") rfl (by decide +kernel) rfl
 ·exact yz ∅ (by decide) (.inr (by decide))
def fE(a:Ad)(ns:List Int)(ys:List PV)(w:Nat)(pool ws row:List Tx)(s7 s8 s9 s10 s11:Slot):ag:=[cU ns,.own (.lst ys),.val (.int w),.val (.lst (ak pool)),.own (SL a w (ak ws)),.own (SL a 1 []),.own (.lst (ak row)),s7,s8,s9,s10,s11]
def wu:ag->R PV:=dL eu (ar (dV 2) (ar (dL i_ (ar (dF (eK (λxs=>iQ (jc xs)) 6)) (aA))) (aA)))
theorem Jo{ε:ag}{w:Nat}{row:List Tx}(h2:ε[2]?=aa (.val (.int w)))(h6:cm ε 6=aa (ak row))(hl:row.length<=20):wu ε=.ok (fg w (bf row)) ε:=by
 have hs:=zD (ls:=row) ∅;have hm:=vV (bf row);have e:eK (λxs=>iQ (jc xs)) 6 ε=.ok (.lst (ak (bf row))) ε:=by unfold eK;rw[h6];simp only[bw,R.bind_ok];generalize ak (bf row)=L at hs hm ⊢;simp[hs,iQ,tU,hm,aC]
 exact jQ (fP (d9 h2) (fP (jQ (fP (w6 e) jG) (v:=.tup (ak (bf row))) rfl) jG)) rfl
theorem Fa{ε:ag}{row:List Tx}(h6:cm ε 6=aa (ak row)):lz (eqT ah) 6 (dF (dL bX (aA))) ε=.ok (.bl (decide (row≠[]))) ε:=by
 have h:eJ (Pu.eqT ah (.lst (ak row)) (.lst []))=aa (.bl (decide (row≠[]))):=by have:=AC ah row [];rw[show ak []=[] from rfl]at this;rw[this];by_cases q:row=[] <;> simp[q,eJ,imm]
 unfold lz;rw[h6];simp only[bw,R.bind_ok];show(R.ok (PV.lst []) ε).bind _=_;rw[R.bind_ok,h6];simp only[bw,R.bind_ok];rw[h];rfl
theorem CV{ε:ag}{row:List Tx}(h6:cm ε 6=aa (ak row)):eK (λxs=>eJ (bc xs)) 6 ε=.ok (.int (row.length:Nat)) ε:=by unfold eK;rw[h6];simp only[bw,R.bind_ok];show aC (aa (PV.int ((ak row).length:Nat))) ε=_;rw[eR];rfl
theorem QP{ε:ag}{pre:List Tx}{z:Tx}(h6:cm ε 6=aa (ak (pre++[z]))):qR 6 ε=.ok (.str z) (ε.set 6 (.own (.lst (ak pre)))):=by have ea:ak (pre++[z])=ak pre++[.str z]:=(qZ pre [z]).symm;unfold qR;rw[h6,ea];simp[aC,R.bind]
def ub(n:Int):ag->R PV:=dL eu (ar (dC (.str [114,101,102,117,115,101,100])) (ar (dC (.int n)) (aA)))
theorem u5(n:Int)(ε:ag):ub n ε=.ok (rf n) ε:=jQ (fP (eh _ _) (fP (eh _ _) jG)) rfl
theorem Au(n:Int):Pu.eqT ah (rf n) (rf n)=aa (.bl aj):=by unfold rf Pu.eqT;simp[cT,iB,gX,cL,gf];exact⟨by rw[AI];exact decide_eq_true rfl,by simp[dU]⟩
def oW(a:Ad):ag->R aK:=bi (dB (d2 (eqT aj) (dV 8) (dC (.str [117,110,100,111])))) (a9 10 (bi (dB (lz (eqT ah) 6 (dF (dL bX (aA))))) (qR 6) (ub 6))) (bi qy (a9 10 (ub 3)) (bi (dB (d2 (eqT aj) (eK (λxs=>eJ (bc xs)) 6) (dC (.int 9)))) (a9 10 (ub 5)) (ay (ge 6 (dV 8)) (a9 10 (dL bc (ar (aW (aM (mZ a) (gV wu (Pu.bK)))) (aA)))))))
inductive Kd(a:Ad)(w:Nat):PV->Prop
 |un:Kd a w (.str fJ)
 |good {z:Tx} (h:z.length=w/\∀c∈z,c∈bM):Kd a w (.str z)
 |bad {x:PV} (h:t_ a w x):Kd a w x
theorem KI{w:Nat}{ws:List Tx}(hw:eU w ws)(h1:1<=ws.length)(h9:ws.length<=9):Good bM w (bf ws):=Good.perm ⟨λx hx=>(hw x hx).1,λx hx=>(hw x hx).2,h1,h9⟩ (eY _)
theorem B5{ε:ag}{w:Nat}{row:List Tx}(w1:1<=w)(w4:w<=4)(hw:eU w row)(h1:1<=row.length)(h9:row.length<=9)(h2:ε[2]?=aa (.val (.int w)))(h6:cm ε 6=aa (ak row)):aW (aM (mZ a) (gV wu (Pu.bK))) ε=.ok (.lst (ak (TW w row))) ε:=by
 have hT:TW w row=dW w (bf row):=by unfold TW;rw[if_neg (by intro e;rw[e]at h1;simp at h1)]
 rw[hT];exact v7 (QU (Jo h2 h6 ∅) (NB (KI hw h1 h9) w1 w4 (o9 _)))
theorem yG(wh:Wh a)(ns:List Int)(ys:List PV){w:Nat}(pool ws:List Tx)(s7 s9 s10 s11:Slot){x:PV}(w1:1<=w)(w4:w<=4)(hw:eU w ws)(h9:ws.length<=9)(k:Kd a w x):∃ws' r,eU w ws'/\ws'.length<=9/\oW a (fE a ns ys w pool ws ws s7 (.val x) s9 s10 s11)=.ok .next (fE a ns ys w pool ws ws' s7 (.val x) s9 (.val r) s11)/\g6 a [.own (SL a w (ak ws)),.val x]=.ok (.val r) [.own (SL a w (ak ws')),.val x]/\Pu.eqT ah r r=aa (.bl aj):=by
 obtain⟨q3,q5,q6⟩:=CM wh;have ne:=Fa (ε:=fE a ns ys w pool ws ws s7 (.val x) s9 s10 s11) (row:=ws) rfl;cases k with
 |un=>
  have hu:dB (d2 (eqT aj) (dV 8) (dC (.str [117,110,100,111]))) (fE a ns ys w pool ws ws s7 (.val (.str fJ)) s9 s10 s11)=.ok ah (fE a ns ys w pool ws ws s7 (.val (.str fJ)) s9 s10 s11):=dS (dX (d9 (v:=.str fJ) rfl) (eh _ _) (by rw[qx];rfl));by_cases q:ws=[]
  ·subst q;refine⟨[],rf 6,hw,h9,?_,E5 q6 DJ,Au 6⟩;unfold oW;refine(kl hu).trans ?_;refine(iD (x:=rf 6) (ε1:=fE a ns ys w pool [] [] s7 (.val (.str fJ)) s9 s10 s11) ?_).trans rfl;exact(iy (dS ne)).trans (u5 6 _)
  ·obtain⟨pre,z,rfl⟩:∃pre z,ws=pre++[z]:=⟨ws.dropLast,ws.getLast q,(G_ q).symm⟩
   rw[decide_eq_true q]at ne;refine⟨pre,.str z,λy hy=>hw y (by simp[hy]),by simp at h9;lia,?_,Le Kn,Ds z⟩;unfold oW;refine(kl hu).trans ?_;refine(iD (x:=.str z) (ε1:=fE a ns ys w pool (pre++[z]) pre s7 (.val (.str fJ)) s9 s10 s11) ?_).trans rfl;exact(kl (dS ne)).trans (QP rfl)
 |@good z h=>
  have hu:dB (d2 (eqT aj) (dV 8) (dC (.str [117,110,100,111]))) (fE a ns ys w pool ws ws s7 (.val (.str z)) s9 s10 s11)=.ok aj (fE a ns ys w pool ws ws s7 (.val (.str z)) s9 s10 s11):=dS (dX (d9 (v:=.str z) rfl) (eh _ _) (AS h));have ht:qy (fE a ns ys w pool ws ws s7 (.val (.str z)) s9 s10 s11)=.ok aj (fE a ns ys w pool ws ws s7 (.val (.str z)) s9 s10 s11):=by have:=D3 (ε:=fE a ns ys w pool ws ws s7 (.val (.str z)) s9 s10 s11) (z:=z) (w:=w) rfl rfl;rwa[ye h]at this
  have hl:dB (d2 (eqT aj) (eK (λxs=>eJ (bc xs)) 6) (dC (.int 9))) (fE a ns ys w pool ws ws s7 (.val (.str z)) s9 s10 s11)=.ok (decide ((ws.length:Int)=9)) (fE a ns ys w pool ws ws s7 (.val (.str z)) s9 s10 s11):=by refine dS (dX (CV rfl) (eh (.int 9) _) ?_);rw[jM,kE]
  by_cases q:ws.length=9
  ·rw[decide_eq_true ∅]at hl;refine⟨ws,rf 5,hw,h9,?_,CF q5 (AS h) (NR q h),Au 5⟩;unfold oW;refine(iy hu).trans ((iy ht).trans ((kl hl).trans ?_));exact(iD (x:=rf 5) (u5 5 _)).trans rfl
  ·rw[decide_eq_false ∅]at hl;refine⟨ws++[z],.int ((TW w (ws++[z])).length:Nat),hw.app h,by simp;lia,?_,LB (AS h) (HZ w1 w4 hw ∅ h),KL _⟩;unfold oW;refine(iy hu).trans ((iy ht).trans ((iy hl).trans ?_));have ea:ge 6 (dV 8) (fE a ns ys w pool ws ws s7 (.val (.str z)) s9 s10 s11)=.ok .next (fE a ns ys w pool ws (ws++[z]) s7 (.val (.str z)) s9 s10 s11):=by rw[Lq (i:=6) (xs0:=ak ws) (xs:=ak ws) rfl (d9 (i:=8) (v:=.str z) rfl) rfl (by rw[eR];unfold bC;lia),show ak ws++[PV.str z]=ak (ws++[z])from qZ ws [z]];rfl
   refine(bx ea).trans ?_;refine(iD (x:=.int ((TW w (ws++[z])).length:Nat)) (ε1:=fE a ns ys w pool ws (ws++[z]) s7 (.val (.str z)) s9 s10 s11) ?_).trans rfl;refine jQ (fP (B5 w1 w4 (hw.app h) (by simp) (by simp;lia) rfl rfl) jG) ?_;show aa (PV.int _)=_;rw[eR]
 |bad h=>have hu:dB (d2 (eqT aj) (dV 8) (dC (.str [117,110,100,111]))) (fE a ns ys w pool ws ws s7 (.val x) s9 s10 s11)=.ok aj (fE a ns ys w pool ws ws s7 (.val x) s9 s10 s11):=dS (dX (d9 (v:=x) rfl) (eh _ _) h.un);refine⟨ws,rf 3,hw,h9,?_,CF q3 h.un (KU h.no),Au 3⟩;unfold oW;refine(iy hu).trans ((kl (h.t _ rfl rfl)).trans ?_);exact(iD (x:=rf 3) (u5 3 _)).trans rfl
def cD(a:Ad):ag->R Bool:=fu (dB (d2 (eqT ah) (aW (aM (g6 a) (gO 4 (gV (dV 8) (Pu.bK))))) (dV 10))) (dB (p8 (eqT ah) (aW (eM a.Slit (cI "windows") 4 (j4 a))) 6))
def aD(a:Ad):ag->R aK:=bi (dB (lz (eqT ah) 6 (dF (dL bX (aA))))) (a9 11 (aW (aM (mZ a) (gV wu (Pu.bK))))) (bS)
def tD(a:Ad):ag->R Bool:=dB (d2 (eqT ah) (aW (eM a.Slit (cI "told") 4 (lh a))) (bi (dB (d2 (eqT aj) (dL bc (ar (dV 11) (aA))) (dC (.int 1)))) (d2 b7 (dV 11) (dC (.int 0))) (dC .non)))
theorem Lu(ns:List Int)(ys:List PV){w:Nat}(pool ws ws':List Tx)(s7 s9 s11:Slot){x r:PV}(h:g6 a [.own (SL a w (ak ws)),.val x]=.ok (.val r) [.own (SL a w (ak ws')),.val x])(hr:Pu.eqT ah r r=aa (.bl aj)):cD a (fE a ns ys w pool ws ws' s7 (.val x) s9 (.val r) s11)=.ok aj (fE a ns ys w pool ws' ws' s7 (.val x) s9 (.val r) s11):=by have e1:aM (g6 a) (gO 4 (gV (dV 8) (Pu.bK))) (fE a ns ys w pool ws ws' s7 (.val x) s9 (.val r) s11)=.ok (.val r) (fE a ns ys w pool ws' ws' s7 (.val x) s9 (.val r) s11):=Cf rfl (d9 (v:=x) rfl) h;refine y_ (dS (dX (iw e1) (d9 (i:=10) (v:=r) rfl) hr)) (dS ?_);have e2:=v7 (AT (a:=a) (ε:=fE a ns ys w pool ws' ws' s7 (.val x) s9 (.val r) s11) (i:=4) (w:=w) (ws:=ws') rfl);unfold p8;rw[e2,R.bind_ok];show aC (eJ (Pu.eqT ah (.lst (ak ws')) (.lst (ak ws')))) _=_;rw[ui];rfl
theorem OL(ns:List Int)(ys:List PV){w:Nat}(pool ws:List Tx)(s7 s8 s9 s10 s11:Slot)(h9:ws.length<=9):qo (eM a.Slit (cI "windows") 4 (j4 a)) (dC .non) (fE a ns ys w pool ws ws s7 s8 s9 s10 s11)=.ok .next (fE a ns ys w pool ws ws s7 s8 s9 s10 s11):=by unfold qo;rw[AT (a:=a) (w:=w) (ws:=ws) rfl,R.bind_ok];show(if(ak ws).length<bC then _ else _)=_;rw[if_pos (by rw[eR];unfold bC;lia)];rfl
theorem Qv(ns:List Int)(ys:List PV){w:Nat}(pool ws:List Tx)(s7 s8 s9 s10:Slot)(w1:1<=w)(w4:w<=4)(hw:eU w ws)(h9:ws.length<=9):aD a (fE a ns ys w pool ws ws s7 s8 s9 s10 (.val (.lst [])))=.ok .next (fE a ns ys w pool ws ws s7 s8 s9 s10 (.val (.lst (ak (TW w ws))))):=by
 have ne:=dS (Fa (ε:=fE a ns ys w pool ws ws s7 s8 s9 s10 (.val (.lst []))) (row:=ws) rfl);unfold aD;by_cases q:ws=[]
 ·subst q;exact iy ne
 ·rw[decide_eq_true q]at ne;refine(kl ne).trans ?_;exact(iD (B5 w1 w4 hw (Bw.mpr q) h9 rfl rfl)).trans rfl
theorem P7(ns:List Int)(ys:List PV){w:Nat}(pool ws:List Tx)(s7 s8 s9 s10:Slot)(w1:1<=w)(w4:w<=4)(hw:eU w ws)(h9:ws.length<=9):tD a (fE a ns ys w pool ws ws s7 s8 s9 s10 (.val (.lst (ak (TW w ws)))))=.ok aj (fE a ns ys w pool ws ws s7 s8 s9 s10 (.val (.lst (ak (TW w ws))))):=by
 have e1:=E6 (a:=a) (ε:=fE a ns ys w pool ws ws s7 s8 s9 s10 (.val (.lst (ak (TW w ws))))) (i:=4) w1 w4 hw h9 rfl;refine dS (dX (iw e1) (y:=jH w ws) ?_ (Pe w ws));have hl:dL bc (ar (dV 11) (aA)) (fE a ns ys w pool ws ws s7 s8 s9 s10 (.val (.lst (ak (TW w ws)))))=.ok (.int ((TW w ws).length:Nat)) (fE a ns ys w pool ws ws s7 s8 s9 s10 (.val (.lst (ak (TW w ws))))) :=jQ (fP (d9 (i:=11) (v:=.lst (ak (TW w ws))) rfl) jG) (by show aa (PV.int _)=_;rw[eR]);have he:=jM aj ((TW w ws).length:Nat) 1;rw[kE]at he;have hc:=dS (dX (f:=Pu.eqT aj) hl (eh (.int 1) _) he);by_cases q:(TW w ws).length=1
 ·rw[decide_eq_true ∅]at hc;refine(kl hc).trans ?_;obtain⟨t,ht⟩:∃t,TW w ws=[t]:=by
   match h:TW w ws,q with
   |[t],_=>exact⟨t,rfl⟩
  have:jH w ws=.str t:=by unfold jH;rw[ht]
  rw[this];exact dX (d9 (i:=11) (v:=.lst (ak (TW w ws))) rfl) (eh (.int 0) _) (by rw[ht];exact wx t [])
 ·rw[decide_eq_false ∅]at hc;refine(iy hc).trans ?_;have:jH w ws=.non:=by
   unfold jH;split
   ·rename_i t ht;rw[ht]at q;simp at q
   ·rfl
  rw[this];rfl
end
section
variable{a:Ad}
theorem yH(c:Nat)(m:Nat)(hm:m<=10):eC (.str [c]) (.int m)=aa (.str (bG m c)):=by
 show(if(0:Int)<=((m:Nat):Int)/\((m:Nat):Int)<=100/\[c].length<=100 then aa (PV.str (bG ((m:Nat):Int).toNat [c]).flatten)else af)=_;rw[if_pos ⟨∅,∅,by simp⟩];congr 2;rw[mw]
 induction m with
 |zero=>rfl
 |succ m ih=>rw[nW,nW,Bf,ih ∅];rfl
def o3(a:Ad):ag->R aK:=bi (dB (d2 (eqT aj) (dV 9) (dC (.int 0)))) (a9 8 (aW (aM (kQ a) (gV (dV 0) (gO 1 (gV (dV 2) (gV (dV 2) (Pu.bK)))))))) (bS)
def EK:ag->R PV:=dF (dL bX (ar (dC .non) (ar (dC (.str [])) (ar (d2 eC (dC (.str [97])) (d2 bg (dV 2) (dC (.int 1)))) (ar (d2 eC (dC (.str [100])) (dV 2)) (ar (dC (.int 1)) (ar (d2 eC (dC (.str [65])) (dV 2)) (aA))))))))
def o4(a:Ad):ag->R aK:=bi (dB (d2 (eqT aj) (dV 9) (dC (.int 1)))) (a9 8 (aW (aM (lP a) (gV (dV 0) (gO 1 (gV EK (Pu.bK))))))) (bS)
def o5:ag->R aK:=bi (dB (d2 (eqT aj) (dV 9) (dC (.int 2)))) (a9 8 (dC (.str [117,110,100,111]))) (bS)
theorem yD{ε:ag}{v n:Int}(h:ε[9]?=aa (.val (.int v))):dB (d2 (eqT aj) (dV 9) (dC (.int n))) ε=.ok (decide (v=n)) ε:=dS (dX (d9 h) (eh (.int n) _) (by rw[jM,kE]))
theorem NS{ε:ag}{w:Nat}(w4:w<=4)(h2:ε[2]?=aa (.val (.int w))):EK ε=.ok (.lst (uc w)) ε :=w6 (jQ (fP (eh _ _) (fP (eh _ _) (fP (dX (eh (.str [97]) _) (dX (d9 h2) (eh (.int 1) _) (z:=.int ((w+1:Nat):Int)) rfl) (yH 97 (w+1) ∅)) (fP (dX (eh (.str [100]) _) (d9 h2) (yH 100 w ∅)) (fP (eh _ _) (fP (dX (eh (.str [65]) _) (d9 h2) (yH 65 w ∅)) jG)))))) rfl)
theorem Nf(ns:List Int)(ys:List PV){w:Nat}(pool ws:List Tx)(s7 s10 s11:Slot){x:PV}{v:Int}(w2:2<=w)(w4:w<=4)(k:Kd a w x)(hy:ys.length<=400):∃x' ys',Kd a w x'/\ys'.length<=ys.length+8/\∀d:ag->R aK,ay (o3 a) (ay (o4 a) (ay o5 d)) (fE a ns ys w pool ws ws s7 (.val x) (.val (.int v)) s10 s11)=d (fE a ns ys' w pool ws ws s7 (.val x') (.val (.int v)) s10 s11):=by
 have c3:=λ(ys:List PV) (x:PV)=>yD (n:=0) (ε:=fE a ns ys w pool ws ws s7 (.val x) (.val (.int v)) s10 s11) (v:=v) rfl;have c4:=λ(ys:List PV) (x:PV)=>yD (n:=1) (ε:=fE a ns ys w pool ws ws s7 (.val x) (.val (.int v)) s10 s11) (v:=v) rfl;have c5:=λ(ys:List PV) (x:PV)=>yD (n:=2) (ε:=fE a ns ys w pool ws ws s7 (.val x) (.val (.int v)) s10 s11) (v:=v) rfl;have n3:∀ys x,v≠0->o3 a (fE a ns ys w pool ws ws s7 (.val x) (.val (.int v)) s10 s11)=.ok .next (fE a ns ys w pool ws ws s7 (.val x) (.val (.int v)) s10 s11):=λys x h=>by have:=c3 ys x;rw[decide_eq_false h]at this;exact iy this
 have n4:∀ys x,v≠1->o4 a (fE a ns ys w pool ws ws s7 (.val x) (.val (.int v)) s10 s11)=.ok .next (fE a ns ys w pool ws ws s7 (.val x) (.val (.int v)) s10 s11):=λys x h=>by have:=c4 ys x;rw[decide_eq_false h]at this;exact iy this
 have n5:∀ys x,v≠2->o5 (fE a ns ys w pool ws ws s7 (.val x) (.val (.int v)) s10 s11)=.ok .next (fE a ns ys w pool ws ws s7 (.val x) (.val (.int v)) s10 s11):=λys x h=>by have:=c5 ys x;rw[decide_eq_false h]at this;exact iy this
 by_cases h0:v=0
 ·obtain⟨z,y2,z1,z2,zc,hy2,ht⟩:=E8 (a:=a) ns ys w w (bt _) ∅ ∅;refine⟨.str z,y2,.good ⟨∅,zc⟩,∅,λd=>?_⟩;have:=c3 ys x;rw[decide_eq_true h0]at this;have e:o3 a (fE a ns ys w pool ws ws s7 (.val x) (.val (.int v)) s10 s11)=.ok .next (fE a ns y2 w pool ws ws s7 (.val (.str z)) (.val (.int v)) s10 s11):=by refine(kl this).trans ?_;exact(iD (iw (Dh (p:=.lst ys) (p':=.lst y2) rfl rfl (d9 (i:=2) (v:=.int w) rfl) (d9 (i:=2) (v:=.int w) rfl) ht))).trans rfl
  rw[bx e,bx (n4 _ _ ∅),bx (n5 _ _ ∅)]
 ·by_cases h1:v=1
  ·obtain⟨x',kI,hp⟩:=Ak (a:=a) ns ys (uc w) ∅ (by unfold uc;simp);refine⟨x',ys++[.int 0],.bad (PH w2 x' kI),by simp,λd=>?_⟩;have:=c4 ys x;rw[decide_eq_true h1]at this;have e:o4 a (fE a ns ys w pool ws ws s7 (.val x) (.val (.int v)) s10 s11)=.ok .next (fE a ns (ys++[.int 0]) w pool ws ws s7 (.val x') (.val (.int v)) s10 s11):=by refine(kl this).trans ?_;exact(iD (iw (sI (p:=.lst ys) (p':=.lst (ys++[.int 0])) rfl rfl (NS w4 rfl) hp))).trans rfl
   rw[bx (n3 _ _ h0),bx e,bx (n5 _ _ ∅)]
  ·by_cases h2:v=2
   ·refine⟨.str fJ,ys,.un,∅,λd=>?_⟩;have:=c5 ys x;rw[decide_eq_true h2]at this;have e:o5 (fE a ns ys w pool ws ws s7 (.val x) (.val (.int v)) s10 s11)=.ok .next (fE a ns ys w pool ws ws s7 (.val (.str fJ)) (.val (.int v)) s10 s11):=(kl this).trans rfl;rw[bx (n3 _ _ h0),bx (n4 _ _ h1),bx e]
   ·exact⟨x,ys,k,∅,λd=>by rw[bx (n3 _ _ h0),bx (n4 _ _ h1),bx (n5 _ _ h2)]⟩
def lB(a:Ad):ag->R aK:=ay (a9 8 (aW (aM (lP a) (gV (dV 0) (gO 1 (gV (dV 3) (Pu.bK))))))) (ay (a9 9 (aW (aM (jg a) (gV (dV 0) (gO 1 (gV (dC (.int 8)) (Pu.bK))))))) (ay (o3 a) (ay (o4 a) (ay o5 (ay (a9 10 (dC .non)) (ay (oW a) (ay (bi (cD a) (bH (dC (.bl aj))) (bS)) (ay (qo (eM a.Slit (cI "windows") 4 (j4 a)) (dC .non)) (ay (a9 11 (dF (dL bX (aA)))) (ay (aD a) (bi (tD a) (bH (dC (.bl aj))) (bS))))))))))))
theorem JP(wh:Wh a)(ns:List Int)(ys:List PV){w:Nat}(pool ws:List Tx)(s7 s8 s9 s10 s11:Slot)(w2:2<=w)(w4:w<=4)(hp:eU w pool)(mQ:1<=pool.length)(hw:eU w ws)(h9:ws.length<=9)(hy:ys.length<=300):∃ws' ys' f8 s9' s10' s11',eU w ws'/\ws'.length<=9/\ys'.length<=ys.length+10/\lB a (fE a ns ys w pool ws ws s7 s8 s9 s10 s11)=.ok .next (fE a ns ys' w pool ws' ws' s7 f8 s9' s10' s11'):=by
 obtain⟨x,hx,hpk⟩:=Ak (a:=a) ns ys (ak pool) ∅ (by rw[eR];lia);obtain⟨v,v0,v8,hdr⟩:=qY (a:=a) ns (ys++[.int 0]) 8 (by decide) (by simp;lia);obtain⟨z,hz,rfl⟩:=cR.mp hx;obtain⟨x',ys',k',hys',hk⟩:=Nf (a:=a) ns (ys++[.int 0]++[.int 0]) pool ws s7 s10 s11 (v:=v) w2 w4 (.good (hp z hz)) (by simp;lia);obtain⟨ws',r,hw',h9',hdue,hdo,hr⟩:=yG (a:=a) wh ns ys' pool ws s7 (.val (.int v)) (.val .non) s11 ∅ w4 hw h9 k';refine⟨ws',ys',.val x',.val (.int v),.val r,.val (.lst (ak (TW w ws'))),hw',h9',by simp at hys';lia,?_⟩
 ·have e1:a9 8 (aW (aM (lP a) (gV (dV 0) (gO 1 (gV (dV 3) (Pu.bK)))))) (fE a ns ys w pool ws ws s7 s8 s9 s10 s11)=.ok .next (fE a ns (ys++[.int 0]) w pool ws ws s7 (.val (.str z)) s9 s10 s11) :=
   (iD (iw (sI (p:=.lst ys) (p':=.lst (ys++[.int 0])) rfl rfl (d9 (i:=3) (v:=.lst (ak pool)) rfl) hpk))).trans rfl
  have e2:a9 9 (aW (aM (jg a) (gV (dV 0) (gO 1 (gV (dC (.int 8)) (Pu.bK)))))) (fE a ns (ys++[.int 0]) w pool ws ws s7 (.val (.str z)) s9 s10 s11)=.ok .next (fE a ns (ys++[.int 0]++[.int 0]) w pool ws ws s7 (.val (.str z)) (.val (.int v)) s10 s11) :=(iD (iw (sI (p:=.lst (ys++[.int 0])) (p':=.lst (ys++[.int 0]++[.int 0])) rfl rfl (eh (.int 8) _) hdr))).trans rfl;unfold lB;refine(bx e1).trans ((bx e2).trans ((hk _).trans ?_));refine(bx (ε1:=fE a ns ys' w pool ws ws s7 (.val x') (.val (.int v)) (.val .non) s11) rfl).trans ?_;refine(bx hdue).trans ?_;refine(bx (iy (Lu ns ys' pool ws ws' s7 (.val (.int v)) s11 hdo hr))).trans ?_;refine(bx (OL ns ys' pool ws' s7 (.val x') (.val (.int v)) (.val r) s11 h9')).trans ?_;refine(bx (ε1:=fE a ns ys' w pool ws' ws' s7 (.val x') (.val (.int v)) (.val r) (.val (.lst []))) rfl).trans ?_;refine(bx (Qv ns ys' pool ws' s7 (.val x') (.val (.int v)) (.val r) ∅ w4 hw' h9')).trans ?_;exact iy (P7 ns ys' pool ws' s7 (.val x') (.val (.int v)) (.val r) ∅ w4 hw' h9')
theorem Cb(wh:Wh a)(ns:List Int){w:Nat}(pool:List Tx)(w2:2<=w)(w4:w<=4)(hp:eU w pool)(mQ:1<=pool.length):∀(xs:List PV) (ws:List Tx) (ys:List PV) (s7 s8 s9 s10 s11:Slot),eU w ws->ws.length<=9->ys.length+10*xs.length<=300 -> ∃ws' ys' lx f8 s9' s10' s11',eU w ws'/\ws'.length<=9/\dm 7 (lB a) xs (fE a ns ys w pool ws ws s7 s8 s9 s10 s11)=.ok .next (fE a ns ys' w pool ws' ws' lx f8 s9' s10' s11')
 |[],ws,ys,s7,s8,s9,s10,s11,hw,h9,hy=>⟨ws,ys,s7,s8,s9,s10,s11,hw,h9,rfl⟩
 |x::xs,ws,ys,s7,s8,s9,s10,s11,hw,h9,hy=>by simp only[eF]at hy;obtain⟨ws1,ys1,t8,t9,t10,t11,hw1,h91,hy1,e⟩:=JP (a:=a) wh ns ys pool ws (.val x) s8 s9 s10 s11 w2 w4 hp mQ hw h9 ∅;obtain⟨ws2,ys2,u7,u8,u9,u10,u11,hw2,h92,e2⟩:=Cb wh ns pool w2 w4 hp mQ xs ws1 ys1 (.val x) t8 t9 t10 t11 hw1 h91 ∅;refine⟨ws2,ys2,u7,u8,u9,u10,u11,hw2,h92,?_⟩;rw[dm,show(fE a ns ys w pool ws ws s7 s8 s9 s10 s11).set 7 (.val x)=fE a ns ys w pool ws ws (.val x) s8 s9 s10 s11 from rfl,e];exact e2
def yQ(a:Ad):ag->R aK:=bH (gx (d2 (eqT aj) (aW (eM a.Slit (cI "windows") 5 (j4 a))) (dF (dL bX (aA)))) (gx (d2 (ka aj) (aW (eM a.Slit (cI "told") 5 (lh a))) (dC .non)) (d2 (eqT aj) (aW (aM (g6 a) (gO 5 (gV (dC (.str [117,110,100,111])) (Pu.bK))))) (ub 6))))
theorem IV(n:Int):Pu.eqT aj (rf n) (rf n)=aa (.bl ah):=by unfold rf Pu.eqT;simp[cT,iB,gX,cL,gf];exact⟨by rw[AI];exact decide_eq_true rfl,by simp[dU]⟩
theorem BS{d1 d2:ag->R PV}{ε ε1:ag}(h:d1 ε=.ok (.bl ah) ε1):gx d1 d2 ε=d2 ε1:=by unfold gx;rw[dS h,R.bind_ok]
theorem Js(wh:Wh a){ε:ag}(h5:ε[5]?=aa (.own (SL a 1 (ak [])))):yQ a ε=.ok (.ret (.val (.bl ah))) ε:=by
 obtain⟨_,_,q6⟩:=CM wh;have e1:=v7 (AT (a:=a) (i:=5) (w:=1) (ws:=[]) h5);have e2:=iw (E6 (a:=a) (i:=5) (w:=1) (ws:=[]) (by decide) (by decide) (λx hx=>by cases hx) (by simp) h5);have e3:=iw (Cf (G:=g6 a) (d:=dC (.str [117,110,100,111])) h5 (eh (.str fJ) ε) (E5 q6 DJ));rw[wb h5]at e3;have r1:=dX (f:=Pu.eqT aj) e1 (show dF (dL bX aA) ε=.ok (.lst []) ε from rfl) (show Pu.eqT aj (.lst (ak [])) (.lst [])=aa (.bl ah)from rfl);have r2:=dX (f:=ka aj) e2 (eh .non ε) (show ka aj (jH 1 []) .non=aa (.bl ah)from rfl);have r3:=dX (f:=Pu.eqT aj) e3 (u5 6 ε) (IV 6);unfold yQ bH;rw[BS r1,BS r2,r3];rfl
def x_(a:Ad):ag->R Bool:=j5 (dB (d2 (cc λi j=>decide (i<j)) (eK (λxs=>eJ (bc xs)) 6) (dC (.int 9)))) (dB (d2 (eqT ah) (aW (eM a.Slit (cI "fitting") 4 (qX a))) (aW (aM (rm a) (gV (dV 2) (gV (dM 6) (Pu.bK)))))))
def gE(a:Ad)(ns:List Int)(ys:List PV)(w:Nat)(pool ws:List Tx)(s6 s7 s8 s9 s10 s11:Slot):ag:=[cU ns,.own (.lst ys),.val (.int w),.val (.lst (ak pool)),.own (SL a w (ak ws)),.own (SL a 1 []),s6,s7,s8,s9,s10,s11]
theorem Iq(ns:List Int)(ys:List PV){w:Nat}(pool ws:List Tx)(s7 s8 s9 s10 s11:Slot)(w1:1<=w)(w4:w<=4)(hw:eU w ws):∃s6,x_ a (fE a ns ys w pool ws ws s7 s8 s9 s10 s11)=.ok aj (gE a ns ys w pool ws s6 s7 s8 s9 s10 s11):=by
 have hl:dB (d2 (cc λi j=>decide (i<j)) (eK (λxs=>eJ (bc xs)) 6) (dC (.int 9))) (fE a ns ys w pool ws ws s7 s8 s9 s10 s11)=.ok (decide ((ws.length:Int)<9)) (fE a ns ys w pool ws ws s7 s8 s9 s10 s11):=dS (dX (CV (row:=ws) rfl) (eh (.int 9) _) rfl);unfold x_ j5;by_cases q:ws.length<9
 ·rw[decide_eq_true ∅]at hl;refine⟨.val (.lst (ak ws)),?_⟩;rw[hl,R.bind_ok];have e1:=iw (HF (a:=a) (ε:=fE a ns ys w pool ws ws s7 s8 s9 s10 s11) (i:=4) w1 w4 hw ∅ rfl);have hn:=JT (a:=a) w1 w4 hw (show ws.length<=8 by lia);have e2:aM (rm a) (gV (dV 2) (gV (dM 6) (Pu.bK))) (fE a ns ys w pool ws ws s7 s8 s9 s10 s11)=.ok (.own (.lst (ak ((bz w).filter (fits w ws))))) (gE a ns ys w pool ws (.val (.lst (ak ws))) s7 s8 s9 s10 s11):=by unfold aM;rw[vx (d9 (i:=2) (v:=.int w) rfl) (vx (show dM 6 (fE a ns ys w pool ws ws s7 s8 s9 s10 s11)=.ok (.lst (ak ws)) (gE a ns ys w pool ws (.val (.lst (ak ws))) s7 s8 s9 s10 s11)from rfl) D1),R.bind_ok];generalize gE a ns ys w pool ws (.val (.lst (ak ws))) s7 s8 s9 s10 s11=ε;generalize PO.lst (ak ((bz w).filter (fits w ws)))=F at hn ⊢;generalize PV.lst (ak ws)=L at hn ⊢;simp[bu,bW,aC,R.bind,hn,cb,cf,b_]
  exact dS (dX e1 (v7 e2) (ui _))
 ·rw[decide_eq_false ∅]at hl;refine⟨.own (.lst (ak ws)),?_⟩;rw[hl,R.bind_ok];rfl
theorem Mn(wh:Wh a)(ns:List Int):sL a [cU ns]=.ok (.val (.bl ah)) [cU ns]:=by
 obtain⟨Y0,hY0⟩:∃Y0:List PV,Y0=[]:=⟨_,rfl⟩
 have l0:Y0.length=0:=by rw[hY0];rfl
 obtain⟨w0,w00,w01,hdw⟩:=qY (a:=a) ns Y0 3 (by decide) ∅;obtain⟨Y1,hY1⟩:∃Y1:List PV,Y1=Y0++[.int 0]:=⟨_,rfl⟩
 have l1:Y1.length=1:=by rw[hY1];simp[l0]
 rw[←hY1]at hdw;obtain⟨w,hw0⟩:∃w:Nat,2+w0=(w:Nat):=⟨(2+w0).toNat,∅⟩
 have w2:2<=w:=∅
 have w4:w<=4:=∅
 obtain⟨z,Y2,z1,z9,zc,l2,htx⟩:=E8 (a:=a) ns Y1 w 9 ∅ ∅ ∅;have hsn:=Ah (a:=a) z w ∅;obtain⟨pool,BE⟩:∃pool,pool=bf (a5 z w):=⟨_,rfl⟩
 rw[←BE]at hsn;have hp:eU w pool:=λx hx=>by rw[BE,(eY _).mem_iff]at hx;have:=Mx.Km hx;exact⟨this.1,λc hc=>zc c (this.2 c hc)⟩
 have mQ:1<=pool.length:=by rw[BE,(eY _).length_eq,nE ∅];lia
 obtain⟨n0,n00,n01,j3⟩:=qY (a:=a) ns Y2 16 (by decide) ∅;obtain⟨Y3,hY3⟩:∃Y3:List PV,Y3=Y2++[.int 0]:=⟨_,rfl⟩
 have l3:Y3.length<=13:=by rw[hY3,dI,pJ];lia
 rw[←hY3]at j3;obtain⟨n,hn⟩:∃n:Nat,n0=(n:Nat):=⟨n0.toNat,∅⟩
 subst hn;obtain⟨ws,ys,s7,s8,s9,s10,s11,hw,h9,hlp⟩:=Cb (a:=a) wh ns pool w2 w4 hp mQ (e_ 0 n) [] Y3 .none .none .none .none .none (λx hx=>by cases hx) (by simp) (by simp[e_];lia);obtain⟨s6,rW⟩:=Iq (a:=a) ns ys pool ws s7 s8 s9 s10 s11 ∅ w4 hw;have k1:cg 1 (dL bX aA) [cU ns,.none,.none,.none,.none,.none,.none,.none,.none,.none,.none,.none]=.ok .next [cU ns,.own (.lst Y0),.none,.none,.none,.none,.none,.none,.none,.none,.none,.none]:=by rw[hY0];rfl
 have k2:a9 2 (d2 bg (dC (.int 2)) (aW (aM (jg a) (gV (dV 0) (gO 1 (gV (dC (.int 3)) (Pu.bK))))))) [cU ns,.own (.lst Y0),.none,.none,.none,.none,.none,.none,.none,.none,.none,.none]=.ok .next [cU ns,.own (.lst Y1),.val (.int w),.none,.none,.none,.none,.none,.none,.none,.none,.none] :=(iD (dX (eh (.int 2) _) (iw (sI (p:=.lst Y0) (p':=.lst Y1) rfl rfl (eh (.int 3) _) hdw)) (by show aa (PV.int (2+w0))=_;rw[hw0]))).trans rfl;have k3:a9 3 (dF (dL nk (ar (aW (aM (kc a) (gV (aW (aM (kQ a) (gV (dV 0) (gO 1 (gV (dV 2) (gV (dC (.int 9)) (Pu.bK))))))) (gV (dV 2) (Pu.bK))))) (aA)))) [cU ns,.own (.lst Y1),.val (.int w),.none,.none,.none,.none,.none,.none,.none,.none,.none]=.ok .next [cU ns,.own (.lst Y2),.val (.int w),.val (.lst (ak pool)),.none,.none,.none,.none,.none,.none,.none,.none]:=by
  have e1:aW (aM (kQ a) (gV (dV 0) (gO 1 (gV (dV 2) (gV (dC (.int 9)) (Pu.bK)))))) [cU ns,.own (.lst Y1),.val (.int w),.none,.none,.none,.none,.none,.none,.none,.none,.none]=.ok (.str z) [cU ns,.own (.lst Y2),.val (.int w),.none,.none,.none,.none,.none,.none,.none,.none,.none] :=iw (Dh (p:=.lst Y1) (p':=.lst Y2) rfl rfl (d9 (i:=2) (v:=.int w) rfl) (eh (.int 9) _) htx);have e2:aM (kc a) (gV (aW (aM (kQ a) (gV (dV 0) (gO 1 (gV (dV 2) (gV (dC (.int 9)) (Pu.bK))))))) (gV (dV 2) (Pu.bK))) [cU ns,.own (.lst Y1),.val (.int w),.none,.none,.none,.none,.none,.none,.none,.none,.none]=.ok (.val (.tup (ak pool))) [cU ns,.own (.lst Y2),.val (.int w),.none,.none,.none,.none,.none,.none,.none,.none,.none]:=by generalize aW (aM (kQ a) _)=D at e1 ⊢;unfold aM;rw[vx e1 (vx (d9 (i:=2) (v:=.int w) rfl) D1),R.bind_ok];generalize kc a=G at hsn ⊢;generalize PV.tup (ak pool)=T at hsn ⊢;simp[bu,bW,aC,R.bind,hsn,cb,cf,b_]
  exact(iD (w6 (jQ (fP (iw e2) jG) rfl))).trans rfl
 have k4:cg 4 (oO a.Slit (nI a) (gV (dV 2) (Pu.bK))) [cU ns,.own (.lst Y2),.val (.int w),.val (.lst (ak pool)),.none,.none,.none,.none,.none,.none,.none,.none]=.ok .next [cU ns,.own (.lst Y2),.val (.int w),.val (.lst (ak pool)),.own (SL a w []),.none,.none,.none,.none,.none,.none,.none]:=by unfold cg;rw[F8 ∅ w4 (d9 (i:=2) (v:=.int w) rfl)];rfl
 have k5:cg 5 (oO a.Slit (nI a) (gV (dC (.int 1)) (Pu.bK))) [cU ns,.own (.lst Y2),.val (.int w),.val (.lst (ak pool)),.own (SL a w []),.none,.none,.none,.none,.none,.none,.none]=.ok .next [cU ns,.own (.lst Y2),.val (.int w),.val (.lst (ak pool)),.own (SL a w []),.own (SL a 1 []),.none,.none,.none,.none,.none,.none]:=by unfold cg;rw[F8 (w:=1) (by decide) (by decide) (eh (.int 1) _)];rfl
 have k6:cg 6 (dL bX aA) [cU ns,.own (.lst Y2),.val (.int w),.val (.lst (ak pool)),.own (SL a w []),.own (SL a 1 []),.none,.none,.none,.none,.none,.none]=.ok .next (fE a ns Y2 w pool [] [] .none .none .none .none .none):=rfl;have k7:dL iO (ar (aW (aM (jg a) (gV (dV 0) (gO 1 (gV (dC (.int 16)) (Pu.bK)))))) (aA)) (fE a ns Y2 w pool [] [] .none .none .none .none .none)=.ok (e_ 0 n) (fE a ns Y3 w pool [] [] .none .none .none .none .none) :=jQ (fP (iw (sI (p:=.lst Y2) (p':=.lst Y3) rfl rfl (eh (.int 16) _) j3)) jG) (tR ∅);have hb:yay a [cU ns,.none,.none,.none,.none,.none,.none,.none,.none,.none,.none,.none]=.ok (.ret (.val (.bl ah))) (gE a ns ys w pool ws s6 s7 s8 s9 s10 s11):=by show ay _ (ay _ (ay _ (ay _ (ay _ (ay _ (ay (λε=>cA (bR 7 _ (lB a) ε)) (ay (bi (x_ a) _ _) (yQ a)))))))) _=_;refine(bx k1).trans ?_;refine(bx k2).trans ?_;refine(bx k3).trans ?_;refine(bx k4).trans ?_;refine(bx k5).trans ?_;refine(bx k6).trans ?_;refine(Jj k7 hlp).trans ?_;refine(bx (iy rW)).trans ?_;exact Js wh rfl
 unfold sL;unfold gE at hb;generalize yay a=D at hb;generalize SL a w (ak ws)=P at hb;generalize SL a 1 []=P1 at hb;generalize ak pool=A2 at hb;simp[bD,eZ,bq,bG,hb,back,aC,R.bind,fQ]
end
open L2 Pu Sh
def tY(K:aq)(a:Ad):Bool:=n6 K a.SlitError tz "ValueError.__new__" && (gh a).all (λx=>n6 K x tz "ValueError.__new__" && subB K a.SlitError x&&we K x&&(gh a).all (λd=>gH K (.ref x) (.ref d) == aa (x == d))&&gH K (.ref x) (.type "ValueError") == aa ah)&&ya K
section
variable{K:aq}{h base:aE}{mg:Str->Option ai}{a:Ad}
theorem lK(h:tY K a=ah):n6 K a.SlitError tz "ValueError.__new__" = ah/\(∀x∈gh a,n6 K x tz "ValueError.__new__" = ah/\subB K a.SlitError x=ah/\we K x=ah/\(∀d∈gh a,gH K (.ref x) (.ref d)=aa (x == d))/\gH K (.ref x) (.type "ValueError")=aa ah)/\ya K=ah:=by unfold tY at h;simp only[fq,mC,beq_iff_eq,decide_eq_true_eq]at h;obtain⟨⟨h1,h2⟩,h3⟩:=h;exact⟨h1,λx hx=>⟨(h2 x hx).1.1.1.1,(h2 x hx).1.1.1.2,(h2 x hx).1.1.2,(h2 x hx).1.2,(h2 x hx).2⟩,h3⟩
theorem Nj(h:tY K a=ah):y9 K (km a):=by
 obtain⟨_,h2,_⟩:=lK h;intro c D b e;unfold km at e;split at e
 ·rename_i x d;split at e
  ·rename_i hc;rw[fq]at hc;cases e;have hx:x∈gh a:=by simpa using hc.1
   have hd:d∈gh a:=by simpa using hc.2
   exact⟨x,.ref d,rfl,Dk (h2 x hx).2.2.1,rfl,(h2 x hx).2.2.2.1 d hd⟩
  ·cases e
 ·rename_i x T;split at e
  ·rename_i hc;rw[fq]at hc;cases e;have hx:x∈gh a:=by simpa using hc.1
   have hT:T = "ValueError":=by simpa using hc.2
   subst hT;exact⟨x,.type "ValueError",rfl,Dk (h2 x hx).2.2.1,rfl,(h2 x hx).2.2.2.2⟩
  ·cases e
 ·cases e
theorem N0(X:K.In base)(h:tY K a=ah):∀c,mS a c=ah->Under base a.SlitError c:=by
 obtain⟨_,h2,_⟩:=lK h;intro c e;unfold mS at e;split at e
 ·rename_i x;have hx:x∈gh a:=by simpa using e
  exact J7 X (h2 x hx).1 (h2 x hx).2.1
 ·cases e
structure Top(K:aq)(a:Ad):Prop where
 ybe:jp K a.Slit "undo" "Slit.undo" zj
 ybb:jp K a.Slit "come" "Slit.come" AK
 yaP:vO K a.Slit "Slit.__init__" yO
 ybd:jp K a.Slit "told" "Slit.told" zP
 ybc:jp K a.Slit "fitting" "Slit.fitting" wp
 ybf:jp K a.Slit "windows" "Slit.windows" y6
 k_Slit:Cls K a.Slit
 ya4:gF K a.Slit "came"
 ya5:gF K a.Slit "width"
 yaA:cN K "_law_cell_at" yv
 yaD:cN K "_law_mixed" yf
 yaC:cN K "_law_draw" zH
 yaG:cN K "_law_seen" yh
 yaF:cN K "_law_pick" AE
 yaH:cN K "_law_text" zq
 yaJ:cN K "_law_within" xu
 yaz:cN K "_law_all" vj
 yav:cN K "is_whole_number" yY
 yaw:cN K "is_width" AU
 yar:cN K "has_only" vI
 yax:cN K "is_window" Ap
 yak:cN K "are_windows" vM
 yau:cN K "is_view_with" Ag
 yat:cN K "is_view" zU
 yal:cN K "check_view" AV
 yaj:cN K "add_endings" zb
 yao:cN K "counted" yN
 yaM:cN K "texts" xk
 yas:cN K "how_many" zv
 yaE:cN K "_law_next" sw
 yaI:cN K "_law_which" ze
 yan:cN K "check_window" zG
 yaN:cN K "texts_with" yC
 yaB:cN K "_law_do" z8
 yam:cN K "check_width" AZ
 yaO:cN K "windows_that_fit" vL
 yap:cN K "excesses" ym
 yaK:cN K "reached_pieces" yI
 yaq:cN K "find_bar" ti
 yaL:cN K "some_text_has" zK
 yay:cN K "law" sq
 yaQ:cY K b9 "ValueError" = aa af
 yaR:cY K b9 "all" = aa af
 yaS:cY K b9 "any" = aa af
 yaT:cY K b9 "bool" = aa af
 yaU:cY K b9 "enumerate" = aa af
 yaV:cY K b9 "int" = aa af
 yaW:cY K b9 "isinstance" = aa af
 yaX:cY K b9 "len" = aa af
 yaY:cY K b9 "list" = aa af
 yaZ:cY K b9 "range" = aa af
 ya0:cY K b9 "set" = aa af
 ya1:cY K b9 "sorted" = aa af
 ya2:cY K b9 "str" = aa af
 ya3:cY K b9 "tuple" = aa af
 ybg:∃t,cY K b9 "LETTERS" = aa (aa (.str (tS [97,98,99]) t))
 ybh:∃t,cY K b9 "MOST_LETTERS" = aa (aa (.int 12 t))
 ybi:∃t,cY K b9 "MOST_WINDOWS" = aa (aa (.int 9 t))
 ybj:∃t,cY K b9 "POINT" = aa (aa (.str (tS [46]) t))
 ybk:∃t,cY K b9 "WIDEST" = aa (aa (.int 4 t))
 yai:cY K b9 "SlitError" = aa (aa (.ref a.SlitError))
 yac:cY K b9 "NoText" = aa (aa (.ref a.NoText))
 yae:cY K b9 "NoWidth" = aa (aa (.ref a.NoWidth))
 yad:cY K b9 "NoView" = aa (aa (.ref a.NoView))
 yaf:cY K b9 "NoWindow" = aa (aa (.ref a.NoWindow))
 yab:cY K b9 "Never" = aa (aa (.ref a.Never))
 yaa:cY K b9 "Full" = aa (aa (.ref a.Full))
 yag:cY K b9 "Nothing" = aa (aa (.ref a.Nothing))
 yah:cY K b9 "Slit" = aa (aa (.ref a.Slit))
 ck:tY K a=ah
 z0:pt K "road" = af
 wh:Wh a
theorem Ki(T:Top K a)(X:K.In base)(G:base.Ns b9 mg):cj K mg base a where
 ybe:=T.ybe
 ybb:=T.ybb
 yaP:=T.yaP
 ybd:=T.ybd
 ybc:=T.ybc
 ybf:=T.ybf
 k_Slit:=T.k_Slit
 ya4:=T.ya4
 ya5:=T.ya5
 yaA:=T.yaA.at X G
 yaD:=T.yaD.at X G
 yaC:=T.yaC.at X G
 yaG:=T.yaG.at X G
 yaF:=T.yaF.at X G
 yaH:=T.yaH.at X G
 yaJ:=T.yaJ.at X G
 yaz:=T.yaz.at X G
 yav:=T.yav.at X G
 yaw:=T.yaw.at X G
 yar:=T.yar.at X G
 yax:=T.yax.at X G
 yak:=T.yak.at X G
 yau:=T.yau.at X G
 yat:=T.yat.at X G
 yal:=T.yal.at X G
 yaj:=T.yaj.at X G
 yao:=T.yao.at X G
 yaM:=T.yaM.at X G
 yas:=T.yas.at X G
 yaE:=T.yaE.at X G
 yaI:=T.yaI.at X G
 yan:=T.yan.at X G
 yaN:=T.yaN.at X G
 yaB:=T.yaB.at X G
 yam:=T.yam.at X G
 yaO:=T.yaO.at X G
 yap:=T.yap.at X G
 yaK:=T.yaK.at X G
 yaq:=T.yaq.at X G
 yaL:=T.yaL.at X G
 yay:=T.yay.at X G
 yaQ:=jA X G T.yaQ
 yaR:=jA X G T.yaR
 yaS:=jA X G T.yaS
 yaT:=jA X G T.yaT
 yaU:=jA X G T.yaU
 yaV:=jA X G T.yaV
 yaW:=jA X G T.yaW
 yaX:=jA X G T.yaX
 yaY:=jA X G T.yaY
 yaZ:=jA X G T.yaZ
 ya0:=jA X G T.ya0
 ya1:=jA X G T.ya1
 ya2:=jA X G T.ya2
 ya3:=jA X G T.ya3
 ybg:=T.ybg.imp λ_ e=>gv X G e
 ybh:=T.ybh.imp λ_ e=>gv X G e
 ybi:=T.ybi.imp λ_ e=>gv X G e
 ybj:=T.ybj.imp λ_ e=>gv X G e
 ybk:=T.ybk.imp λ_ e=>gv X G e
 yai:=gv X G T.yai
 yac:=gv X G T.yac
 yae:=gv X G T.yae
 yad:=gv X G T.yad
 yaf:=gv X G T.yaf
 yab:=gv X G T.yab
 yaa:=gv X G T.yaa
 yag:=gv X G T.yag
 yah:=gv X G T.yah
 ya7:=sM X (gv X G T.yad) ((lK T.ck).2.1 a.NoView (by simp[gh])).1
 yba:=sM X (gv X G T.yag) ((lK T.ck).2.1 a.Nothing (by simp[gh])).1
 ya9:=sM X (gv X G T.yaf) ((lK T.ck).2.1 a.NoWindow (by simp[gh])).1
 ya6:=sM X (gv X G T.yaa) ((lK T.ck).2.1 a.Full (by simp[gh])).1
 ya8:=sM X (gv X G T.yae) ((lK T.ck).2.1 a.NoWidth (by simp[gh])).1
 err_SlitError:=O0 X (lK T.ck).1
 und:=N0 X T.ck
 tab:=Nj T.ck
theorem Lr{l:Bi}{w:aP}{fa:ac}(X:K.In h)(G:h.Ns b9 mg)(hfa:mg "law" = aa (.ref fa))(T:Top K a):∃fd:gn,(∀(s:am) (v:ai),BindsTo s fd ⟨[v],[]⟩ [("_law_script",v)])/\∀base:aE,K.In base->base.Ns b9 mg->gL l.prog w K mg base (bT l.prog w) 18 fa fd ["_law_script"] (bp K (sL a)):=by
 obtain⟨f,oc,od,kV,dc,pm,an,cd,ct,sl,e1,e2,e3,e4⟩:=T.yay;have e:=hfa.symm.trans (gv X G e1);cases e;exact⟨_,λs v=>.of_eq rfl,λbase XB GB=>Mz (Ki T XB GB) (wN e2 e3 e4)⟩
theorem K1{l:Bi}{q:ba}{loose:List Str}{XP:(Str->Option ai)->aE->Prop}{YP:aP->aE->Prop}{d:DefRec}{K:Params->aq}(hn:l.most=aa 63)(pU:d.params.defaults=[])(hnm:d.name = "law")(hY:∀(w:aP) (h:aE),YP w h->(K w.params).In h) {a:Ad} (T:∀w:aP,Top (K w.params) a):PySem.W.WalkO q loose XP YP l.row.toRowW d [] (λf vs=>PySem.call f vs) :=
 L2.RA (n:=63) (k:=18) (x:="_law_script") (K:=K) (CX:=λw=>bT l.prog w) (sp:=λw=>bp (K w.params) (sL a)) hn (by decide) pU ⟨rfl,by decide,by decide⟩ (λw h Y=>⟨hY w h Y,λc P e=>by rw[(T w).z0]at e;cases e⟩)
  (λw mg fa h KX G uU=>Lr KX G (by rw[←hnm];exact uU) (T w))
  (λw H b ns hl _ hS=>Pr (OJ (lK (T w).ck).2.2 hS) (Mn (T w).wh ns))
  (λw H s e s' z=>by obtain⟨_,_,_,_,_,_,_,_,_,_,_,f⟩:=z;exact f)
theorem Ru{l:Bi}{q:ba}{loose:List Str}{XP:(Str->Option ai)->aE->Prop}{YP:aP->aE->Prop}{d:DefRec}{K:Params->aq}{yai yac yae yad yaf yab yaa yag yah:ac}(hn:l.most=aa 63)(pU:d.params.defaults=[])(hnm:d.name = "law")(hY:∀(w:aP) (h:aE),YP w h->(K w.params).In h) (T:∀w:aP,Top (K w.params) ⟨yai,yac,yae,yad,yaf,yab,yaa,yag,yag,yag,yag,yag,0,yah⟩):PySem.W.WalkO q loose XP YP l.row.toRowW d [] (λf vs=>PySem.call f vs):=K1 hn pU hnm hY T
end
end K06
def PySem.W.Fast.tw12864914652136678490:Nat:=0
def PySem.W.Fast.tw1118119517322665134:Nat:=0
def PySem.W.Fast.tw6289633534576611238:Nat:=0
def PySem.W.Fast.tw8740795958229113171:Nat:=0
def PySem.W.Fast.tw1718148169963895893:Nat:=0
def PySem.W.Fast.tw15222385714501343624:Nat:=0
def PySem.W.Fast.tw8981542743791461271:Nat:=0
def PySem.W.Fast.tw10272581443792008925:Nat:=0
def PySem.W.Fast.tw2742912369602729439:Nat:=0
def PySem.W.Fast.tw1079251228744066406:Nat:=0
def PySem.W.Fast.tw14641885396503220524:Nat:=0
def PySem.W.Fast.tw12476282566850523203:Nat:=0
def PySem.W.Fast.tw8626511266806507244:Nat:=0
def PySem.W.Fast.tw15025495668186262600:Nat:=0
def PySem.W.Fast.tw3170731648840478032:Nat:=0
def PySem.W.Fast.tw883761726837584128:Nat:=0
def PySem.W.Fast.tw5249444380662569647:Nat:=0
def PySem.W.Fast.tw4078816031613745222:Nat:=0
def PySem.W.Fast.tw3022148851321703554:Nat:=0
def PySem.W.Fast.tw13002047028501210793:Nat:=0
def PySem.W.Fast.tw2272648358456374418:Nat:=0
def PySem.W.Fast.tw15881441761065647861:Nat:=0
def PySem.W.Fast.tw5354311562886906864:Nat:=0
def PySem.W.Fast.tw17258853384419453134:Nat:=0
def PySem.W.Fast.tw1359893734355383363:Nat:=0
def PySem.W.Fast.tw3693569434043826310:Nat:=0
def PySem.W.Fast.tw6813093757106821253:Nat:=0
def PySem.W.Fast.tw4460967707667335494:Nat:=0
def PySem.W.Fast.tw14573321520716947436:Nat:=0
def PySem.W.Fast.tw4216260564469999745:Nat:=0
def PySem.W.Fast.tw16945524033088630242:Nat:=0
def PySem.W.Fast.tw5021898829206688433:Nat:=0
def PySem.W.Fast.tw13813487689394444059:Nat:=0
def PySem.W.Fast.tw1346592190360994116:Nat:=0
def PySem.W.Fast.tw15830352374894949787:Nat:=0
def PySem.W.Fast.tw17167232779344693366:Nat:=0
def PySem.W.Fast.tw11217868585365844015:Nat:=0
def PySem.W.Fast.tw18014025877165234005:Nat:=0
def PySem.W.Fast.tw5732491012422810002:Nat:=0
def PySem.W.Fast.tw9257914034996064917:Nat:=0
def PySem.W.Fast.tw7188633175703131845:Nat:=0
def PySem.W.Fast.tw11005941975818499683:Nat:=0
def PySem.W.Fast.tw9876254258813668052:Nat:=0
def PySem.W.Fast.tw16178508987039667875:Nat:=0
def PySem.W.Fast.tw5882100196466650305:Nat:=0
def PySem.W.Fast.tw6246771834327663913:Nat:=0
def PySem.W.Fast.tw11000619831412658974:Nat:=0
def PySem.W.Fast.tw3183443817920120844:Nat:=0
def PySem.W.Fast.tw3559957027648486988:Nat:=0
def PySem.W.Fast.tw14421392857844670581:Nat:=0
def PySem.W.Fast.tw6418710428515888052:Nat:=0
def PySem.W.Fast.tw561441959297621358:Nat:=0
def PySem.W.Fast.tw3793538286854922395:Nat:=0
def PySem.W.Fast.tw14120699300278174225:Nat:=0
def PySem.W.Fast.tw4864107734368569763:Nat:=0
def PySem.W.Fast.tw13355640936545387889:Nat:=0
def PySem.W.Fast.tw12297844250659845901:Nat:=0
def PySem.W.Fast.tw13527503590921096367:Nat:=0
def PySem.W.Fast.tw997859517489749611:Nat:=0
def PySem.W.Fast.tw14265338392311904040:Nat:=0
open PySem PySem.W PyProof.Rows
set_option maxRecDepth 100000 in
set_option maxHeartbeats 0 in
theorem PySem.Challenge.cw_slitview_k06_whole_slits_holds : PySem.Challenge.rw_slitview_k06_whole_slits.Holds := by
 w_on; o_law; k_head; (case hw=>w_witness2)
 k_fill
 refine' K06.Ru (l:=PySem.Challenge.rw_slitview_k06_whole_slits) rfl rfl rfl (fun w h Y=>PySem.W.kIn_of Y) ?T
 case T =>
  intro w
  refine' { ybe:=?ybe,ybb:=?ybb,yaP:=?yaP,ybd:=?ybd,ybc:=?ybc,ybf:=?ybf,k_Slit:=?k_Slit,ya4:=?ya4,ya5:=?ya5,yaA:=?yaA,yaD:=?yaD,yaC:=?yaC,yaG:=?yaG,yaF:=?yaF,yaH:=?yaH,yaJ:=?yaJ,yaz:=?yaz,yav:=?yav,yaw:=?yaw,yar:=?yar,yax:=?yax,yak:=?yak,yau:=?yau,yat:=?yat,yal:=?yal,yaj:=?yaj,yao:=?yao,yaM:=?yaM,yas:=?yas,yaE:=?yaE,yaI:=?yaI,yan:=?yan,yaN:=?yaN,yaB:=?yaB,yam:=?yam,yaO:=?yaO,yap:=?yap,yaK:=?yaK,yaq:=?yaq,yaL:=?yaL,yay:=?yay,yaQ:=?yaQ,yaR:=?yaR,yaS:=?yaS,yaT:=?yaT,yaU:=?yaU,yaV:=?yaV,yaW:=?yaW,yaX:=?yaX,yaY:=?yaY,yaZ:=?yaZ,ya0:=?ya0,ya1:=?ya1,ya2:=?ya2,ya3:=?ya3,ybg:=?ybg,ybh:=?ybh,ybi:=?ybi,ybj:=?ybj,ybk:=?ybk,yai:=?yai,yac:=?yac,yae:=?yae,yad:=?yad,yaf:=?yaf,yab:=?yab,yaa:=?yaa,yag:=?yag,yah:=?yah,ck:=?ck,z0:=?z0,wh:=?wh }
  (case yai=>k_is)
  (case yac=>k_is)
  (case yae=>k_is)
  (case yad=>k_is)
  (case yaf=>k_is)
  (case yab=>k_is)
  (case yaa=>k_is)
  (case yag=>k_is)
  (case yah=>k_is)
  (case ybe=>refine' Pu.Rx ?yi ?yn ?yl ?yc ?yk; (case yi=>k_is); (case yn=>k_is); (case yl=>k_is); (case yc=>k_is); (case yk=>k_is))
  (case ybb=>refine' Pu.Rx ?yi ?yn ?yl ?yc ?yk; (case yi=>k_is); (case yn=>k_is); (case yl=>k_is); (case yc=>k_is); (case yk=>k_is))
  (case yaP=>refine' Pu.Rg ?zm ?zi ?zn ?zp ?zl ?zc ?zk; (case zm=>k_is); (case zi=>k_is); (case zn=>k_is); (case zp=>k_is); (case zl=>k_is); (case zc=>k_is); (case zk=>k_is))
  (case ybd=>refine' Pu.Rx ?yi ?yn ?yl ?yc ?yk; (case yi=>k_is); (case yn=>k_is); (case yl=>k_is); (case yc=>k_is); (case yk=>k_is))
  (case ybc=>refine' Pu.Rx ?yi ?yn ?yl ?yc ?yk; (case yi=>k_is); (case yn=>k_is); (case yl=>k_is); (case yc=>k_is); (case yk=>k_is))
  (case ybf=>refine' Pu.Rx ?yi ?yn ?yl ?yc ?yk; (case yi=>k_is); (case yn=>k_is); (case yl=>k_is); (case yc=>k_is); (case yk=>k_is))
  (case k_Slit=>refine' L2.Cls.mk ?xp ?xh ?xo ?xs; (case xp=>k_is); (case xh=>k_is); (case xo=>k_is); (case xs=>k_is))
  (case ya4=>unfold L2.gF; k_is)
  (case ya5=>unfold L2.gF; k_is)
  (case yaA=>and_intros)
  (case yaD=>and_intros)
  (case yaC=>and_intros)
  (case yaG=>and_intros)
  (case yaF=>and_intros)
  (case yaH=>and_intros)
  (case yaJ=>and_intros)
  (case yaz=>and_intros)
  (case yav=>and_intros)
  (case yaw=>and_intros)
  (case yar=>and_intros)
  (case yax=>and_intros)
  (case yak=>and_intros)
  (case yau=>and_intros)
  (case yat=>and_intros)
  (case yal=>and_intros)
  (case yaj=>and_intros)
  (case yao=>and_intros)
  (case yaM=>and_intros)
  (case yas=>and_intros)
  (case yaE=>and_intros)
  (case yaI=>and_intros)
  (case yan=>and_intros)
  (case yaN=>and_intros)
  (case yaB=>and_intros)
  (case yam=>and_intros)
  (case yaO=>and_intros)
  (case yap=>and_intros)
  (case yaK=>and_intros)
  (case yaq=>and_intros)
  (case yaL=>and_intros)
  (case yay=>and_intros)
  (case yaQ=>k_is)
  (case yaR=>k_is)
  (case yaS=>k_is)
  (case yaT=>k_is)
  (case yaU=>k_is)
  (case yaV=>k_is)
  (case yaW=>k_is)
  (case yaX=>k_is)
  (case yaY=>k_is)
  (case yaZ=>k_is)
  (case ya0=>k_is)
  (case ya1=>k_is)
  (case ya2=>k_is)
  (case ya3=>k_is)
  (case ybg=>refine' Pu.Rn ?e; (case e=>k_is))
  (case ybh=>refine' Pu.Rs ?e; (case e=>k_is))
  (case ybi=>refine' Pu.Rs ?e; (case e=>k_is))
  (case ybj=>refine' Pu.Rn ?e; (case e=>k_is))
  (case ybk=>refine' Pu.Rs ?e; (case e=>k_is))
  (case ck=>kernel_rfl)
  (case z0=>kernel_rfl)
  (case wh=>refine K06.Rt ?_; kernel_rfl)
