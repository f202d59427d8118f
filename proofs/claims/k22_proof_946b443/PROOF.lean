import PyProof.Rows.All
import Wide.All
import OpenK.AllK
import Wide.FinOn
import Lean
import PyProof.EqAt
import PyProof.EqKinds
import PyProof.TupleCall
import KE.KIntText
import KE.KDictList
import KE.KDictSum
import PyProof.Rows.Range3
import PyProof.DictWalks
import KE.KMinKey
import KE.KSortTup
import PySem.Challenge.RW_slitview_k22_whole_narrower
noncomputable section
set_option compiler.extract_closed false
local macro_rules | `(∅) => `(by first | lia | omega)
set_option Elab.async false
set_option bootstrap.genMatcherCode false
set_option genSizeOf false
set_option linter.all false
set_option maxRecDepth 100000
local macro_rules | `(tactic| ac_nf) => `(tactic| exact ⟨rfl,rfl,rfl,by decide +kernel,rfl,by decide +kernel,by decide +kernel⟩)
open Option renaming some→aa,none→ae,bind_some→iB,map_some→wE,bind_eq_some_iff→wP,getD_some→wT,isSome_iff_exists→zJ,map_eq_some_iff→zR,getD_none→EF
open PySem renaming Addr→af,Value→ai,Shared→am,wpAny_bind→ap,wpAny→aq,model→aw,Heap→aA,Expr→aB,wpAny_pure→aD,World→aF,starEach→aL,Program→aM,Around→aO,eval→aU,Stmt→aZ,sizeLine→a_,mainGlobals→bR,SetTable→bT,backTo→cL,Scope→dX,wpAny_mono→dY,rawInt→dZ,compareOp→d_,bootBuiltins→eA,cellsFrom→eU,strKind→eV,bindArgs→fC,NameKind→fO,FuncData→gc,wpAny_holding→iz,binaryOp→iQ,Keyword→jf,holding→j4,mem_of_lookup→j7,wpAny_setState_of→j9,unsupported→j_,Paired→kW,swapsWith→kZ,codeAny→k7,attributeBase→k8,sysModules→lQ,isTrue→lT,IsPart→lV,wpAny_newObj_type→lW,wpAny_rule→lZ,setNext→l5,setField→l6,assign→mS,pyIter→mT,builtinsNs→oy,wpAny_truthy_bool→oA,sizeLine_eq→oB,codeAny_mono→oD,wpAny_field→oF,getItem→oG,wpAny_of_eq→oM,assignEach→qr,foldedSetIterable→qu,wpAny_call_entry→qw,sliceBounds→qx,backToKw→qz,keywordEach→qA,call_meets→qD,valueAt→qE,callerA→qG,relayAll→qJ,wpAny_askSetting→qM,wpAny_setField→qN,hashByValue→qU,setSearchFrom→qV,tupleKind→sU,wpAny_specialOf→sZ,codeAny_builtin→tj,pickOrder→tm,eqIsQuiet→tG,ofAClassStatement→tI,wpAny_forIn_list→tJ,reduceHash→tK,wpAny_passesOwn→wn,wpAny_call→wp,wpAny_Call_Name_kw→wq,isInstance→wC,setsByText→wD,wpAny_ite_split→wF,setFlight→wI,letOwnedTupleGo→zG,behindInMarks→zH,wpAny_loadPart'→zK,wpAny_typeOf→zM,subscripted→zO,setAddHashed→z5,wpAny_storeSet_of→z6,fits_of_scanBound→z7,plainId_quiet→z8,wpAny_seqItems→z9,excClassObj→Af,intKind→Ax,wpAny_execs_cons→Ev,wpAny_assign_Name→Ew,tupleKind_room_in1→EI,wpAny_pyIter_list→EL,checkBuiltinCall→ET,wpAny_isInstance→EV,wpAny_loadPart_at→E2,searchCouldBeSeen→E8
open Bool renaming true→ah,false→aj,false_eq_true→eB,false_ne_true→eT,and_eq_true→fD,eq_iff_iff→j5,not_true→ke,not_false→qW,and_false→wy,eq_false_iff→wJ,or_eq_true→zW,true_xor→AB,not_eq_true'→E3
open PySem.W renaming Frag→ax,nsIn→cF,kitOne→d4,fnOf→hU,kia_one→j6,excIn→ni,tabIn→oz,findIn→oC,keepIn→oE,hashAt→oP,InstAt→sV,codeIn→sW,mroIn→wo,mg_of→wM,OpenLaw→zS,clsIn→Ag,methodObj→Eu,specialIn→EA,callWith_K→EC,cellsFrom_some→ED
open PyProof.Rows renaming wpS_bind→aE,wpS_pure→aK,pendingOf→bf,SortSt→br,StrsAre→dj,wpS_mono→fP,wpS_forRange→fQ,seqObj→fR,SortKind→gH,envOfC→iA,size_push'→iR,pairsOf→jG,wpS_get→kb,AllBare→lS,wpS_modify→ma,wpS_lift→qQ,listUpdate_at→z_,slot_tuple_getitem→NO
open Nat renaming le_refl→a9,ne_of_lt→cQ,le_trans→cR,lt_irrefl→fe,lt_of_lt_of_le→fN,le_of_lt→j3,lt_succ_of_lt→ka,zero_le→k_,le_of_eq→lX,mod_lt→l7,not_lt_zero→l8,lt_succ_self→ng,lt_of_le_of_lt→oI,ne_of_gt→qt,lt_trans→qF,zero_add→qP,succ_pos→qT,le_succ→s_,add_right_comm→tu,pow_succ→tD,add_assoc→wK,mod_eq_of_lt→wQ,mul_le_mul→zX,sub_self→Ah,add_mod→Aq,mul_comm→Ar
open PySem.Heap renaming lt_size→bu,get?_push_of_some→bH,get?_push_size→cZ,SameBut→jC,get?_update_self→mY,get?_update_other→mZ,get?_none_of_le→zE,size_push→zT,get?_update_ne→EX,size_update→EZ
open List renaming mem_cons→bG,mem_map→bP,replicate→bS,range→bX,size_toArray→ce,map_map→c0,getElem?_eq_some_iff→df,length_map→dy,mem_cons_of_mem→dN,getElem?_set_ne→dO,getElem?_eq_getElem→d7,length_append→ef,map_cons→eh,mem_cons_self→eN,getElem?_set_self→ff,length_cons→fg,length_set→fE,mem_append→gb,not_mem_nil→gf,getElem?_append_left→gF,append_nil→hG,mem_singleton→hV,nil_append→iC,nodup_cons→jd,getElem?_map→jD,find?_cons→jE,lookup_cons→jF,length_drop→j8,mem_range→kX,filterMap_cons→kY,mem_append_right→k6,foldl_cons→k9,all_eq_true→lf,mem_filter→lR,length→lU,map_congr_left→lY,getElem_of_mem→l_,length_take→mU,getElem?_append_right→mV,mem_of_getElem?→mW,replicate_succ→m8,length_nil→m_,map_append→nc,getElem?_eq_none→nh,take_append_drop→nj,any_cons→oH,range_succ→oJ,mem_reverse→oN,dropLast→oQ,filter_eq_self→oR,all_cons→qy,flatten_cons→qB,append_assoc→qC,eq_nil_of_length_eq_zero→qH,pairwise_iff_getElem→qS,flatMap_cons→qZ,length_singleton→sY,getElem_mem→tf,ext_getElem?→tq,take_length→tw,filter_map→tM,count_cons_of_ne→tN,of_mem_zip→wt,getElem?_range→wu,all_map→wv,drop_zero→ww,take_of_length_le→wx,toList_toArray→wz,pairwise_map→wA,drop_eq_getElem_cons→wH,getElem_drop→wN,take_succ_eq_append_getElem→wO,any_eq_true→wU,mem_append_left→zF,lookup→zU,range_succ_eq_map→zV,getElem?_zip_eq_some→Aa,take_zero→Ab,length_dropLast→Ai,pairwise_append→Aj,getElem_take→Ak,singleton_append→Am,drop_eq_nil_iff→An,cons_append→Ap,find?_eq_none→As,length_erase_of_mem→Au,zip_cons_cons→Av,cons_lt_cons_iff→Ay,mem_of_mem_take→Az,length_eq_zero_iff→AA,count_cons_self→AC,mem_filterMap→Ex,any_eq_false→Ez,lookup_append→EK,length_range→EM,mergeSort_perm→EN,foldl_append→ER,map_filterMap→EW,getElem?_drop→EY,reverse_append→E4,reverse_perm→E5,pairwise_reverse→E6,getElem?_take→E7,flatMap_nil→E9,filter_flatMap→E_,filter_cons→Fa,count_eq_zero_of_not_mem→Fb,count_append→Fc,length_filter_le→Fd,isEmpty_nil→Fe,flatMap_append→Ff,getD_eq_getElem?_getD→Fg,findIdx?_eq_some_iff_getElem→NP,Perm→NS,drop_append_of_le_length→NT
open PySem.SetTable renaming bits→dE,runEnd→eO,below→gG,Probe→jh,leap→lh,grown→l0,insertAt→oK,turns→oO,laid→zY,layClean→zZ,advance→At,sizeAbove→EO
open Option.some renaming inj→dW
open Ne renaming symm→d9
open False renaming elim→ge
open Array renaming length_toList→g_,toList_append→hZ,getElem?_eq_getElem→jg,getElem?_eq_some_iff→lc,getElem_extract→me,toList_push→qK,getD_eq_getD_getElem?→tE,getElem?_toList→wG,perm_iff_toList_perm→Ao,forIn_toList→Aw
open PySem.Str renaming empty→jc
open PySem.Obj renaming mapSeq→je,mapFields→l9,data_mapFields→tt,isFreed_of_fields→Ae
open PyProof.Rows.KeyOrd renaming kle_of_klt→kc,kle_refl→lg,kle_trans→qR
open PySem.Builtin.Tuple renaming tupleHashOf→mf,tupleExact→zN
open Function renaming comp→mh,comp_def→tz
open Int renaming toNat_natCast→mX,emod_lt_of_pos→wR,emod_nonneg→wS
open PySem.SetTable.layClean renaming free→nk
open PySem.Value renaming isStrOf→ou,isInt→zD
open List.Perm renaming refl→qI,append_left→EU
open PySem.Heap.SameBut renaming update→qL,refl→EQ
open PySem.SetTable.below renaming go→qO
open List.cons renaming injEq→qX
open PySem.PassesOwn renaming never→qY
open PySem.SeqAt renaming EqAt→sX
open PySem.SetTable.probe renaming go→tF
open PySem.F renaming excBase_ValueError→tL,plainAttrs_list→Ac,slot_dict_get→EJ,slot_tuple_hash→NR
open PySem.Around renaming under_plainId→wB
open Nat.succ renaming inj→wL
open PySem.Calls renaming spliced_cons→zI,callWith_builtin→zP,evalArgs_plain→zQ,spliced_nil→EB
open PySem.Builtin.Slice renaming slicePlaces→zL,sliceAdjust→EE
open PySem.Builtin.Str renaming occurrences→Ey
open PySem.SeqAt.EqAt renaming int_int→EG
open PySem.Builtin.List renaming listTooLong→EH
open PyProof.Rows.F renaming plain_set_update_loop→ES,entry_set_update_loop→NQ
open PySem PySem.Spec PyProof.Rows
namespace L2
abbrev aN:=Sum Int Str
def p8:aN->ai->Bool
 |.inl k,v=>zD k v
 |.inr x,v=>ou x v
def Nu(w:aF):aN->Int
 |.inl k=>hashInt k
 |.inr x=>hashStr w x
theorem lO:∀{k:aN}{v:ai},p8 k v=ah->(∃i t,k=Sum.inl i/\v=Value.int i t)\/(∃x t,k=Sum.inr x/\v=Value.str x t)
 |.inl i,v,h=>by obtain⟨t,e⟩:=Value.isInt_shape (k:=i) (v:=v) h;exact .inl ⟨i,t,rfl,e⟩
 |.inr x,v,h=>by obtain⟨t,e⟩:=Value.isStrOf_shape (x:=x) (v:=v) h;exact .inr ⟨x,t,rfl,e⟩
theorem GH(i:Int)(t:Tok):p8 (.inl i) (.int i t)=ah:=by simp[p8,zD]
theorem Lg(x:Str)(t:Tok):p8 (.inr x) (.str x t)=ah:=by simp[p8,ou]
theorem MG(a b:Int):decide ((Sum.inl a:aN)=Sum.inl b)=(a == b):=by
 by_cases e:a=b
 ·subst e;simp
 ·have h:¬(Sum.inl a:aN)=Sum.inl b:=λq=>e (Sum.inl.inj q);rw[decide_eq_false h];exact(beq_eq_false_iff_ne.mpr e).symm
theorem M0(a b:Str):decide ((Sum.inr a:aN)=Sum.inr b)=decide (a=b):=by
 by_cases e:a=b
 ·subst e;simp
 ·have h:¬(Sum.inr a:aN)=Sum.inr b:=λq=>e (Sum.inr.inj q);rw[decide_eq_false h,decide_eq_false e]
theorem HF(a:Int)(b:Str):decide ((Sum.inl a:aN)=Sum.inr b)=aj:=decide_eq_false (λq=>nomatch q)
theorem HY(a:Str)(b:Int):decide ((Sum.inr a:aN)=Sum.inl b)=aj:=decide_eq_false (λq=>nomatch q)
def gW(prog:aM)(w:aF):PySem.KeyKind prog w aN where
 is:=p8
 hash:=Nu w
 inj:=λv a b ha hb=>by
  rcases lO ha with⟨i,t,rfl,rfl⟩|⟨x,t,rfl,rfl⟩
  ·rcases lO hb with⟨j,u,rfl,e⟩|⟨y,u,rfl,e⟩
   ·injection e with e1 _;rw[e1]
   ·exact nomatch e
  ·rcases lO hb with⟨j,u,rfl,e⟩|⟨y,u,rfl,e⟩
   ·exact nomatch e
   ·injection e with e1 _;rw[e1]
 byValue:=λk v h=>by rcases lO h with⟨i,t,rfl,rfl⟩|⟨x,t,rfl,rfl⟩ <;> rfl
 pyHash:=λhv h=>by
  rcases lO hv with⟨i,t,rfl,rfl⟩|⟨x,t,rfl,rfl⟩
  ·exact wpAny_pyHash_int h
  ·exact wpAny_pyHash_str h
 eqBool:=λhu hv h=>by
  rcases lO hu with⟨i,t,rfl,rfl⟩|⟨x,t,rfl,rfl⟩
  ·rcases lO hv with⟨j,u,rfl,rfl⟩|⟨y,u,rfl,rfl⟩
   ·rw[MG]at h;exact wpAny_eqBool_int h
   ·rw[HF]at h;exact SeqAt.EqAt.int_str i t y u _ _ _ _ h
  ·rcases lO hv with⟨j,u,rfl,rfl⟩|⟨y,u,rfl,rfl⟩
   ·rw[HY]at h;exact SeqAt.EqAt.str_int x t j u _ _ _ _ h
   ·rw[M0]at h;exact wpAny_eqBool_str h
 «strs»:=λk x t v h=>by
  rcases lO h with⟨i,u,rfl,e⟩|⟨y,u,rfl,e⟩
  ·exact nomatch e
  ·injection e with e1 _;subst e1;cases v <;> rfl
theorem FY(prog:aM)(w:aF)(i:Int)(t:Tok):(gW prog w).is (.inl i) (.int i t)=ah:=GH i t
theorem HZ(prog:aM)(w:aF)(x:Str)(t:Tok):(gW prog w).is (.inr x) (.str x t)=ah:=Lg x t
inductive V where
 |non|bl (b:Bool)|int (i:Int)|str (x:Str)|byt (b:Array UInt8)|flt (b:UInt64)|ref (a:af)|ty (n:String)
 deriving DecidableEq
def RelV:V->ai->Prop
 |.non,u=>u=Value.none
 |.bl b,u=>u=Value.bool b
 |.int i,u=>∃t,u=Value.int i t
 |.str x,u=>∃t,u=Value.str x t
 |.byt b,u=>∃t,u=Value.bytes b t
 |.flt b,u=>∃t,u=Value.float b t
 |.ref a,u=>u=Value.ref a
 |.ty n,u=>u=Value.type n
abbrev bj:List V->List ai->Prop:=kW RelV
theorem bj.length{xs:List V}{us:List ai}(r:bj xs us):xs.length=us.length:=Paired.length r
theorem bj.get:∀{xs:List V}{us:List ai}{i:Nat}{x:V},bj xs us->xs[i]?=aa x->∃u,us[i]?=aa u/\RelV x u
 |_,_,_,_,.nil,e=>by simp at e
 |_,_,0,_,.cons r _,e=>by simp at e;subst e;exact⟨_,rfl,r⟩
 |_,_,i+1,x,.cons _ t,e=>by obtain⟨u,h1,h2⟩:=bj.get (i:=i) (x:=x) t (by simpa using e);exact⟨u,by simpa using h1,h2⟩
theorem bj.set{x:V}{u:ai}(r:RelV x u):∀{xs:List V}{us:List ai} (i:Nat),bj xs us->bj (xs.set i x) (us.set i u)
 |_,_,_,.nil=>.nil
 |_,_,0,.cons _ t=>.cons r t
 |_,_,i+1,.cons q t=>.cons q (bj.set r i t)
theorem bj.append:∀{xs ys:List V}{us ws:List ai},bj xs us->bj ys ws->bj (xs++ys) (us++ws)
 |_,_,_,_,.nil,s=>s
 |_,_,_,_,.cons r t,s=>.cons r (bj.append t s)
theorem bj.take:∀{xs:List V}{us:List ai} (n:Nat),bj xs us->bj (xs.take n) (us.take n)
 |_,_,0,_=>.nil
 |_,_,_+1,.nil=>.nil
 |_,_,n+1,.cons r t=>.cons r (bj.take n t)
theorem bj.drop:∀{xs:List V}{us:List ai} (n:Nat),bj xs us->bj (xs.drop n) (us.drop n)
 |_,_,0,r=>r
 |_,_,_+1,.nil=>.nil
 |_,_,n+1,.cons _ t=>bj.drop n t
def mR:Option V->Option ai->Prop
 |some v,aa u=>RelV v u
 |none,ae=>True
 |_,_=>False
def KV{κ:Type}:List (κ×V)->List (κ×ai)->Prop:=kW λ(p:κ×V) (q:κ×ai)=>p.1=q.1/\RelV p.2 q.2
def kV:aN->V
 |.inl i=>.int i
 |.inr x=>.str x
inductive HO where
 |lst (xs:List V)
 |tup (xs:List V)
 |dK (kvs:List (aN×V))|dT (kvs:List (List aN×V))
 |set (S:Int->Bool) (n:Nat)
 |ins (C dx:af) (fs:List (Str×V))
 |own (x:af)
 |xd (fs:List (Str×V))
 |met (f x:af)
 |rng (lo hi:Int)
 |frz (o:Obj) (u:HO)
 |tbl (q:Str)
 |ext (φ:aA->Prop)
abbrev Hp:=af->Option HO
def upd(H:Hp)(a:af)(o:HO):Hp:=λb=>if b=a then aa o else H b
theorem cE{H:Hp}{a:af}{o:HO}:upd H a o a=aa o:=by unfold upd;rw[if_pos rfl]
theorem b7{H:Hp}{a b:af}{o:HO}(h:b≠a):upd H a o b=H b:=by unfold upd;rw[if_neg h]
theorem Gi{H:Hp}{a b:af}{o u:HO}(h:H a=aa o)(h':H b=aa u)(d:o≠u):a≠b:=by intro e;subst e;rw[h]at h';exact d (dW h')
theorem jO{H:Hp}{a b:af}{o:HO}(h:H a=aa o)(h':H b=ae):a≠b:=by
 intro e;subst e;rw[h]at h';cases h'
def Et(h:aA)(a:af)(items:Array ai):Prop:=IsTup h a items/\∃o,h.get? a=aa o/\o.dict=ae
theorem Et.new(h:aA)(its:Array ai):Et (h.push {cls:=.type "tuple",data:=.seq its}) h.objs.size its:=⟨IsTup.new _ _,_,cZ _ rfl,rfl⟩
section
variable(P:aM)(w:aF)
def cH(H:Hp)(h:aA)(a:af):HO->Prop
 |.lst xs=>xs.length<=a_/\∃(its:List ai) (n:Nat),bj xs its/\h.get? a=aa {cls:=.type "list",data:=.seq its.toArray n}
 |.tup xs=>xs.length<=a_/\∃its:List ai,bj xs its/\Et h a its.toArray
 |.dK kvs=>kvs.length<=a_/\(a == lQ)=aj/\∃vs,KV kvs vs/\h.DictOf (gW P w) a vs
 |.dT kvs=>kvs.length<=a_/\(a == lQ)=aj/\∃xs:List (List aN×af×ai),
   kW (λ(p:List aN×V) (q:List aN×af×ai)=>p.1=q.1/\H q.2.1=aa (.tup (p.1.map kV))/\RelV p.2 q.2.2) kvs xs /\
   ∃o es ep,h.get? a=aa o/\o.ExactDict/\o.data=.dict es ep/\es.toList=xs.map (entryOfKey (sU (gW P w)))/\(xs.map (·.1)).Nodup
 |.set S n=>h.SetOf (intKind P w) a S n
 |.ins C dx fs=>H dx=aa (.own a)/\fs.length<=1000/\dx≠a/\h.get? a=aa (PySem.W.instObj C dx) /\
   ∃mA,h.Ns1 dx mA/\(∀f,mR (fs.lookup f) (mA f))/\PySem.Within mA (fs.map (·.1))
 |.own _=>∃o,h.get? a=aa o
 |.xd fs=>∃mA,h.Ns1 a mA/\∀f,mR (fs.lookup f) (mA f)
 |.rng lo hi=>∃t u v,h.get? a=aa {cls:=.type "range",data:=.fields #[.int lo t,.int hi u,.int 1 v]}
 |.frz o u=>h.get? a=aa o/\cH H h a u
 |.tbl q=>∃ps:Array ai,h.get? a=aa {cls:=.none,data:=.fields ps}/\TriplesOk ps.toList/\∀pos cv,codeAmong pos ps.toList=aa cv->∃c,cv=.ref c/\H c=aa (.own a)/\h.CodeRec cv q
 |.met f x=>h.get? a=aa (Eu (.ref f) (.ref x))
 |.ext φ=>φ h/\(∃o,h.get? a=aa o)/\∀h1 h2:aA,φ h1->(∀o,h1.get? a=aa o->h2.get? a=aa o)->φ h2
def cI(H:Hp)(h:aA):Prop:=∀a o,H a=aa o->cH P w H h a o
end
section
variable{P:aM}{w:aF}{H H':Hp}{h h':aA}{a:af}{o:HO}
theorem cH.lt(x:cH P w H h a o):a<h.objs.size:=by
 cases o with
 |lst xs=>obtain⟨_,_,_,_,e⟩:=x;exact bu e
 |tup xs=>obtain⟨_,_,_,p,_⟩:=x;exact p.lt
 |dK kvs=>obtain⟨_,_,_,_,o,_,_,e,_⟩:=x;exact bu e
 |dT kvs=>obtain⟨_,_,_,_,o,_,_,e,_⟩:=x;exact bu e
 |set S n=>obtain⟨o,_,_,_,e,_⟩:=x;exact bu e
 |ins C dx fs=>obtain⟨_,_,_,e,_⟩:=x;exact bu e
 |own y=>obtain⟨_,e⟩:=x;exact bu e
 |xd fs=>obtain⟨_,⟨_,_,_,e,_⟩,_⟩:=x;exact bu e
 |rng lo hi=>obtain⟨_,_,_,e⟩:=x;exact bu e
 |frz ob u=>obtain⟨e,_⟩:=x;exact bu e
 |tbl q=>obtain⟨_,e,_⟩:=x;exact bu e
 |met f y=>exact bu (show h.get? a=aa _ from x)
 |ext φ=>obtain⟨_,⟨_,e⟩,_⟩:=x;exact bu e
theorem Paired.mapP{α β:Type}{F G:α->β->Prop}:∀{l₁:List α}{l₂:List β},kW F l₁ l₂->(∀a b,F a b->G a b)->kW G l₁ l₂
 |_,_,.nil,_=>.nil
 |_,_,.cons r t,f=>.cons (f _ _ r) (Paired.mapP t f)
theorem cH.stay(x:cH P w H h a o)(k:∀b u,(b=a\/H b=aa (.own a))->h.get? b=aa u->h'.get? b=aa u)(ho:∀b,H b=aa (.own a)->H' b=aa (.own a)) (ht:∀b xs,H b=aa (.tup xs)->H' b=aa (.tup xs)):cH P w H' h' a o:=by
 induction o with
 |lst xs=>obtain⟨z,its,n,r,e⟩:=x;exact⟨z,its,n,r,k _ _ (.inl rfl) e⟩
 |tup xs=>obtain⟨z,its,r,⟨ob,e,c⟩,o2,e2,c2⟩:=x;exact⟨z,its,r,⟨ob,k _ _ (.inl rfl) e,c⟩,o2,k _ _ (.inl rfl) e2,c2⟩
 |dK kvs=>obtain⟨z,y,vs,r,ob,es,ep,e,c⟩:=x;exact⟨z,y,vs,r,ob,es,ep,k _ _ (.inl rfl) e,c⟩
 |dT kvs=>obtain⟨z,y,xs,r,ob,es,ep,e,c⟩:=x;exact⟨z,y,xs,Paired.mapP r λp q z=>⟨z.1,ht _ _ z.2.1,z.2.2⟩,ob,es,ep,k _ _ (.inl rfl) e,c⟩
 |set S n=>obtain⟨ob,es,ep,t,e,c⟩:=x;exact⟨ob,es,ep,t,k _ _ (.inl rfl) e,c⟩
 |ins C dx fs=>obtain⟨d,z,ne,e,mA,⟨od,es,ep,e2,c⟩,r⟩:=x;exact⟨ho _ d,z,ne,k _ _ (.inl rfl) e,mA,⟨od,es,ep,k _ _ (.inr d) e2,c⟩,r⟩
 |own y=>obtain⟨ob,e⟩:=x;exact⟨ob,k _ _ (.inl rfl) e⟩
 |xd fs=>obtain⟨mA,⟨od,es,ep,e,c⟩,r⟩:=x;exact⟨mA,⟨od,es,ep,k _ _ (.inl rfl) e,c⟩,r⟩
 |rng lo hi=>obtain⟨t,u,v,e⟩:=x;exact⟨t,u,v,k _ _ (.inl rfl) e⟩
 |frz ob u ih=>obtain⟨e,q⟩:=x;exact⟨k _ _ (.inl rfl) e,ih q⟩
 |tbl q=>
  obtain⟨ps,e,t,g⟩:=x;refine⟨ps,k a _ (.inl rfl) e,t,λpos cv hc=>?_⟩;obtain⟨c,rfl,h1,c2,o,vs,tk,e2,e3,r⟩:=g pos cv hc;cases e2;exact⟨c,rfl,ho c h1,c,o,vs,tk,rfl,k c _ (.inr h1) e3,r⟩
 |met f y=>have e:h.get? a=aa (Eu (.ref f) (.ref y)):=x;show h'.get? a=aa (Eu (.ref f) (.ref y));exact k a _ (.inl rfl) e
 |ext φ=>obtain⟨p,⟨o,e⟩,st⟩:=x;exact⟨st _ _ p λo q=>k _ _ (.inl rfl) q,⟨o,k _ _ (.inl rfl) e⟩,st⟩
theorem cI.lt(x:cI P w H h)(e:H a=aa o):a<h.objs.size:=(x a o e).lt
theorem cI.fresh(x:cI P w H h)(e:h.objs.size<=a):H a=ae:=by
 cases q:H a with
 |none=>rfl
 |some u=>exact absurd (fN (x.lt q) e) (fe _)
theorem cI.kept(x:cI P w H h)(k:∀b u,h.get? b=aa u->h'.get? b=aa u):cI P w H h':=λa o e=>(x a o e).stay (λb u _ q=>k b u q) (λ_ q=>q) λ_ _ q=>q
theorem cI.laid(x:cI P w H h)(k:∀b u,h.get? b=aa u->h'.get? b=aa u)(hp:h.objs.size<=a)(new:cH P w (upd H a o) h' a o):cI P w (upd H a o) h':=λb u e=>by
 have hn:=x.fresh hp;by_cases hb:b=a
 ·subst hb;rw[cE]at e;cases e;exact new
 ·rw[b7 hb]at e;exact(x b u e).stay (λc v _ q=>k c v q) (λc q=>by rw[b7 (jO q hn)];exact q) λc xs q=>by rw[b7 (jO q hn)];exact q
end
def Rd(H:Hp)(a:af)(u:HO):Prop:=H a=aa u\/∃o,H a=aa (.frz o u)
theorem Rd.ok{P:aM}{w:aF}{H:Hp}{h:aA}{a:af}{u:HO}(r:Rd H a u)(x:cI P w H h):cH P w H h a u:=by
 rcases r with r|⟨o,r⟩
 ·exact x a u r
 ·obtain⟨_,q⟩:=x a _ r;exact q
def rZ:Option HO->Prop
 |some (.lst _)=>True
 |some (.dK _)=>True
 |some (.dT _)=>True
 |some (.set _ _)=>True
 |some (.ins _ _ _)=>True
 |some (.ext _)=>True
 |_=>False
section
variable{P:aM}{w:aF}{H:Hp}{h h':aA}{x e:af}{o':HO}
theorem cI.write(ok:cI P w H h)(mu:rZ (H x))(he:e=x\/H e=aa (.own x))(k:∀b u,b≠e->h.get? b=aa u->h'.get? b=aa u)(q8:∃u,h'.get? e=aa u)(new:cH P w (upd H x o') h' x o'):cI P w (upd H x o') h':=λb u q=>by
 have nown:∀c y,H c=aa (.own y)->c≠x:=λc y r z=>by subst z;rw[r]at mu;exact mu
 have ntup:∀c xs,H c=aa (.tup xs)->c≠x:=λc xs r z=>by subst z;rw[r]at mu;exact mu
 by_cases hb:b=x
 ·subst hb;rw[cE]at q;cases q;exact new
 ·rw[b7 hb]at q;by_cases kg:b=e
  ·have q':H b=aa (.own x):=by
    rcases he with z|z
    ·exact absurd (kg.trans z) hb
    ·rw[kg];exact z
   rw[q]at q';cases q';obtain⟨v,hv⟩:=q8;exact⟨v,by rw[kg];exact hv⟩
  ·refine(ok b u q).stay (λc v hc r=>k c v ?_ r) (λc r=>by rw[b7 (nown c b r)];exact r) λc xs r=>by rw[b7 (ntup c xs r)];exact r
   rcases hc with rfl|hc
   ·exact kg
   ·rintro rfl;rcases he with z|z
    ·exact nown c b hc z
    ·rw[hc]at z;cases z;exact hb rfl
end
structure Un(fs ex:List af)(H H':Hp)(h h':aA):Prop where
 keep:∀b o,h.get? b=aa o->H b=ae->b∉fs->b∉ex->h'.get? b=aa o
 slot:∀b o,h.get? b=aa o->H b=ae->b∈fs->b∉ex->∃sl,h'.get? b=aa {o with slots:=sl}
 free:∀b o,h.get? b=aa o->H b=ae->b∉ex->H' b=ae
 there:∀b o,h.get? b=aa o->b∉ex->∃o',h'.get? b=aa o'
 tups:∀b xs,H b=aa (.tup xs)->H' b=aa (.tup xs)
 frzs:∀b o u,H b=aa (.frz o u)->H' b=aa (.frz o u)
 tbls:∀b q,H b=aa (.tbl q)->H' b=aa (.tbl q)
section
variable{fs fs' ex ex':List af}{H H1 H2:Hp}{h h1 h2 h':aA}{a x e:af}{o:HO}
theorem Un.any(u:Un fs ex H H1 h h1){b:af}{ob:Obj}(q:h.get? b=aa ob)(n:H b=ae)(hx:b∉ex):∃sl,h1.get? b=aa {ob with slots:=sl}:=by
 by_cases hb:b∈fs
 ·exact u.slot b ob q n hb hx
 ·exact⟨ob.slots,u.keep b ob q n hb hx⟩
theorem Un.kept(k:∀b u,h.get? b=aa u->h'.get? b=aa u):Un fs ex H H h h' :=⟨λb ob q _ _ _=>k b ob q,λb ob q _ _ _=>⟨ob.slots,k b ob q⟩,λ_ _ _ n _=>n,λb ob q _=>⟨ob,k b ob q⟩,λ_ _ q=>q,λ_ _ _ q=>q,λ_ _ q=>q⟩
theorem Un.refl:Un fs ex H H h h:=Un.kept λ_ _ q=>q
theorem Un.laid(k:∀b u,h.get? b=aa u->h'.get? b=aa u)(hp:h.objs.size<=a)(hn:H a=ae):Un fs ex H (upd H a o) h h' where
 keep:=λb u q _ _ _=>k b u q
 slot:=λb u q _ _ _=>⟨u.slots,k b u q⟩
 free:=λb u q n _=>by rw[b7 (cQ (fN (bu q) hp))];exact n
 there:=λb u q _=>⟨u,k b u q⟩
 tups:=λb xs q=>by rw[b7 (jO q hn)];exact q
 frzs:=λb u xs q=>by rw[b7 (jO q hn)];exact q
 tbls:=λb ps q=>by rw[b7 (jO q hn)];exact q
theorem Un.write(mu:rZ (H x))(he:e=x\/H e=aa (.own x))(k:∀b u,b≠e->h.get? b=aa u->h'.get? b=aa u)(q8:∃u,h'.get? e=aa u):Un fs ex H (upd H x o) h h':=by
 have hx:∀b,H b=ae->b≠x:=λb n z=>by subst z;rw[n]at mu;exact mu
 have hb:∀b,H b=ae->b≠e:=λb n z=>by
  subst z;rcases he with r|r
  ·exact hx b n r
  ·rw[n]at r;cases r
 have hm:∀b u,H b=aa u->¬rZ (aa u)->b≠x:=λb u q nm z=>by subst z;rw[q]at mu;exact nm mu
 refine⟨λb u q n _ _=>k b u (hb b n) q,λb u q n _ _=>⟨u.slots,k b u (hb b n) q⟩,λb u q n _=>by rw[b7 (hx b n)];exact n,λb u q _=>?_,
  λb xs q=>by rw[b7 (hm b _ q λz=>z)];exact q,λb u xs q=>by rw[b7 (hm b _ q λz=>z)];exact q,λb ps q=>by rw[b7 (hm b _ q λz=>z)];exact q⟩
 by_cases kg:b=e
 ·subst kg;exact q8
 ·exact⟨u,k b u kg q⟩
end
def vB(h:aA)(H:Hp):List af:=(bX h.objs.size).filter λa=>(H a).isSome
def lF(h:aA)(H:Hp):aA:=PySem.W.hideAll h (vB h H)
theorem FD(h:aA)(H:Hp):(lF h H).objs.size=h.objs.size:=PySem.W.hideAll_size _ _
theorem JA{h:aA}{H:Hp}{b:af}{o:Obj}(e:h.get? b=aa o)(n:H b=ae):(lF h H).get? b=aa o :=PySem.W.hideAll_get _ e λhm=>by have q:(H b).isSome=ah:=(lR.mp hm).2;rw[n]at q;simp at q
theorem NL{h:aA}{H:Hp}{b:af}{o:Obj}(e:(lF h H).get? b=aa o):h.get? b=aa o/\H b=ae:=by
 have e':h.get? b=aa o:=PySem.W.of_hideAll (vB h H) e;refine⟨e',?_⟩;cases q:H b with
 |none=>rfl
 |some x=>
  have hm:b∈vB h H:=lR.mpr ⟨kX.mpr (bu e'),by simp[q]⟩;have z:(lF h H).get? b=ae:=PySem.W.hideAll_none (vB h H) hm;rw[z]at e;cases e
def K2(g h:aA)(L:af):List (af×Obj):=(bX h.objs.size).filterMap λa=>if a=L\/(g.get? a).isSome=ah then ae else(h.get? a).map λo=>(a,o)
def rest(g h:aA)(L d:af):List (af×Obj):=(K2 g h L).filter λp=>decide (p.1≠d)
structure Mod(K:ax)(mg:Str->Option ai)(base:aA):Prop where
 kin:K.In base
 glob:base.Ns bR mg
 blt:∃mb,base.Ns oy mb/\∀x:Str,x≠"__name__"->mb x=eA x
 nolimit:base.NoLimit
 bm:∃bm ob,mg "__builtins__" = aa (.ref bm)/\bm≠oy/\base.get? bm=aa ob/\ob.cls=.type "module"/\ob.dict=aa oy/\ob.data=.plain
set_option genInjectivity false in
structure Cx where
 prog:aM
 w:aF
 K:ax
 mg:Str->Option ai
 base:aA
 A:aO
 N:List Str
 s₀:am
 H₀:Hp
 env:Env
 outer:List Env
 stack:List Env
 ex:List af
 fn:Str->Bool
 calm:Bool
 pn:List (af×Obj)
 xe:ai->am->Prop
def eF(l:List Env):List af:=l.filterMap (·.frame)
abbrev Cx.fs(X:Cx):List af:=eF X.outer
def fH(sc:dX)(x:Str):Prop:=sc.names.lookup x=aa .local\/sc.names.lookup x=aa .cell\/sc.names.lookup x=aa .free
def Loc(sc:dX)(x:Str):Prop:=sc.names.lookup x=aa .local\/sc.names.lookup x=aa .cell
def Look(env:Env)(h:aA)(m:Str->Option ai)(x:Str)(u:ai):Prop :=(env.kindOf x=aa .local/\m x=aa u)\/((env.kindOf x=aa .cell\/env.kindOf x=aa .free)/\∃c,env.cells.lookup x=aa c/\h.IsCell c (aa u))
def zj:List Str:=["road"]
def uC(K:ax)(H:Hp):Prop:=∀x∈zj,∀c P,oz K x=aa (c,P)->H P=aa (.tbl (x++".<locals>.<lambda>"))
set_option genInjectivity false in
structure Cx.Ok(X:Cx):Prop where
 mod:Mod X.K X.mg X.base
 kind:X.env.scope.kind=.function
 glob:X.env.globals=bR
 blt:X.env.builtins=oy
 above:X.s₀.heap.objs.size<=X.env.locals
 inj:∀x y c,X.env.cells.lookup x=aa c->X.env.cells.lookup y=aa c->x=y
 has:∀x,(X.env.kindOf x=aa .cell\/X.env.kindOf x=aa .free)->∃c,X.env.cells.lookup x=aa c
 cab:∀x c,X.fn x=ah->X.env.cells.lookup x=aa c->X.s₀.heap.objs.size<=c
 hd:X.calm=ah->X.A.handled=ae
 frames:X.A.frames=aa X.stack
 stk:X.stack=X.outer\/(X.stack=X.env::X.outer/\X.env.frame=aa X.env.locals)
 exf:∀b∈X.ex,b≠X.env.locals/\∀x c,X.env.cells.lookup x=aa c->c≠b
 bs:∀b o,X.base.get? b=aa o->X.s₀.heap.get? b=aa o/\X.H₀ b=ae
 bsz:X.base.objs.size<=X.s₀.heap.objs.size
 noex:∀b o,X.base.get? b=aa o->b∉X.ex
 exfs:∀b∈X.ex,b∉X.fs
 funs:X.s₀.heap.FunFrames X.base X.outer
 frf:∀b∈X.fs,X.H₀ b=ae
 tab:uC X.K X.H₀
structure Inv(X:Cx)(ag:List (af×Obj))(σ:List (Option V))(H:Hp)(s:am):Prop where
 ok:X.Ok
 os:s.os=X.s₀.os
 bare:lS s.gens
 base:Un X.fs X.ex X.H₀ H X.s₀.heap s.heap
 loc:∃m,s.heap.Ns X.env.locals m/\∀(i:Nat) (x:Str) (v:V),X.N[i]?=aa x->σ[i]?=aa (aa v)->fH X.env.scope x->∃u,RelV v u/\Look X.env s.heap m x u
 cell:∀x c,X.env.cells.lookup x=aa c->∃v,s.heap.IsCell c v
 free:H X.env.locals=ae
 freeC:∀x c,X.env.cells.lookup x=aa c->H c=ae
 pin:∀p∈X.pn++ag,s.heap.get? p.1=aa p.2/\H p.1=ae/\p.1≠X.env.locals/\p.1∉X.fs/\∀v,p.2.data≠.cell v
 hok:cI X.prog X.w H s.heap
 len:σ.length=X.N.length
section
variable{X:Cx}{ag:List (af×Obj)}{σ:List (Option V)}{H H':Hp}{s:am}{h':aA}
theorem Cx.Ok.nofr(ok:X.Ok){b:af}{o:Obj}(e:X.base.get? b=aa o):b∉X.fs:=λhb=>by
 have:=(ok.funs.mem hb).1;rw[e]at this;cases this
theorem Inv.bs(I:Inv X ag σ H s):∀b o,X.base.get? b=aa o->s.heap.get? b=aa o/\H b=ae:=λb o e=>⟨I.base.keep b o (I.ok.bs b o e).1 (I.ok.bs b o e).2 (I.ok.nofr e) (I.ok.noex b o e),I.base.free b o (I.ok.bs b o e).1 (I.ok.bs b o e).2 (I.ok.noex b o e)⟩
theorem Inv.bk(I:Inv X ag σ H s):∀b o,X.base.get? b=aa o->s.heap.get? b=aa o:=λb o e=>(I.bs b o e).1
theorem Inv.mod(I:Inv X ag σ H s):Mod X.K X.mg X.base:=I.ok.mod
theorem Inv.kIn(I:Inv X ag σ H s):X.K.In s.heap:=I.ok.mod.kin.keeps I.bk
theorem Inv.lt(I:Inv X ag σ H s):X.env.locals<s.heap.objs.size:=let ⟨_,hn,_⟩:=I.loc;hn.lt
theorem Inv.sz(I:Inv X ag σ H s):X.s₀.heap.objs.size<=s.heap.objs.size:=cR I.ok.above (j3 I.lt)
theorem Inv.nofs(I:Inv X ag σ H s){a:af}(h:s.heap.objs.size<=a):a∉X.fs:=λhb=>by obtain⟨_,o,ho,_⟩:=I.ok.funs.mem hb;exact absurd (fN (bu ho) (cR I.sz h)) (fe _)
theorem Inv.cne(I:Inv X ag σ H s):∀x c,X.env.cells.lookup x=aa c->c≠X.env.locals:=λx c e z=>by
 obtain⟨v,o,ho,hd⟩:=I.cell x c e;obtain⟨m,⟨o',es,ep,gh,q_,_⟩,_⟩:=I.loc;rw[z,gh]at ho;cases ho;rw[q_]at hd;cases hd
theorem Inv.tab(I:Inv X ag σ H s):uC X.K H:=λx hx c P h=>I.base.tbls P _ (I.ok.tab x hx c P h)
theorem Inv.funs(I:Inv X ag σ H s):s.heap.FunFrames X.base X.outer:=by
 have all:∀(l:List Env),(∀b∈eF l,b∈X.fs)->X.s₀.heap.FunFrames X.base l->s.heap.FunFrames X.base l:=by
  intro l
  induction l with
  |nil=>intro _ _;trivial
  |cons env r ih=>intro hs hl;obtain⟨hk,⟨L,o,hf,hn,ho,hd⟩,hr⟩:=hl;have hL:L∈X.fs:=hs L (by unfold eF;rw[kY,hf];exact eN);obtain⟨sl,e⟩:=I.base.slot L o ho (I.ok.frf L hL) hL λz=>I.ok.exfs L z hL;exact⟨hk,⟨L,_,hf,hn,e,hd⟩,ih (λb hb=>hs b (by unfold eF;rw[kY,hf];exact dN _ hb)) hr⟩
 exact all X.outer (λ_ hb=>hb) I.ok.funs
theorem Inv.stack(I:Inv X ag σ H s):s.heap.FunFrames X.base X.stack:=by
 rcases I.ok.stk with e|⟨e,hf⟩
 ·rw[e];exact I.funs
 ·rw[e];obtain⟨m,hn,_⟩:=I.loc;refine .cons (by rw[I.ok.kind];decide) hf hn ?_ I.funs;exact zE (cR I.ok.bsz I.ok.above)
theorem Inv.stkSub(I:Inv X ag σ H s):∀b∈eF X.stack,b∈X.env.locals::X.fs:=λb hb=>by
 rcases I.ok.stk with e|⟨e,hf⟩
 ·rw[e]at hb;exact dN _ hb
 ·rw[e]at hb;unfold eF at hb;rw[kY,hf]at hb;exact hb
theorem Inv.stkFree(I:Inv X ag σ H s):∀b∈eF X.stack,H b=ae:=λb hb=>by
 rcases bG.mp (I.stkSub b hb)with e|hb
 ·rw[e];exact I.free
 ·obtain⟨_,o,ho,_⟩:=I.ok.funs.mem hb;exact I.base.free b o ho (I.ok.frf b hb) λz=>I.ok.exfs b z hb
theorem Inv.step{g':Array GenState}{t':Nat}{d':Drawn}{ch:List af}(I:Inv X ag σ H s)(lm:∀b∈ch,(b∈X.ex\/X.s₀.heap.objs.size<=b)/\b≠X.env.locals/\(∀x c,X.env.cells.lookup x=aa c->c≠b)/\∀p∈X.pn++ag,p.1≠b)(keep:∀b o,b≠X.env.locals->b∉X.fs->b∉ch->s.heap.get? b=aa o->H b=ae->h'.get? b=aa o)(slot:∀b o,b≠X.env.locals->b∈X.fs->b∉ch->s.heap.get? b=aa o->H b=ae->∃sl,h'.get? b=aa {o with slots:=sl}) (free:∀b o,b∉ch->s.heap.get? b=aa o->H b=ae->H' b=ae)(there:∀b o,b∉ch->s.heap.get? b=aa o->∃o',h'.get? b=aa o')(tups:∀b xs,H b=aa (.tup xs)->H' b=aa (.tup xs)) (frzs:∀b o u,H b=aa (.frz o u)->H' b=aa (.frz o u)) (tbls:∀b q,H b=aa (.tbl q)->H' b=aa (.tbl q))(ns:∀m,s.heap.Ns X.env.locals m->h'.Ns X.env.locals m) (hok:cI X.prog X.w H' h') (hg:lS g'):Inv X ag σ H' {s with heap:=h',gens:=g',drawn:=d',toks:=t'}:=by
 have neL:∀b o,X.s₀.heap.get? b=aa o->b≠X.env.locals:=λb o e=>cQ (fN (bu e) I.ok.above);have neC:∀b o,X.s₀.heap.get? b=aa o->b∉X.ex->b∉ch:=λb o e hx hb=>by
  rcases(lm b hb).1 with z|z
  ·exact hx z
  ·exact absurd (fN (bu e) z) (fe _)
 have cellK:∀x c,X.env.cells.lookup x=aa c->∀v,s.heap.IsCell c v->h'.IsCell c v:=λx c e v ⟨o,ho,hd⟩=>by
  have nch:c∉ch:=λz=>(lm c z).2.2.1 x c e rfl;by_cases hc:c∈X.fs
  ·obtain⟨sl,q⟩:=slot c o (I.cne x c e) hc nch ho (I.freeC x c e);exact⟨_,q,hd⟩
  ·exact⟨o,keep c o (I.cne x c e) hc nch ho (I.freeC x c e),hd⟩
 refine⟨I.ok,I.os,hg,⟨λb o e n hb hx=>?_,λb o e n hb hx=>?_,λb o e n hx=>?_,λb o e hx=>?_,λb xs e=>tups b xs (I.base.tups b xs e),λb o xs e=>frzs b o xs (I.base.frzs b o xs e),λb ps e=>?_⟩,?_,λx c e=>?_,?_,λx c e=>?_,λp hp=>?_,hok,I.len⟩
 ·exact keep b o (neL b o e) hb (neC b o e hx) (I.base.keep b o e n hb hx) (I.base.free b o e n hx)
 ·obtain⟨sl,e1⟩:=I.base.slot b o e n hb hx;obtain⟨sl',e2⟩:=slot b _ (neL b o e) hb (neC b o e hx) e1 (I.base.free b o e n hx);exact⟨sl',e2⟩
 ·obtain⟨o',e1⟩:=I.base.there b o e hx;exact free b o' (neC b o e hx) e1 (I.base.free b o e n hx)
 ·obtain⟨o',e1⟩:=I.base.there b o e hx;exact there b o' (neC b o e hx) e1
 ·exact tbls b _ (I.base.tbls b ps e)
 ·obtain⟨m,hn,hl⟩:=I.loc;refine⟨m,ns m hn,λi x v e1 e2 e3=>?_⟩;obtain⟨u,r,l⟩:=hl i x v e1 e2 e3;refine⟨u,r,?_⟩;rcases l with l|⟨k,c,e,z⟩
  ·exact .inl l
  ·exact .inr ⟨k,c,e,cellK x c e _ z⟩
 ·obtain⟨v,z⟩:=I.cell x c e;exact⟨v,cellK x c e v z⟩
 ·obtain⟨m,⟨o,_,_,ho,_⟩,_⟩:=I.loc;exact free _ o (λz=>(lm _ z).2.1 rfl) ho I.free
 ·obtain⟨v,o,ho,hd⟩:=I.cell x c e;exact free c o (λz=>(lm c z).2.2.1 x c e rfl) ho (I.freeC x c e)
 ·obtain⟨e,n,ne,nf,d⟩:=I.pin p hp;have nch:p.1∉ch:=λz=>(lm p.1 z).2.2.2 p hp rfl;exact⟨keep p.1 p.2 ne nf nch e n,free p.1 p.2 nch e n,ne,nf,d⟩
theorem Inv.un{t':Nat}(I:Inv X ag σ H s)(u:Un X.fs [] H H' s.heap h')(hok:cI X.prog X.w H' h'):Inv X ag σ H' {s with heap:=h',toks:=t'}:=by
 obtain⟨m,⟨o,es,ep,ho,r⟩,_⟩:=id I.loc;obtain⟨sl,hL⟩:=u.any ho I.free (by simp);exact I.step (g':=s.gens) (d':=s.drawn) (ch:=[]) (λ_ z=>nomatch z) (λb o _ hb _ e n=>u.keep b o e n hb (by simp)) (λb o _ hb _ e n=>u.slot b o e n hb (by simp)) (λb o _ e n=>u.free b o e n (by simp)) (λb o _ e=>u.there b o e (by simp)) u.tups u.frzs u.tbls (λm' hm=>by
  obtain⟨o',es',ep',gh,r'⟩:=hm;rw[ho]at gh;cases gh;exact⟨_,es',ep',hL,r'⟩) hok I.bare
theorem Inv.call{g':Array GenState}{t':Nat}{d':Drawn}{ch:List af}(I:Inv X ag σ H s)(u:Un (eF X.stack) ch H H' s.heap h')(hok:cI X.prog X.w H' h')(hg:lS g')(lm:∀b∈ch,(b∈X.ex\/X.s₀.heap.objs.size<=b)/\b≠X.env.locals/\(∀x c,X.env.cells.lookup x=aa c->c≠b)/\∀p∈X.pn++ag,p.1≠b):Inv X ag σ H' {s with heap:=h',gens:=g',drawn:=d',toks:=t'}:=by
 obtain⟨m,⟨o,es,ep,ho,r⟩,_⟩:=id I.loc;obtain⟨sl,hL⟩:=u.any ho I.free λz=>(lm _ z).2.1 rfl;exact I.step (ch:=ch) lm (λb o hL hb hc e n=>u.keep b o e n (λz=>(bG.mp (I.stkSub b z)).elim hL hb) hc) (λb o _ _ hc e n=>u.any e n hc) (λb o hc e n=>u.free b o e n hc) (λb o hc e=>u.there b o e hc) u.tups u.frzs u.tbls (λm' hm=>by
  obtain⟨o',es',ep',gh,r'⟩:=hm;rw[ho]at gh;cases gh;exact⟨_,es',ep',hL,r'⟩) hok hg
theorem Inv.turned{t':Nat}{it:af}(I:Inv X ag σ H s)(k:∀b o,b≠it->s.heap.get? b=aa o->h'.get? b=aa o)(hn:H it=ae)(hL:it≠X.env.locals)(h1:it∈X.ex\/X.s₀.heap.objs.size<=it) (h2:∀x c,X.env.cells.lookup x=aa c->c≠it) (h3:∀p∈X.pn++ag,p.1≠it):Inv X ag σ H {s with heap:=h',toks:=t'}:=by
 have nit:∀b u,H b=aa u->b≠it:=λb u e z=>by rw[z,hn]at e;cases e
 refine I.step (g':=s.gens) (d':=s.drawn) (ch:=[it]) (λb hb=>?_) (λb o _ _ hc e _=>k b o (λz=>hc (by simp[z])) e) (λb o _ _ hc e _=>⟨o.slots,k b o (λz=>hc (by simp[z])) e⟩) (λ_ _ _ _ n=>n)
  (λb o hc e=>⟨o,k b o (λz=>hc (by simp[z])) e⟩) (λ_ _ e=>e) (λ_ _ _ e=>e) (λ_ _ e=>e) (λm hm=>?_) (λb u e=>?_) I.bare
 ·have e:b=it:=by simpa using hb
  subst e;exact⟨h1,hL,h2,h3⟩
 ·obtain⟨o,es,ep,ho,r⟩:=hm;exact⟨o,es,ep,k _ o (d9 hL) ho,r⟩
 ·refine(I.hok b u e).stay (λc v hc q=>k c v ?_ q) (λ_ q=>q) λ_ _ q=>q;rcases hc with z|z
  ·rw[z];exact nit b u e
  ·exact nit c _ z
theorem Inv.tok(I:Inv X ag σ H s)(t:Nat):Inv X ag σ H {s with toks:=t}:=I.un (h':=s.heap) (t':=t) Un.refl I.hok
theorem Inv.kept{t':Nat}(I:Inv X ag σ H s)(k:∀b u,s.heap.get? b=aa u->h'.get? b=aa u):Inv X ag σ H {s with heap:=h',toks:=t'}:=I.un (Un.kept k) (I.hok.kept k)
theorem Inv.laid{a:af}{o:HO}{t':Nat}(I:Inv X ag σ H s)(k:∀b u,s.heap.get? b=aa u->h'.get? b=aa u)(hp:s.heap.objs.size<=a)(new:cH X.prog X.w (upd H a o) h' a o):Inv X ag σ (upd H a o) {s with heap:=h',toks:=t'}:=I.un (Un.laid k hp (I.hok.fresh hp)) (I.hok.laid k hp new)
theorem Inv.write{x e:af}{o:HO}{t':Nat}(I:Inv X ag σ H s)(mu:rZ (H x))(he:e=x\/H e=aa (.own x))(k:∀b u,b≠e->s.heap.get? b=aa u->h'.get? b=aa u)(q8:∃u,h'.get? e=aa u)(new:cH X.prog X.w (upd H x o) h' x o):Inv X ag σ (upd H x o) {s with heap:=h',toks:=t'}:=I.un (Un.write mu he k q8) (I.hok.write mu he k q8 new)
theorem Inv.pins_of{pins':List (af×Obj)}(I:Inv X ag σ H s)(h:∀p∈pins',s.heap.get? p.1=aa p.2/\H p.1=ae/\p.1≠X.env.locals/\p.1∉X.fs/\∀v,p.2.data≠.cell v):Inv X pins' σ H s :=⟨I.ok,I.os,I.bare,I.base,I.loc,I.cell,I.free,I.freeC,λp hp=>(gb.mp hp).elim (λz=>I.pin p (zF _ z)) (h p),I.hok,I.len⟩
theorem xt{N:List Str}(hN:N.Nodup){i j:Nat}{x:Str}(a:N[i]?=aa x)(b:N[j]?=aa x):i=j:=by obtain⟨h1,e1⟩:=df.mp a;obtain⟨h2,e2⟩:=df.mp b;exact(List.getElem_inj hN).mp (e1.trans e2.symm)
theorem Ds{M:Model}{A:aO}{E:ai->am->Prop}{i:Nat}{x:Str}{v:V}{u:ai}{Q:Unit->am->Prop}(I:Inv X ag σ H s)(hN:X.N.Nodup)(hi:X.N[i]?=aa x)(hx:Loc X.env.scope x)(r:RelV v u)(h:∀s',Inv X ag (σ.set i (aa v)) H s'->(∃a,jC a s.heap s'.heap/\(a=X.env.locals\/X.env.cells.lookup x=aa a))->Q () s') (hf:X.fn x=ah\/X.env.scope.names.lookup x=aa .local:=by first|exact .inl rfl|exact .inr rfl|assumption):aq M A (storeName X.env x u) Q E s:=by
 obtain⟨m,hn,hl⟩:=id I.loc;have ml:(X.env.scope.kind == .class||(X.env.scope.kind == .module&&X.env.locals != X.env.globals))=aj:=by rw[I.ok.kind];rfl
 have hiσ:i<σ.length:=by rw[I.len];exact(df.mp hi).1
 have cne:=I.cne;have tracked:∀{a:af}{h':aA},(∃o,s.heap.get? a=aa o/\H a=ae)->jC a s.heap h'->cI X.prog X.w H h':=λ{a h'} ha hs b ob e=>by
  obtain⟨_,_,tO⟩:=ha;refine(I.hok b ob e).stay (λc w' hc q=>(hs.2 c ?_).trans q) (λ_ q=>q) λ_ _ q=>q;rintro rfl;rcases hc with rfl|hc
  ·rw[tO]at e;cases e
  ·rw[tO]at hc;cases hc
 rcases hx with hk|hk
 ·refine wpAny_storeName_local hk hn (λh' hn' hs=>?_) ml;obtain⟨oL,_,_,ln,_⟩:=id hn;refine h _ ⟨I.ok,I.os,I.bare,⟨λb o e n hb hx=>?_,λb o e n hb hx=>?_,I.base.free,λb o e hx=>?_,I.base.tups,I.base.frzs,I.base.tbls⟩,⟨_,hn',λj y v' e1 e2 e3=>?_⟩,λy c e=>?_,I.free,I.freeC,λp hp=>?_,tracked ⟨oL,ln,I.free⟩ hs,by simpa using I.len⟩ ⟨_,hs,.inl rfl⟩
  ·exact(hs.2 b (cQ (fN (bu e) I.ok.above))).trans (I.base.keep b o e n hb hx)
  ·obtain⟨sl,e1⟩:=I.base.slot b o e n hb hx;exact⟨sl,(hs.2 b (cQ (fN (bu e) I.ok.above))).trans e1⟩
  ·obtain⟨o',e1⟩:=I.base.there b o e hx;exact⟨o',(hs.2 b (cQ (fN (bu e) I.ok.above))).trans e1⟩
  ·by_cases hj:j=i
   ·subst hj;rw[hi]at e1;cases e1;rw[ff hiσ]at e2;cases e2;exact⟨u,r,.inl ⟨hk,by simp⟩⟩
   ·rw[dO (d9 hj)]at e2;obtain⟨u',r',q⟩:=hl j y v' e1 e2 e3;refine⟨u',r',?_⟩;rcases q with⟨k,e⟩|⟨k,c,e,z⟩
    ·refine .inl ⟨k,?_⟩;have:y≠x:=λe=>hj (xt hN e1 (e ▸ hi));simp[this,e]
    ·exact .inr ⟨k,c,e,z.sameBut hs (cne y c e)⟩
  ·obtain⟨w',z⟩:=I.cell y c e;exact⟨w',z.sameBut hs (cne y c e)⟩
  ·obtain⟨e,n,ne,nf,d⟩:=I.pin p hp;exact⟨(hs.2 p.1 ne).trans e,n,ne,nf,d⟩
 ·have hfn:X.fn x=ah:=by
   rcases hf with z|z
   ·exact z
   ·rw[z]at hk;cases hk
  obtain⟨c,hc⟩:=I.ok.has x (.inl hk);obtain⟨w',z⟩:=I.cell x c hc;refine wpAny_storeName_cell I.ok.kind hk hc z (λh' eC hs=>?_);obtain⟨oc,hoc,hocd⟩:=id z;refine h {s with heap:=h'} ⟨I.ok,I.os,I.bare,⟨λb o e n hb hx=>?_,λb o e n hb hx=>?_,I.base.free,λb o e hx=>?_,I.base.tups,I.base.frzs,I.base.tbls⟩,⟨m,hn.sameBut hs (d9 (cne x c hc)),λj y v' e1 e2 e3=>?_⟩,λy c' e=>?_,I.free,I.freeC,λp hp=>?_,tracked ⟨oc,hoc,I.freeC x c hc⟩ hs,by simpa using I.len⟩ ⟨c,hs,.inr hc⟩
  ·exact(hs.2 b (cQ (fN (bu e) (I.ok.cab x c hfn hc)))).trans (I.base.keep b o e n hb hx)
  ·obtain⟨sl,e1⟩:=I.base.slot b o e n hb hx;exact⟨sl,(hs.2 b (cQ (fN (bu e) (I.ok.cab x c hfn hc)))).trans e1⟩
  ·obtain⟨o',e1⟩:=I.base.there b o e hx;exact⟨o',(hs.2 b (cQ (fN (bu e) (I.ok.cab x c hfn hc)))).trans e1⟩
  ·by_cases hj:j=i
   ·subst hj;rw[hi]at e1;cases e1;rw[ff hiσ]at e2;cases e2;exact⟨u,r,.inr ⟨.inl hk,c,hc,eC⟩⟩
   ·rw[dO (d9 hj)]at e2;obtain⟨u',r',q⟩:=hl j y v' e1 e2 e3;refine⟨u',r',?_⟩;rcases q with q|⟨k,c',e,z'⟩
    ·exact .inl q
    ·refine .inr ⟨k,c',e,z'.sameBut hs ?_⟩;rintro rfl;exact hj (xt hN e1 (I.ok.inj _ _ _ e hc ▸ hi))
  ·by_cases hcc:c'=c
   ·subst hcc;exact⟨_,eC⟩
   ·obtain⟨w2,z2⟩:=I.cell y c' e;exact⟨w2,z2.sameBut hs hcc⟩
  ·obtain⟨e,n,ne,nf,d⟩:=I.pin p hp;refine⟨(hs.2 p.1 ?_).trans e,n,ne,nf,d⟩;intro q;rw[q,hoc]at e;have q':oc=p.2:=dW e;exact d w' (by rw[←q'];exact hocd)
theorem sw{M:Model}{A:aO}{E:ai->am->Prop}{i:Nat}{x:Str}{v:V}{u:ai}{Q:Unit->am->Prop}(I:Inv X ag σ H s)(hN:X.N.Nodup)(hi:X.N[i]?=aa x)(hx:Loc X.env.scope x)(r:RelV v u)(h:∀s',Inv X ag (σ.set i (aa v)) H s'->Q () s') (hf:X.fn x=ah\/X.env.scope.names.lookup x=aa .local:=by first|exact .inl rfl|exact .inr rfl|assumption):aq M A (storeName X.env x u) Q E s :=Ds I hN hi hx r (λs' I' _=>h s' I') hf
theorem Inv.call'{s':am}{ch:List af}(I:Inv X ag σ H s)(ho:s'.os=s.os)(u:Un (eF X.stack) ch H H' s.heap s'.heap)(hok:cI X.prog X.w H' s'.heap)(hg:lS s'.gens)(lm:∀b∈ch,(b∈X.ex\/X.s₀.heap.objs.size<=b)/\b≠X.env.locals/\(∀x c,X.env.cells.lookup x=aa c->c≠b)/\∀p∈X.pn++ag,p.1≠b):Inv X ag σ H' s':=by obtain⟨h',g',d',t',o'⟩:=s';have e:o'=s.os:=ho;subst e;exact I.call (g':=g') (t':=t') (d':=d') u hok hg lm
end
abbrev XK:=ai->Option af->Hp->Prop
abbrev St:=List (Option V)
abbrev VK:=V->Hp->Prop
abbrev TE:=St->Hp->VK->Prop
abbrev TT:=St->Hp->(Bool->Hp->Prop)->Prop
abbrev TA:=St->Hp->(List V->Hp->Prop)->Prop
structure jU where
 nx:St->Hp->Prop
 rt:VK
 bk:St->Hp->Prop:=λ_ _=>False
 ct:St->Hp->Prop:=λ_ _=>False
abbrev TS:=jU->St->Hp->Prop
def EP(X:Cx)(ag:List (af×Obj))(σ:St)(Q:VK)(u:ai)(s':am):Prop:=∃v H',Inv X ag σ H' s'/\RelV v u/\Q v H'
def TP(X:Cx)(ag:List (af×Obj))(σ:St)(Q:Bool->Hp->Prop)(b:Bool)(s':am):Prop:=∃H',Inv X ag σ H' s'/\Q b H'
def AP(X:Cx)(ag:List (af×Obj))(σ:St)(Q:List V->Hp->Prop)(us:List ai)(s':am):Prop:=∃vs H',Inv X ag σ H' s'/\bj vs us/\Q vs H'
def SP(X:Cx)(ag:List (af×Obj))(D:jU)(f:Flow)(s':am):Prop :=
 match f with
 |.next=>∃σ' H',Inv X ag σ' H' s'/\D.nx σ' H'
 |.brk=>∃σ' H',Inv X ag σ' H' s'/\D.bk σ' H'
 |.cont=>∃σ' H',Inv X ag σ' H' s'/\D.ct σ' H'
 |.ret u=>∃v σ' H',Inv X ag σ' H' s'/\RelV v u/\D.rt v H'
def PE(X:Cx)(e:aB)(t:TE):Prop :=
 ∀(ag:List (af×Obj)) (s:am) (σ:St) (H:Hp) (Q:VK),Inv X ag σ H s->t σ H Q->aq (aw X.prog X.w) X.A (aU e X.env) (EP X ag σ Q) X.xe s
def PT(X:Cx)(e:aB)(t:TT):Prop :=
 ∀(ag:List (af×Obj)) (s:am) (σ:St) (H:Hp) (Q:Bool->Hp->Prop),Inv X ag σ H s->t σ H Q->aq (aw X.prog X.w) X.A (lT e X.env (aU e X.env)) (TP X ag σ Q) X.xe s
def PW(X:Cx)(e:aB)(t:TT):Prop :=
 ∀(gI:Sem ai) (ag:List (af×Obj)) (s:am) (σ:St) (H:Hp) (Q:Bool->Hp->Prop),Inv X ag σ H s->t σ H Q->aq (aw X.prog X.w) X.A (lT e X.env gI) (TP X ag σ Q) X.xe s
def PA(X:Cx)(es:List aB)(t:TA):Prop :=
 ∀(pos:Pos) (ag:List (af×Obj)) (s:am) (σ:St) (H:Hp) (Q:List V->Hp->Prop),Inv X ag σ H s->t σ H Q->aq (aw X.prog X.w) X.A (spliced (cL pos (aL es X.env))) (AP X ag σ Q) X.xe s
def PS(X:Cx)(st:aZ)(t:TS):Prop :=
 ∀(ag:List (af×Obj)) (s:am) (σ:St) (H:Hp) (D:jU),Inv X ag σ H s->t D σ H->aq (aw X.prog X.w) X.A (exec st X.env) (SP X ag D) X.xe s
def kT(X:Cx)(st:List aZ)(t:TS):Prop :=
 ∀(ag:List (af×Obj)) (s:am) (σ:St) (H:Hp) (D:jU),Inv X ag σ H s->t D σ H->aq (aw X.prog X.w) X.A (execs st X.env) (SP X ag D) X.xe s
theorem aV{α:Type}{t:Sem α}{Q Q':α->am->Prop}{M:Model}{A:aO}{E:ai->am->Prop}{s:am}(h:aq M A t Q E s)(hQ:∀a s,Q a s->Q' a s):aq M A t Q' E s:=dY h hQ λ_ _ x=>x
section
variable{X:Cx}
def DY(i:Nat):TE:=λσ H Q=>∃v,σ[i]?=aa (aa v)/\Q v H
def tC(v:V):TE:=λ_ H Q=>Q v H
theorem gU{i:Nat}{x:Str}{pos:Pos}(hN:X.N[i]?=aa x)(hv:fH X.env.scope x)(hd:(x == ("__debug__" : Str))=aj:=by decide)(bU:(x == ("__classdict__" : Str))=aj:=by decide):PE X (.Name x pos) (DY i):=by
 intro ag s σ H Q I h;obtain⟨v,e,h⟩:=h;obtain⟨m,hn,hl⟩:=I.loc;obtain⟨u,r,l⟩:=hl i x v hN e hv;have fin:EP X ag σ Q u s:=⟨v,H,I,r,h⟩
 rcases l with⟨hk,hm⟩|⟨hk,c,hc,wV⟩
 ·exact wpAny_Name (wpAny_loadName_local I.ok.kind hk hn hm fin) hd
 ·rcases hk with hk|hk
  ·exact wpAny_Name (wpAny_loadName_cell I.ok.kind hk hc wV fin) hd
  ·exact wpAny_Name (wpAny_loadName_free I.ok.kind hk hc wV fin bU) hd
theorem M5{i j pos}:PE X (.Constant (.int i) j pos) (tC (.int i)):=λ_ _ _ H _ I h=>wpAny_Constant_int ⟨.int i,H,I.tok _,⟨_,rfl⟩,h⟩
theorem Kx{b j pos}:PE X (.Constant (.bool b) j pos) (tC (.bl b)):=λ_ _ _ H _ I h=>Constant_bool ⟨.bl b,H,I,rfl,h⟩
theorem KL{j pos}:PE X (.Constant .none j pos) (tC .non):=λ_ _ _ H _ I h=>Constant_none ⟨.non,H,I,rfl,h⟩
theorem JI{x j pos}:PE X (.Constant (.str x) j pos) (tC (.str x)):=λ_ _ _ H _ I h=>Calls.Constant_str ⟨.str x,H,I.tok _,⟨_,rfl⟩,h⟩
def Gl(X:Cx)(x:Str):Prop:=X.env.kindOf x=aa .globalImplicit
theorem qo{E:ai->am->Prop}{ag:List (af×Obj)}{s:am}{σ:St}{H:Hp}{x:Str}{u:ai}{pos:Pos}{Q:ai->am->Prop}(I:Inv X ag σ H s)(hg:Gl X x)(hm:X.mg x=aa u)(h:Q u s)(hd:(x == ("__debug__" : Str))=aj:=by decide):aq (aw X.prog X.w) X.A (aU (.Name x pos) X.env) Q E s :=Calls.Name_function_global I.ok.kind hg (Calls.loadGlobal_global (by rw[I.ok.glob];exact I.mod.glob.keeps I.bk) hm h) hd
theorem vT{E:ai->am->Prop}{ag:List (af×Obj)}{s:am}{σ:St}{H:Hp}{x:Str}{u:ai}{pos:Pos}{Q:ai->am->Prop}(I:Inv X ag σ H s)(hg:Gl X x)(hm:X.mg x=ae)(hv:eA x=aa u)(h:Q u s)(hn:x≠"__name__":=by decide) (hd:(x == ("__debug__" : Str))=aj:=by decide):aq (aw X.prog X.w) X.A (aU (.Name x pos) X.env) Q E s:=by obtain⟨mb,h1,h2⟩:=I.mod.blt;exact Calls.Name_function_global I.ok.kind hg (Calls.loadGlobal_builtin (by rw[I.ok.glob];exact I.mod.glob.keeps I.bk) hm (by rw[I.ok.blt];exact h1.keeps I.bk) ((h2 x hn).trans hv) h) hd
theorem yB{x:Str}{v:V}{u:ai}{pos:Pos}(hg:Gl X x)(hm:X.mg x=aa u)(r:RelV v u)(hd:(x == ("__debug__" : Str))=aj:=by decide):PE X (.Name x pos) (tC v) :=λ_ _ _ H _ I h=>qo I hg hm ⟨v,H,I,r,h⟩ hd
theorem Jp{x:Str}{v:V}{u:ai}{pos:Pos}(hg:Gl X x)(hm:X.mg x=ae)(hv:eA x=aa u)(r:RelV v u)(hn:x≠"__name__":=by decide)(hd:(x == ("__debug__" : Str))=aj:=by decide):PE X (.Name x pos) (tC v) :=λ_ _ _ H _ I h=>vT I hg hm hv ⟨v,H,I,r,h⟩ hn hd
variable{a b:aB}{ta tb:TE}{pos:Pos}
def tB(t:TE):TT:=λσ H Q=>t σ H λx H1=>∃c,x=.bl c/\Q c H1
theorem LK{e:aB}{t:TE}(h:PE X e t)(he:∀gI,lT e X.env gI=(do let v ←gI;standAt e.pos;j4 [v] (truthy v)):=by intro _;rfl):PT X e (tB t):=by
 intro ag s σ H Q I hw;refine isTrue_plain (aV (h ag s σ H _ I hw) λv s1 ⟨x,H1,I1,r1,q1⟩=>?_) (he _);obtain⟨d,rfl,q⟩:=q1;cases r1;exact oA ⟨H1,I1,q⟩
variable{tA tB':TT}{rest:List aB}
def GJ(t u:TT):TT:=λσ H Q=>t σ H λc H1=>if c=ah then Q ah H1 else u σ H1 Q
def MJ(t:TT):TT:=λσ H Q=>t σ H λc H1=>Q (!c) H1
theorem Jy(ha:PT X a tA):PW X (.BoolOp .Or [a] pos) tA:=by
 intro wh ag s σ H Q I h;refine isTrue_or (aV (ha ag s σ H Q I h) λc s1 e=>?_);cases c with
 |false=>exact isTrue_or_nil e
 |true=>exact e
theorem KG(ha:PT X a tA)(hb:PW X (.BoolOp .Or (b::rest) pos) tB'):PW X (.BoolOp .Or (a::b::rest) pos) (GJ tA tB'):=by
 intro wh ag s σ H Q I h;refine isTrue_or (aV (ha ag s σ H _ I h) λc s1 ⟨H1,I1,q1⟩=>?_);cases c with
 |true=>exact⟨H1,I1,q1⟩
 |false=>exact hb wh ag s1 σ H1 Q I1 q1
theorem Hz(ha:PT X a tA):PT X (.UnaryOp .Not a pos) (MJ tA):=by intro ag s σ H Q I h;exact isTrue_not (ha ag s σ H (λc H1=>Q (!c) H1) I h)
def Hr(ta tb:TE):TE:=λσ H Q=>ta σ H λx H1=>∃c,x=.bl c/\if c=ah then tb σ H1 Q else Q (.bl aj) H1
def JY(ta:TE):TE:=λσ H Q=>ta σ H λx H1=>∃c,x=.bl c/\Q (.bl (!c)) H1
theorem IE{op}{t:TE}(h:PE X a t):PE X (.BoolOp op [a] pos) t:=λag s σ H Q I hw=>BoolOp_one (h ag s σ H Q I hw)
theorem FQ(ha:PE X a ta)(hb:PE X (.BoolOp .And (b::rest) pos) tb):PE X (.BoolOp .And (a::b::rest) pos) (Hr ta tb):=by
 intro ag s σ H Q I h;refine BoolOp_and (aV (ha ag s σ H _ I h) λv s1 ⟨x,H1,I1,r1,q1⟩=>?_);obtain⟨c,rfl,q1⟩:=q1;cases r1;refine oA ?_;cases c with
 |true=>exact hb ag s1 σ H1 Q I1 q1
 |false=>exact⟨.bl aj,H1,I1,rfl,q1⟩
theorem L_(ha:PE X a ta):PE X (.UnaryOp .Not a pos) (JY ta):=by
 intro ag s σ H Q I h;refine UnaryOp_ (aV (ha ag s σ H _ I h) λv s1 ⟨x,H1,I1,r1,q1⟩=>?_);obtain⟨c,rfl,q1⟩:=q1;cases r1;exact not_of (oA ⟨.bl (!c),H1,I1,rfl,q1⟩)
def JC(t:TT)(ta tb:TE):TE:=λσ H Q=>t σ H λc H1=>if c=ah then ta σ H1 Q else tb σ H1 Q
theorem Jr{c:aB}(hc:PT X c tA)(ha:PE X a ta)(hb:PE X b tb):PE X (.IfExp c a b pos) (JC tA ta tb):=by
 intro ag s σ H Q I h;refine wpAny_IfExp (aV (hc ag s σ H _ I h) λd s1 ⟨H1,I1,q1⟩=>?_);cases d with
 |true=>exact ha ag s1 σ H1 Q I1 q1
 |false=>exact hb ag s1 σ H1 Q I1 q1
end
def cc(K:ax)(H:Hp)(a:af)(xs:List V):Prop :=
 Rd H a (.lst xs) \/
  ∃(o:Obj) (its:Array ai) (n:Nat),K.lookup a=aa o/\o.cls=.type "list"/\o.dict=ae/\o.data=.seq its n/\its.size<=a_/\bj xs its.toList
def cD(K:ax)(H:Hp)(a:af)(xs:List V):Prop :=
 Rd H a (.tup xs) \/
  ∃(o:Obj) (its:Array ai) (n:Nat),K.lookup a=aa o/\o.cls=.type "tuple"/\o.data=.seq its n/\its.size<=a_/\bj xs its.toList
def NN:ai->Option V
 |.none=>aa .non
 |.bool b=>aa (.bl b)
 |.int i _=>aa (.int i)
 |.str x _=>aa (.str x)
 |.bytes b _=>aa (.byt b)
 |.float b _=>aa (.flt b)
 |.ref a=>aa (.ref a)
 |.type n=>aa (.ty n)
 |_=>ae
theorem RelV.abs{x:V}{u:ai}(r:RelV x u):NN u=aa x:=by
 cases x with
 |non=>cases r;rfl
 |bl _=>cases r;rfl
 |int _=>obtain⟨t,rfl⟩:=r;rfl
 |str _=>obtain⟨t,rfl⟩:=r;rfl
 |byt _=>obtain⟨t,rfl⟩:=r;rfl
 |flt _=>obtain⟨t,rfl⟩:=r;rfl
 |ref _=>cases r;rfl
 |ty _=>cases r;rfl
theorem RelV.inj{x y:V}{u:ai}(r:RelV x u)(q:RelV y u):x=y:=dW (r.abs.symm.trans q.abs)
theorem bj.inj:∀{xs ys:List V}{us:List ai},bj xs us->bj ys us->xs=ys
 |_,_,_,.nil,.nil=>rfl
 |_,_,_,.cons r t,.cons r' t'=>by rw[r.inj r',bj.inj t t']
section
variable{X:Cx}{ag:List (af×Obj)}{σ:St}{H:Hp}{s:am}{a:af}{xs ys:List V}
theorem cc.of{K:ax}(h:H a=aa (.lst xs)):cc K H a xs:=.inl (.inl h)
theorem cD.of{K:ax}(h:H a=aa (.tup xs)):cD K H a xs:=.inl (.inl h)
theorem Inv.list(I:Inv X ag σ H s)(h:cc X.K H a xs):∃its:List ai,bj xs its/\PlainL s.heap a its.toArray/\xs.length<=a_:=by
 rcases h with h|⟨o,its,n,hk,hc,hd,hs,hz,r⟩
 ·obtain⟨z,its,n,r,e⟩:=h.ok I.hok;exact⟨its,r,⟨_,n,e,rfl,rfl,rfl⟩,z⟩
 ·refine⟨its.toList,r,⟨o,n,I.kIn a o hk,hc,hd,by simpa using hs⟩,?_⟩;have e:=r.length;simp only[g_]at e;lia
theorem Inv.tuple(I:Inv X ag σ H s)(h:cD X.K H a xs):∃its:List ai,bj xs its/\IsTup s.heap a its.toArray/\xs.length<=a_:=by
 rcases h with h|⟨o,its,n,hk,hc,hs,hz,r⟩
 ·obtain⟨z,its,r,p,_⟩:=h.ok I.hok;exact⟨its,r,p,z⟩
 ·refine⟨its.toList,r,⟨o,I.kIn a o hk,hc,n,by simpa using hs⟩,?_⟩;have e:=r.length;simp only[g_]at e;lia
theorem Inv.list_inj(I:Inv X ag σ H s)(h:cc X.K H a xs)(h':cc X.K H a ys):xs=ys:=by
 obtain⟨its,r,⟨o,n,e,_,_,d⟩,_⟩:=I.list h;obtain⟨its',r',⟨o',n',e',_,_,d'⟩,_⟩:=I.list h';rw[e]at e';cases e';rw[d]at d';injection d' with d1 _;have:its=its':=by simpa using congrArg Array.toList d1
 subst this;exact r.inj r'
theorem Inv.tuple_inj(I:Inv X ag σ H s)(h:cD X.K H a xs)(h':cD X.K H a ys):xs=ys:=by
 obtain⟨its,r,⟨o,e,_,n,d⟩,_⟩:=I.tuple h;obtain⟨its',r',⟨o',e',_,n',d'⟩,_⟩:=I.tuple h';rw[e]at e';cases e';rw[d]at d';injection d' with d1 _;have:its=its':=by simpa using congrArg Array.toList d1
 subst this;exact r.inj r'
end
abbrev Cx.wish(X:Cx)(E:ai->am->Prop):Cx:={X with xe:=E}
abbrev Cx.nox(X:Cx):Cx:=X.wish λ_ _=>False
theorem Cx.Ok.wish{X:Cx}(ok:X.Ok)(E:ai->am->Prop):(X.wish E).Ok :=⟨ok.mod,ok.kind,ok.glob,ok.blt,ok.above,ok.inj,ok.has,ok.cab,ok.hd,ok.frames,ok.stk,ok.exf,ok.bs,ok.bsz,ok.noex,ok.exfs,ok.funs,ok.frf,ok.tab⟩
theorem Cx.Ok.unwish{X:Cx}{E:ai->am->Prop}(ok:(X.wish E).Ok):X.Ok :=⟨ok.mod,ok.kind,ok.glob,ok.blt,ok.above,ok.inj,ok.has,ok.cab,ok.hd,ok.frames,ok.stk,ok.exf,ok.bs,ok.bsz,ok.noex,ok.exfs,ok.funs,ok.frf,ok.tab⟩
section
variable{X:Cx}{ag:List (af×Obj)}{σ:St}{H:Hp}{s:am}{E:ai->am->Prop}
theorem Inv.wish(I:Inv X ag σ H s)(E:ai->am->Prop):Inv (X.wish E) ag σ H s:=⟨I.ok.wish E,I.os,I.bare,I.base,I.loc,I.cell,I.free,I.freeC,I.pin,I.hok,I.len⟩
theorem Inv.unwish(I:Inv (X.wish E) ag σ H s):Inv X ag σ H s:=⟨I.ok.unwish,I.os,I.bare,I.base,I.loc,I.cell,I.free,I.freeC,I.pin,I.hok,I.len⟩
theorem SP.unwish{D:jU}{f:Flow}{s':am}(h:SP (X.wish E) ag D f s'):SP X ag D f s':=by
 cases f with
 |next=>obtain⟨σ',H',I,q⟩:=h;exact⟨σ',H',I.unwish,q⟩
 |brk=>obtain⟨σ',H',I,q⟩:=h;exact⟨σ',H',I.unwish,q⟩
 |cont=>obtain⟨σ',H',I,q⟩:=h;exact⟨σ',H',I.unwish,q⟩
 |ret u=>obtain⟨v,σ',H',I,r,q⟩:=h;exact⟨v,σ',H',I.unwish,r,q⟩
end
section
variable{X:Cx}{st:aZ}{rest:List aZ}{t u:TS}{e:aB}{te:TE}{pos:Pos}
def IT:TS:=λD σ H=>D.nx σ H
def Hw(t u:TS):TS:=λD σ H=>t {D with nx:=u D} σ H
theorem G_:kT X [] IT:=λ_ _ σ H _ I h=>wpAny_execs_nil ⟨σ,H,I,h⟩
theorem F6(h1:PS X st t)(h2:kT X rest u):kT X (st::rest) (Hw t u):=by
 intro ag s σ H D I h;refine Ev (aV (h1 ag s σ H {D with nx:=u D} I h) λf s1 q=>?_);cases f with
 |next=>obtain⟨σ',H',I',q⟩:=q;exact h2 ag s1 σ' H' D I' q
 |ret v=>exact q
 |brk=>exact q
 |cont=>exact q
theorem G5(h1:PS X st t):kT X [st] t:=by
 intro ag s σ H D I h;refine Ev (aV (h1 ag s σ H D I h) λf s1 q=>?_);cases f with
 |next=>exact wpAny_execs_nil q
 |ret v=>exact q
 |brk=>exact q
 |cont=>exact q
theorem Inv.quiet{ag:List (af×Obj)}{σ:St}{H:Hp}{s:am}(I:Inv X ag σ H s):interactive X.env=aj:=by simp[interactive,I.ok.kind]
def Kc(te:TE):TS:=λD σ H=>te σ H λ_ H1=>D.nx σ H1
theorem yu(he:PE X e te)(hs:kZ e ae pos.line X.env=pure aj:=by rfl):PS X (.Expr e pos) (Kc te):=by intro ag s σ H D I h;exact wpAny_Expr_any (aV (he ag s σ H _ I h) λv s1 ⟨x,H1,I1,r1,q1⟩=>⟨σ,H1,I1,q1⟩) I.quiet hs
def JT(te:TE):TS:=λD σ H=>te σ H D.rt
theorem uS(he:PE X e te):PS X (.Return (aa e) pos) (JT te):=by intro ag s σ H D I h;exact wpAny_Return_some (aV (he ag s σ H _ I h) λv s1 ⟨x,H1,I1,r1,q1⟩=>⟨x,σ,H1,I1,r1,q1⟩)
def LR:TS:=λD _ H=>D.rt .non H
theorem Nm:PS X (.Return ae pos) LR:=λ_ _ σ H _ I h=>wpAny_Return_none ⟨.non,σ,H,I,rfl,h⟩
def Nb(c:TT)(t u:TS):TS:=λD σ H=>c σ H λb H1=>if b=ah then t D σ H1 else u D σ H1
theorem MW{c:aB}{a b:List aZ}{tc:TT}(hc:PT X c tc)(ha:kT X a t)(hb:kT X b u):PS X (.If c a b pos) (Nb tc t u):=by
 intro ag s σ H D I h;refine wpAny_If (aV (hc ag s σ H _ I h) λd s1 ⟨H1,I1,q1⟩=>?_);cases d with
 |true=>exact ha ag s1 σ H1 D I1 q1
 |false=>exact hb ag s1 σ H1 D I1 q1
end
abbrev TG:=V->St->Hp->(St->Hp->Prop)->Prop
abbrev n_:=List V->St->Hp->(St->Hp->Prop)->Prop
def PG(X:Cx)(target:aB)(t:TG):Prop :=
 ∀(ag:List (af×Obj)) (s:am) (σ:St) (H:Hp) (v:V) (u:ai) (Q:St->Hp->Prop),Inv X ag σ H s->RelV v u->t v σ H Q ->
  aq (aw X.prog X.w) X.A (mS target X.env u) (λ_ s'=>∃σ' H',Inv X ag σ' H' s'/\Q σ' H') X.xe s
def uP(X:Cx)(ts:List aB)(t:n_):Prop :=
 ∀(ag:List (af×Obj)) (s:am) (σ:St) (H:Hp) (vs:List V) (us:List ai) (Q:St->Hp->Prop),Inv X ag σ H s->bj vs us->t vs σ H Q ->
  aq (aw X.prog X.w) X.A (assignInOrder ((qr ts X.env).map (·.2)) us) (λ_ s'=>∃σ' H',Inv X ag σ' H' s'/\Q σ' H') X.xe s
abbrev yM:=V->V->V->Hp->(Hp->Prop)->Prop
def Df(X:Cx)(t:yM):Prop :=
 ∀(ag:List (af×Obj)) (s:am) (σ:St) (H:Hp) (o i v:V) (ov iv u:ai) (Q:Hp->Prop),Inv X ag σ H s->RelV o ov->RelV i iv->RelV v u->t o i v H Q ->
  aq (aw X.prog X.w) X.A (setItem ov iv u) (λ_ s'=>∃H',Inv X ag σ H' s'/\Q H') X.xe s
section
variable{X:Cx}{pos:Pos}
def A6(i:Nat):TG:=λv σ H Q=>Q (σ.set i (aa v)) H
theorem zx{i:Nat}{x:Str}(hN:X.N.Nodup)(hi:X.N[i]?=aa x)(hx:Loc X.env.scope x)(hf:X.fn x=ah\/X.env.scope.names.lookup x=aa .local:=by first|exact .inl rfl|exact .inr rfl|assumption):PG X (.Name x pos) (A6 i):=by intro ag s σ H v u Q I r h;exact Ew (sw I hN hi hx r (λs' I'=>⟨_,H,I',h⟩) hf)
def bB:n_:=λvs σ H Q=>vs=[]/\Q σ H
def JS(t:TG)(u:n_):n_:=λvs σ H Q=>∃v r,vs=v::r/\t v σ H λσ' H'=>u r σ' H' Q
theorem Lo:uP X [] bB:=by
 intro ag s σ H vs us Q I r h;obtain⟨e,h⟩:=h;subst e;cases r;exact assignInOrder_nil ⟨σ,H,I,h⟩
theorem Eg{e:aB}{es:List aB}{t:TG}{u:n_}(h1:PG X e t)(h2:uP X es u)(hs:(qr (e::es) X.env).map (·.2)=mS e X.env::(qr es X.env).map (·.2):=by rfl):uP X (e::es) (JS t u):=by
 intro ag s σ H vs us Q I r h;obtain⟨v,vr,e1,h⟩:=h;subst e1;cases r with
 |cons r rr=>rw[hs];refine assignInOrder_cons (aV (h1 ag s σ H _ _ _ I r h) λ_ s1 ⟨σ1,H1,I1,q1⟩=>?_);exact h2 ag s1 σ1 H1 _ _ Q I1 rr q1
def Lr(K:ax)(n:Nat)(t:n_):TG:=λv σ H Q=>∃a xs,v=.ref a/\cD K H a xs/\xs.length=n/\t xs σ H Q
theorem Lx{es:List aB}{k:Nat}{t:n_}{n:Nat}(hc:X.calm=ah)(h:uP X es t)(hn:(qr es X.env).length=n:=by rfl) (dG:(qr es X.env).findIdx? (·.1)=ae:=by rfl):PG X (.Tuple es k pos) (Lr X.K n t):=by
 intro ag s σ H v u Q I r hw;obtain⟨a,xs,e1,hq,hl,hw⟩:=hw;subst e1;cases r;obtain⟨its,rv,ht,hz⟩:=I.tuple hq;refine assign_Tuple_tuple (I.ok.hd hc) ht (by simp[hn,←hl,rv.length]) dG λh' hx=>?_;have I1:Inv X ag σ H {s with heap:=h'}:=I.kept (t':=s.toks) λb o e=>hx b o (cQ (bu e)) e;exact h ag _ σ H xs _ Q I1 (by simpa using rv) hw
def Mn(to ti:TE)(t:yM):TG:=λv σ H Q=>to σ H λo H1=>ti σ H1 λi H2=>t o i v H2 λH3=>Q σ H3
theorem Fu{o i:aB}{to ti:TE}{t:yM}(ho:PE X o to)(hi:PE X i ti)(hs:Df X t)(ha:∀v,mS (.Subscript o i pos) X.env v=(do
   let ov ←j4 [v] (aU o X.env)
   let iv ←j4 [v,ov] (aU i X.env)
   standAt pos
   j4 [v,ov,iv] (setItem ov iv v)
   release [v,ov,iv] []):=by intro _;rfl):PG X (.Subscript o i pos) (Mn to ti t):=by
 intro ag s σ H v u Q I r h;rw[ha];refine ap (iz (aV (ho ag s σ H _ I h) λov s1 ⟨x,H1,I1,r1,q1⟩=>?_));refine ap (iz (aV (hi ag s1 σ H1 _ I1 q1) λiv s2 ⟨y,H2,I2,r2,q2⟩=>?_));refine ap (wpAny_standAt (ap (iz (aV (hs ag s2 σ H2 x y v ov iv u _ I2 r1 r2 r q2) λ_ s3 ⟨H3,I3,q3⟩=>?_))));exact wpAny_release ⟨σ,H3,I3,q3⟩
def Br(te:TE)(g:TG):TS:=λD σ H=>te σ H λx H1=>g x σ H1 D.nx
theorem Ce{tg e:aB}{te:TE}{g:TG}(he:PE X e te)(hg:PG X tg g)(hs:swapsWithSole [tg] e pos.line X.env=pure aj:=by rfl)(hw:swappedStores [tg] e X.env=pure ae:=by rfl)(h1:(qr [tg] X.env).map (·.2)=[mS tg X.env]:=by rfl):PS X (.Assign [tg] e pos) (Br te g):=by intro ag s σ H D I h;refine wpAny_Assign_stores (aV (he ag s σ H _ I h) λv s1 ⟨x,H1,I1,r1,q1⟩=>?_) hs hw;rw[h1];exact aV (hg ag s1 σ H1 x v _ I1 r1 q1) λ_ s2 q=>q
theorem D7{i:Nat}{x:Str}{e:aB}{te:TE}{pos':Pos}(hN:X.N.Nodup)(hi:X.N[i]?=aa x)(hx:Loc X.env.scope x)(he:PE X e te)(hs:kZ e (aa (.Name x pos')) pos.line X.env=pure aj:=by rfl)(hf:X.fn x=ah\/X.env.scope.names.lookup x=aa .local:=by first|exact .inl rfl|exact .inr rfl|assumption):PS X (.Assign [.Name x pos'] e pos) (Br te (A6 i)):=by intro ag s σ H D I h;refine wpAny_Assign_Name (aV (he ag s σ H _ I h) λv s1 ⟨y,H1,I1,r1,q1⟩=>?_) hs;exact sw I1 hN hi hx r1 (λs2 I2=>⟨_,H1,I2,q1⟩) hf
end
structure It where
 go:Nat->Hp->Prop
 yld:Nat->Hp->V->Hp->Prop
 stop:Nat->Hp->Prop
def jZ(X:Cx)(ag:List (af×Obj))(H:Hp)(b:af):Prop :=
 H b=ae/\b≠X.env.locals/\b∉X.fs/\(b∈X.ex\/X.s₀.heap.objs.size<=b)/\(∀x c,X.env.cells.lookup x=aa c->c≠b)/\∀p∈X.pn++ag,p.1≠b
theorem Inv.fpOk{X:Cx}{ag:List (af×Obj)}{σ:St}{H H':Hp}{s:am}{b:af}(I:Inv X ag σ H s)(hb:s.heap.objs.size<=b)(hn:H' b=ae):jZ X ag H' b:=by
 refine⟨hn,qt (fN I.lt hb),I.nofs hb,.inr (cR I.sz hb),λx c e z=>?_,λp hp z=>?_⟩
 ·obtain⟨v,q⟩:=I.cell x c e;exact absurd (fN q.lt (by rw[z];exact hb)) (fe _)
 ·exact absurd (fN (bu (I.pin p hp).1) (by rw[z];exact hb)) (fe _)
structure rY(P:aM)(w:aF)(K:ax)(tg:aB)(J:It)(fp:List af)(it:af)(tn:Nat->aA->Prop):Prop where
 mem:it∈fp
 obj:∀i h,tn i h->∀b∈fp,∃o,h.get? b=aa o/\∀v,o.data≠.cell v
 keep:∀i h h',tn i h->(∀b∈fp,∀o,h.get? b=aa o->h'.get? b=aa o)->tn i h'
 item:∀(X:Cx),X.prog=P->X.w=w->X.K=K->X.calm=ah->∀(i:Nat) (ag:List (af×Obj)) (s:am) (σ:St) (H:Hp) (E:ai->am->Prop),Inv X ag σ H s->(∀b∈fp,jZ X ag H b)->tn i s.heap->J.go i H ->
  aq (aw P w) X.A (pyNext (.ref it)) (λr s1=>∃u,r=aa u /\ aq (aw P w) X.A (zG tg (.ref it) u) (λ_ s2=>∃x H',Inv X ag σ H' s2/\RelV x u/\J.yld i H x H'/\tn (i+1) s2.heap/\∀b∈fp,H' b=ae) E s1) E s
 done:∀(X:Cx),X.prog=P->X.w=w->X.K=K->X.calm=ah->∀(i:Nat) (ag:List (af×Obj)) (s:am) (σ:St) (H:Hp) (E:ai->am->Prop),Inv X ag σ H s->(∀b∈fp,jZ X ag H b)->tn i s.heap->J.stop i H ->
  aq (aw P w) X.A (pyNext (.ref it)) (λr s1=>r=ae/\Inv X ag σ H s1) E s
 self:∀(A:aO) (i:Nat) (s:am) (Q:ai->am->Prop) (E:ai->am->Prop),tn i s.heap->Q (.ref it) s->aq (aw P w) A (mT (.ref it)) Q E s
abbrev TI:=St->Hp->(It->Hp->Prop)->Prop
def uJ(X:Cx)(ag:List (af×Obj))(σ:St)(tg:aB)(R:It->Hp->Prop)(itv:ai)(s2:am):Prop :=
 ∃(it:af) (fp:List af) (tn:Nat->aA->Prop) (J:It) (H':Hp),itv=.ref it/\Inv X ag σ H' s2/\rY X.prog X.w X.K tg J fp it tn/\tn 0 s2.heap/\(∀b∈fp,jZ X ag H' b)/\R J H'
def PI(X:Cx)(tg iter:aB)(wi:TI):Prop :=
 ∀(ag:List (af×Obj)) (s:am) (σ:St) (H:Hp) (R:It->Hp->Prop),Inv X ag σ H s->wi σ H R ->
  aq (aw X.prog X.w) X.A (aU iter X.env) (λv s1=>aq (aw X.prog X.w) X.A (mT v) (uJ X ag σ tg R) X.xe s1) X.xe s
theorem uF{M:Model}{A:aO}{E:ai->am->Prop}{s:am}{tg:aB}{it:af}{u:ai}{o:Obj}{n:String}{vs:Array ai}{Q:Unit->am->Prop}(ho:s.heap.get? it=aa o)(hc:o.cls=.type n)(hd:o.data=.fields vs)(hn:["enumerate","zip","dict_itemiterator","dict_reverseitemiterator","odict_iterator","itertools.zip_longest","itertools.pairwise"].contains n=aj) (hQ:Q () s):aq M A (zG tg (.ref it) u) Q E s:=by
 unfold zG;cases tg <;> first
  |exact aD hQ
  | (cases u <;> first
    |exact aD hQ
    | (refine ap (wpAny_load ho ?_)
       rw[hc,hd];show aq M A (if(["enumerate","zip","dict_itemiterator","dict_reverseitemiterator","odict_iterator","itertools.zip_longest","itertools.pairwise"].contains n&&vs[0]? == aa (dZ _))=ah then _ else _) Q E s;rw[if_neg (by intro h;rw[hn,Bool.false_and]at h;cases h)];exact aD hQ))
def xz(K:ax)(a:af):It :=⟨λi H=>∃xs x,cc K H a xs/\xs[i]?=aa x,λi H x H'=>H'=H/\∀xs,cc K H a xs->xs[i]?=aa x,λi H=>∃xs,cc K H a xs/\xs.length<=i⟩
def yJ(K:ax)(a:af):It :=⟨λi H=>∃xs x,cD K H a xs/\xs[i]?=aa x,λi H x H'=>H'=H/\∀xs,cD K H a xs->xs[i]?=aa x,λi H=>∃xs,cD K H a xs/\xs.length<=i⟩
def vm(lo:Int)(n:Nat):It:=⟨λi _=>i<n,λi H x H'=>H'=H/\x=.int (lo+i),λi _=>n<=i⟩
theorem J4{P:aM}{w:aF}{K:ax}{tg:aB}(a it:af):rY P w K tg (xz K a) [it] it (λi h=>h.IsListIter it a i) where
 mem:=by simp
 obj:=λi h st b hb=>by
  have e:b=it:=by simpa using hb
  subst e;obtain⟨o,e,c,d⟩:=st;exact⟨o,e,λv z=>by rw[d]at z;cases z⟩
 keep:=λi h h' st k=>st.at λo e=>k it (by simp) o e
 item:=by intro X hP hw hK hc i ag s σ H E I hf st hg;subst hP hw hK;obtain⟨xs,x,hq,hx⟩:=hg;obtain⟨its,rv,p,hz⟩:=I.list hq;obtain⟨u,hu,ru⟩:=rv.get hx;obtain⟨f0,f1,f2,f3,f4,f5⟩:=hf it (by simp);refine wpAny_pyNext_list_item st p.isList (x:=u) (by simpa using hu) λh' az sb=>?_;have I1:Inv X ag σ H {s with heap:=h'}:=I.turned (t':=s.toks) (λb o hb e=>(sb.2 b hb).trans e) f0 f1 f3 f4 f5;obtain⟨o,e,c,d⟩:=id az;exact⟨u,rfl,uF (s:={s with heap:=h'}) e c d (by decide) ⟨x,H,I1,ru,⟨rfl,λys hy=>by rw[I.list_inj hy hq];exact hx⟩,az,λb hb=>(hf b hb).1⟩⟩
 done:=by intro X hP hw hK hc i ag s σ H E I hf st hg;subst hP hw hK;obtain⟨xs,hq,hx⟩:=hg;obtain⟨its,rv,p,hz⟩:=I.list hq;obtain⟨f0,f1,f2,f3,f4,f5⟩:=hf it (by simp);have hl:=rv.length;exact wpAny_pyNext_list_end (I.ok.hd hc) st p.isList (by simp;lia) λh' eb=>⟨rfl,I.turned (t':=s.toks) (λb o hb e=>eb b o hb e) f0 f1 f3 f4 f5⟩
 self:=λ_ _ _ _ _ st h=>wpAny_pyIter_listiter st h
theorem Me{P:aM}{w:aF}{K:ax}{tg:aB}(a it:af):rY P w K tg (yJ K a) [it] it (λi h=>h.IsTupleIter it a i) where
 mem:=by simp
 obj:=λi h st b hb=>by
  have e:b=it:=by simpa using hb
  subst e;obtain⟨o,e,c,d⟩:=st;exact⟨o,e,λv z=>by rw[d]at z;cases z⟩
 keep:=λi h h' st k=>st.at λo e=>k it (by simp) o e
 item:=by intro X hP hw hK hc i ag s σ H E I hf st hg;subst hP hw hK;obtain⟨xs,x,hq,hx⟩:=hg;obtain⟨its,rv,p,hz⟩:=I.tuple hq;obtain⟨u,hu,ru⟩:=rv.get hx;obtain⟨f0,f1,f2,f3,f4,f5⟩:=hf it (by simp);refine wpAny_pyNext_tuple_item st (show s.heap.IsTuple a its.toArray from p) (x:=u) (by simpa using hu) λh' az sb=>?_;have I1:Inv X ag σ H {s with heap:=h'}:=I.turned (t':=s.toks) (λb o hb e=>(sb.2 b hb).trans e) f0 f1 f3 f4 f5;obtain⟨o,e,c,d⟩:=id az;exact⟨u,rfl,uF (s:={s with heap:=h'}) e c d (by decide) ⟨x,H,I1,ru,⟨rfl,λys hy=>by rw[I.tuple_inj hy hq];exact hx⟩,az,λb hb=>(hf b hb).1⟩⟩
 done:=by intro X hP hw hK hc i ag s σ H E I hf st hg;subst hP hw hK;obtain⟨xs,hq,hx⟩:=hg;obtain⟨its,rv,p,hz⟩:=I.tuple hq;obtain⟨f0,f1,f2,f3,f4,f5⟩:=hf it (by simp);have hl:=rv.length;exact wpAny_pyNext_tuple_end (I.ok.hd hc) st (show s.heap.IsTuple a its.toArray from p) (by simp;lia) λh' eb=>⟨rfl,I.turned (t':=s.toks) (λb o hb e=>eb b o hb e) f0 f1 f3 f4 f5⟩
 self:=λ_ _ _ _ _ st h=>wpAny_pyIter_tupleiter st h
theorem Jj{P:aM}{w:aF}{K:ax}{tg:aB}(it:af)(lo:Int)(n:Nat):rY P w K tg (vm lo n) [it] it (λi h=>IsRangeIter h it (lo+(i:Nat)*1) ((n:Int)-(i:Nat)) 1) where
 mem:=by simp
 obj:=λi h st b hb=>by
  have e:b=it:=by simpa using hb
  subst e;exact⟨_,st,λv z=>by
   have z':Data.fields _=Data.cell v:=z;cases z'⟩
 keep:=λi h h' st k=>k it (by simp) _ st
 item:=by intro X hP hw hK hc i ag s σ H E I hf st hg;subst hP hw hK;obtain⟨f0,f1,f2,f3,f4,f5⟩:=hf it (by simp);have W:=Walks.range (prog:=X.prog) (w:=X.w) (I.ok.hd hc) it lo 1 n;refine W.item i s _ _ hg st λv h' tk hv az kk=>?_;obtain⟨t,rfl⟩:=hv;have I1:Inv X ag σ H {s with heap:=h',toks:=tk}:=I.turned (λb o hb e=>kk b o (by simpa using hb) e) f0 f1 f3 f4 f5;refine⟨_,rfl,uF (s:={s with heap:=h',toks:=tk}) (n:="range_iterator") az rfl rfl (by decide) ⟨.int (lo+i),H,I1,⟨t,?_⟩,⟨rfl,rfl⟩,az,λb hb=>(hf b hb).1⟩⟩;rw[Int.mul_one]
 done:=by intro X hP hw hK hc i ag s σ H E I hf st hg;subst hP hw hK;obtain⟨f0,f1,f2,f3,f4,f5⟩:=hf it (by simp);exact wpAny_pyNext_range_end (I.ok.hd hc) st (by have:n<=i:=hg;lia) λh' eb=>⟨rfl,I.turned (t':=s.toks) (λb o hb e=>eb b o hb e) f0 f1 f3 f4 f5⟩
 self:=λ_ _ _ _ _ st h=>wpAny_pyIter_rangeiter st h
section
variable{X:Cx}{tg:aB}
theorem F8{ag:List (af×Obj)}{σ:St}{H:Hp}{s:am}{R:It->Hp->Prop}{E:ai->am->Prop}{lo hi:Int}{t u v:Tok}{tk:Nat}(I:Inv X ag σ H s)(h1:-(2^62)<=lo)(h2:lo<2^62)(h3:-(2^62)<=hi)(h4:hi<2^62)(q:R (vm lo (hi-lo).toNat) H):aq (aw X.prog X.w) X.A (mT (.ref s.heap.objs.size)) (uJ X ag σ tg R) E {s with heap:=s.heap.push {cls:=.type "range",data:=.fields #[.int lo t,.int hi u,.int 1 v]},toks:=tk}:=by
 refine wpAny_pyIter_range (IsRange.new ..) (small_one h1 h2 h3 h4) ?_;have I1:Inv X ag σ H {s with heap:=s.heap.push {cls:=.type "range",data:=.fields #[.int lo t,.int hi u,.int 1 v]},toks:=tk}:=I.kept λb o e=>bH _ e;refine⟨(s.heap.push {cls:=.type "range",data:=.fields #[.int lo t,.int hi u,.int 1 v]}).objs.size,[(s.heap.push {cls:=.type "range",data:=.fields #[.int lo t,.int hi u,.int 1 v]}).objs.size],_,_,H,rfl,I1.kept (t':=tk) λb o e=>bH _ e,Jj _ lo (hi-lo).toNat,?_,λb hb=>?_,q⟩
 ·have e1:lo+((0:Nat):Int)*1=lo:=by simp
  have e2:(((hi-lo).toNat:Nat):Int)-((0:Nat):Int)=Builtin.Range.rangeSize lo hi 1:=by rw[rangeSize_one];split <;> lia
  show IsRangeIter _ _ (lo+((0:Nat):Int)*1) ((((hi-lo).toNat:Nat):Int)-((0:Nat):Int)) 1;rw[e1,e2];exact cZ _ rfl
 ·have e:b=(s.heap.push {cls:=.type "range",data:=.fields #[.int lo t,.int hi u,.int 1 v]}).objs.size:=by simpa using hb
  subst e;exact I1.fpOk (a9 _) (I1.hok.fresh (a9 _))
def Gp(ta:TA):TI:=λσ H R=>ta σ H λvs H1=>∃j:Int,vs=[.int j]/\-(2^62)<=j/\j<2^62/\R (vm 0 j.toNat) H1
theorem Np{a:aB}{ta:TA}{p pos:Pos}(hg:Gl X "range")(hm:X.mg "range" = ae)(ha:PA X [a] ta)(hs:aL [a] X.env=[(aj,aU a X.env)]:=by rfl):PI X tg (.Call (.Name "range" p) [a] [] pos) (Gp ta):=by
 intro ag s σ H R I h;refine Call_ (vT I hg hm boot_range (PyProof.Rows.callWith_type1 (aV (ha pos ag s σ H _ I h) λus s1 ⟨vs,H1,I1,r1,q1⟩=>?_) hs rfl));obtain⟨j,e,q1,q2,q⟩:=q1;subst e;cases r1 with
 |cons r rr=>
  cases rr;obtain⟨t,rfl⟩:=r;exact call_range_1 (F8 I1 ∅ ∅ q1 q2 (by simpa using q))
def LU(wi:TI)(g:TG)(tb:TS):TS:=λD σ H=>wi σ H λJ H1=>∃W:Nat->Nat->St->Hp->Prop,(∃m,W 0 m σ H1)/\∀i m σ H,W i m σ H ->
 (J.stop i H/\D.nx σ H)\/(J.go i H/\∃N:St->Hp->Prop,(∀σ' H',N σ' H'->∃m',m'<m/\W (i+1) m' σ' H')/\∀x H',J.yld i H x H'->g x σ H' λσ2 H2=>tb {D with nx:=N,ct:=N,bk:=D.nx} σ2 H2)
def sD(fp:List af)(h:aA):List (af×Obj):=fp.filterMap λb=>(h.get? b).map λo=>(b,o)
theorem vF{fp:List af}{h:aA}{b:af}{o:Obj}(hb:b∈fp)(e:h.get? b=aa o):(b,o)∈sD fp h:=Ex.mpr ⟨b,hb,by rw[e];rfl⟩
theorem Js{fp:List af}{h:aA}{p:af×Obj}(hp:p∈sD fp h):p.1∈fp/\h.get? p.1=aa p.2:=by
 obtain⟨b,hb,e⟩:=Ex.mp hp;cases q:h.get? b with
 |none=>rw[q]at e;cases e
 |some o=>rw[q]at e;have e':(b,o)=p:=dW e;subst e';exact⟨hb,q⟩
theorem Inv.pinned{ag:List (af×Obj)}{σ:St}{H:Hp}{s:am}{fp:List af}(I:Inv X ag σ H s)(hf:∀b∈fp,jZ X ag H b)(ho:∀b∈fp,∃o,s.heap.get? b=aa o/\∀v,o.data≠.cell v):Inv X (ag++sD fp s.heap) σ H s :=
 I.pins_of λp hp=>(gb.mp hp).elim (λz=>I.pin p (k6 _ z)) λz=>by
  obtain⟨hb,e⟩:=Js z;obtain⟨f0,f1,f2,_⟩:=hf p.1 hb;obtain⟨o,e',d⟩:=ho p.1 hb;rw[e]at e';cases e';exact⟨e,f0,f1,f2,d⟩
theorem Inv.unpinned{ag pl:List (af×Obj)}{σ:St}{H:Hp}{s:am}(I:Inv X (ag++pl) σ H s):Inv X ag σ H s:=I.pins_of λp hp=>I.pin p (k6 _ (zF _ hp))
theorem JR{iter:aB}{body:List aZ}{wi:TI}{g:TG}{tb:TS}{pos:Pos}(hp:PassesOwn (aw X.prog X.w) X.A X.env X.xe)(hc:X.calm=ah)(hi:PI X tg iter wi)(hg:PG X tg g)(hb:kT X body tb)(hs:∀x,qu iter X.env x=pure x:=by intro _;rfl):PS X (.For tg iter body [] pos) (LU wi g tb):=by
 intro ag s σ H D I h;refine wpAny_For (aV (hi ag s σ H _ I h) λv s1 h1=>aV h1 λitv s2 h2=>?_) hs;obtain⟨it,fp,tn,J,H2,e,I2,T,aX,f2,W,⟨m0,w0⟩,turn⟩:=h2;subst e;have stat:∀{H':Hp},(∀b∈fp,H' b=ae)->∀b∈fp,jZ X ag H' b:=λhn b hb=>⟨hn b hb,(f2 b hb).2⟩
 refine codeAny_forLoop_any (λn s'=>∃i σ' H',Inv X ag σ' H' s'/\tn i s'.heap/\(∀b∈fp,H' b=ae)/\W i n σ' H') ?_ m0 ⟨0,σ,H2,I2,aX,λb hb=>(f2 b hb).1,w0⟩;rintro n s3 ⟨i,σ3,H3,I3,bq,fr3,w3⟩;rcases turn i n σ3 H3 w3 with⟨stop,qn⟩|⟨go,N,hN,step⟩
 ·refine wn hp (aV (T.done X rfl rfl rfl hc i ag s3 σ3 H3 X.xe I3 (stat fr3) bq stop) λr s4 ⟨hr,I4⟩=>?_);subst hr;exact wpAny_execs_nil ⟨σ3,H3,I4,qn⟩
 ·refine wn hp (aV (T.item X rfl rfl rfl hc i ag s3 σ3 H3 X.xe I3 (stat fr3) bq go) λr s4 ⟨u,hr,h4⟩=>?_);subst hr;refine wn hp (aV h4 λ_ s5 ⟨x,H5,I5,r5,y5,bY,fr5⟩=>?_);have I5':=I5.pinned (stat fr5) (T.obj _ _ bY);refine wn hp (aV (hg _ s5 σ3 H5 x u _ I5' r5 (step x H5 y5)) λ_ s6 ⟨σ6,H6,I6,q6⟩=>?_);refine wn hp (aV (hb _ s6 σ6 H6 _ I6 q6) λf s7 q7=>?_);have again:∀{σ7:St}{H7:Hp},Inv X (ag++sD fp s5.heap) σ7 H7 s7->N σ7 H7->∃m,m<n/\∃i σ' H',Inv X ag σ' H' s7/\tn i s7.heap/\(∀b∈fp,H' b=ae)/\W i m σ' H':=λ{σ7 H7} I7 n7=>by obtain⟨m',hm,w7⟩:=hN σ7 H7 n7;refine⟨m',hm,i+1,σ7,H7,I7.unpinned,T.keep _ _ _ bY λb hb o e=>(I7.pin (b,o) (k6 _ (k6 _ (vF hb e)))).1,λb hb=>?_,w7⟩;obtain⟨o,e,d⟩:=T.obj _ _ bY b hb;exact(I7.pin (b,o) (k6 _ (k6 _ (vF hb e)))).2.1
  cases f with
  |next=>obtain⟨σ7,H7,I7,n7⟩:=q7;exact again I7 n7
  |cont=>obtain⟨σ7,H7,I7,n7⟩:=q7;exact again I7 n7
  |brk=>obtain⟨σ7,H7,I7,q7⟩:=q7;exact⟨σ7,H7,I7.unpinned,q7⟩
  |ret v=>obtain⟨x7,σ7,H7,I7,r7,q7⟩:=q7;exact⟨x7,σ7,H7,I7.unpinned,r7,q7⟩
end
abbrev R2:=V->V->Hp->VK->Prop
def bV(X:Cx)(f:ai->ai->Sem ai)(r:R2):Prop :=
 ∀(ag:List (af×Obj)) (s:am) (σ:St) (H:Hp) (x y:V) (v u:ai) (Q:VK),Inv X ag σ H s->RelV x v->RelV y u->r x y H Q ->
  aq (aw X.prog X.w) X.A (f v u) (EP X ag σ Q) X.xe s
def wj(X:Cx)(f:ai->Sem ai)(r:V->Hp->VK->Prop):Prop :=
 ∀(ag:List (af×Obj)) (s:am) (σ:St) (H:Hp) (x:V) (v:ai) (Q:VK),Inv X ag σ H s->RelV x v->r x H Q ->
  aq (aw X.prog X.w) X.A (f v) (EP X ag σ Q) X.xe s
def et(X:Cx)(f:ai)(r:List V->Hp->VK->Prop):Prop :=
 ∀(ag:List (af×Obj)) (s:am) (σ:St) (H:Hp) (xs:List V) (us:List ai) (Q:VK),Inv X ag σ H s->bj xs us->r xs H Q ->
  aq (aw X.prog X.w) X.A (call f us) (EP X ag σ Q) X.xe s
def uM(r:R2)(ta tb:TE):TE:=λσ H Q=>ta σ H λx H1=>tb σ H1 λy H2=>r x y H2 Q
def LF(r:V->Hp->VK->Prop)(ta:TE):TE:=λσ H Q=>ta σ H λx H1=>r x H1 Q
def rI(C:Int->Int->Prop)(g:Int->Int->V):R2:=λx y H Q=>∃i j,x=.int i/\y=.int j/\C i j/\Q (g i j) H
def kA(g:Int->Int->V):R2:=λx y H Q=>∃i j,x=.int i/\y=.int j/\Q (g i j) H
def rU(g:Int->V):V->Hp->VK->Prop:=λx H Q=>∃i,x=.int i/\Q (g i) H
section
variable{X:Cx}{a b c:aB}{ta tb tc:TE}{pos:Pos}
theorem zc(ha:PE X a ta)(hb:PE X b tb){ag:List (af×Obj)}{s:am}{σ:St}{H:Hp}{R:V->V->Hp->Prop}(I:Inv X ag σ H s)(h:ta σ H λx H1=>tb σ H1 λy H2=>R x y H2) {Q:ai->am->Prop}{f:ai->ai->Sem ai}(hf:∀v u s2 x y H2,Inv X ag σ H2 s2->RelV x v->RelV y u->R x y H2->aq (aw X.prog X.w) X.A (f v u) Q X.xe s2):aq (aw X.prog X.w) X.A (aU a X.env) (λv s₁=>aq (aw X.prog X.w) X.A (aU b X.env) (λu s₂=>aq (aw X.prog X.w) X.A (f v u) Q X.xe s₂) X.xe s₁) X.xe s:=by refine aV (ha ag s σ H _ I h) λv s1 ⟨x,H1,I1,r1,q1⟩=>?_;refine aV (hb ag s1 σ H1 _ I1 q1) λu s2 ⟨y,H2,I2,r2,q2⟩=>?_;exact hf v u s2 x y H2 I2 r1 r2 q2
theorem FC{op:Operator}{r:R2}(ho:bV X (iQ op) r)(ha:PE X a ta)(hb:PE X b tb):PE X (.BinOp a op b pos) (uM r ta tb):=by intro ag s σ H Q I h;exact wpAny_BinOp (zc ha hb I h λv u s2 x y H2 I2 rx ry q=>ho ag s2 σ H2 x y v u Q I2 rx ry q)
theorem LX{op:UnaryOp}{r:V->Hp->VK->Prop}(ho:wj X (unaryOp op) r)(ha:PE X a ta):PE X (.UnaryOp op a pos) (LF r ta):=by intro ag s σ H Q I h;exact UnaryOp_ (aV (ha ag s σ H _ I h) λv s1 ⟨x,H1,I1,r1,q1⟩=>ho ag s1 σ H1 x v Q I1 r1 q1)
theorem yK{f:ai->ai->Sem ai}{C:Int->Int->Prop}{g:Int->Int->Int}(rule:∀(i j:Int) (t u:Tok) (s:am) (Q:ai->am->Prop) (E:ai->am->Prop),C i j->Q (.int (g i j) s.toks) {s with toks:=s.toks+1}->aq (aw X.prog X.w) X.A (f (.int i t) (.int j u)) Q E s):bV X f (rI C λi j=>.int (g i j)):=by intro ag s σ H x y v u Q I rx ry h;obtain⟨i,j,rfl,rfl,hc,q⟩:=h;obtain⟨t,rfl⟩:=rx;obtain⟨t',rfl⟩:=ry;exact rule i j t t' s _ _ hc ⟨.int (g i j),H,I.tok _,⟨_,rfl⟩,q⟩
theorem CG{f:ai->ai->Sem ai}{g:Int->Int->Int}(rule:∀(i j:Int) (t u:Tok) (s:am) (Q:ai->am->Prop) (E:ai->am->Prop),Q (.int (g i j) s.toks) {s with toks:=s.toks+1}->aq (aw X.prog X.w) X.A (f (.int i t) (.int j u)) Q E s):bV X f (kA λi j=>.int (g i j)):=by intro ag s σ H x y v u Q I rx ry h;obtain⟨i,j,rfl,rfl,q⟩:=h;obtain⟨t,rfl⟩:=rx;obtain⟨t',rfl⟩:=ry;exact rule i j t t' s _ _ ⟨.int (g i j),H,I.tok _,⟨_,rfl⟩,q⟩
theorem zB{f:ai->ai->Sem ai}{g:Int->Int->Bool}(rule:∀(i j:Int) (t u:Tok) (s:am) (Q:ai->am->Prop) (E:ai->am->Prop),Q (.bool (g i j)) s->aq (aw X.prog X.w) X.A (f (.int i t) (.int j u)) Q E s):bV X f (kA λi j=>.bl (g i j)):=by intro ag s σ H x y v u Q I rx ry h;obtain⟨i,j,rfl,rfl,q⟩:=h;obtain⟨t,rfl⟩:=rx;obtain⟨t',rfl⟩:=ry;exact rule i j t t' s _ _ ⟨.bl (g i j),H,I,rfl,q⟩
def BW(i j:Int):Prop:=0<=j/\j<=1000000/\i.natAbs<2^64
def yG(i j:Int):Prop:=(-(2^64)<i/\i<2^64)\/(-(2^64)<j/\j<2^64)
theorem yG.ok{i j:Int}(h:yG i j):IntMulOk i j:=by
 rcases h with⟨h1,h2⟩|⟨h1,h2⟩
 ·exact .of_left (intBits_le_64 h1 h2)
 ·exact .of_right (intBits_le_64 h1 h2)
theorem Oo:bV X (iQ .Add) (kA λi j=>.int (i+j)):=CG λ_ _ _ _ _ _ _ q=>add_int q
theorem mz:bV X (iQ .Sub) (kA λi j=>.int (i-j)):=CG λ_ _ _ _ _ _ _ q=>sub_int q
theorem Od:bV X (iQ .Mult) (rI yG λi j=>.int (i*j)):=yK λ_ _ _ _ _ _ _ hc q=>mul_int q hc.ok
theorem pt:bV X (iQ .Mod) (rI (λ_ j=>0<j) λi j=>.int (i % j)):=yK λi j _ _ _ _ _ hc q=>by have h1:(0:Int)<j:=hc;exact mod_int' ∅ (by rw[Int.fmod_eq_emod_of_nonneg i ∅];exact q)
theorem LY:bV X (iQ .Pow) (rI BW λi j=>.int (i^j.toNat)):=yK λ_ _ _ _ _ _ _ hc q=>pow_int_small hc.1 hc.2.1 hc.2.2 q
theorem Gb{f:ai->Sem ai}{g:Int->Int}(rule:∀(i:Int) (t:Tok) (s:am) (Q:ai->am->Prop) (E:ai->am->Prop),Q (.int (g i) s.toks) {s with toks:=s.toks+1}->aq (aw X.prog X.w) X.A (f (.int i t)) Q E s):wj X f (rU λi=>.int (g i)):=by intro ag s σ H x v Q I rx h;obtain⟨i,rfl,q⟩:=h;obtain⟨t,rfl⟩:=rx;exact rule i t s _ _ ⟨.int (g i),H,I.tok _,⟨_,rfl⟩,q⟩
theorem BR:wj X (unaryOp .USub) (rU λi=>.int (-i)):=Gb λ_ _ _ _ _ q=>neg_int q
end
def su:V->V->Bool
 |.non,.non=>ah|.non,.int _=>ah|.int _,.non=>ah|.non,.bl _=>ah|.bl _,.non=>ah|.non,.str _=>ah|.str _,.non=>ah
 |.int _,.int _=>ah|.bl _,.bl _=>ah|.str _,.str _=>ah|.byt _,.byt _=>ah
 |.int _,.str _=>ah|.str _,.int _=>ah|.bl _,.str _=>ah|.str _,.bl _=>ah
 |_,_=>aj
def CZ:R2:=λx y H Q=>su x y=ah/\Q (.bl (decide (x=y))) H
def B2:R2:=λx y H Q=>su x y=ah/\Q (.bl (!decide (x=y))) H
theorem CJ{i j:Int}:decide (V.int i=V.int j)=(i == j):=by rw[j5];simp
theorem Ca{i j:Bool}:decide (V.bl i=V.bl j)=(i == j):=by rw[j5];simp
theorem Bz{i j:Str}:decide (V.str i=V.str j)=(i == j):=by rw[j5];simp
theorem Em{i j:Array UInt8}:decide (V.byt i=V.byt j)=(i.toList == j.toList):=by
 rw[j5];cases i;cases j;simp
section
variable{X:Cx}{a b c:aB}{ta tb tc:TE}{pos:Pos}
theorem cW{ag:List (af×Obj)}{σ:St}{H:Hp}{s:am}{Q:VK}{k k':Bool}(I:Inv X ag σ H s)(q:Q (.bl k) H)(e:k=k'):EP X ag σ Q (.bool k') s:=by subst e;exact⟨.bl k,H,I,rfl,q⟩
theorem Oj:bV X (d_ .Eq) CZ:=by
 intro ag s σ H x y v u Q I rx ry h;obtain⟨hs,q⟩:=h;cases x with
 |non=>
  cases rx;cases y with
  |non=>cases ry;exact PySem.EqNone.eq_none_none (cW I q (by simp))
  |bl j=>cases ry;exact PySem.EqNone.eq_none_bool (cW I q (by simp))
  |int j=>obtain⟨t',rfl⟩:=ry;exact PySem.EqNone.eq_none_int (cW I q (by simp))
  |str j=>obtain⟨t',rfl⟩:=ry;exact PySem.EqNone.eq_none_str (cW I q (by simp))
  |_=>exact absurd (show aj=ah from hs) eT
 |bl i=>
  cases rx;cases y with
  |non=>cases ry;exact PySem.EqNone.eq_bool_none (cW I q (by simp))
  |bl j=>cases ry;exact eq_bool (cW I q Ca)
  |str j=>obtain⟨t',rfl⟩:=ry;exact PySem.EqMixed.eq_bool_str (cW I q (by simp))
  |_=>exact absurd (show aj=ah from hs) eT
 |int i=>
  obtain⟨t,rfl⟩:=rx;cases y with
  |non=>cases ry;exact PySem.EqNone.eq_int_none (cW I q (by simp))
  |int j=>obtain⟨t',rfl⟩:=ry;exact eq_int (cW I q CJ)
  |str j=>obtain⟨t',rfl⟩:=ry;exact PySem.EqMixed.eq_int_str (cW I q (by simp))
  |_=>exact absurd (show aj=ah from hs) eT
 |str i=>
  obtain⟨t,rfl⟩:=rx;cases y with
  |non=>cases ry;exact PySem.EqNone.eq_str_none (cW I q (by simp))
  |bl j=>cases ry;exact PySem.EqMixed.eq_str_bool (cW I q (by simp))
  |int j=>obtain⟨t',rfl⟩:=ry;exact PySem.EqMixed.eq_str_int (cW I q (by simp))
  |str j=>obtain⟨t',rfl⟩:=ry;exact eq_str (cW I q Bz)
  |_=>exact absurd (show aj=ah from hs) eT
 |byt i=>
  obtain⟨t,rfl⟩:=rx;cases y with
  |byt j=>obtain⟨t',rfl⟩:=ry;exact PySem.W.eq_bytes (cW I q Em)
  |_=>exact absurd (show aj=ah from hs) eT
 |_=>cases y <;> exact absurd (show aj=ah from hs) eT
theorem Ow:bV X (d_ .NotEq) B2:=by
 intro ag s σ H x y v u Q I rx ry h;obtain⟨hs,q⟩:=h;cases x with
 |non=>
  cases rx;cases y with
  |non=>cases ry;exact PySem.EqNone.ne_none_none (cW I q (by simp))
  |bl j=>cases ry;exact PySem.EqNone.ne_none_bool (cW I q (by simp))
  |int j=>obtain⟨t',rfl⟩:=ry;exact PySem.EqNone.ne_none_int (cW I q (by simp))
  |str j=>obtain⟨t',rfl⟩:=ry;exact PySem.EqNone.ne_none_str (cW I q (by simp))
  |_=>exact absurd (show aj=ah from hs) eT
 |bl i=>
  cases rx;cases y with
  |non=>cases ry;exact PySem.EqNone.ne_bool_none (cW I q (by simp))
  |bl j=>cases ry;exact ne_bool (cW I q (congrArg not Ca))
  |str j=>obtain⟨t',rfl⟩:=ry;exact PySem.EqMixed.ne_bool_str (cW I q (by simp))
  |_=>exact absurd (show aj=ah from hs) eT
 |int i=>
  obtain⟨t,rfl⟩:=rx;cases y with
  |non=>cases ry;exact PySem.EqNone.ne_int_none (cW I q (by simp))
  |int j=>obtain⟨t',rfl⟩:=ry;exact ne_int (cW I q (congrArg not CJ))
  |str j=>obtain⟨t',rfl⟩:=ry;exact PySem.EqMixed.ne_int_str (cW I q (by simp))
  |_=>exact absurd (show aj=ah from hs) eT
 |str i=>
  obtain⟨t,rfl⟩:=rx;cases y with
  |non=>cases ry;exact PySem.EqNone.ne_str_none (cW I q (by simp))
  |bl j=>cases ry;exact PySem.EqMixed.ne_str_bool (cW I q (by simp))
  |int j=>obtain⟨t',rfl⟩:=ry;exact PySem.EqMixed.ne_str_int (cW I q (by simp))
  |str j=>obtain⟨t',rfl⟩:=ry;exact ne_str (cW I q (congrArg not Bz))
  |_=>exact absurd (show aj=ah from hs) eT
 |byt i=>
  obtain⟨t,rfl⟩:=rx;cases y with
  |byt j=>obtain⟨t',rfl⟩:=ry;exact PySem.W.ne_bytes (cW I q (congrArg not Em))
  |_=>exact absurd (show aj=ah from hs) eT
 |_=>cases y <;> exact absurd (show aj=ah from hs) eT
theorem L7:bV X (d_ .Lt) (kA λi j=>.bl (decide (i<j))):=zB λ_ _ _ _ _ _ _ q=>lt_int q
theorem kw:bV X (d_ .LtE) (kA λi j=>.bl (decide (i<=j))):=zB λ_ _ _ _ _ _ _ q=>le_int q
theorem B6:bV X (d_ .Gt) (kA λi j=>.bl (decide (j<i))):=zB λ_ _ _ _ _ _ _ q=>gt_int q
theorem Og:bV X (d_ .In) (λx y H Q=>∃i j,x=.str i/\y=.str j/\Q (.bl (!(Ey j i 0 j.length 1).isEmpty)) H):=by intro ag s σ H x y v u Q I rx ry h;obtain⟨i,j,rfl,rfl,q⟩:=h;obtain⟨t,rfl⟩:=rx;obtain⟨t',rfl⟩:=ry;exact in_str (cW I q rfl)
theorem bV.or{f:ai->ai->Sem ai}{r r':R2}(h:bV X f r)(h':bV X f r'):bV X f (λx y H Q=>r x y H Q\/r' x y H Q):=by
 intro ag s σ H x y v u Q I rx ry q;rcases q with q|q
 ·exact h ag s σ H x y v u Q I rx ry q
 ·exact h' ag s σ H x y v u Q I rx ry q
theorem LC{op:CmpOp}{r:R2}(ho:bV X (d_ op) r)(ha:PE X a ta)(hb:PE X b tb)(hm:zH op b=aj):PE X (.Compare a [op] [b] pos) (uM r ta tb):=by intro ag s σ H Q I h;exact wpAny_Compare1 (zc ha hb I h λv u s2 x y H2 I2 rx ry q=>ho ag s2 σ H2 x y v u Q I2 rx ry q) hm
def Ch(t:TE):TT:=λσ H Q=>t σ H λx H'=>∃k,x=.bl k/\Q k H'
theorem IP{op:CmpOp}{r:R2}(ho:bV X (d_ op) r)(ha:PE X a ta)(hb:PE X b tb)(hm:zH op b=aj):PT X (.Compare a [op] [b] pos) (Ch (uM r ta tb)):=by
 intro ag s σ H Q I h;refine wpAny_isTrue_Compare1 (aV (ha ag s σ H _ I h) λv s1 ⟨x,H1,I1,r1,q1⟩=>aV (hb ag s1 σ H1 _ I1 q1) λu s2 ⟨y,H2,I2,r2,q2⟩=>aV (ho ag s2 σ H2 x y v u _ I2 r1 r2 q2) λc s3 ⟨z,H3,I3,r3,k,e,q3⟩=>?_) hm;subst e;cases r3;exact oA ⟨H3,I3,q3⟩
def xE(r r':R2)(ta tb tc:TE):TE:=λσ H Q=>ta σ H λx H1=>tb σ H1 λy H2=>r x y H2 λz H3=>∃k,z=.bl k /\
 (if k=ah then tc σ H3 λw' H4=>r' y w' H4 Q else Q (.bl aj) H3)
theorem KH{op op':CmpOp}{r r':R2}(ho:bV X (d_ op) r)(gh:bV X (d_ op') r')(ha:PE X a ta)(hb:PE X b tb)(hc:PE X c tc)(hm:lastMarks [op,op'] [b,c]=aj:=by with_unfolding_all rfl):PE X (.Compare a [op,op'] [b,c] pos) (xE r r' ta tb tc):=by
 intro ag s σ H Q I h;refine Compare_chain (aV (ha ag s σ H _ I h) λv s1 ⟨x,H1,I1,r1,q1⟩=>chain_link (aV (hb ag s1 σ H1 _ I1 q1) λu s2 ⟨y,H2,I2,r2,q2⟩=>aV (ho ag s2 σ H2 x y v u _ I2 r1 r2 q2) λd s3 ⟨z,H3,I3,r3,k,e,q3⟩=>?_)) hm;subst e;cases r3;refine oA ?_;cases k with
 |false=>exact ite_ff ⟨.bl aj,H3,I3,rfl,q3⟩
 |true=>exact ite_tt (chain_last (aV (hc ag s3 σ H3 _ I3 q3) λw' s4 ⟨z',H4,I4,r4,q4⟩=>gh ag s4 σ H4 y z' u w' Q I4 r2 r4 q4))
theorem Lc{op op':CmpOp}{r r':R2}(ho:bV X (d_ op) r)(gh:bV X (d_ op') r')(ha:PE X a ta)(hb:PE X b tb)(hc:PE X c tc)(hm:lastMarks [op,op'] [b,c]=aj:=by with_unfolding_all rfl):PT X (.Compare a [op,op'] [b,c] pos) (Ch (xE r r' ta tb tc)):=by
 intro ag s σ H Q I h;refine isTrue_chain (aV (ha ag s σ H _ I h) λv s1 ⟨x,H1,I1,r1,q1⟩=>test_link (aV (hb ag s1 σ H1 _ I1 q1) λu s2 ⟨y,H2,I2,r2,q2⟩=>aV (ho ag s2 σ H2 x y v u _ I2 r1 r2 q2) λd s3 ⟨z,H3,I3,r3,k,e,q3⟩=>?_)) hm;subst e;cases r3;refine oA ?_;cases k with
 |false=>
  obtain⟨k',e',q'⟩:=q3;cases e';exact ite_ff ⟨H3,I3,q'⟩
 |true=>
  refine ite_tt (test_last (aV (hc ag s3 σ H3 _ I3 q3) λw' s4 ⟨z',H4,I4,r4,q4⟩=>aV (gh ag s4 σ H4 y z' u w' _ I4 r2 r4 q4) λd' s5 ⟨z2,H5,I5,r5,k2,e2,q5⟩=>?_));subst e2;cases r5;exact oA ⟨H5,I5,q5⟩
theorem pM:(a_:Nat)<2^63:=by rw[oB];decide
theorem Ie:bV X (iQ .Add) (λx y H Q=>∃i j,x=.str i/\y=.str j/\i.length+j.length<=a_/\Q (.str (i++j)) H):=by intro ag s σ H x y v u Q I rx ry h;obtain⟨i,j,rfl,rfl,hz,q⟩:=h;obtain⟨t,rfl⟩:=rx;obtain⟨t',rfl⟩:=ry;exact add_str (λt' tk=>⟨.str (i++j),H,I.tok _,⟨_,rfl⟩,q⟩) hz
theorem vals1{x:V}{us:List ai}(r:bj [x] us):∃u,us=[u]/\RelV x u:=by
 cases r with
 |cons r1 r2=>cases r2;exact⟨_,rfl,r1⟩
theorem vals2{x y:V}{us:List ai}(r:bj [x,y] us):∃u w',us=[u,w']/\RelV x u/\RelV y w':=by
 cases r with
 |cons r1 r2=>
  cases r2 with
  |cons r3 r4=>cases r4;exact⟨_,_,rfl,r1,r3⟩
def Bw(K:ax)(x:V)(H:Hp)(n:Nat):Prop :=
 match x with
 |.str y=>y.length<=a_/\n=y.length
 |.byt y=>y.size<=a_/\n=y.size
 |.ref p=>(∃xs,cc K H p xs/\n=xs.length)\/∃xs,cD K H p xs/\n=xs.length
 |_=>False
theorem gC:et X (.builtin "len") (λxs H Q=>∃x n,xs=[x]/\Bw X.K x H n/\Q (.int n) H):=by
 intro ag s σ H xs us Q I r h;obtain⟨x,n,rfl,e,q⟩:=h;obtain⟨u,rfl,rx⟩:=vals1 r;have hl:=pM;have hs:a_=16777216:=oB;cases x with
 |str y=>obtain⟨t,rfl⟩:=rx;obtain⟨hy,e'⟩:y.length<=a_/\n=y.length:=e;subst e';exact len_str ∅ ⟨.int _,H,I.tok _,⟨_,rfl⟩,q⟩
 |byt y=>obtain⟨t,rfl⟩:=rx;obtain⟨hy,e'⟩:y.size<=a_/\n=y.size:=e;subst e';exact PySem.W.len_bytes ∅ ⟨.int _,H,I.tok _,⟨_,rfl⟩,q⟩
 |ref p=>
  cases rx;have e':(∃xs,cc X.K H p xs/\n=xs.length)\/∃xs,cD X.K H p xs/\n=xs.length:=e;rcases e' with⟨xs,hx,e'⟩|⟨xs,hx,e'⟩
  ·subst e';obtain⟨its,r',pl,hz⟩:=I.list hx;have bz:=r'.length;exact Calls.call_len_list pl.isList (by simp only[ce];lia) ⟨.int xs.length,H,I.tok _,⟨_,by simp only[ce];rw[bz]⟩,q⟩
  ·subst e';obtain⟨its,r',pl,hz⟩:=I.tuple hx;have bz:=r'.length;exact len_tuple pl (by simp only[ce];lia) ⟨.int xs.length,H,I.tok _,⟨_,by simp only[ce];rw[bz]⟩,q⟩
 |_=>exact(show False from e).elim
end
structure Eh(h:aA)(x dx C:af)(mA:Str->Option ai):Prop where
 obj:h.get? x=aa (PySem.W.instObj C dx)
 ns:h.Ns1 dx mA
 ne:dx≠x
theorem Lu{h:aA}{dx:af}{mA:Str->Option ai}(n:h.Ns1 dx mA):∃od,h.get? dx=aa od/\∀name,PySem.W.lookIn name od=aa (mA name):=by
 obtain⟨o,es,ep,ho,hd,hk,_,hm⟩:=n;refine⟨o,ho,λname=>?_⟩;have e:=hm name;unfold nsFind findBy at e;rw[←Array.find?_toList]at e;unfold PySem.W.lookIn;rw[hd];dsimp only;split
 ·rename_i y q;rw[q]at e;exact congrArg aa e
 ·rename_i q;rw[q]at e;have a:es.toList.any (·.refKey)=aj:=by rw[Ez];intro y hy;obtain⟨z,t,jH⟩:=hk y (Array.mem_toList_iff.mp hy);simp[DictEntry.refKey,jH]
  have a':¬es.toList.any (·.refKey)=ah:=by rw[a];exact eT
  rw[if_neg a'];exact congrArg aa e
theorem Eh.look{h:aA}{x dx C:af}{mA:Str->Option ai}(I:Eh h x dx C mA):∃od,sV h x (PySem.W.instObj C dx) C (aa od)/\∀name,PySem.W.lookIn name od=aa (mA name) :=
 let ⟨od,ho,hl⟩:=Lu I.ns
 ⟨od,⟨I.obj,rfl,rfl,ho⟩,hl⟩
theorem mR.some_of{v:V}{o:Option ai}(r:mR (aa v) o):∃u,o=aa u/\RelV v u:=by
 cases o with
 |none=>exact(show False from r).elim
 |some u=>exact⟨u,rfl,r⟩
section
variable{P:aM}{w:aF}{H H':Hp}{h h':aA}{a C dx:af}{fs fs':List (Str×V)}
theorem JN(hok:cI P w H h)(e:H a=aa (.ins C dx fs)):∃mA,Eh h a dx C mA/\(∀f,mR (fs.lookup f) (mA f))/\PySem.Within mA (fs.map (·.1))/\fs.length<=1000/\H dx=aa (.own a):=by
 obtain⟨d,z,ne,ob,mA,n,r,q⟩:=(show cH P w H h a (.ins C dx fs)from hok a _ e)
 exact⟨mA,⟨ob,n,ne⟩,r,q,z,d⟩
end
structure CV(K:ax)(C:af):Prop where
 pg:PySem.W.plainGet K C jc=ah
 hd:PySem.W.hasDictIn K C=ah
 po:PySem.W.plainOver K C=ah
 sa:oC K (.ref C) "__setattr__" = aa (aa (.builtin "object.__setattr__"))
theorem CV.get{K:ax}{C:af}(c:CV K C)(f:Str):PySem.W.plainGet K C f=ah:=c.pg
section
variable{X:Cx}{ag:List (af×Obj)}{σ:St}{H:Hp}{s:am}{A:aO}{E:ai->am->Prop}{Q:ai->am->Prop}{c:ai}{b:Bool}
inductive g9(K:ax)(H:Hp):V->ai->Prop where
 |non:g9 K H .non (.type "NoneType")
 |bl (x:Bool):g9 K H (.bl x) (.type "bool")
 |int (i:Int):g9 K H (.int i) (.type "int")
 |str (x:Str):g9 K H (.str x) (.type "str")
 |flt (x:UInt64):g9 K H (.flt x) (.type "float")
 |lst {a:af}{xs:List V} (e:H a=aa (.lst xs)):g9 K H (.ref a) (.type "list")
 |frz {a:af}{o:Obj}{xs:List V} (e:H a=aa (.frz o (.lst xs))):g9 K H (.ref a) (.type "list")
 |tup {a:af}{xs:List V} (e:H a=aa (.tup xs)):g9 K H (.ref a) (.type "tuple")
 |dK {a:af}{kvs:List (aN×V)} (e:H a=aa (.dK kvs)):g9 K H (.ref a) (.type "dict")
 |dT {a:af}{kvs:List (List aN×V)} (e:H a=aa (.dT kvs)):g9 K H (.ref a) (.type "dict")
 |ins {a C dx:af}{fs:List (Str×V)} (e:H a=aa (.ins C dx fs)) (cl:CV K C) (ha:oC K (.ref C) "__class__" = aa (aa (.builtin "object.__class__")))
   (hn:EA K (.builtin "object.__class__") "__get__" = aa (aa (.builtin "getset_descriptor.__get__"))) (oU:PySem.W.takesIn K (.builtin "object.__class__")=aa ah)
   (hm:wo K C (.type "object")=aa ah):g9 K H (.ref a) (.ref C)
theorem IS{x:V}{u t:ai}(I:Inv X ag σ H s)(rx:RelV x u)(ty:g9 X.K H x t)(e:d4 X.K t c=aa b)(h:∀tk,Q (.bool b) {s with toks:=tk}):aq (aw X.prog X.w) A (call (.builtin "isinstance") [u,c]) Q E s:=by
 cases ty with
 |non=>cases (show u=Value.none from rx);exact j6 PySem.W.kitx_none I.kIn True.intro e (λz=>nomatch z) h
 |bl y=>cases (show u=Value.bool y from rx);exact j6 PySem.W.kitx_bool I.kIn True.intro e (λz=>nomatch z) h
 |int i=>obtain⟨t,q⟩:=(show ∃t,u=Value.int i t from rx);cases q;exact j6 PySem.W.kitx_int I.kIn True.intro e (λz=>nomatch z) h
 |str y=>obtain⟨t,q⟩:=(show ∃t,u=Value.str y t from rx);cases q;exact j6 PySem.W.kitx_str I.kIn True.intro e (λz=>nomatch z) h
 |flt y=>obtain⟨t,q⟩:=(show ∃t,u=Value.float y t from rx);cases q;exact j6 PySem.W.kitx_float I.kIn True.intro e (λz=>nomatch z) h
 |@lst a xs ea=>
  cases (show u=Value.ref a from rx);obtain⟨_,_,n,_,h1⟩:=(show cH X.prog X.w H s.heap a (.lst xs)from I.hok a _ ea)
  exact j6 PySem.W.kitx_list I.kIn ⟨_,h1,rfl⟩ e (λz=>nomatch z) h
 |@frz a ob xs ea=>
  cases (show u=Value.ref a from rx);obtain⟨_,_,_,n,_,h1⟩:=(show cH X.prog X.w H s.heap a (.frz ob (.lst xs))from I.hok a _ ea)
  exact j6 PySem.W.kitx_list I.kIn ⟨_,h1,rfl⟩ e (λz=>nomatch z) h
 |@tup a xs ea=>
  cases (show u=Value.ref a from rx);obtain⟨_,_,_,p,_⟩:=(show cH X.prog X.w H s.heap a (.tup xs)from I.hok a _ ea)
  obtain⟨o,h1,h2,_⟩:=p;exact j6 PySem.W.kitx_tuple I.kIn ⟨o,h1,h2⟩ e (λz=>nomatch z) h
 |@dK a kvs ea=>
  cases (show u=Value.ref a from rx);obtain⟨_,_,vs,_,p⟩:=(show cH X.prog X.w H s.heap a (.dK kvs)from I.hok a _ ea)
  obtain⟨o,es,ep,h1,h2,_⟩:=p;exact j6 PySem.W.kitx_dict I.kIn ⟨o,h1,h2.1⟩ e (λz=>nomatch z) h
 |@dT a kvs ea=>
  cases (show u=Value.ref a from rx);obtain⟨_,_,xs,_,o,es,ep,h1,h2,_⟩:=(show cH X.prog X.w H s.heap a (.dT kvs)from I.hok a _ ea)
  exact j6 PySem.W.kitx_dict I.kIn ⟨o,h1,h2.1⟩ e (λz=>nomatch z) h
 |@ins a C dx fs ea cl ha hn oU hm=>
  cases (show u=Value.ref a from rx);obtain⟨mA,O,_⟩:=JN I.hok ea;obtain⟨od,J,_⟩:=O.look;exact j6 (PySem.W.kitx_own (cl.get _) cl.hd ha hn oU hm) I.kIn J e (λz=>nomatch z) h
end
structure eY(k:Nat)(A:aO):Prop where
 hd:A.handled=ae
 dp:A.depth+3*k+5<recursionLimit
 un:A.units+16*k+200<cLine
theorem eY.mono{j k:Nat}{A:aO}(r:eY k A)(h:j<=k):eY j A:=⟨r.hd,by have:=r.dp;lia,by have:=r.un;lia⟩
theorem eY.deeper{k:Nat}{A:aO}(r:eY (k+1) A)(env:Env):eY k (A.deeper env) :=⟨r.hd,by have:=r.dp;show A.depth+1+3*k+5<_;lia,by have:=r.un;show A.units+3+16*k+200<_;lia⟩
theorem eY.depth{k:Nat}{A:aO}(r:eY k A):A.depth<recursionLimit:=by have:=r.dp;lia
theorem eY.units{k:Nat}{A:aO}(r:eY k A):A.units+64<cLine:=by have:=r.un;lia
def IF:TA:=λ_ H Q=>Q [] H
def Ip(ta:TE)(tr:TA):TA:=λσ H Q=>ta σ H λx H1=>tr σ H1 λxs H2=>Q (x::xs) H2
section
variable{X:Cx}{e:aB}{es:List aB}{te:TE}{t:TA}{pos:Pos}
theorem jt:PA X [] IF:=λ_ _ _ _ H Q I h=>EB ⟨[],H,I,.nil,h⟩
theorem io(ha:PE X e te)(hr:PA X es t)(hs:aL (e::es) X.env=(aj,aU e X.env)::aL es X.env:=by rfl):PA X (e::es) (Ip te t):=by intro pos ag s σ H Q I h;rw[hs];show aq _ _ (spliced ((aj,aU e X.env)::cL pos (aL es X.env))) _ _ s;refine zI (aV (ha ag s σ H _ I h) λu s1 ⟨x,H1,I1,r1,q1⟩=>?_);exact aV (hr pos ag s1 σ H1 _ I1 q1) λus s2 ⟨xs,H2,I2,r2,q2⟩=>⟨x::xs,H2,I2,.cons r1 r2,q2⟩
def JV(t:TA):TE:=λσ H Q=>t σ H λxs H1=>xs.length<=a_/\∀p,H1 p=ae->Q (.ref p) (upd H1 p (.tup xs))
def Gk(t:TA):TE:=λσ H Q=>t σ H λxs H1=>xs.length<=a_/\∀p,H1 p=ae->Q (.ref p) (upd H1 p (.lst xs))
theorem Hq{x1}(h:PA X es t):PE X (.Tuple es x1 pos) (JV t):=by intro ag s σ H Q I hq;refine wpAny_Tuple_spliced (aV (h pos ag s σ H _ I hq) λus s1 ⟨xs,H1,I1,r,z,q⟩=>⟨by rw[←r.length];exact z,?_⟩);have hf:H1 s1.heap.objs.size=ae:=I1.hok.fresh (a9 _);refine⟨.ref s1.heap.objs.size,upd H1 s1.heap.objs.size (.tup xs),I1.laid (t':=s1.toks) (λb u e=>bH _ e) (a9 _) ?_,rfl,q _ hf⟩;exact⟨z,us,r,⟨⟨_,cZ _ rfl,rfl,_,rfl⟩,_,cZ _ rfl,rfl⟩⟩
theorem MN(h:PA X es t):PE X (.List es pos) (Gk t):=by intro ag s σ H Q I hq;refine wpAny_List_spliced (aV (h pos ag s σ H _ I hq) λus s1 ⟨xs,H1,I1,r,z,q⟩=>⟨by rw[←r.length];exact z,?_⟩);have hf:H1 s1.heap.objs.size=ae:=I1.hok.fresh (a9 _);refine⟨.ref s1.heap.objs.size,upd H1 s1.heap.objs.size (.lst xs),I1.laid (t':=s1.toks) (λb u e=>bH _ e) (a9 _) ?_,rfl,q _ hf⟩;exact⟨z,us,0,r,cZ _ rfl⟩
end
abbrev Sp:=List V->Hp->VK->XK->Prop
abbrev fG:=List Env->Hp->am->XK->ai->am->Prop
structure pK(P:aM)(w:aF)(K:ax)(mg:Str->Option ai)(base:aA)(A:aO)(outer:List Env)(s:am)(H:Hp):Prop where
 frames:A.frames=aa outer
 mod:Mod K mg base
 bs:∀b o,base.get? b=aa o->s.heap.get? b=aa o/\H b=ae
 bsz:base.objs.size<=s.heap.objs.size
 funs:s.heap.FunFrames base outer
 frf:∀b∈eF outer,H b=ae
 hok:cI P w H s.heap
 bare:lS s.gens
 tab:uC K H
def CE(outer:List Env)(P:aM)(w:aF)(H:Hp)(s:am)(Q:VK)(u:ai)(s':am):Prop :=
 ∃v H',s'.os=s.os/\lS s'.gens/\Un (eF outer) [] H H' s.heap s'.heap/\cI P w H' s'.heap/\RelV v u/\Q v H'
def CR(CX:fG)(outer:List Env)(P:aM)(w:aF)(H:Hp)(s:am)(Q:VK)(E:XK)(r:Result)(s':am):Prop :=
 match r with
 |.ok (.ret u)=>CE outer P w H s Q u s'
 |.ok _=>False
 |.error e=>CX outer H s E e s'
structure jQ(P:aM)(w:aF)(K:ax)(mg:Str->Option ai)(base:aA)(CX:fG)(k:Nat)(f:af)(fd:gc)(ps:List Str)(sp:Sp):Prop where
 len:∀vs H Q E,sp vs H Q E->vs.length=ps.length
 run:∀(A:aO) (outer:List Env) (s:am) (H:Hp) (args:Args) (us:List ai) (vs:List V) (Q:VK) (E:XK),eY k A->pK P w K mg base A outer s H->BindsTo s fd args (ps.zip us)->bj vs us->sp vs H Q E ->
  k7 (aw P w) A (.call (.ref f) args) (CR CX outer P w H s Q E) s
section
variable{X:Cx}{ag:List (af×Obj)}{σ:St}{H:Hp}{s s':am}
theorem Inv.env0(I:Inv X ag σ H s):pK X.prog X.w X.K X.mg X.base X.A X.stack s H :=⟨I.ok.frames,I.ok.mod,I.bs,cR I.ok.bsz I.sz,I.stack,I.stkFree,I.hok,I.bare,I.tab⟩
theorem Inv.after{Q:VK}{u:ai}(I:Inv X ag σ H s)(h:CE X.stack X.prog X.w H s Q u s'):EP X ag σ Q u s':=by obtain⟨v,H',os,bare,un,hok,r,q⟩:=h;obtain⟨hh,g,d,t,os'⟩:=s';obtain rfl:os'=s.os:=os;exact⟨v,H',I.call (h':=hh) (g':=g) (d':=d) (t':=t) (ch:=[]) un hok bare (λb z=>absurd z (by simp)),r,q⟩
end
def HG(sp:Sp)(dvs:List V)(E:XK)(t:TA):TE:=λσ H Q=>t σ H λvs H1=>sp (vs++dvs) H1 Q E
def Binds(K:ax)(fd:gc)(ps:List Str)(ds:List ai):Prop :=
 ∀(s:am) (us:List ai),K.In s.heap->(us++ds).length=ps.length->BindsTo s fd ⟨us,[]⟩ (ps.zip (us++ds))
theorem Binds.all{K:ax}{fd:gc}{ps:List Str}(h:∀us:List ai,us.length=ps.length->fC fd ⟨us,[]⟩=pure (ps.zip us)):Binds K fd ps []:=λs us _ hl=>by rw[hG]at hl ⊢;exact .of_eq (h us hl)
def pV(CX:fG)(X:Cx)(E:XK):Prop:=∀(ag:List (af×Obj)) (σ:St) (H:Hp) (s:am) (e:ai) (s':am),Inv X ag σ H s->CX X.stack H s E e s'->X.xe e s'
section
variable{X:Cx}{CX:fG}{k:Nat}{f C:af}{fd:gc}{ps:List Str}{sp:Sp}{dvs:List V}{ds:List ai}{E:XK}{x m:Str}{p pos apos:Pos}{e o:aB}{es:List aB}{ta:TE}{t:TA}
theorem NK{ag:List (af×Obj)}{σ:St}{H:Hp}{s:am}{Q:VK}{us:List ai}{vs:List V}(F:jQ X.prog X.w X.K X.mg X.base CX k f fd ps sp)(hr:eY k X.A)(hb:Binds X.K fd ps ds)(hd:bj dvs ds)(hx:pV CX X E)(I:Inv X ag σ H s) (r:bj vs us) (h:sp (vs++dvs) H Q E):aq (aw X.prog X.w) X.A (call (.ref f) us) (EP X ag σ Q) X.xe s:=by
 have r2:bj (vs++dvs) (us++ds):=r.append hd;have hl:(us++ds).length=ps.length:=by rw[←r2.length];exact F.len _ _ _ _ h
 refine wp (oD (F.run X.A X.stack s H ⟨us,[]⟩ (us++ds) (vs++dvs) Q E hr I.env0 (hb s us I.kIn hl) r2 h) λr s' hq=>?_);cases r with
 |error e=>exact hx ag σ H s e s' I hq
 |ok fl=>
  cases fl with
  |ret u=>exact I.after hq
  |next=>exact ge hq
  |brk=>exact ge hq
  |cont=>exact ge hq
theorem BB(F:jQ X.prog X.w X.K X.mg X.base CX k f fd ps sp)(hr:eY k X.A)(hg:Gl X x)(hm:X.mg x=aa (.ref f))(hk:oE X.K (.ref f)=ah)(hb:Binds X.K fd ps ds)(hd:bj dvs ds)(hx:pV CX X E)(ha:PA X (e::es) t) (gK:(x == ("__debug__" : Str))=aj:=by decide) (he:aL (e::es) X.env=(aj,aU e X.env)::aL es X.env:=by rfl) (cS:(cL pos (aL es X.env)).any (·.1)=aj:=by rfl):PE X (.Call (.Name x p) (e::es) [] pos) (HG sp dvs E t):=by intro ag s σ H Q I h;refine wq (qo I hg hm ?_ gK);refine EC (h₀:=X.base) I.ok.mod.kin hk (aV (ha pos ag s σ H _ I h) λus s1 ⟨vs,H1,I1,r,q⟩=>⟨I1.kIn,?_⟩) he cS;exact NK F hr hb hd hx I1 r q
end
structure b_(N P:List Str)(sc:dX):Prop where
 kind:sc.kind=.function
 co:sc.isCoroutine=aj
 gen:sc.isGenerator=aj
 nd:N.Nodup
 pre:N.take P.length=P
 par:∀x∈P,sc.names.lookup x=aa .local\/sc.names.lookup x=aa .cell
 nofree:∀y∈sc.names,y.2≠.free
theorem C0{kindOf:Str->Option fO}{x:Str}:∀{binds:List (Str×ai)}{m:Str->Option ai},(∀v,(x,v)∉binds)->bindL kindOf binds m x=m x
 |[],_,_=>rfl
 | (n,v)::r,m,h=>by
  unfold bindL;rw[C0 λw hw=>h w (dN _ hw)];split
  ·have:x≠n:=by rintro rfl;exact h v eN
   simp[this]
  ·rfl
theorem En{kindOf:Str->Option fO}{x:Str}:∀{binds:List (Str×ai)}{m:Str->Option ai},(∀v,(x,v)∉binds)->bindC kindOf binds m x=m x
 |[],_,_=>rfl
 | (n,v)::r,m,h=>by
  unfold bindC;rw[En λw hw=>h w (dN _ hw)];split
  ·rfl
  ·have:x≠n:=by rintro rfl;exact h v eN
   simp[this]
theorem Bv{kindOf:Str->Option fO}{x:Str}{v:ai}:∀{P:List Str}{vs:List ai}{i:Nat}{m:Str->Option ai},P.Nodup->P[i]?=aa x->vs[i]?=aa v->kindOf x=aa .local -> bindL kindOf (P.zip vs) m x=aa v
 |[],_,_,_,_,h,_,_=>by simp at h
 |_::_,[],_,_,_,_,h,_=>by simp at h
 |p::P,w::vs,0,m,nd,h1,h2,hk=>by simp at h1 h2;subst h1;subst h2;show bindL kindOf ((p,w)::P.zip vs) m p=_;unfold bindL;rw[C0 λv hv=>(jd.mp nd).1 (wt hv).1,if_pos hk];simp
 |p::P,w::vs,i+1,m,nd,h1,h2,hk=>by show bindL kindOf ((p,w)::P.zip vs) m x=_;unfold bindL;exact Bv (i:=i) (jd.mp nd).2 (by simpa using h1) (by simpa using h2) hk
theorem Ef{kindOf:Str->Option fO}{x:Str}{v:ai}:∀{P:List Str}{vs:List ai}{i:Nat}{m:Str->Option ai},P.Nodup->P[i]?=aa x->vs[i]?=aa v->kindOf x≠aa .local -> bindC kindOf (P.zip vs) m x=aa v
 |[],_,_,_,_,h,_,_=>by simp at h
 |_::_,[],_,_,_,_,h,_=>by simp at h
 |p::P,w::vs,0,m,nd,h1,h2,hk=>by simp at h1 h2;subst h1;subst h2;show bindC kindOf ((p,w)::P.zip vs) m p=_;unfold bindC;rw[En λv hv=>(jd.mp nd).1 (wt hv).1,if_neg hk];simp
 |p::P,w::vs,i+1,m,nd,h1,h2,hk=>by show bindC kindOf ((p,w)::P.zip vs) m x=_;unfold bindC;exact Ef (i:=i) (jd.mp nd).2 (by simpa using h1) (by simpa using h2) hk
def start(N:List Str)(vs:List V):St:=vs.map aa++bS (N.length-vs.length) ae
def im(CX:fG)(P:aM)(w:aF)(K:ax)(mg:Str->Option ai)(base:aA)(N:List Str)(qual:Str)(scope:dX)(f:af)(cd:ai)(A:aO)(outer:List Env)(s:am)(H:Hp)(E:XK):Cx where
 prog:=P
 w:=w
 K:=K
 mg:=mg
 base:=base
 A:=A.deeper (iA qual scope s.heap.objs.size f cd)
 N:=N
 s₀:=s
 H₀:=H
 env:=iA qual scope s.heap.objs.size f cd
 outer:=outer
 stack:=iA qual scope s.heap.objs.size f cd::outer
 ex:=[]
 calm:=ah
 fn:=λ_=>ah
 pn:=[]
 xe:=λe s'=>aq (aw P w) (A.deeper (iA qual scope s.heap.objs.size f cd)) (leaving (iA qual scope s.heap.objs.size f cd) e) (λ_ s''=>CX outer H s E e s'') (λe' s''=>CX outer H s E e' s'') s'
theorem Bo{sc:dX}{n:Nat}{x:Str}(h:sc.names.lookup x=aa .cell):∃c,(eU n sc.names []).lookup x=aa c:=by have q:=ED sc.names n [] (.inl h);exact zJ.mp q
theorem Cr{CX:fG}{P:aM}{w:aF}{K:ax}{mg:Str->Option ai}{base:aA}{N ps:List Str}{qual:Str}{scope:dX}{f:af}{cd:ai}{A:aO}{outer:List Env}{s s1:am}{H:Hp}{E:XK}{us:List ai}{vs:List V}(S:b_ N ps scope) (hd:A.handled=ae) (e0:pK P w K mg base A outer s H) (hl:vs.length=ps.length) (r:bj vs us)(x:InCallC s s.heap.objs.size (bindL (iA qual scope s.heap.objs.size f cd).kindOf (ps.zip us) λ_=>ae) (eU (s.heap.objs.size+1) scope.names []) (bindC (iA qual scope s.heap.objs.size f cd).kindOf (ps.zip us) λ_=>ae) s1):Inv (im CX P w K mg base N qual scope f cd A outer s H E) [] (start N vs) H s1:=by
 have cS:ps.length<=N.length:=by have:=congrArg lU S.pre;rw[mU]at this;lia
 obtain⟨h1,tk,rfl,hk⟩:=x.done;have noA:∀b:af,b∉(im CX P w K mg base N qual scope f cd A outer s H E).ex:=λb z=>absurd (show b∈([]:List af)from z) (by simp);refine⟨⟨e0.mod,S.kind,rfl,rfl,a9 _,λy z c h1 h2=>?_,λy hy=>?_,λy c _ h=>?_,λ_=>hd,Around.frames_deeper e0.frames,.inr ⟨rfl,rfl⟩,λb z=>absurd z (noA b),e0.bs,e0.bsz,λb _ _=>noA b,λb z=>absurd z (noA b),e0.funs,e0.frf,e0.tab⟩,rfl,e0.bare,Un.kept hk,⟨_,x.toInCall.ns,λi y v h1 h2 h3=>?_⟩,λy c h=>⟨_,x.cell y c h⟩,e0.hok.fresh (a9 _),λy c h=>?_,λp hp=>absurd (show p∈([]:List (af×Obj))from hp) (by simp),e0.hok.kept hk,?_⟩
 ·exact name_of_addr x.apart (j7 h1) (j7 h2)
 ·have hy:scope.names.lookup y=aa .cell\/scope.names.lookup y=aa .free:=hy;rcases hy with hy|hy
  ·exact Bo hy
  ·exact absurd rfl (S.nofree _ (j7 hy))
 ·exact j3 (x.above y c (j7 h))
 ·have hi:i<vs.length:=by
   unfold start at h2;by_cases hi:i<vs.length
   ·exact hi
   ·rw[mV (by simpa using hi)]at h2;rw[List.getElem?_replicate]at h2;split at h2 <;> cases h2
  have ha:vs[i]?=aa v:=by
   unfold start at h2;rw[gF (by simpa using hi),jD]at h2;cases e:vs[i]? with
   |none=>rw[e]at h2;cases h2
   |some a=>rw[e]at h2;cases h2;rfl
  obtain⟨u,hu,rv⟩:=r.get ha;have hp:ps[i]?=aa y:=by rw[←S.pre,List.getElem?_take_of_lt ∅];exact h1
  have ndP:ps.Nodup:=by rw[←S.pre];exact S.nd.sublist (List.take_sublist _ _)
  refine⟨u,rv,?_⟩;rcases S.par y (mW hp)with k|k
  ·exact .inl ⟨k,Bv ndP hp hu k⟩
  ·obtain⟨c,e⟩:=Bo (n:=s.heap.objs.size+1) k;refine .inr ⟨.inl k,c,e,?_⟩;have q:=x.cell y c e;rw[Ef ndP hp hu (by show scope.names.lookup y≠_;rw[k];decide)]at q;exact q
 ·exact e0.hok.fresh (j3 (x.above y c (j7 h)))
 ·unfold start;show _=N.length;rw[ef,dy,List.length_replicate];lia
theorem FS{CX:fG}{P:aM}{w:aF}{K:ax}{mg:Str->Option ai}{base:aA}{k:Nat}{f:af}{name qual:Str}{params:Arguments}{body:List aZ}{scope:dX}{dV kV doc pm aJ ct oc:ai}{an od:Option af}{osl:Array (Option ai)}{N ps:List Str}{sp:Sp} (lk:K.lookup f=aa ⟨oc,od,.func (hU name qual params body scope dV kV doc pm an aJ ct),osl⟩) (bU:sW K aJ qual=ah) (S:b_ N ps scope)(len:∀vs H Q E,sp vs H Q E->vs.length=ps.length)(gJ:∀(A:aO) (outer:List Env) (s:am) (H:Hp) (vs:List V) (Q:VK) (E:XK),eY k (A.deeper (iA qual scope s.heap.objs.size f aJ))->sp vs H Q E -> ∃t,kT (im CX P w K mg base N qual scope f aJ A outer s H E) body t/\t {nx:=λ_ H'=>Q .non H',rt:=Q} (start N vs) H):jQ P w K mg base CX (k+1) f (hU name qual params body scope dV kV doc pm an aJ ct) ps sp:=by
 refine⟨len,λA outer s H args us vs Q E hr e0 hb r gi=>?_⟩;have hl:=len _ _ _ _ gi;have KX:K.In s.heap:=e0.mod.kin.keeps λb o e=>(e0.bs b o e).1;have lim:s.heap.NoLimit:=e0.mod.nolimit.keeps λb o e=>(e0.bs b o e).1;have AE:∀y∈ps.zip us,scope.names.lookup y.1=aa .local\/(scope.names.lookup y.1=aa .cell/\((eU (s.heap.objs.size+1) scope.names []).lookup y.1).isSome=ah):=λ⟨n,v⟩ hy=>by
  rcases S.par n (wt hy).1 with q|q
  ·exact .inl q
  ·exact .inr ⟨q,ED _ _ _ (.inl q)⟩
 refine codeAny_call_function hr.depth (KX _ _ lk) rfl S.co S.gen rfl (PySem.W.codeRec_of KX bU) (hb _ _ _ _ ?_);refine wpAny_newFunctionEnv_cells S.kind AE λenv he s1 x=>?_;subst he;refine⟨lim.keeps x.toInCall.keep,codeAny_func ?_⟩;obtain⟨t,ht,hq⟩:=gJ A outer s H vs Q E (hr.deeper _) gi;have I:Inv (im CX P w K mg base N qual scope f aJ A outer s H E) [] (start N vs) H s1:=Cr S hr.hd e0 hl r x;refine dY (ht [] s1 (start N vs) H _ I hq) (λfl s' hs=>?_) λe s' hs=>hs;have fin:∀{σ':St}{H':Hp}{v:V}{u:ai},Inv (im CX P w K mg base N qual scope f aJ A outer s H E) [] σ' H' s'->RelV v u->Q v H'->CE outer P w H s Q u s' :=λ{σ' H' v u} J rv q=>⟨v,H',J.os,J.bare,J.base,J.hok,rv,q⟩
 cases fl with
 |ret u=>obtain⟨v,σ',H',J,rv,q⟩:=hs;exact fin J rv q
 |next=>obtain⟨σ',H',J,q⟩:=hs;exact fin (v:=V.non) (u:=Value.none) J rfl q
 |brk=>obtain⟨_,_,_,q⟩:=hs;exact ge q
 |cont=>obtain⟨_,_,_,q⟩:=hs;exact ge q
section
variable{X:Cx}{x:Str}{p pos:Pos}{e:aB}{es:List aB}{t:TA}{id T:String}{r:List V->Hp->VK->Prop}
def Dx(r:List V->Hp->VK->Prop)(t:TA):TE:=λσ H Q=>t σ H λvs H1=>r vs H1 Q
theorem oq(hc:et X (.builtin id) r)(hg:Gl X x)(hm:X.mg x=ae)(hv:eA x=aa (.builtin id))(ha:PA X (e::es) t)(hn:x≠"__name__":=by decide)(gK:(x == ("__debug__" : Str))=aj:=by decide)(he:aL (e::es) X.env=(aj,aU e X.env)::aL es X.env:=by rfl) (cS:(cL pos (aL es X.env)).any (·.1)=aj:=by rfl):PE X (.Call (.Name x p) (e::es) [] pos) (Dx r t):=by intro ag s σ H Q I h;refine wq (vT I hg hm hv ?_ hn gK);exact PyProof.Rows.callWith_builtin1 (aV (ha pos ag s σ H _ I h) λus s1 ⟨vs,H1,I1,r1,q1⟩=>hc ag s1 σ H1 vs us Q I1 r1 q1) he cS
theorem vH(hc:et X (.type T) r)(hg:Gl X x)(hm:X.mg x=ae)(hv:eA x=aa (.type T))(ha:PA X (e::es) t)(hn:x≠"__name__":=by decide)(gK:(x == ("__debug__" : Str))=aj:=by decide)(he:aL (e::es) X.env=(aj,aU e X.env)::aL es X.env:=by rfl) (cS:(cL pos (aL es X.env)).any (·.1)=aj:=by rfl):PE X (.Call (.Name x p) (e::es) [] pos) (Dx r t):=by intro ag s σ H Q I h;refine wq (vT I hg hm hv ?_ hn gK);exact PyProof.Rows.callWith_type1 (aV (ha pos ag s σ H _ I h) λus s1 ⟨vs,H1,I1,r1,q1⟩=>hc ag s1 σ H1 vs us Q I1 r1 q1) he cS
end
end L2
namespace HT
section
open PySem.SeqAt
open PySem.AutoSeq1 (wpAny_loadPart')
open PySem.MeetsSeq PySem.MeetsSeq2 PySem.MeetsSeq3
end
section
variable{prog:aM}{w:aF}{A:aO}{E:ai->am->Prop}{s:am}
theorem cat_tup{t b:af}{vs ws:List ai}{Q:ai->am->Prop}(ht:IsTup s.heap t vs.toArray)(hb:IsTup s.heap b ws.toArray)(hv:vs≠[])(h1:ws=[]->Q (.ref t) s) (h2:ws≠[]->Q (.ref s.heap.objs.size) {s with heap:=s.heap.push {cls:=.type "tuple",data:=.seq (vs++ws).toArray}})(hsz:vs.length+ws.length<=a_):aq (aw prog w) A (iQ .Add (.ref t) (.ref b)) Q E s:=by
 obtain⟨⟨cls,dd,data,sl⟩,ho,hc,n,hd⟩:=id ht;obtain⟨⟨cls2,dd2,data2,sl2⟩,jj,oV,n2,nu⟩:=id hb;simp only at hc hd oV nu;subst hc hd oV nu;have e:vs.toArray++ws.toArray=(vs++ws).toArray:=by simp
 by_cases hw:ws=[]
 ·exact concat_meets ⟨_,ho,rfl⟩ ⟨_,jj,rfl⟩ noFill_tuple_add seq_tuple_add PySem.F.slot_tuple_add PySem.F.entry_tuple_add (PySem.F.args_tuple_add_2 _ _)
   (tuple_addW1 t b vs.toArray ws.toArray n n2 dd dd2 sl sl2 (by simpa using hv) (by simp[hw])) ⟨ho,jj,h1 hw⟩
 ·refine concat_meets ⟨_,ho,rfl⟩ ⟨_,jj,rfl⟩ noFill_tuple_add seq_tuple_add PySem.F.slot_tuple_add PySem.F.entry_tuple_add (PySem.F.args_tuple_add_2 _ _)
   (tuple_addW2 t b vs.toArray ws.toArray n n2 dd dd2 sl sl2 (by simpa using hv) (by simpa using hw) (by rw[ce,ce];exact hsz)) ⟨ho,jj,?_⟩
  rw[e];exact h2 hw
def sIx(n d:Nat):Option Int->Nat
 |none=>d
 |some v=>if v<0 then(v+(n:Int)).toNat else min v.toNat n
theorem sIx_nat(n d k:Nat):sIx n d (aa (k:Int))=min k n:=by show(if(k:Int)<0 then((k:Int)+(n:Int)).toNat else min (k:Int).toNat n)=min k n;rw[if_neg ∅,mX]
theorem sIx_le(n d:Nat)(hd:d<=n)(o:Option Int):sIx n d o<=n:=by
 cases o with
 |none=>exact hd
 |some v=>
  show(if v<0 then(v+(n:Int)).toNat else min v.toNat n)<=n;by_cases hv:v<0
  ·rw[if_pos hv];lia
  ·rw[if_neg hv];exact Nat.min_le_right _ _
theorem Bf(v:Int)(n d:Nat):(if v<0 then max (v+(n:Int)) 0 else min v (n:Int))=((sIx n d (aa v):Nat):Int):=by
 show(if v<0 then max (v+(n:Int)) 0 else min v (n:Int))=(((if v<0 then(v+(n:Int)).toNat else min v.toNat n):Nat):Int)
 by_cases hv:v<0
 ·simp only[if_pos hv];lia
 ·simp only[if_neg hv];lia
theorem IB(lo hi:Option Int)(n:Nat):EE lo hi 1 (n:Int)=(((sIx n 0 lo:Nat):Int),((sIx n n hi:Nat):Int)):=by
 have h1:¬((1:Int)<0):=∅
 unfold EE;simp only[h1,if_false];refine Prod.ext ?_ ?_
 ·cases lo with
  |none=>rfl
  |some v=>exact Bf v n 0
 ·cases hi with
  |none=>rfl
  |some v=>exact Bf v n n
theorem K8(i j:Nat):zL (i:Int) (j:Int) 1=j-i:=by
 unfold zL;have h1:(1:Int) > 0:=∅
 simp only[h1,if_true,Int.ediv_one];split <;> lia
theorem D1{v:ai}{o:Option Int}{Q:Option Int->am->Prop}(p:lV v o)(h:Q o s):aq (aw prog w) A (Builtin.Slice.slicePartIndex v) Q E s:=by
 cases p with
 |none=>exact slicePart_none h
 |int i t=>exact slicePart_int h
theorem LN{sl:af}{vl vu:ai}{lo hi:Option Int}{n:Nat}{Q:Int×Int×Nat->am->Prop}(hs:s.heap.IsSliceOf sl vl vu .none)(pl:lV vl lo)(pu:lV vu hi)(h:Q (((sIx n 0 lo:Nat):Int),1,sIx n n hi-sIx n 0 lo) s):aq (aw prog w) A (Builtin.Slice.sliceApplied (.ref sl) (pure (n:Int))) Q E s:=by
 obtain⟨os,tT,hcs,hds⟩:=id hs;unfold Builtin.Slice.sliceApplied Builtin.Slice.sliceFields;refine ap (ap (oF tT hds (x:=vl) rfl (ap (oF tT hds (x:=vu) rfl (ap (oF tT hds (x:=.none) rfl (aD ?_)))))));refine ap (slicePart_none ?_);show aq _ _ (if((1:Int) == 0)=ah then _ else _) _ _ s;rw[if_neg (by decide)];refine ap (D1 pl (ap (D1 pu (ap (aD ?_)))));show aq _ _ (match EE lo hi 1 (n:Int)with | (lo,hi)=>pure (lo,(1:Int),zL lo hi 1)) _ _ s;rw[IB lo hi n];show aq _ _ (pure (((sIx n 0 lo:Nat):Int),(1:Int),zL ((sIx n 0 lo:Nat):Int) ((sIx n n hi:Nat):Int) 1)) _ _ s;rw[K8];exact aD h
theorem Kk(xs:Array ai)(i k:Nat):((bX k).filterMap λ(m:Nat)=>xs[((i:Int)+(m:Int)*1).toNat]?).toArray=((xs.toList.drop i).take k).toArray:=by
 have e:(λ(m:Nat)=>xs[((i:Int)+(m:Int)*1).toNat]?)=λm=>xs[i+m]?:=by
  funext m;have:((i:Int)+(m:Int)*1).toNat=i+m:=∅
  rw[this]
 rw[e];have:=pick_run xs i k;rw[List.filterMap_map]at this;have e2:((λx=>xs[x]?) ∘ λx=>i+x)=λm=>xs[i+m]?:=rfl;rw[e2]at this;rw[this]
theorem getItem_tuple_cut{t sl:af}{items:Array ai}{vl vu:ai}{lo hi:Option Int}{Q:ai->am->Prop}(ht:IsTup s.heap t items)(hs:s.heap.IsSliceOf sl vl vu .none)(pl:lV vl lo)(pu:lV vu hi)(hw:¬(sIx items.size 0 lo=0/\sIx items.size items.size hi=items.size))(h:Q (.ref s.heap.objs.size) {s with heap:=s.heap.push {cls:=.type "tuple",data:=.seq ((items.toList.drop (sIx items.size 0 lo)).take (sIx items.size items.size hi-sIx items.size 0 lo)).toArray}})(hsz:items.size<=a_):aq (aw prog w) A (oG (.ref t) (.ref sl)) Q E s:=by
 have wW:sizeOk (.seq ((items.toList.drop (sIx items.size 0 lo)).take (sIx items.size items.size hi-sIx items.size 0 lo)).toArray):=by show((items.toList.drop (sIx items.size 0 lo)).take (sIx items.size items.size hi-sIx items.size 0 lo)).toArray.size<=a_;rw[ce,mU,j8,g_];lia
 have hj:sIx items.size items.size hi<=items.size:=sIx_le _ _ (a9 _) hi;obtain⟨os,tT,hcs,hds⟩:=id hs;have hTs:s.TypeIs (.ref sl) "slice":=⟨os,tT,hcs⟩
 unfold oG
 try with_reducible refine iz ?_
 first|refine ap (aD ?_)|skip
 refine ap (wpAny_sequenceKey ht.typeIs (by decide) ?_);refine ap (wpAny_callSpecial?_slot (name:=Str.ofString "__getitem__") ht.typeIs NO (qw NO ht.typeIs entry_tuple_getitem ?_ (args_tuple_getitem _ _)));show aq _ _ (Builtin.Tuple.tupleItemsOf (.ref t) >>= _) _ _ s;refine ap (tupleItemsOf_ ht ?_);refine ap (zM hTs ?_);rw[if_pos (by decide)];refine ap (LN hs pl pu ?_);have hno:¬((((sIx items.size 0 lo:Nat):Int) == 0&&(1:Int) == 1&&(sIx items.size items.size hi-sIx items.size 0 lo) == items.size)=ah):=by intro q;rw[fD,fD]at q;have q1:((sIx items.size 0 lo:Nat):Int)=0:=eq_of_beq q.1.1;have q2:sIx items.size items.size hi-sIx items.size 0 lo=items.size:=eq_of_beq q.2;exact hw ⟨∅,∅⟩
 show aq _ _ (if(((sIx items.size 0 lo:Nat):Int) == 0&&(1:Int) == 1&&(sIx items.size items.size hi-sIx items.size 0 lo) == items.size)=ah then _ else _) _ _ s;rw[if_neg hno,Kk]
 first
  |exact ap (m:=zN _) (lW (aD ⟨_,rfl,aD h⟩) wW)
  |exact ap (m:=zN _) (lW (ap (aD (aD ⟨_,rfl,aD h⟩))) wW)
  |exact ap (ap (m:=zN _) (lW (aD (aD ⟨_,rfl,aD h⟩)) wW))
  |exact ap (ap (m:=zN _) (lW (aD ⟨_,rfl,aD h⟩) wW))
end
end HT
namespace L2
abbrev TO:=St->Hp->(Option Int->Hp->Prop)->Prop
def PO(X:Cx)(e:Option aB)(t:TO):Prop :=
 ∀(ag:List (af×Obj)) (s:am) (σ:St) (H:Hp) (Q:Option Int->Hp->Prop),Inv X ag σ H s->t σ H Q ->
  aq (aw X.prog X.w) X.A (evalPart e X.env) (λu s'=>∃o H',Inv X ag σ H' s'/\lV u o/\Q o H') X.xe s
def Mf:TO:=λ_ H Q=>Q ae H
def HR(t:TE):TO:=λσ H Q=>t σ H λx H1=>∃i,x=.int i/\Q (aa i) H1
section
variable{X:Cx}{e:aB}{te:TE}{lo hi:Option aB}{tl th:TO}{pos p2:Pos}
theorem Jd:PO X ae Mf:=by intro ag s σ H Q I h;rw[evalPart_none];exact aD ⟨ae,H,I,.none,h⟩
theorem Kr(h:PE X e te):PO X (aa e) (HR te):=by intro ag s σ H Q I hw;rw[evalPart_some];refine aV (h ag s σ H _ I hw) λu s1 ⟨x,H1,I1,r1,q1⟩=>?_;obtain⟨i,rfl,q⟩:=q1;obtain⟨t,rfl⟩:=r1;exact⟨aa i,H1,I1,.int i t,q⟩
def lD(X:Cx)(r:V->Option Int->Option Int->Hp->VK->Prop):Prop :=
 ∀(ag:List (af×Obj)) (s:am) (σ:St) (H:Hp) (x:V) (v vl vu:ai) (lo hi:Option Int) (sl:af) (Q:VK),Inv X ag σ H s->RelV x v->s.heap.IsSliceOf sl vl vu .none->lV vl lo->lV vu hi->r x lo hi H Q ->
  ∃T id,typeLookup (.type T) "__getitem__" = pure (aa (.builtin id))/\s.TypeIs v T/\aq (aw X.prog X.w) X.A (oG v (.ref sl)) (EP X ag σ Q) X.xe s
theorem lD.or{r r':V->Option Int->Option Int->Hp->VK->Prop}(h:lD X r)(h':lD X r'):lD X (λx lo hi H Q=>r x lo hi H Q\/r' x lo hi H Q):=by
 intro ag s σ H x v vl vu lo hi sl Q I rx hs pl pu q;rcases q with q|q
 ·exact h ag s σ H x v vl vu lo hi sl Q I rx hs pl pu q
 ·exact h' ag s σ H x v vl vu lo hi sl Q I rx hs pl pu q
def Ln(r:V->Option Int->Option Int->Hp->VK->Prop)(te:TE)(tl th:TO):TE:=λσ H Q=>te σ H λx H1=>tl σ H1 λl H2=>th σ H2 λu H3=>r x l u H3 Q
theorem JO{r:V->Option Int->Option Int->Hp->VK->Prop}(hr:lD X r)(he:PE X e te)(hl:PO X lo tl)(hu:PO X hi th):PE X (.Subscript e (.Slice lo hi ae p2) pos) (Ln r te tl th):=by intro ag s σ H Q I h;refine Subscript_ (aV (he ag s σ H _ I h) λv s1 ⟨x,H1,I1,r1,q1⟩=>?_);refine wpAny_Slice (aV (hl ag s1 σ H1 _ I1 q1) λvl s2 ⟨l,H2,I2,pl,q2⟩=>aV (hu ag s2 σ H2 _ I2 q2) λvu s3 ⟨u,H3,I3,pu,q3⟩=>?_);rw[evalPart_none];refine aD ?_;have I4:Inv X ag σ H3 {s3 with heap:=s3.heap.push {cls:=.type "slice",data:=.fields #[vl,vu,.none]}}:=I3.kept (t':=s3.toks) λb ob q=>bH _ q;obtain⟨T,id,hT,ht,hg⟩:=hr ag {s3 with heap:=s3.heap.push {cls:=.type "slice",data:=.fields #[vl,vu,.none]}} σ H3 x v vl vu l u s3.heap.objs.size Q I4 r1 (Heap.IsSliceOf.new ..) pl pu q3;show aq (aw X.prog X.w) X.A (subscriptTail e (.Slice lo hi ae p2) v (.ref s3.heap.objs.size)) (EP X ag σ Q) X.xe {s3 with heap:=s3.heap.push {cls:=.type "slice",data:=.fields #[vl,vu,.none]}};exact tail_any (ops:=[.ref s3.heap.objs.size,v]) ht hT hg (by with_unfolding_all rfl)
def mD(xs:List V)(lo hi:Option Int):List V:=(xs.drop (HT.sIx xs.length 0 lo)).take (HT.sIx xs.length xs.length hi-HT.sIx xs.length 0 lo)
theorem Be(xs:List V)(lo hi:Option Int):(mD xs lo hi).length<=xs.length:=by unfold mD;rw[mU,j8];lia
def Dk(K:ax):V->Option Int->Option Int->Hp->VK->Prop:=λx lo hi H Q=>∃a xs,x=.ref a/\cD K H a xs /\
 ¬(HT.sIx xs.length 0 lo=0/\HT.sIx xs.length xs.length hi=xs.length)/\∀p,H p=ae->Q (.ref p) (upd H p (.tup (mD xs lo hi)))
theorem IM:lD X (Dk X.K):=by
 intro ag s σ H x v vl vu lo hi sl Q I rx hs pl pu h;obtain⟨a,xs,rfl,hx,hw,q⟩:=h;cases rx;obtain⟨its,r,ht,hz⟩:=I.tuple hx;have bz:its.toArray.size=xs.length:=by rw[ce];exact r.length.symm
 refine⟨"tuple",_,PyProof.Rows.slot_tuple_getitem.lookup,ht.typeIs,?_⟩;refine HT.getItem_tuple_cut ht hs pl pu (by rw[bz];exact hw) ?_ (by rw[bz];exact hz);rw[bz];refine⟨.ref s.heap.objs.size,_,I.laid (t':=s.toks) (o:=.tup (mD xs lo hi)) (λb ob q=>bH _ q) (a9 _) ?_,rfl,q _ (I.hok.fresh (a9 _))⟩;exact⟨cR (Be xs lo hi) hz,_,(r.drop (HT.sIx xs.length 0 lo)).take (HT.sIx xs.length xs.length hi-HT.sIx xs.length 0 lo),Et.new _ _⟩
def BF(K:ax):R2:=λx y H Q=>∃a b xs ys,x=.ref a/\y=.ref b/\cD K H a xs/\cD K H b ys/\xs≠[]/\xs.length+ys.length<=a_ /\
 (ys=[]->Q (.ref a) H)/\(ys≠[]->∀p,H p=ae->Q (.ref p) (upd H p (.tup (xs++ys))))
theorem bj.nil_iff{xs:List V}{us:List ai}(r:bj xs us):us=[]↔xs=[]:=by
 cases r with
 |nil=>simp
 |cons _ _=>simp
theorem Oh:bV X (iQ .Add) (BF X.K):=by
 intro ag s σ H x y v u Q I rx ry h;obtain⟨a,b,xs,ys,rfl,rfl,ha,hb,hx,hz,q1,q2⟩:=h;cases rx;cases ry;obtain⟨its,r1,p1,_⟩:=I.tuple ha;obtain⟨its2,r2,p2,_⟩:=I.tuple hb;refine HT.cat_tup p1 p2 (λz=>hx (r1.nil_iff.mp z)) (λz=>⟨.ref a,H,I,rfl,q1 (r2.nil_iff.mp z)⟩) (λz=>?_) (by rw[←r1.length,←r2.length];exact hz);refine⟨.ref s.heap.objs.size,_,I.laid (t':=s.toks) (o:=.tup (xs++ys)) (λb ob q=>bH _ q) (a9 _) ?_,rfl,q2 (λw=>z (r2.nil_iff.mpr w)) _ (I.hok.fresh (a9 _))⟩;exact⟨by rw[ef];exact hz,_,r1.append r2,Et.new _ _⟩
end
def jn(n:Nat)(i:Int):Option Nat:=if 0<=i then(if i<n then aa i.toNat else ae)else if -(n:Int)<=i then aa (i+n).toNat else ae
def fY{α:Type}(xs:List α)(i:Int):Option α:=(jn xs.length i).bind λj=>xs[j]?
theorem BE{n:Nat}{i:Int}{j:Nat}(h:jn n i=aa j):seqIndex? i n=aa j/\j<n/\-(n:Int)<=i/\i<n:=by
 unfold jn at h;by_cases h0:0<=i
 ·rw[if_pos h0]at h;by_cases h1:i<n
  ·rw[if_pos h1]at h;have e:i.toNat=j:=dW h;exact⟨by rw[seqIndex_of h0 h1,e],∅,∅,h1⟩
  ·rw[if_neg h1]at h;cases h
 ·rw[if_neg h0]at h;by_cases h1:-(n:Int)<=i
  ·rw[if_pos h1]at h;have e:(i+n).toNat=j:=dW h;exact⟨by rw[seqIndex_neg ∅ h1,e],∅,h1,∅⟩
  ·rw[if_neg h1]at h;cases h
theorem xx{α:Type}{xs:List α}{i:Int}{v:α}(h:fY xs i=aa v):∃j,seqIndex? i xs.length=aa j/\xs[j]?=aa v/\j<xs.length/\-(xs.length:Int)<=i/\i<xs.length:=by
 unfold fY at h;cases e:jn xs.length i with
 |none=>rw[e]at h;cases h
 |some j=>rw[e]at h;obtain⟨h1,h2,h3,h4⟩:=BE e;exact⟨j,h1,h,h2,h3,h4⟩
theorem LA{α:Type}{xs:List α}{j:Nat}{v:α}(h:xs[j]?=aa v):fY xs (j:Int)=aa v:=by
 have hj:j<xs.length:=(df.mp h).1;have e:jn xs.length (j:Int)=aa j:=by unfold jn;rw[if_pos ∅,if_pos ∅];simp
 unfold fY;rw[e];exact h
def CY(b:aB):Prop:=∀o i,zO b aj o i=operate [o,i] (oG o i)
def lv(X:Cx)(r:R2):Prop :=
 ∀(value slice:aB) (ag:List (af×Obj)) (s:am) (σ:St) (H:Hp) (x y:V) (v u:ai) (Q:VK),Inv X ag σ H s->RelV x v->RelV y u->r x y H Q ->
  zO slice aj v u=operate [v,u] (oG v u)->aq (aw X.prog X.w) X.A (subscriptTail value slice v u) (EP X ag σ Q) X.xe s
def wl(X:Cx)(id:String)(r:V->List V->Hp->VK->Prop):Prop :=
 ∀(ag:List (af×Obj)) (s:am) (σ:St) (H:Hp) (x:V) (xs:List V) (v:ai) (us:List ai) (Q:VK),Inv X ag σ H s->RelV x v->bj xs us->r x xs H Q ->
  aq (aw X.prog X.w) X.A (call (.builtin id) (v::us)) (EP X ag σ Q) X.xe s
section
variable{X:Cx}{a b:aB}{ta tb:TE}{pos:Pos}
theorem lv.or{r r':R2}(h:lv X r)(h':lv X r'):lv X (λx y H Q=>r x y H Q\/r' x y H Q):=by
 intro value slice ag s σ H x y v u Q I rx ry q hs;rcases q with q|q
 ·exact h value slice ag s σ H x y v u Q I rx ry q hs
 ·exact h' value slice ag s σ H x y v u Q I rx ry q hs
theorem Jk{r:R2}(hr:lv X r)(ha:PE X a ta)(hb:PE X b tb)(hs:CY b):PE X (.Subscript a b pos) (uM r ta tb):=by intro ag s σ H Q I h;exact Subscript_ (zc ha hb I h λv u s2 x y H2 I2 rx ry q=>hr a b ag s2 σ H2 x y v u Q I2 rx ry q (hs _ _))
def Da(K:ax):R2:=λx y H Q=>∃p xs i v,x=.ref p/\y=.int i/\cc K H p xs/\fY xs i=aa v/\Q v H
def AU(K:ax):R2:=λx y H Q=>∃p xs i v,x=.ref p/\y=.int i/\cD K H p xs/\fY xs i=aa v/\Q v H
def A2:R2:=λx y H Q=>∃z i c,x=.str z/\y=.int i/\z.length<=a_/\fY z.cps.toList i=aa c/\Q (.str ⟨#[c]⟩) H
theorem Ol:lv X (Da X.K):=by
 intro value slice ag s σ H x y v u Q I rx ry h hs;obtain⟨p,xs,i,z,rfl,rfl,hq,he,q⟩:=h;cases rx;obtain⟨t,rfl⟩:=ry;obtain⟨its,r,pl,hz⟩:=I.list hq;obtain⟨j,h1,h2,h3,h4,h5⟩:=xx he;obtain⟨w,ew,rw'⟩:=r.get h2;have hl:=r.length;have hn:=pM;have fin:EP X ag σ Q w s:=⟨z,H,I,rw',q⟩
 by_cases h0:0<=i
 ·have hj:i.toNat=j:=by
   rw[seqIndex_of h0 h5]at h1;exact dW h1
  exact item_listR pl.isList h0 ∅ (by rw[hj];simpa using ew) fin hs
 ·have hj:(i+(its.toArray.size:Int)).toNat=j:=by
   rw[seqIndex_neg ∅ h4]at h1;rw[ce,←hl];exact dW h1
  exact subscriptTail_builtinR (x:=w) pl.isList.typeIs slot_list_getitem.lookup
   (wpAny_getItem_list_neg (Q:=λr s'=>r=w/\EP X ag σ Q r s') pl.isList ∅ (by rw[ce] <;> lia) ∅ (by rw[hj];simpa using ew) ⟨rfl,fin⟩) hs
theorem Oq:lv X (AU X.K):=by
 intro value slice ag s σ H x y v u Q I rx ry h hs;obtain⟨p,xs,i,z,rfl,rfl,hq,he,q⟩:=h;cases rx;obtain⟨t,rfl⟩:=ry;obtain⟨its,r,pl,hz⟩:=I.tuple hq;obtain⟨j,h1,h2,h3,h4,h5⟩:=xx he;obtain⟨w,ew,rw'⟩:=r.get h2;have hl:=r.length;have hn:=pM;have fin:EP X ag σ Q w s:=⟨z,H,I,rw',q⟩
 exact subscriptTail_builtinR (x:=w) pl.typeIs slot_tuple_getitem.lookup
  (getItem_tuple (j:=j) (Q:=λr s'=>r=w/\EP X ag σ Q r s') pl ∅ ∅ (by rw[ce,←hl];exact h1) (by simpa using ew) ⟨rfl,fin⟩) hs
theorem JL:lv X A2:=by
 intro value slice ag s σ H x y v u Q I rx ry h hs;obtain⟨z,i,c,rfl,rfl,hz,he,q⟩:=h;obtain⟨t,rfl⟩:=rx;obtain⟨t',rfl⟩:=ry;obtain⟨j,h1,h2,h3,h4,h5⟩:=xx he;have hl:z.cps.toList.length=z.length:=by simp[Str.length]
 rw[hl]at h1 h4 h5;have hn:=pM;exact tail_any (typeIs_str s z t) slot_str_getitem.lookup (getItem_str (c:=c) (by have e1:decide (i < -(2^63:Int))=aj:=decide_eq_false ∅;have e2:decide (i ≥ 2^63)=aj:=decide_eq_false ∅;rw[e1,e2,Bool.or_false]) (by rw[h1];simpa using h2) ⟨.str ⟨#[c]⟩,H,I.tok _,⟨_,rfl⟩,q⟩) hs
def DH(K:ax):R2:=λx y H Q=>Da K x y H Q\/AU K x y H Q\/A2 x y H Q
theorem iw:lv X (DH X.K):=Ol.or (Oq.or JL)
theorem HC(its:List ai)(n j:Nat)(u:ai):je (·.setIfInBounds j u) {cls:=.type "list",data:=.seq its.toArray n}={cls:=.type "list",data:=.seq (its.set j u).toArray n}:=by simp[je]
theorem Inv.lst{ag:List (af×Obj)}{σ:St}{H:Hp}{s:am}{p:af}{xs:List V}(I:Inv X ag σ H s)(h:H p=aa (.lst xs)):∃(its:List ai) (n:Nat),bj xs its/\s.heap.get? p=aa {cls:=.type "list",data:=.seq its.toArray n}/\xs.length<=a_:=by obtain⟨z,its,n,r,e⟩:=I.hok p _ h;exact⟨its,n,r,e,z⟩
theorem Inv.lstUpd{ag:List (af×Obj)}{σ:St}{H:Hp}{s:am}{p:af}{xs ys:List V}{its its':List ai}{n n':Nat}{f:Obj->Obj}(I:Inv X ag σ H s)(h:H p=aa (.lst xs))(ho:s.heap.get? p=aa {cls:=.type "list",data:=.seq its.toArray n}) (hf:f {cls:=.type "list",data:=.seq its.toArray n}={cls:=.type "list",data:=.seq its'.toArray n'}) (r:bj ys its') (hz:ys.length<=a_) (t:Nat):Inv X ag σ (upd H p (.lst ys)) {s with heap:=s.heap.update p f,toks:=t}:=by
 have e:(s.heap.update p f).get? p=aa {cls:=.type "list",data:=.seq its'.toArray n'}:=by rw[mY f ho (by rw[hf] <;> rfl),hf]
 refine I.write (x:=p) (e:=p) (by rw[h];trivial) (.inl rfl) (λb u hb q=>(mZ _ _ (d9 hb)).trans q) ⟨_,e⟩ ?_;exact⟨hz,its',n',r,e⟩
def GM:V->V->V->Hp->(Hp->Prop)->Prop:=λo i v H Q=>∃p xs k j,o=.ref p/\i=.int k/\H p=aa (.lst xs)/\jn xs.length k=aa j/\Q (upd H p (.lst (xs.set j v)))
theorem M8:Df X GM:=by
 intro ag s σ H o i v ov iv u Q I ro ri rv h;obtain⟨p,xs,k,j,rfl,rfl,hp,hj,q⟩:=h;cases ro;obtain⟨t,rfl⟩:=ri;obtain⟨its,n,r,ho,hz⟩:=I.lst hp;obtain⟨h1,h2,h3,h4⟩:=BE hj;have hl:=r.length;have hn:=pM;have I':Inv X ag σ (upd H p (.lst (xs.set j v))) {s with heap:=s.heap.update p (je (·.setIfInBounds j u))} :=I.lstUpd hp ho (HC its n j u) (r.set rv j) (by rw[fE];exact hz) s.toks;by_cases h0:0<=k
 ·have hk:k.toNat=j:=by
   rw[seqIndex_of h0 h4]at h1;exact dW h1
  exact PySem.W.ki_setAt ho h0 ∅ (by rw[ce,←hl];exact h4) (by rw[hk];exact⟨_,I',q⟩)
 ·have hk:(k+(its.toArray.size:Int)).toNat=j:=by
   rw[seqIndex_neg ∅ h3]at h1;rw[ce,←hl];exact dW h1
  exact PySem.W.ki_setBack ho ∅ (by rw[ce,←hl];exact h3) ∅ (by rw[hk];exact⟨_,I',q⟩)
theorem Ky(lo hi:Option Int)(n:Nat):(qx lo hi ae n).1=((HT.sIx n 0 lo:Nat):Int)/\(qx lo hi ae n).2.1=((HT.sIx n n hi:Nat):Int)/\(qx lo hi ae n).2.2=1:=by
 refine⟨?_,?_,rfl⟩
 ·cases lo with
  |none=>simp[qx,HT.sIx]
  |some i=>
   simp only[qx,HT.sIx,EF,show(1:Int) > 0 by decide,if_true];by_cases h:i<0
   ·simp only[h,if_true] <;> lia
   ·simp only[h,if_false] <;> lia
 ·cases hi with
  |none=>simp[qx,HT.sIx]
  |some i=>
   simp only[qx,HT.sIx,EF,show(1:Int) > 0 by decide,if_true];by_cases h:i<0
   ·simp only[h,if_true] <;> lia
   ·simp only[h,if_false] <;> lia
theorem GO(its:List ai)(lo hi:Option Int):slicePick its.toArray lo hi ae=((its.drop (HT.sIx its.length 0 lo)).take (HT.sIx its.length its.length hi-HT.sIx its.length 0 lo)).toArray:=by obtain⟨h1,h2,h3⟩:=Ky lo hi its.toArray.size;unfold slicePick;rw[h1,h2,h3];simp only[sliceRange_one,pick_run,ce] <;> rfl
def B7(K:ax):V->Option Int->Option Int->Hp->VK->Prop:=λx lo hi H Q=>∃a xs,x=.ref a/\cc K H a xs/\∀p,H p=ae->Q (.ref p) (upd H p (.lst (mD xs lo hi)))
theorem Of:lD X (B7 X.K):=by
 intro ag s σ H x v vl vu lo hi sl Q I rx hs pl pu h;obtain⟨a,xs,rfl,hx,q⟩:=h;cases rx;obtain⟨its,r,ht,hz⟩:=I.list hx;have bz:=r.length;refine⟨"list",_,slot_list_getitem.lookup,ht.isList.typeIs,?_⟩;refine wpAny_getItem_list_slice ht.isList hs pl pu .none (by simp) ?_ (by rw[ce] <;> lia);rw[GO,←bz];refine⟨.ref s.heap.objs.size,_,I.laid (t':=s.toks) (o:=.lst (mD xs lo hi)) (λb ob q=>bH _ q) (a9 _) ?_,rfl,q _ (I.hok.fresh (a9 _))⟩;exact⟨cR (Be xs lo hi) hz,_,0,(r.drop (HT.sIx xs.length 0 lo)).take (HT.sIx xs.length xs.length hi-HT.sIx xs.length 0 lo),cZ _ rfl⟩
def e_:V->Bool
 |.non=>ah
 |.bl _=>ah
 |.int _=>ah
 |.str _=>ah
 |_=>aj
def dz:V->V->Bool
 |.non,.non=>ah
 |.bl a,.bl b=>a == b
 |.bl a,.int b=>(if a then 1 else 0) == b
 |.int a,.bl b=>a == (if b then 1 else 0)
 |.int a,.int b=>a == b
 |.str a,.str b=>a == b
 |_,_=>aj
theorem B9{A:aO}{s:am}{y x:V}{u v:ai}(ry:RelV y u)(rx:RelV x v)(fy:e_ y=ah)(fx:e_ x=ah):sX A s u v (dz y x):=by
 cases y with
 |non=>
  cases ry;cases x with
  |non=>cases rx;exact SeqAt.EqAt.same _
  |bl b=>cases rx;exact SeqAt.EqAt.none_bool b
  |int b=>obtain⟨t,rfl⟩:=rx;exact SeqAt.EqAt.none_int b t
  |str b=>obtain⟨t,rfl⟩:=rx;exact SeqAt.EqAt.none_str b t
  |_=>exact absurd (show aj=ah from fx) eT
 |bl a=>
  cases ry;cases x with
  |non=>cases rx;exact SeqAt.EqAt.bool_none a
  |bl b=>cases rx;exact SeqAt.EqAt.bool_bool a b
  |int b=>obtain⟨t,rfl⟩:=rx;exact SeqAt.EqAt.bool_int a b t
  |str b=>obtain⟨t,rfl⟩:=rx;exact SeqAt.EqAt.bool_str a b t
  |_=>exact absurd (show aj=ah from fx) eT
 |int a=>
  obtain⟨t',rfl⟩:=ry;cases x with
  |non=>cases rx;exact SeqAt.EqAt.int_none a t'
  |bl b=>cases rx;exact SeqAt.EqAt.int_bool a t' b
  |int b=>obtain⟨t,rfl⟩:=rx;exact EG a t' b t
  |str b=>obtain⟨t,rfl⟩:=rx;exact SeqAt.EqAt.int_str a t' b t
  |_=>exact absurd (show aj=ah from fx) eT
 |str a=>
  obtain⟨t',rfl⟩:=ry;cases x with
  |non=>cases rx;exact SeqAt.EqAt.str_none a t'
  |bl b=>cases rx;exact SeqAt.EqAt.str_bool a t' b
  |int b=>obtain⟨t,rfl⟩:=rx;exact SeqAt.EqAt.str_int a t' b t
  |str b=>obtain⟨t,rfl⟩:=rx;exact SeqAt.EqAt.str_str a t' b t
  |_=>exact absurd (show aj=ah from fx) eT
 |_=>exact absurd (show aj=ah from fy) eT
def iN(x:V)(u:ai):Bool:=match u with
 |.none=>dz .non x
 |.bool b=>dz (.bl b) x
 |.int i _=>dz (.int i) x
 |.str z _=>dz (.str z) x
 |_=>aj
theorem uV{x y:V}{u:ai}(r:RelV y u)(f:e_ y=ah):iN x u=dz y x:=by
 cases y with
 |non=>cases r;rfl
 |bl b=>cases r;rfl
 |int i=>obtain⟨t,rfl⟩:=r;rfl
 |str z=>obtain⟨t,rfl⟩:=r;rfl
 |_=>exact absurd (show aj=ah from f) eT
theorem yh{x:V}:∀{xs:List V}{us:List ai},bj xs us->xs.all e_=ah->us.any (iN x)=xs.any λy=>dz y x
 |_,_,.nil,_=>rfl
 |y::xs,u::us,.cons r t,f=>by rw[qy,fD]at f;rw[oH,oH,uV r f.1,yh t f.2]
theorem pr{A:aO}{s:am}{x:V}{v:ai}(rx:RelV x v)(fx:e_ x=ah):∀{xs:List V}{us:List ai},bj xs us->xs.all e_=ah->∀u∈us,sX A s u v (iN x u)
 |_,_,.nil,_=>λu hu=>by cases hu
 |y::xs,u::us,.cons r t,f=>λu' hu=>by
  rw[qy,fD]at f;rcases bG.mp hu with rfl|hu
  ·rw[uV r f.1];exact B9 r rx f.1 fx
  ·exact pr rx fx t f.2 u' hu
def r_(x:V)(xs:List V):Bool:=xs.any λy=>dz y x
def ye(K:ax)(neg:Bool):R2:=λx y H Q=>∃p xs,y=.ref p/\(cc K H p xs\/cD K H p xs)/\e_ x=ah/\xs.all e_=ah/\Q (.bl (if neg then !r_ x xs else r_ x xs)) H
theorem Mh:bV X (d_ .In) (ye X.K aj):=by
 intro ag s σ H x y v u Q I rx ry h;obtain⟨p,xs,rfl,hq,fx,fs,q⟩:=h;cases ry;rcases hq with hq|hq
 ·obtain⟨its,r,pl,hz⟩:=I.list hq;refine SeqAt.in_listAt (iN x) pl.isList (λw hw=>pr rx fx r fs w (by simpa using hw)) ⟨.bl _,H,I,rfl,?_⟩;rw[show its.toArray.any (iN x)=its.any (iN x) by simp,yh r fs];exact q
 ·obtain⟨its,r,pl,hz⟩:=I.tuple hq;refine SeqAt.in_tupleAt (iN x) pl (λw hw=>pr rx fx r fs w (by simpa using hw)) ⟨.bl _,H,I,rfl,?_⟩;rw[show its.toArray.any (iN x)=its.any (iN x) by simp,yh r fs];exact q
theorem et.or{f:ai}{r r':List V->Hp->VK->Prop}(h:et X f r)(h':et X f r'):et X f (λxs H Q=>r xs H Q\/r' xs H Q):=by
 intro ag s σ H xs us Q I rs q;rcases q with q|q
 ·exact h ag s σ H xs us Q I rs q
 ·exact h' ag s σ H xs us Q I rs q
theorem Ek:et X (.type "list") (λxs H Q=>∃p ys,xs=[.ref p]/\(cc X.K H p ys\/cD X.K H p ys)/\∀l,H l=ae->Q (.ref l) (upd H l (.lst ys))):=by
 intro ag s σ H xs us Q I r h;obtain⟨p,ys,rfl,hq,q⟩:=h;obtain⟨u,rfl,rx⟩:=vals1 r;cases rx;have fin:∀(its:List ai),bj ys its->ys.length<=a_->∀(h':aA) (c':Nat),(∀b o',s.heap.get? b=aa o'->h'.get? b=aa o') ->
   h'.get? s.heap.objs.size=aa {cls:=.type "list",dict:=ae,data:=.seq its.toArray c',slots:=#[]}->EP X ag σ Q (.ref s.heap.objs.size) {s with heap:=h'}:=λits r' hz h' c' kp e=>
  ⟨.ref s.heap.objs.size,_,I.laid (t':=s.toks) kp (a9 _) (show cH X.prog X.w _ h' _ (.lst ys)from⟨hz,its,c',r',e⟩),rfl,q _ (I.hok.fresh (a9 _))⟩
 rcases hq with hq|hq
 ·obtain⟨its,r',pl,hz⟩:=I.list hq;have bz:=r'.length;obtain⟨o,ho,hc,n,hd⟩:=pl.isList;exact call_list_seq p (.inl rfl) ho hc hd (λh' c' kp e=>fin its r' hz h' c' kp e) (by simp only[ce] <;> lia)
 ·obtain⟨its,r',pl,hz⟩:=I.tuple hq;have bz:=r'.length;obtain⟨o,ho,hc,n,hd⟩:=pl;exact call_list_seq p (.inr rfl) ho hc hd (λh' c' kp e=>fin its r' hz h' c' kp e) (by simp only[ce] <;> lia)
theorem y0:et X (.type "tuple") (λxs H Q=>∃p ys,xs=[.ref p]/\((cc X.K H p ys/\∀l,H l=ae->Q (.ref l) (upd H l (.tup ys)))\/(cD X.K H p ys/\Q (.ref p) H))):=by
 intro ag s σ H xs us Q I r h;obtain⟨p,ys,rfl,h⟩:=h;obtain⟨u,rfl,rx⟩:=vals1 r;cases rx;rcases h with⟨hq,q⟩|⟨hq,q⟩
 ·obtain⟨its,r',pl,hz⟩:=I.list hq;have bz:=r'.length;refine call_tuple_list pl.isList (λh' kp=>?_) (by simp only[ce] <;> lia);have I1:Inv X ag σ H {s with heap:=h'}:=I.kept (t':=s.toks) kp;have I2:Inv X ag σ (upd H h'.objs.size (.tup ys)) {s with heap:=h'.push {cls:=.type "tuple",data:=.seq its.toArray}} :=I1.laid (t':=s.toks) (λb o e=>bH _ e) (a9 _) (show cH X.prog X.w _ _ _ (.tup ys)from⟨hz,its,r',Et.new _ _⟩);exact⟨.ref h'.objs.size,_,I2,rfl,q _ (I1.hok.fresh (a9 _))⟩
 ·obtain⟨its,r',pl,hz⟩:=I.tuple hq;exact call_tuple_same pl ⟨.ref p,H,I,rfl,q⟩
def zo(K:ax)(T:String)(x:V)(H:Hp):Prop:=match x with
 |.str _=>T = "str"
 |.int _=>T = "int"
 |.ref p=>(T = "list"/\∃xs,cc K H p xs)\/(T = "tuple"/\∃o,K.lookup p=aa o/\o.cls=.type "tuple"/\o.dict=ae) \/
   (T = "dict"/\((∃kvs,H p=aa (.dK kvs))\/∃kvs,H p=aa (.dT kvs)))\/(T = "set"/\∃S n,H p=aa (.set S n))
 |_=>False
theorem BJ{ag:List (af×Obj)}{σ:St}{H:Hp}{s:am}{T:String}{x:V}{v:ai}(I:Inv X ag σ H s)(r:RelV x v)(ty:zo X.K T x H):s.TypeIs v T/\∀a,v=.ref a->∃ob,s.heap.get? a=aa ob/\ob.dict=ae:=by
 cases x with
 |str z=>
  obtain⟨t,rfl⟩:=r;cases (show T = "str" from ty);exact⟨typeIs_str s z t,λ_ e=>nomatch e⟩
 |int i=>
  obtain⟨t,rfl⟩:=r;cases (show T = "int" from ty);exact⟨typeIs_int s i t,λ_ e=>nomatch e⟩
 |ref p=>
  cases r;rcases ty with⟨rfl,xs,hq⟩|⟨rfl,o,hk,hc,hd⟩|⟨rfl,hk⟩|⟨rfl,S,n,hk⟩
  ·obtain⟨its,_,pl,_⟩:=I.list hq;refine⟨pl.isList.typeIs,λa e=>?_⟩;cases e;obtain⟨o,n,e,c,hd,_⟩:=pl;exact⟨o,e,hd⟩
  ·refine⟨⟨o,I.kIn p o hk,hc⟩,λa e=>?_⟩;cases e;exact⟨o,I.kIn _ o hk,hd⟩
  ·have z:∃o,s.heap.get? p=aa o/\o.ExactDict:=by
    rcases hk with⟨kvs,hk⟩|⟨kvs,hk⟩
    ·obtain⟨_,_,_,_,o,_,_,e,ex,_⟩:=I.hok p _ hk;exact⟨o,e,ex⟩
    ·obtain⟨_,_,_,_,o,_,_,e,ex,_⟩:=I.hok p _ hk;exact⟨o,e,ex⟩
   obtain⟨o,e,ex⟩:=z;refine⟨⟨o,e,ex.1⟩,λa e2=>?_⟩;cases e2;exact⟨o,e,ex.2.1⟩
  ·obtain⟨o,_,_,_,e,ex,_⟩:=I.hok p _ hk;refine⟨⟨o,e,ex.1⟩,λa e2=>?_⟩;cases e2;exact⟨o,e,ex.2.1⟩
 |_=>exact ge ty
def Lz(K:ax)(T:String)(r:V->List V->Hp->VK->Prop)(to:TE):TE:=λσ H Q=>to σ H λx H1=>zo K T x H1/\r x [] H1 Q
def HJ(K:ax)(T:String)(r:V->List V->Hp->VK->Prop)(to:TE)(t:TA):TE:=λσ H Q=>to σ H λx H1=>zo K T x H1/\t σ H1 λxs H2=>r x xs H2 Q
variable{o e:aB}{es:List aB}{to:TE}{t:TA}{name:Str}{apos cpos:Pos}{T id:String}{r:V->List V->Hp->VK->Prop}
theorem HM(pa:PlainAttrs T)(slot:Slot T name id)(nv:typeOf (.builtin id)=pure (.type "method_descriptor"))(hm:wl X id r)(ho:PE X o to)(mi:k8 o name X.env (aU o X.env)=aU o X.env:=by rfl) (mj:(apos.endLine == cpos.line)=ah:=by rfl):PE X (.Call (.Attribute o name apos) [] [] cpos) (Lz X.K T r to):=by intro ag s σ H Q I h;refine wpAny_Call_method0_late mi mj (aV (ho ag s σ H _ I h) λv s1 ⟨x,H1,I1,r1,ty,q1⟩=>?_);obtain⟨h1,h2⟩:=BJ I1 r1 ty;exact⟨T,id,pa,slot,nv,h1,h2,zP rfl (PySem.evalArgs_none (hm ag s1 σ H1 x [] v [] Q I1 r1 .nil q1))⟩
theorem vQ(pa:PlainAttrs T)(slot:Slot T name id)(nv:typeOf (.builtin id)=pure (.type "method_descriptor"))(hm:wl X id r)(ho:PE X o to)(ha:PA X (e::es) t)(mi:k8 o name X.env (aU o X.env)=aU o X.env:=by rfl)(AI:((cL cpos (aL (e::es) X.env)).all (λx=>!x.1)&&(qz cpos (qA [] X.env)).all (λx=>x.1.isSome)&&decide ((e::es).length+([]:List jf).length+(if([]:List jf).isEmpty then 0 else 1)<30))=ah:=by rfl)(mj:(apos.endLine == cpos.line)=ah:=by rfl) (hs:aL (e::es) X.env=(aj,aU e X.env)::aL es X.env:=by rfl) (AD:(cL cpos (aL es X.env)).any (·.1)=aj:=by rfl):PE X (.Call (.Attribute o name apos) (e::es) [] cpos) (HJ X.K T r to t):=by intro ag s σ H Q I h;refine wpAny_Call_method_late mi AI mj rfl (aV (ho ag s σ H _ I h) λv s1 ⟨x,H1,I1,r1,ty,q1⟩=>?_);obtain⟨h1,h2⟩:=BJ I1 r1 ty;refine⟨T,id,pa,slot,nv,h1,h2,?_⟩;have hA:=ha cpos ag s1 σ H1 _ I1 q1;rw[hs]at hA ⊢;refine zP (by show(aj||(cL cpos (aL es X.env)).any (·.1))=aj;rw[AD] <;> rfl) (zQ ?_);exact aV hA λus s2 ⟨vs,H2,I2,r2,q2⟩=>hm ag s2 σ H2 x vs v us Q I2 r1 r2 q2
end
def sT(X:Cx)(id:String)(r:V->List V->Hp->VK->Prop):Prop :=
 ∀(ag:List (af×Obj)) (s:am) (σ:St) (H:Hp) (x:V) (xs:List V) (v:ai) (us:List ai) (Q:VK),Inv X ag σ H s->RelV x v->bj xs us->r x xs H Q ->
  aq (aw X.prog X.w) X.A (call (.builtin id) (v::us)) (EP X ag σ Q) X.xe s
theorem bj.one:∀{x:V}{us:List ai},bj [x] us->∃u,us=[u]/\RelV x u
 |_,_,.cons r .nil=>⟨_,rfl,r⟩
theorem bj.zero:∀{us:List ai},bj [] us->us=[]
 |_,.nil=>rfl
theorem bj.rep{xs:List V}{us:List ai}(h:bj xs us):∀k:Nat,bj (bS k xs).flatten (bS k us).flatten
 |0=>.nil
 |k+1=>by rw[m8,m8,qB,qB];exact bj.append h (bj.rep h k)
theorem foldl_rep(its:List ai):∀(k:Nat) (aH:List ai), List.foldl (λx1 x2=>x1++x2) aH.toArray (bS k its.toArray)=(aH++(bS k its).flatten).toArray
 |0,aH=>by simp
 |k+1,aH=>by
  have e:aH.toArray++its.toArray=(aH++its).toArray:=by simp
  have e2:(aH++its)++(bS k its).flatten=aH++(bS (k+1) its).flatten:=by rw[m8,qB,qC]
  rw[←e2,←foldl_rep its k (aH++its),←e,m8,k9]
section
variable{X:Cx}{ag:List (af×Obj)}{σ:St}{H:Hp}{s:am}{l b:af}{xs ys zs:List V}
theorem Inv.lset{its its':List ai}{n:Nat}{f:Array ai->Array ai}{t':Nat}(I:Inv X ag σ H s)(hH:H l=aa (.lst xs))(e:s.heap.get? l=aa {cls:=.type "list",data:=.seq its.toArray n}) (hf:f its.toArray=its'.toArray) (hv:bj ys its') (hz:ys.length<=a_):Inv X ag σ (upd H l (.lst ys)) {s with heap:=s.heap.update l (je f),toks:=t'}:=by have q:=PySem.IsL.update e f;rw[hf]at q;refine I.write (x:=l) (e:=l) (by rw[hH];exact trivial) (.inl rfl) (λb' u hb hu=>(mZ s.heap (je f) (d9 hb)).trans hu) ⟨_,q⟩ ?_;exact⟨hz,its',_,hv,q⟩
theorem Inv.lnew{its:List ai}{t':Nat}(I:Inv X ag σ H s)(hv:bj ys its)(hz:ys.length<=a_):Inv X ag σ (upd H s.heap.objs.size (.lst ys)) {s with heap:=s.heap.push {cls:=.type "list",data:=.seq its.toArray},toks:=t'} :=I.laid (λ_ _ q=>bH _ q) (a9 _) ⟨hz,its,0,hv,cZ _ rfl⟩
theorem Inv.fresh(I:Inv X ag σ H s):H s.heap.objs.size=ae:=I.hok.fresh (a9 _)
theorem Inv.lstM(I:Inv X ag σ H s)(hH:H l=aa (.lst xs)):xs.length<=a_/\∃(its:List ai) (n:Nat),bj xs its/\xs.length=its.length/\s.heap.get? l=aa {cls:=.type "list",data:=.seq its.toArray n}:=by obtain⟨z,its,n,r,e⟩:=I.hok l _ hH;exact⟨z,its,n,r,r.length,e⟩
theorem LJ{n:Nat}(h:n<=a_):EH n=aj:=by unfold EH;exact decide_eq_false ∅
end
section
variable{X:Cx}
def Ke:V->List V->Hp->VK->Prop:=λx vs H Q=>∃l xs y,x=.ref l/\vs=[y]/\H l=aa (.lst xs)/\xs.length<a_/\Q .non (upd H l (.lst (xs++[y])))
theorem CS:sT X "list.append" Ke:=by
 intro ag s σ H x vs v us Q I rx rv h;obtain⟨l,xs,y,rfl,rfl,hH,hz,q⟩:=h;cases rx;obtain⟨u,rfl,ru⟩:=rv.one;obtain⟨z,its,n,r,hl,e⟩:=I.lstM hH;refine qD F.slot_list_append ⟨_,e,rfl⟩ F.entry_list_append (F.args_list_append_2 _ _) (PySem.list_append l its.toArray n u (by rw[ce];lia)) ⟨e,?_⟩;refine⟨.non,_,I.lset (its':=its++[u]) hH e (by simp) (r.append (.cons ru .nil)) ?_,rfl,q⟩;rw[ef,sY];lia
theorem yj{α:Type}(xs:List α)(k:Nat):(bS k xs).flatten.length=k*xs.length:=by
 induction k with
 |zero=>simp
 |succ k ih=>rw[m8,qB,ef,ih,Nat.succ_mul,Nat.add_comm]
end
section
variable{κ:Type}[DecidableEq κ]
def i5(kvs:List (κ×V))(k:κ):Option V:=(kvs.find? λkv=>decide (kv.1=k)).map (·.2)
def iO(kvs:List (κ×V))(k:κ)(v:V):List (κ×V) :=if(kvs.any λkv=>decide (kv.1=k))=ah then kvs.map (λkv=>if kv.1=k then(kv.1,v)else kv)else kvs++[(k,v)]
theorem vC{p:κ×V}{r:List (κ×V)}{k:κ}(e:p.1=k):i5 (p::r) k=aa p.2:=by simp[i5,jE,e]
theorem u_{p:κ×V}{r:List (κ×V)}{k:κ}(e:¬p.1=k):i5 (p::r) k=i5 r k:=by simp[i5,jE,e]
theorem By(k:κ):∀kvs:List (κ×V),(kvs.any λkv=>decide (kv.1=k))=(i5 kvs k).isSome
 |[]=>rfl
 |p::r=>by
  rw[oH];by_cases e:p.1=k
  ·simp only[vC e,decide_eq_true e,Bool.true_or,Option.isSome_some]
  ·rw[u_ e,decide_eq_false e,Bool.false_or];exact By k r
theorem Eb(kvs:List (κ×V))(k:κ)(v:V):(iO kvs k v).length<=kvs.length+1:=by
 unfold iO;split
 ·rw[dy];lia
 ·rw[ef,fg,m_];lia
theorem mR.isSome_eq{o:Option V}{u:Option ai}(r:mR o u):o.isSome=u.isSome:=by
 cases o with
 |none=>cases u with
  |none=>rfl
  |some _=>exact(show False from r).elim
 |some _=>cases u with
  |none=>exact(show False from r).elim
  |some _=>rfl
theorem mR.getD{o:Option V}{u:Option ai}{d:V}{d':ai}(r:mR o u)(rd:RelV d d'):RelV (o.getD d) (u.getD d'):=by
 cases o with
 |none=>cases u with
  |none=>exact rd
  |some _=>exact(show False from r).elim
 |some _=>cases u with
  |none=>exact(show False from r).elim
  |some _=>exact r
theorem KV.val{kvs:List (κ×V)}{vs:List (κ×ai)}(r:KV kvs vs)(k:κ):mR (i5 kvs k) (qE vs k):=by
 unfold KV at r
 induction r with
 |nil=>exact True.intro
 |@cons p q ps qs h t ih=>
  obtain⟨h1,h2⟩:=h;by_cases e:p.1=k
  ·have e':q.1=k:=h1.symm.trans e;have b:qE (q::qs) k=aa q.2:=by simp[qE,jE,e']
   rw[vC e,b];exact h2
  ·have e':¬q.1=k:=λz=>e (h1.trans z);have b:qE (q::qs) k=qE qs k:=by simp[qE,jE,e']
   rw[u_ e,b];exact ih
theorem KV.any{kvs:List (κ×V)}{vs:List (κ×ai)}(r:KV kvs vs)(k:κ):(kvs.any λkv=>decide (kv.1=k))=vs.any λkv=>decide (kv.1=k):=by
 unfold KV at r
 induction r with
 |nil=>rfl
 |cons h t ih=>rw[oH,oH,ih,h.1]
theorem KV.repl{kvs:List (κ×V)}{vs:List (κ×ai)}(r:KV kvs vs)(k:κ){y:V}{u:ai}(ry:RelV y u):KV (kvs.map λkv=>if kv.1=k then(kv.1,y)else kv) (vs.map λkv=>if kv.1=k then(kv.1,u)else kv):=by
 unfold KV at r ⊢
 induction r with
 |nil=>exact .nil
 |@cons p q ps qs h t ih=>
  rw[eh,eh];refine .cons ?_ ih;obtain⟨h1,h2⟩:=h;by_cases e:p.1=k
  ·rw[if_pos e,if_pos (h1.symm.trans e)];exact⟨h1,ry⟩
  ·rw[if_neg e,if_neg (λz=>e (h1.trans z))];exact⟨h1,h2⟩
theorem KV.put{kvs:List (κ×V)}{vs:List (κ×ai)}(r:KV kvs vs)(k:κ){y:V}{u:ai}(ry:RelV y u):KV (iO kvs k y) (stored vs k u):=by
 unfold iO stored;rw[r.any k];by_cases e:(vs.any λkv=>decide (kv.1=k))=ah
 ·rw[if_pos e,if_pos e];exact r.repl k ry
 ·rw[if_neg e,if_neg e];exact Paired.snoc r ⟨rfl,ry⟩
theorem KV.length{kvs:List (κ×V)}{vs:List (κ×ai)}(r:KV kvs vs):kvs.length=vs.length:=Paired.length r
end
theorem wg{P:aM}{w:aF}{k:aN}{u:ai}(r:RelV (kV k) u):(gW P w).is k u=ah:=by
 cases k with
 |inl i=>obtain⟨t,e⟩:=(show ∃t,u=Value.int i t from r);subst e;exact FY P w i t
 |inr x=>obtain⟨t,e⟩:=(show ∃t,u=Value.str x t from r);subst e;exact HZ P w x t
theorem Bs{P:aM}{w:aF}:∀{ks:List aN}{us:List ai},bj (ks.map kV) us->ItemsAre (gW P w) ks us
 |[],_,r=>by rw[List.map_nil]at r;cases r;exact .nil
 |k::ks,_,r=>by
  rw[eh]at r;cases r with
  |cons h t=>exact .cons (wg h) (Bs t)
abbrev KT(H:Hp):List (List aN×V)->List (List aN×af×ai)->Prop:=kW λp q=>p.1=q.1/\H q.2.1=aa (.tup (p.1.map kV))/\RelV p.2 q.2.2
theorem KT.val{H:Hp}{kvs:List (List aN×V)}{xs:List (List aN×af×ai)}(r:KT H kvs xs)(k:List aN):mR (i5 kvs k) ((atKey xs k).map (·.2)):=by
 induction r with
 |nil=>exact True.intro
 |@cons p q ps qs h t ih=>
  obtain⟨h1,_,h2⟩:=h;by_cases e:p.1=k
  ·have e':q.1=k:=h1.symm.trans e;have b:atKey (q::qs) k=aa q.2:=by simp[atKey,jE,e']
   rw[vC e,b];exact h2
  ·have e':¬q.1=k:=λz=>e (h1.trans z);have b:atKey (q::qs) k=atKey qs k:=by simp[atKey,jE,e']
   rw[u_ e,b];exact ih
theorem KT.repl{H:Hp}{kvs:List (List aN×V)}{xs:List (List aN×af×ai)}(r:KT H kvs xs)(k:List aN){y:V}{u:ai}(ry:RelV y u):KT H (kvs.map λkv=>if kv.1=k then(kv.1,y)else kv) (xs.map (putAt k u)):=by
 induction r with
 |nil=>exact .nil
 |@cons p q ps qs h t ih=>
  rw[eh,eh];refine .cons ?_ ih;obtain⟨h1,h2,h3⟩:=h;unfold putAt;by_cases e:p.1=k
  ·rw[if_pos e,if_pos (h1.symm.trans e)];exact⟨h1,h2,ry⟩
  ·rw[if_neg e,if_neg (λz=>e (h1.trans z))];exact⟨h1,h2,h3⟩
theorem KT.put{H:Hp}{kvs:List (List aN×V)}{xs:List (List aN×af×ai)}(r:KT H kvs xs)(k:List aN){b:af}{y:V}{u:ai}(hb:H b=aa (.tup (k.map kV)))(ry:RelV y u):KT H (iO kvs k y) (storedH xs k b u):=by
 have e:(kvs.any λkv=>decide (kv.1=k))=(atKey xs k).isSome:=by rw[By,(r.val k).isSome_eq,Option.isSome_map]
 unfold iO storedH;rw[e];by_cases q:(atKey xs k).isSome=ah
 ·rw[if_pos q,if_pos q];exact r.repl k ry
 ·rw[if_neg q,if_neg q];exact Paired.snoc r ⟨rfl,hb,ry⟩
theorem KT.keeps{H H':Hp}{kvs:List (List aN×V)}{xs:List (List aN×af×ai)}(r:KT H kvs xs)(ht:∀b ys,H b=aa (.tup ys)->H' b=aa (.tup ys)):KT H' kvs xs :=Paired.mapP r λ_ _ z=>⟨z.1,ht _ _ z.2.1,z.2.2⟩
section
variable{P:aM}{w:aF}{H:Hp}{h:aA}{a:af}
theorem Dq{u:HO}(ok:cI P w H h)(e:Rd H a u):cH P w H h a u:=e.ok ok
theorem sS{kvs:List (aN×V)}(ok:cI P w H h)(e:Rd H a (.dK kvs)):kvs.length<=a_/\(a == lQ)=aj/\∃vs,KV kvs vs/\h.DictOf (gW P w) a vs :=show cH P w H h a (.dK kvs)from Dq ok e
theorem yE{kvs:List (aN×V)}(ok:cI P w H h)(e:H a=aa (.dK kvs)):kvs.length<=a_/\(a == lQ)=aj/\∃vs,KV kvs vs/\h.DictOf (gW P w) a vs:=sS ok (.inl e)
theorem vD{ks:List aN}(ok:cI P w H h)(e:H a=aa (.tup (ks.map kV))):(sU (gW P w)).is h ks a:=by
 obtain⟨_,its,r,⟨o,h1,h2,n,h3⟩,_⟩:=(show cH P w H h a (.tup (ks.map kV))from ok a _ e)
 exact⟨o,its.toArray,n,h1,h2,h3,by simpa using Bs r⟩
theorem sI{kvs:List (List aN×V)}(ok:cI P w H h)(e:Rd H a (.dT kvs)):kvs.length<=a_/\(a == lQ)=aj /\ ∃xs,KT H kvs xs/\h.DictOfH (sU (gW P w)) a xs:=by
 obtain⟨z,y,xs,r,o,es,ep,h1,h2,h3,h4,h5⟩:=(show cH P w H h a (.dT kvs)from Dq ok e)
 refine⟨z,y,xs,r,o,es,ep,h1,h2,h3,h4,λx hx=>?_,h5⟩;have all:∀{l:List (List aN×V)}{m:List (List aN×af×ai)},KT H l m->∀x∈m,(sU (gW P w)).is h x.1 x.2.1:=by
  intro l m q
  induction q with
  |nil=>intro x hx;exact nomatch hx
  |@cons p q ps qs hq t ih=>
   intro x hx;rcases bG.mp hx with e|hx
   ·subst e;exact vD ok (by rw[←hq.1];exact hq.2.1)
   ·exact ih x hx
 exact all r x hx
theorem Gs{kvs:List (List aN×V)}(ok:cI P w H h)(e:H a=aa (.dT kvs)):kvs.length<=a_/\(a == lQ)=aj /\ ∃xs,KT H kvs xs/\h.DictOfH (sU (gW P w)) a xs:=sI ok (.inl e)
end
def pG(H:Hp)(a:af)(y:V)(r:Option V):Prop :=(∃kvs k,Rd H a (.dK kvs)/\y=kV k/\r=i5 kvs k)\/∃kvs k b,Rd H a (.dT kvs)/\y=.ref b/\H b=aa (.tup (k.map kV))/\r=i5 kvs k
def zz(H:Hp)(a:af)(y v:V)(H':Hp):Prop :=
 (∃kvs k,H a=aa (.dK kvs)/\y=kV k/\kvs.length<a_/\H'=upd H a (.dK (iO kvs k v))) \/
 ∃kvs k b,H a=aa (.dT kvs)/\y=.ref b/\H b=aa (.tup (k.map kV))/\kvs.length<a_/\H'=upd H a (.dT (iO kvs k v))
theorem pG.k{H:Hp}{a:af}{kvs:List (aN×V)}{k:aN}(e:H a=aa (.dK kvs)):pG H a (kV k) (i5 kvs k):=.inl ⟨kvs,k,.inl e,rfl,rfl⟩
theorem zz.k{H:Hp}{a:af}{kvs:List (aN×V)}{k:aN}{v:V}(e:H a=aa (.dK kvs))(hl:kvs.length<a_):zz H a (kV k) v (upd H a (.dK (iO kvs k v))):=.inl ⟨kvs,k,e,rfl,hl,rfl⟩
section
variable{X:Cx}{ag:List (af×Obj)}{σ:St}{H:Hp}{s:am}{a:af}{y v:V}{u r:ai}{o:Option V}{A:aO}{E:ai->am->Prop}
theorem Inv.big(I:Inv X ag σ H s):lQ<s.heap.objs.size:=by have h:bR<s.heap.objs.size:=(I.mod.glob.keeps I.bk).lt;exact qF (by decide) h
theorem JE{Q:ai->am->Prop}(hu:A.units+1<cLine)(I:Inv X ag σ H s)(g:pG H a y (aa v))(ry:RelV y u)(h:∀w' s',Inv X ag σ H s'->RelV v w'->Q w' s'):aq (aw X.prog X.w) A (oG (.ref a) u) Q E s:=by
 rcases g with⟨kvs,k,e,ey,l⟩|⟨kvs,k,b,e,ey,eb,l⟩
 ·subst ey;obtain⟨z,hd,vs,rel,dd⟩:=sS I.hok e;obtain⟨w',hw,rw'⟩:=mR.some_of (v:=v) (o:=qE vs k) (by rw[l];exact rel.val k);exact wpAny_getItem_of (wg ry) dd.mapOf hw (h w' _ (I.tok _) rw')
 ·subst ey;cases (show u=Value.ref b from ry);obtain⟨z,hd,xs,rel,dd⟩:=sI I.hok e;obtain⟨w',hw,rw'⟩:=mR.some_of (v:=v) (o:=(atKey xs k).map (·.2)) (by rw[l];exact rel.val k);obtain⟨p,hp,d8⟩:=zR.mp hw;refine wpAny_getItem_heap (EI hu) (vD I.hok eb) dd hp ?_;rw[d8];exact h w' _ (I.tok _) rw'
theorem A9{h':aA}{t':Nat}{ob:HO}(I:Inv X ag σ H s)(mu:rZ (H a))(hs:jC a s.heap h')(he:∃q,h'.get? a=aa q)(new:cH X.prog X.w (upd H a ob) h' a ob):Inv X ag σ (upd H a ob) {s with heap:=h',toks:=t'} :=I.write (x:=a) (e:=a) mu (.inl rfl) (λb q hb z=>(hs.2 b hb).trans z) he new
theorem Gz{P:aM}{w:aF}{H':Hp}{h':aA}{kvs:List (aN×V)}{vs:List (aN×ai)}(z:kvs.length<=a_)(hd:(a == lQ)=aj)(rel:KV kvs vs)(dd:h'.DictOf (gW P w) a vs):cH P w H' h' a (.dK kvs):=⟨z,hd,vs,rel,dd⟩
theorem Io{H':Hp}{Q:Unit->am->Prop}(hu:A.units+1<cLine)(I:Inv X ag σ H s)(g:zz H a y v H')(ry:RelV y u)(rv:RelV v r)(h:∀s',Inv X ag σ H' s'->Q () s'):aq (aw X.prog X.w) A (setItem (.ref a) u r) Q E s:=by
 rcases g with⟨kvs,k,e,ey,l,eH⟩|⟨kvs,k,b,e,ey,eb,l,eH⟩
 ·subst ey eH;obtain⟨z,hd,vs,rel,dd⟩:=yE I.hok e;have hz:vs.length<=a_:=by rw[←rel.length];exact z
  have hl:(iO kvs k v).length<=a_:=by have:=Eb kvs k v;lia
  refine wpAny_setItem_pairs (hsz:=hz) (wg ry) dd λh' dd' hs=>h _ ?_;have he:∃q,h'.get? a=aa q:=let ⟨q,_,_,hq,_⟩:=dd';⟨q,hq⟩
  exact A9 I (by rw[e];exact True.intro) hs he (Gz hl hd (rel.put k rv) dd')
 ·subst ey eH;cases (show u=Value.ref b from ry);obtain⟨z,hd,xs,rel,dd⟩:=Gs I.hok e;have hz:xs.length<=a_:=by rw[←Paired.length rel];exact z
  have hl:(iO kvs k v).length<=a_:=by have:=Eb kvs k v;lia
  refine wpAny_setItem_heap (hsz:=hz) (EI hu) (vD I.hok eb) dd λh' dd' hs=>h _ ?_;obtain⟨q,es,ep,hq,h2,h3,h4,_,h5⟩:=dd';refine A9 I (by rw[e];exact True.intro) hs ⟨q,hq⟩ ⟨hl,hd,_,(rel.put k eb rv).keeps λc ys ec=>?_,q,es,ep,hq,h2,h3,h4,h5⟩;rw[b7 (Gi ec e (λz=>nomatch z))];exact ec
end
def yn(i:aB):Prop:=∀ov iv,zO i aj ov iv=operate [ov,iv] (oG ov iv)
theorem M3{prog:aM}{w:aF}{A:aO}{E:ai->am->Prop}{s:am}{env:Env}{value slice:aB}{pos:Pos}{T id:String}{Q:ai->am->Prop}(hl:typeLookup (.type T) "__getitem__" = pure (aa (.builtin id))) (hs:yn slice)(h:aq (aw prog w) A (aU value env) (λo s₁=>aq (aw prog w) A (aU slice env) (λi s₂=>s₂.TypeIs o T/\aq (aw prog w) A (oG o i) Q E s₂) E s₁) E s):aq (aw prog w) A (aU (.Subscript value slice pos) env) Q E s:=by
 refine Subscript_ (dY h (λo s₁ h₁=>dY h₁ (λi s₂ h₂=>?_) λ_ _ x=>x) λ_ _ x=>x);obtain⟨hT,h₂⟩:=h₂;unfold subscriptTail;refine ap ?_;rw[getitemInPython_of_ne hT.not_modules];refine ap (sZ hT hl ?_);have fin:aq (aw prog w) A (zO slice aj o i) (λr s₃=>aq (aw prog w) A (letTemporaryGo value o r >>= λ_=>pure r) Q E s₃) E s₂:=by rw[hs o i];exact wpAny_operating (dY h₂ (λr s₃ h₃=>ap (wpAny_letTemporaryGo (aD h₃))) λ_ _ x=>x)
 first
  |exact aD (ap fin)
  |exact ap (aD (ap fin))
  |exact ap fin
theorem Jz{X:Cx}{ag:List (af×Obj)}{σ:St}{H:Hp}{s:am}{a:af}{y:V}{o:Option V}(I:Inv X ag σ H s)(g:pG H a y o):s.TypeIs (.ref a) "dict":=by
 rcases g with⟨kvs,k,e,_,_⟩|⟨kvs,k,b,e,_,_,_⟩
 ·obtain⟨_,_,vs,_,dd⟩:=sS I.hok e;exact dd.typeIs
 ·obtain⟨_,_,xs,_,dd⟩:=sI I.hok e;exact dd.typeIs
def HL(td ty:TE):TE:=λσ H Q=>td σ H λx H1=>ty σ H1 λy H2=>∃a v,x=.ref a/\pG H2 a y (aa v)/\Q v H2
def HD(td ty tv:TE):TS:=λD σ H=>tv σ H λv H1=>td σ H1 λx H2=>ty σ H2 λy H3=>∃a H4,x=.ref a/\zz H3 a y v H4/\D.nx σ H4
section
variable{X:Cx}{o i e value:aB}{pos pos' tpos:Pos}{td ty tv:TE}
theorem FH(hu:X.A.units+1<cLine)(ho:PE X o td)(hi:PE X i ty)(hs:yn i):PE X (.Subscript o i pos) (HL td ty):=by intro ag s σ H Q I h;refine M3 PySem.F.slot_dict_getitem.lookup hs (aV (ho ag s σ H _ I h) λu s1 ⟨x,H1,I1,rx,q1⟩=>aV (hi ag s1 σ H1 _ I1 q1) λiv s2 ⟨y,H2,I2,ry,a,v,ex,g,q2⟩=>?_);subst ex;obtain rfl:u=Value.ref a:=rx;exact⟨Jz I2 g,JE hu I2 g ry λw' s3 I3 rw'=>⟨v,H2,I3,rw',q2⟩⟩
theorem G7(hu:X.A.units+1<cLine)(ho:PE X o td)(hi:PE X i ty)(hv:PE X value tv)(hs:kZ value (aa (.Subscript o i pos')) pos.line X.env=pure aj):PS X (.Assign [.Subscript o i pos'] value pos) (HD td ty tv):=by intro ag s σ H D I h;refine wpAny_Assign_Subscript (aV (hv ag s σ H _ I h) λr s1 ⟨v,H1,I1,rv,q1⟩=>aV (ho ag s1 σ H1 _ I1 q1) λu s2 ⟨x,H2,I2,rx,q2⟩=>aV (hi ag s2 σ H2 _ I2 q2) λiv s3 ⟨y,H3,I3,ry,a,H4,ex,g,q3⟩=>?_) hs;subst ex;obtain rfl:u=Value.ref a:=rx;exact Io hu I3 g ry rv λs4 I4=>⟨σ,H4,I4,q3⟩
end
theorem IA{P:aM}{w:aF}{H:Hp}(h:aA)(hb:lQ<h.objs.size):cH P w H (h.push {cls:=.type "dict",data:=.dict #[]}) h.objs.size (.dK []) :=⟨k_ _,beq_eq_false_iff_ne.mpr (d9 (cQ hb)),[],.nil,Heap.DictOf.new h⟩
def KY:TE:=λ_ H Q=>∀p,H p=ae->Q (.ref p) (upd H p (.dK []))
section
variable{X:Cx}{pos:Pos}
theorem Ib:PE X (.Dict [] [] pos) KY:=λag s σ H Q I h=>wpAny_Dict_empty ⟨.ref s.heap.objs.size,_,I.laid (a:=s.heap.objs.size) (o:=.dK []) (t':=s.toks) (λ_ _ q=>bH _ q) (a9 _) (IA s.heap I.big),rfl,h _ (I.hok.fresh (a9 _))⟩
end
abbrev VV:List (V×V)->List (ai×ai)->Prop:=kW λp q=>RelV p.1 q.1/\RelV p.2 q.2
structure M2(X:Cx)(o:aB)(m:Str)(apos:Pos)(e f:aB)(cpos:Pos):Prop where
 base:k8 o m X.env (aU o X.env)=aU o X.env
 few:((cL cpos (aL [e,f] X.env)).all (λx=>!x.1)&&(qz cpos (qA [] X.env)).all (λx=>x.1.isSome)&&decide (([e,f]:List aB).length+([]:List jf).length+(if([]:List jf).isEmpty then 0 else 1)<30))=ah
 line:(apos.endLine == cpos.line)=ah
 trees:cL cpos (aL [e,f] X.env)=[(aj,aU e X.env),(aj,aU f X.env)]
def Bp(H:Hp)(a:af):Prop:=(∃kvs,Rd H a (.dK kvs))\/∃kvs,Rd H a (.dT kvs)
theorem Kv{X:Cx}{ag:List (af×Obj)}{σ:St}{H:Hp}{s:am}{a:af}(I:Inv X ag σ H s)(d:Bp H a):s.TypeIs (.ref a) "dict"/\(∀b,Value.ref a=.ref b->∃ob,s.heap.get? b=aa ob/\ob.dict=ae)/\(a == lQ)=aj:=by
 rcases d with⟨kvs,e⟩|⟨kvs,e⟩
 ·obtain⟨_,hd,vs,_,dd⟩:=sS I.hok e;refine⟨dd.typeIs,λb q=>?_,hd⟩;cases q;obtain⟨ob,_,_,h1,h2,_⟩:=dd;exact⟨ob,h1,h2.2.1⟩
 ·obtain⟨_,hd,xs,_,dd⟩:=sI I.hok e;refine⟨dd.typeIs,λb q=>?_,hd⟩;cases q;obtain⟨ob,_,_,h1,h2,_⟩:=dd;exact⟨ob,h1,h2.2.1⟩
section
variable{X:Cx}{ag:List (af×Obj)}{σ:St}{H:Hp}{s:am}{a:af}{y d:V}{u r:ai}{o:Option V}{A:aO}{E:ai->am->Prop}
theorem Hy{Q:ai->am->Prop}(hu:A.units+1<cLine)(I:Inv X ag σ H s)(g:pG H a y o)(ry:RelV y u)(rd:RelV d r)(h:∀w' s',Inv X ag σ H s'->RelV (o.getD d) w'->Q w' s'):aq (aw X.prog X.w) A (call (.builtin "dict.get") [.ref a,u,r]) Q E s:=by
 rcases g with⟨kvs,k,e,ey,l⟩|⟨kvs,k,b,e,ey,eb,l⟩
 ·subst ey;obtain⟨z,hd,vs,rel,dd⟩:=sS I.hok e;refine call_meetsIn EJ dd.typeIs PySem.F.entry_dict_get (PySem.F.args_dict_get_3 _ _ _) (meets_dict_get_default (gW X.prog X.w) a (wg ry) hd r) ⟨_,dd.mapOf,h _ _ (I.tok _) ?_⟩;rw[l];exact(rel.val k).getD rd
 ·subst ey;cases (show u=Value.ref b from ry);obtain⟨z,hd,xs,rel,dd⟩:=sI I.hok e;refine call_meetsIn EJ dd.typeIs PySem.F.entry_dict_get (PySem.F.args_dict_get_3 _ _ _) (meetsH_dict_get_default (sU (gW X.prog X.w)) a b hd r) ⟨EI hu,k,xs,vD I.hok eb,dd,h _ _ (I.tok _) ?_⟩;rw[l];exact(rel.val k).getD rd
end
def LB(td ty tx:TE):TE:=λσ H Q=>td σ H λx H1=>∃a,x=.ref a/\Bp H1 a/\ty σ H1 λy H2=>tx σ H2 λz H3=>∃o,pG H3 a y o/\Q (o.getD z) H3
section
variable{X:Cx}{o e f:aB}{apos cpos:Pos}{td ty tx:TE}
theorem Ij(hu:X.A.units+1<cLine)(ho:PE X o td)(he:PE X e ty)(hf:PE X f tx)(m:M2 X o "get" apos e f cpos):PE X (.Call (.Attribute o "get" apos) [e,f] [] cpos) (LB td ty tx):=by intro ag s σ H Q I h;refine wpAny_Call_method m.base m.few m.line PySem.F.plainAttrs_dict EJ PySem.F.type_dict_get (aV (ho ag s σ H _ I h) λu s1 ⟨x,H1,I1,rx,a,ex,d,q1⟩=>?_);subst ex;obtain rfl:u=Value.ref a:=rx;obtain⟨t1,t2,_⟩:=Kv I1 d;refine⟨t1,t2,?_⟩;rw[m.trees];refine zP rfl (zQ (zI (aV (he ag s1 σ H1 _ I1 q1) λiv s2 ⟨y,H2,I2,ry,q2⟩=>zI (aV (hf ag s2 σ H2 _ I2 q2) λfv s3 ⟨z,H3,I3,rz,ov,g,q3⟩=>EB ?_))));exact Hy hu I3 g ry rz λw' s4 I4 rw'=>⟨_,H3,I4,rw',q3⟩
end
end L2
namespace Att
open PySem PySem.W PySem.Calls PyProof.Rows
theorem Ml{P:Params}{h:aA}:∀(ns:List Int) (vs:List ai),WellAll P h vs (ns.map WData.int)->IntsAre vs ns:=by
 intro ns
 induction ns with
 |nil=>
  intro vs w;rw[List.map_nil]at w;cases w;exact .nil
 |cons n ns ih=>
  intro vs w;rw[eh]at w;cases w with
  |cons a b=>
   cases a;exact .cons _ _ (ih _ b)
theorem No{l:OpenLaw}{n:Nat}(hn:l.most=aa n){P:Params}{h:aA}{args:List WData}{vals:List ai}(w6:l.row.toRowW.claim.pre args=ah) (hwl:WellAll P h vals args):∃a vs ns,vals=[Value.ref a]/\args=[WData.list (ns.map WData.int)]/\h.get? a=aa {cls:=.type "list",data:=.seq vs.toArray}/\IntsAre vs ns/\ns.length<=n:=by
 have hsh:WShape.hasAll [] args [.list .int]=ah:=(pre_splitW w6).1;have hc:l.pre.holds [] {args:=args}=ah:=(pre_splitW w6).2;obtain⟨d,r,rfl,h1,h2⟩:=hasAllW_cons hsh;obtain rfl:=hasAllW_nil h2;obtain⟨xs,rfl,h3⟩:=hasW_list h1;obtain⟨ns,rfl⟩:=items_int h3;have bz:ns.length<=n:=by
  unfold OpenLaw.pre at hc;have h4:(WTm.not (.lt (.lit (.int (n:Int))) (.len (.arg 0)))).holds [] {args:=[.list (ns.map .int)]}=ah:=by have h4:=(holds_andW hc).1;rw[hn]at h4;exact h4
  have h5:=condW_of h4 (w_not (w_lt w_lit (w_len_list (w_arg rfl))));rw[dy]at h5;refine Nat.le_of_not_lt λq=>?_;have q':(n:Int)<((ns.length:Nat):Int):=∅
  first
   | (rw[decide_eq_true q']at h5;exact absurd h5 (by decide))
   | (simp at h5;lia)
 cases hwl with
 |cons w1 w2=>
  cases w2;cases w1 with
  |list ho fh=>exact⟨_,_,ns,rfl,rfl,ho,Ml ns _ fh,bz⟩
theorem Ki(l:OpenLaw)(args:List WData):l.row.toRowW.claim.post args (.bool ah) args=ah :=
 postW_of (r:=l.row.toRowW) (X:=(ah == ah))
  (show WShape.has [] (.bool ah) .bool=ah by first|rfl|decide|simp[WShape.has,WShape.arms,WShape.armsAll])
  (show(WTm.eq .res (.lit (.bool ah))).value [] {args:=args,res:=aa (.bool ah),after:=args}=aa (.bool (ah == ah))from w_eq_bool (w_res rfl) w_lit) rfl
theorem attach_call{l:OpenLaw}{n:Nat}{q:aM}{loose:List Str}{XP:(Str->Option ai)->aA->Prop}{YP:aF->aA->Prop}{d:DefRec}(hn:l.most=aa n) (oW:d.params.defaults=[])(call:∀(w:aF) (s₀ s₁:am) (mg mb:Str->Option ai) (fa:af) (o:Obj) (pm cd doc:ai) (a:af) (vs:List ai) (ns:List Int),Ground q loose [] XP w s₀ mg mb s₁.heap->YP w s₁.heap -> s₁.heap.get? fa=aa o->o.data=.func (docDef d.name d.params d.body d.scope pm cd doc)->s₁.heap.CodeRec cd d.name->mg d.name=aa (.ref fa) -> s₁.heap.get? a=aa {cls:=.type "list",data:=.seq vs.toArray}->IntsAre vs ns->ns.length<=n->s₁.gens=#[] -> k7 (aw l.prog w) qG (.call (.ref fa) ⟨[.ref a],[]⟩) (λr s'=>r=.ok (.ret (.bool ah))/\OldK s₁.heap s'.heap/\s'.os=s₁.os/\lS s'.gens) s₁):WalkO q loose XP YP l.row.toRowW d [] (λf vs=>PySem.call f vs):=by intro w s₀ s₁ mg mb G Y fa o pm cd doc dV kV ho hd bU hD tU hg args vals as w6 hlay hrd hwl hlo;obtain rfl:dV=.none:=Dflts.none hD oW;obtain rfl:kV=.none:=Dflts.noKw hD;obtain⟨a,vs,ns,rfl,rfl,AJ,AF,bz⟩:=No hn w6 hwl;refine enter_call (oD (call w s₀ s₁ mg mb fa o pm cd doc a vs ns G Y ho (fd_plain hd) bU tU AJ AF bz hg) λr s' hq=>?_);obtain⟨rfl,h2,h3,h4⟩:=hq;exact⟨.inl ⟨.bool ah,.bool ah,[],rfl,λ_=>rfl,.bool ah,Ki l _,λ_=>⟨List.Pairwise.nil,λ_ hm=>(nomatch hm)⟩⟩,h2,h3,h4⟩
end Att
namespace L2
theorem AX:∀{vs:List ai}{ns:List Int},IntsAre vs ns->bj (ns.map V.int) vs
 |_,_,.nil=>.nil
 |_,_,.cons n t h=>.cons ⟨t,rfl⟩ (AX h)
def yX(H:Hp):Prop:=∀b,H b=ae\/(∃o xs,H b=aa (.frz o (.lst xs)))\/∃q,H b=aa (.tbl q)
def iY(K:ax):Hp:=λb=>match oz K "road" with
 |some (_,P)=>if b=P then aa (.tbl "road.<locals>.<lambda>")else ae
 |none=>ae
theorem n8{K:ax}{b:af}{u:HO}(h:iY K b=aa u):u=.tbl "road.<locals>.<lambda>"/\∃c,oz K "road" = aa (c,b):=by
 unfold iY at h;split at h
 ·rename_i c P e;split at h
  ·rename_i hb;subst hb;cases h;exact⟨rfl,c,e⟩
  ·cases h
 ·cases h
theorem Bt{K:ax}{c P:af}(h:oz K "road" = aa (c,P)):iY K P=aa (.tbl "road.<locals>.<lambda>"):=by unfold iY;rw[h];exact if_pos rfl
def Ba(K:ax)(h:aA):Prop:=∀c P,oz K "road" = aa (c,P)->PySem.W.codeHdIn K c P=ah/\K.lookup P=ae/\h.get? P=aa {cls:=.none,data:=.fields #[]}
theorem J_{P:aM}{w:aF}{K:ax}{mg mb:Str->Option ai}{CX:fG}{k:Nat}{fa a:af}{fd:gc}{x:Str}{sp:Sp}{s₁:am}{vs:List ai}{ns:List Int}(KX:K.In s₁.heap) (re:s₁.heap.Ns bR mg) (hb:s₁.heap.Ns oy mb) (hbb:∀x:Str,x≠"__name__"->mb x=eA x) (hlim:s₁.heap.NoLimit) (hbm:∃bm ob,mg "__builtins__" = aa (.ref bm)/\bm≠oy/\s₁.heap.get? bm=aa ob/\ob.cls=.type "module"/\ob.dict=aa oy/\ob.data=.plain) (ny:Ba K s₁.heap) (hg:s₁.gens=#[])(ha:s₁.heap.get? a=aa {cls:=.type "list",data:=.seq vs.toArray}) (hi:IntsAre vs ns) (hl:ns.length<=a_) (hr:eY k qG)(F:∀base:aA,K.In base->base.Ns bR mg->jQ P w K mg base CX k fa fd [x] sp) (N1:∀(s:am) (u:ai),BindsTo s fd ⟨[u],[]⟩ [(x,u)])(gi:∀H:Hp,yX H->cc K H a (ns.map V.int)->sp [.ref a] H (λv _=>v=.bl ah) λ_ _ _=>False)(hCX:∀H e s',CX [] H s₁ (λ_ _ _=>False) e s'->False):k7 (aw P w) qG (.call (.ref fa) ⟨[.ref a],[]⟩) (λr s'=>r=.ok (.ret (.bool ah))/\OldK s₁.heap s'.heap/\s'.os=s₁.os/\lS s'.gens) s₁:=by
 have rv:=AX hi;have lenV:=hi.length;have core:∀H:Hp,yX H->cc K H a (ns.map V.int)->cI P w H s₁.heap->(∀b,H b≠ae->b=a\/∃c,oz K "road" = aa (c,b))->(H a≠ae->K.lookup a=ae)->uC K H ->
   k7 (aw P w) qG (.call (.ref fa) ⟨[.ref a],[]⟩) (λr s'=>r=.ok (.ret (.bool ah))/\OldK s₁.heap s'.heap/\s'.os=s₁.os/\lS s'.gens) s₁:=by
  intro H hO hS hok hA hK hTH;have base_of:∀{b:af}{o:Obj},s₁.heap.get? b=aa o->H b=ae->(lF s₁.heap H).get? b=aa o:=λe n=>JA e n;have noA:∀{b:af}{o:Obj}{es:Array DictEntry}{ep:Nat},s₁.heap.get? b=aa o->o.data=.dict es ep->H b=ae:=λ{b o es ep} e d=>by
   cases q:H b with
   |none=>rfl
   |some u=>
    rcases hA b (by rw[q];simp)with e'|⟨c,e'⟩
    ·subst e';rw[ha]at e;cases e;have d':Data.seq vs.toArray _=Data.dict es ep:=d;cases d'
    ·rw[(ny c b e').2.2]at e;cases e;cases d
  have nsK:∀{b:af}{m:Str->Option ai},s₁.heap.Ns b m->(lF s₁.heap H).Ns b m:=λ{b m} ⟨o,es,ep,e,d,r⟩=>⟨o,es,ep,base_of e (noA e d),d,r⟩
  have hKb:K.In (lF s₁.heap H):=λb o e=>base_of (KX b o e) (by
   cases q:H b with
   |none=>rfl
   |some u=>
    rcases hA b (by rw[q];simp)with e'|⟨c,e'⟩
    ·subst e';rw[hK (by rw[q];simp)]at e;cases e
    ·rw[(ny c b e').2.1]at e;cases e)
  have hM:Mod K mg (lF s₁.heap H):=⟨hKb,nsK re,⟨mb,nsK hb,hbb⟩,(let ⟨mc,h1,h2⟩:=hlim;⟨mc,nsK h1,h2⟩),by
   obtain⟨bm,ob,b1,b2,b3,b4,b5,b6⟩:=hbm;refine⟨bm,ob,b1,b2,base_of b3 ?_,b4,b5,b6⟩;cases q:H bm with
   |none=>rfl
   |some u=>
    rcases hA bm (by rw[q];simp)with e'|⟨c,e'⟩
    ·subst e';rw[ha]at b3;cases b3;simp at b4
    ·rw[(ny c bm e').2.2]at b3;cases b3;simp at b4⟩
  have e0:pK P w K mg (lF s₁.heap H) qG [] s₁ H:=⟨rfl,hM,λb o e=>NL e,lX (FD _ _),trivial,λb hb=>absurd (show b∈([]:List af)from hb) (by simp),hok,.of_eq hg,hTH⟩
  refine oD ((F _ hKb (nsK re)).run qG [] s₁ H ⟨[.ref a],[]⟩ [.ref a] [.ref a] _ _ hr e0 (N1 s₁ (.ref a)) (.cons rfl .nil) (gi H hO hS)) λr s' h=>?_;cases r with
  |error e=>exact(hCX H e s' h).elim
  |ok fl=>
   cases fl with
   |next=>exact ge h
   |brk=>exact ge h
   |cont=>exact ge h
   |ret u=>
    obtain⟨v,H',os,bare,un,Fl,r',q⟩:=h;have q':v=.bl ah:=q;subst q';obtain rfl:u=Value.bool ah:=r';refine⟨rfl,⟨λb o e=>?_,λb o e=>un.there b o e (by simp)⟩,os,bare⟩;cases q:H b with
    |none=>exact .inl (un.keep b o e q (by intro z;exact absurd (show b∈([]:List af)from z) (by simp)) (by simp))
    |some u=>
     rcases hO b with z|⟨ob,xs,z⟩|⟨qn,z⟩
     ·rw[q]at z;cases z
     ·have z2:=un.frzs b ob _ z;obtain⟨e1,_⟩:=hok b _ z;obtain⟨e2,_⟩:=Fl b _ z2;rw[e]at e1;cases e1;exact .inl e2
     ·rcases hA b (by rw[q];simp)with e'|⟨c,e'⟩
      ·subst e';obtain⟨ps,e1,_⟩:=hok b _ z;rw[ha]at e1;cases e1
      ·obtain⟨k1,k2,k3⟩:=ny c b e';rw[k3]at e;cases e;obtain⟨oc,vs',_,_,_,_,_,_,_,f1,f2,f3,f4,_⟩:=PySem.W.codeHd_of_K KX k1;obtain⟨ps,e1,_⟩:=Fl b _ (un.tbls b _ z);exact .inr (.inl ⟨⟨c,oc,vs',f1,f2,f3,f4⟩,rfl,#[],ps,rfl,by rw[e1];simp⟩)
 cases hk:K.lookup a with
 |some o=>
  have e:=KX a o hk;rw[ha]at e;cases e;have tH:∀b u,iY K b=aa u->cH P w (iY K) s₁.heap b u:=λb u z=>by
   obtain⟨rfl,c,e⟩:=n8 z;exact⟨#[],(ny c b e).2.2,trivial,λpos cv h=>by cases h⟩
  refine core (iY K) (λb=>?_) (.inr ⟨_,vs.toArray,_,hk,rfl,rfl,rfl,by rw[ce,lenV];exact hl,by simpa using rv⟩) tH (λb z=>?_) (λz=>?_) λx hx c P e=>?_
  ·cases q:iY K b with
   |none=>exact .inl rfl
   |some u=>exact .inr (.inr ⟨_,congrArg aa (n8 q).1⟩)
  ·cases q:iY K b with
   |none=>exact absurd q z
   |some u=>exact .inr (n8 q).2
  ·cases q:iY K a with
   |none=>exact absurd q z
   |some u=>
    obtain⟨_,c,e'⟩:=n8 q;rw[(ny c a e').2.2]at ha;cases ha
  ·obtain rfl:x = "road":=by simpa[zj]using hx
   exact Bt e
 |none=>
  have ta:∀c P,oz K "road" = aa (c,P)->P≠a:=λc P e z=>by subst z;rw[(ny c P e).2.2]at ha;cases ha
  refine core (λb=>if b=a then aa (.frz {cls:=.type "list",data:=.seq vs.toArray} (.lst (ns.map V.int)))else iY K b) (λb=>?_) (.inl (.inr ⟨{cls:=.type "list",data:=.seq vs.toArray},if_pos rfl⟩)) (λb u z=>?_) (λb z=>?_) (λ_=>hk) λx hx c P e=>?_
  ·by_cases hb:b=a
   ·exact .inr (.inl ⟨_,_,if_pos hb⟩)
   ·cases q:iY K b with
    |none=>exact .inl ((if_neg hb).trans q)
    |some u=>exact .inr (.inr ⟨_,(if_neg hb).trans (q.trans (congrArg aa (n8 q).1))⟩)
  ·by_cases hb:b=a
   ·have z':=(if_pos hb).symm.trans z;cases z';subst hb;exact⟨ha,by rw[dy];exact hl,vs,_,rv,ha⟩
   ·obtain⟨rfl,c,e⟩:=n8 ((if_neg hb).symm.trans z);exact⟨#[],(ny c b e).2.2,trivial,λpos cv h=>by cases h⟩
  ·by_cases hb:b=a
   ·exact .inl hb
   ·cases q:iY K b with
    |none=>exact absurd ((if_neg hb).trans q) z
    |some u=>exact .inr (n8 q).2
  ·obtain rfl:x = "road":=by simpa[zj]using hx
   exact(if_neg (ta c P e)).trans (Bt e)
theorem Ox{l:zS}{n k:Nat}{q:aM}{loose:List Str}{XP:(Str->Option ai)->aA->Prop}{YP:aF->aA->Prop}{d:DefRec}{K:Params->ax}{CX:aF->fG}{sp:aF->Sp}{x:Str}(hn:l.most=aa n) (hn2:n<=a_) (oW:d.params.defaults=[]) (hr:eY k qG)(hY:∀(w:aF) (h:aA),YP w h->(K w.params).In h/\Ba (K w.params) h)(F:∀(w:aF) (mg:Str->Option ai) (fa:af) (h:aA),(K w.params).In h->h.Ns bR mg->mg d.name=aa (.ref fa) -> ∃fd:gc,(∀(s:am) (u:ai),BindsTo s fd ⟨[u],[]⟩ [(x,u)]) /\ ∀base:aA,(K w.params).In base->base.Ns bR mg->jQ l.prog w (K w.params) mg base (CX w) k fa fd [x] (sp w))(gi:∀(w:aF) (H:Hp) (a:af) (ns:List Int),ns.length<=n->yX H->cc (K w.params) H a (ns.map V.int)->sp w [.ref a] H (λv _=>v=.bl ah) λ_ _ _=>False)(hCX:∀(w:aF) (H:Hp) (s:am) (e:ai) (s':am),CX w [] H s (λ_ _ _=>False) e s'->False):PySem.W.WalkO q loose XP YP l.row.toRowW d [] (λf vs=>PySem.call f vs):=by refine Att.attach_call hn oW λw s₀ s₁ mg mb fa o pm cd doc a vs ns G Y ho hd bU tU AJ AF bz hg=>?_;have KX:=(hY w _ Y).1;obtain⟨fd,hb,hF⟩:=F w mg fa _ KX G.T.g tU;exact J_ KX G.T.g G.T.b G.T.builtins G.T.nolimit G.T.bmain (hY w _ Y).2 hg AJ AF (cR bz hn2) hr hF hb (λH hO hS=>gi w H a ns bz hO hS) λH e s'=>hCX w H s₁ e s'
def iZ(s:aZ):Arguments:=match s with
 |.FunctionDef _ a _ _ _ _ _ _ _ _=>a
 |_=>{posonlyargs:=[],args:=[],vararg:=ae,kwonlyargs:=[],kw_defaults:=[],kwarg:=ae,defaults:=[]}
def fB(s:aZ):List aZ:=match s with
 |.FunctionDef _ _ b _ _ _ _ _ _ _=>b
 |_=>[]
def aW(s:aZ):dX:=match s with
 |.FunctionDef _ _ _ _ _ _ sc _ _ _=>sc
 |_=>{kind:=.function,names:=[],isGenerator:=aj,isCoroutine:=aj}
abbrev xW:fG:=λ_ _ _ _ _ _=>False
abbrev E0:XK:=λ_ _ _=>False
structure nV(K:ax)(x qual:Str)(st:aZ)(f:af)(fd:gc):Prop where
 ex:∃(oc:ai) (od:Option af) (kV doc pm:ai) (an:Option af) (aJ ct:ai) (osl:Array (Option ai)),
  fd=hU x qual (iZ st) (fB st) (aW st) .none kV doc pm an aJ ct/\K.lookup f=aa ⟨oc,od,.func fd,osl⟩/\sW K aJ qual=ah
 kp:oE K (.ref f)=ah
section
variable{P:aM}{w:aF}{K:ax}{mg:Str->Option ai}{base:aA}
theorem nV.binds{x qual:Str}{st:aZ}{f:af}{fd:gc}{ps:List Str}(F:nV K x qual st f fd)(h:∀(kV doc pm:ai) (an:Option af) (aJ ct:ai) (us:List ai),us.length=ps.length->fC (hU x qual (iZ st) (fB st) (aW st) .none kV doc pm an aJ ct) ⟨us,[]⟩=pure (ps.zip us)):Binds K fd ps []:=by obtain⟨oc,od,kV,doc,pm,an,aJ,ct,osl,rfl,lk,bU⟩:=F.ex;exact .all (h kV doc pm an aJ ct)
theorem Dv{x qual:Str}{st:aZ}{f:af}{oc:ai}{od an:Option af}{osl:Array (Option ai)}{kV doc pm aJ ct:ai}(l:K.lookup f=aa ⟨oc,od,.func (hU x qual (iZ st) (fB st) (aW st) .none kV doc pm an aJ ct),osl⟩)(c:sW K aJ qual=ah) (k:oE K (.ref f)=ah):nV K x qual st f (hU x qual (iZ st) (fB st) (aW st) .none kV doc pm an aJ ct):=⟨⟨oc,od,kV,doc,pm,an,aJ,ct,osl,rfl,l,c⟩,k⟩
end
theorem Lv{n:Nat}(h:n<=1000):n<a_:=oI h (by decide)
section
variable{X:Cx}
theorem pv(i:Nat){x:Str}{pos:Pos}(hN:X.N[i]?=aa x:=by rfl)(hv:fH X.env.scope x:=by first|exact Or.inl rfl|exact Or.inr (Or.inl rfl)|exact Or.inr (Or.inr rfl))(hd:(x == ("__debug__" : Str))=aj:=by decide)(bU:(x == ("__classdict__" : Str))=aj:=by decide):PE X (.Name x pos) (DY i):=gU hN hv hd bU
end
theorem pH{A B:Prop}(h:B):if aj=ah then A else B:=by rw[if_neg eT];exact h
theorem pZ{A B:Prop}(h:A):if ah=ah then A else B:=by rw[if_pos rfl];exact h
def Same(H H':Hp):Prop:=∀b o,H b=aa o->H' b=aa o
theorem Same.refl(H:Hp):Same H H:=λ_ _ h=>h
theorem Same.trans{H H1 H2:Hp}(a:Same H H1)(b:Same H1 H2):Same H H2:=λc o h=>b c o (a c o h)
theorem Same.free{H H':Hp}(e:Same H H'){l:af}(h:H' l=Option.none):H l=Option.none:=by
 cases q:H l with
 |none=>rfl
 |some o=>
  rw[e l o q]at h;cases h
end L2
set_option maxHeartbeats 4000000
namespace L2
def gv(env:Env):List (Str×fO)->List (Str×af)->List (Str×af)
 |[],cs=>cs
 | (n,k)::r,cs=>if k == .free then gv env r ((n,(env.cells.lookup n).getD 0)::cs)else gv env r cs
theorem My{env:Env}{y:Str}{c:af}(names:List (Str×fO))(cs:List (Str×af))(hh:∀x∈names,x.2=.free->∃c,env.cells.lookup x.1=aa c)(h:(gv env names cs).lookup y=aa c):cs.lookup y=aa c\/env.cells.lookup y=aa c:=by
 induction names generalizing cs with
 |nil=>exact .inl h
 |cons a r ih=>
  obtain⟨n,k⟩:=a;unfold gv at h;have hr:∀x∈r,x.2=.free->∃c,env.cells.lookup x.1=aa c:=λx hx=>hh x (dN _ hx);split at h
  ·rename_i hk;obtain⟨c',eC⟩:=hh (n,k) (eN ..) (by simpa using hk);rcases ih _ hr h with q|q
   ·rw[jF]at q;split at q
    ·rename_i hb;have e:y=n:=by simpa using hb
     subst e;rw[eC]at q;exact .inr (by rw[eC];exact q)
    ·exact .inl q
   ·exact .inr q
  ·exact ih _ hr h
theorem Do{α:Type}{n:Str}{v:α}{l:List (Str×α)}:((n,v)::l).lookup n=aa v:=by rw[jF];simp
theorem CL{α:Type}{n y:Str}{v:α}{l:List (Str×α)}(h:∃c,l.lookup y=aa c):∃c,((n,v)::l).lookup y=aa c:=by
 rw[jF];split
 ·exact⟨_,rfl⟩
 ·exact h
theorem yH{env:Env}{y:Str}:∀(names:List (Str×fO)) (cs:List (Str×af)),(∃c,cs.lookup y=aa c)->∃c,(gv env names cs).lookup y=aa c
 |[],cs,h=>h
 | (n,k)::r,cs,h=>by
  unfold gv;split
  ·exact yH r _ (CL h)
  ·exact yH r _ h
theorem xh{env:Env}{y:Str}:∀(names:List (Str×fO)) (cs:List (Str×af)),(∃x∈names,x.1=y/\x.2=.free)->∃c,(gv env names cs).lookup y=aa c
 |[],cs,⟨_,h,_⟩=>by simp at h
 | (n,k)::r,cs,⟨x,hx,e1,e2⟩=>by
  unfold gv;rcases bG.mp hx with e|hx
  ·subst e;simp only at e1 e2;subst e1 e2;simp only[beq_self_eq_true,if_true];exact yH r _ ⟨_,Do⟩
  ·split
   ·exact xh r _ ⟨x,hx,e1,e2⟩
   ·exact xh r _ ⟨x,hx,e1,e2⟩
theorem yU{env:Env}:∀(names:List (Str×fO)) (cs:List (Str×af)),(∀x∈names,x.2=.free->∃c,env.cells.lookup x.1=aa c) -> (forIn (m:=Sem) names cs λx r=>match x with | (name,kind)=>if(kind == NameKind.free)=ah then do let c ←cellOf env name;pure (ForInStep.yield ((name,c)::r))else pure (ForInStep.yield r))=pure (gv env names cs)
 |[],cs,_=>rfl
 | (n,k)::r,cs,h=>by
  have hr:∀x∈r,x.2=.free->∃c,env.cells.lookup x.1=aa c:=λx hx=>h x (dN _ hx);rw[List.forIn_cons];unfold gv;by_cases hk:(k == NameKind.free)=ah
  ·obtain⟨c,hc⟩:=h (n,k) (eN ..) (by simpa using hk);simp only[hk,if_true];have e:cellOf env n=pure c:=by unfold cellOf;rw[hc]
   rw[e];simp only[pure_bind];rw[yU r _ hr,hc];rfl
  ·simp only[hk,if_false,pure_bind];exact yU r _ hr
theorem MU{scope:dX}{env:Env}(h:∀x∈scope.names,x.2=.free->∃c,env.cells.lookup x.1=aa c):closureFor scope env=pure (gv env scope.names []):=by unfold closureFor;have q:=yU scope.names [] h;simp only[bind_pure_comp]at q ⊢;rw[q];rfl
theorem v3{n c:Nat}(h1:n+1<=c)(h2:c<n):False:=∅
theorem xm:∀(names:List (Str×fO)) (n:Nat) (a b:List (Str×af)),eU n names (a++b)=eU n names a++b
 |[],_,_,_=>rfl
 | (x,k)::r,n,a,b=>by
  unfold eU;split
  ·exact xm r (n+1) ((x,n)::a) b
  ·exact xm r n a b
theorem uL{y:Str}{c:af}:∀(names:List (Str×fO)) (n:Nat) (a:List (Str×af)),(y,c)∈eU n names a->(y,c)∈a\/(y,.cell)∈names
 |[],_,_,h=>.inl h
 | (x,k)::r,n,a,h=>by
  unfold eU at h;split at h
  ·rename_i hk;rcases uL r _ _ h with z|z
   ·rcases bG.mp z with z|z
    ·cases z;have e:k=.cell:=by simpa using hk
     subst e;exact .inr (eN ..)
    ·exact .inl z
   ·exact .inr (dN _ z)
  ·rcases uL r _ _ h with z|z
   ·exact .inl z
   ·exact .inr (dN _ z)
theorem zh{y:Str}:∀(names:List (Str×fO)) (n:Nat) (a:List (Str×af)),(∃c,a.lookup y=aa c)->∃c,(eU n names a).lookup y=aa c
 |[],_,_,h=>h
 | (x,k)::r,n,a,h=>by
  unfold eU;split
  ·exact zh r _ _ (CL h)
  ·exact zh r _ _ h
theorem wm{y:Str}:∀(names:List (Str×fO)) (n:Nat) (a:List (Str×af)),(y,.cell)∈names->∃c,(eU n names a).lookup y=aa c
 | (x,k)::r,n,a,h=>by
  unfold eU;rcases bG.mp h with e|h
  ·cases e;exact zh r _ _ ⟨_,Do⟩
  ·split
   ·exact wm r _ _ h
   ·exact wm r _ _ h
def kC(X:Cx)(scope:dX)(C:af):List (Str×af):=eU (C+1) scope.names (gv X.env scope.names [])
theorem yy(X:Cx)(scope:dX)(C:af):kC X scope C=eU (C+1) scope.names []++gv X.env scope.names []:=xm scope.names (C+1) [] _
theorem JU{M:Model}{A:aO}{E:ai->am->Prop}{s:am}{scope:dX}{globals:af}{cl:List (Str×af)}{qual:Str}{env:Env}{Q:Env->am->Prop}(hQ:Q (newEnv scope s.heap.objs.size globals (eU (s.heap.objs.size+1) scope.names cl) qual ae .none (aa env) oy) {s with heap:=pushCells (s.heap.push {cls:=.type "dict",data:=.dict #[]}) scope.names}):aq M A (newFunctionEnv scope globals cl [] qual ae .none (aa env)) Q E s:=by
 simp only[newFunctionEnv,Option.isSome_some,if_true];refine ap (wpAny_alloc ?_);refine ap (wpAny_layCells _ (λname kind cells=>by cases hkc:kind == NameKind.cell <;> simp[hkc]) _ _ _ _ ?_);rw[show({s with heap:=s.heap.push {cls:=.type "dict",data:=.dict #[]}}:am).heap.objs.size=s.heap.objs.size+1 from zT ..];refine ap ?_;rw[List.forIn_nil];exact aD (aD hQ)
theorem BL{s:am}{names:List (Str×fO)}{y:Str}{c:af}(h:(y,c)∈eU (s.heap.objs.size+1) names []):(pushCells (s.heap.push {cls:=.type "dict",data:=.dict #[]}) names).IsCell c ae/\s.heap.objs.size+1<=c/\∀z,(z,c)∈eU (s.heap.objs.size+1) names []->y=z:=by have ok:=cellsFrom_ok names (s.heap.push {cls:=.type "dict",data:=.dict #[]}) (s.heap.objs.size+1) [] ⟨λ_ _ hm=>(nomatch hm),List.Pairwise.nil⟩ (by rw[zT];exact a9 _);rw[zT]at ok;exact⟨(ok.empty y c h).1,(ok.empty y c h).2,λz hz=>name_of_addr ok.apart h hz⟩
def cO(X:Cx)(scope:dX)(N':List Str)(C:af)(s₀:am)(H₀:Hp)(ex:List af)(pn:List (af×Obj)):Cx where
 prog:=X.prog
 w:=X.w
 K:=X.K
 mg:=X.mg
 base:=X.base
 A:=X.A
 N:=N'
 s₀:=s₀
 H₀:=H₀
 env:=compEnvC scope (kC X scope C) C X.env
 outer:=X.stack
 stack:=X.stack
 ex:=ex
 fn:=λy=>scope.names.lookup y == aa .cell
 calm:=X.calm
 pn:=X.pn++pn
 xe:=λ_ _=>False
def iL(σ:St)(cap:List Nat):St:=cap.map λi=>(σ[i]?).join
structure jS(X:Cx)(scope:dX)(x:Str)(N':List Str)(cap:List Nat):Prop where
 kind:scope.kind=.function
 cells:∀y∈scope.names,y.2=.cell->scope.names.lookup y.1=aa .cell
 names:∀y∈scope.names,y.2=.local->scope.names.lookup y.1=aa .local
 loc:scope.names.lookup x=aa .local\/scope.names.lookup x=aa .cell
 free:∀y∈scope.names,y.2=.free->X.env.kindOf y.1=aa .cell\/X.env.kindOf y.1=aa .free
 nd:N'.Nodup
 hd:N'.head?=aa x
 len:N'.length=cap.length+1
 caps:∀i j y,N'[i+1]?=aa y->cap[i]?=aa j->X.N[j]?=aa y/\scope.names.lookup y=aa .free
theorem Kq{names:List (Str×fO)}{y:Str}{k:fO}(h:names.lookup y=aa k):∃x∈names,x.1=y/\x.2=k:=⟨(y,k),j7 h,rfl,rfl⟩
theorem yc{env:Env}{x:Str}:∀{names:List (Str×fO)}{k:fO}, (names.map λ(n,k)=>if(k == NameKind.free&&env.scope.kind == .function&&env.kindOf n == aa .cell)then(n,NameKind.cell)else(n,k)).lookup x=aa k -> ∃k',names.lookup x=aa k'/\(k=k'\/(k'=.free/\k=.cell))
 |[],_,h=>by simp at h
 | (n,k0)::r,k,h=>by
  change zU x ((if(k0 == NameKind.free&&env.scope.kind == .function&&env.kindOf n == aa .cell)=ah then(n,NameKind.cell)else(n,k0))::_)=_ at h;rw[jF];by_cases hc:(k0 == NameKind.free&&env.scope.kind == .function&&env.kindOf n == aa .cell)=ah
  ·rw[if_pos hc,jF]at h;split at h
   ·rename_i hb;cases h;have:k0=.free:=by simp at hc;exact hc.1.1
    exact⟨k0,rfl,.inr ⟨this,rfl⟩⟩
   ·exact yc h
  ·rw[if_neg hc,jF]at h;split at h
   ·rename_i hb;cases h;exact⟨k0,rfl,.inl rfl⟩
   ·exact yc h
theorem zk{env:Env}{x:Str}:∀{names:List (Str×fO)},names.lookup x=aa .free -> let q:=(names.map λ(n,k)=>if(k == NameKind.free&&env.scope.kind == .function&&env.kindOf n == aa .cell)then(n,NameKind.cell)else(n,k)).lookup x
  q=aa .cell\/q=aa .free
 |[],h=>by simp at h
 | (n,k0)::r,h=>by
  show zU x ((if(k0 == NameKind.free&&env.scope.kind == .function&&env.kindOf n == aa .cell)=ah then(n,NameKind.cell)else(n,k0))::_)=_\/zU x ((if(k0 == NameKind.free&&env.scope.kind == .function&&env.kindOf n == aa .cell)=ah then(n,NameKind.cell)else(n,k0))::_)=_;rw[jF]at h;by_cases hc:(k0 == NameKind.free&&env.scope.kind == .function&&env.kindOf n == aa .cell)=ah
  ·rw[if_pos hc,jF];cases hb:x == n with
   |true=>exact .inl rfl
   |false=>rw[hb]at h;exact zk h
  ·rw[if_neg hc,jF];cases hb:x == n with
   |true=>rw[hb]at h;cases h;exact .inr rfl
   |false=>rw[hb]at h;exact zk h
theorem yd{env:Env}{x:Str}:∀{names:List (Str×fO)},names.lookup x=aa .cell -> (names.map λ(n,k)=>if(k == NameKind.free&&env.scope.kind == .function&&env.kindOf n == aa .cell)then(n,NameKind.cell)else(n,k)).lookup x=aa .cell
 |[],h=>by simp at h
 | (n,k0)::r,h=>by
  show zU x ((if(k0 == NameKind.free&&env.scope.kind == .function&&env.kindOf n == aa .cell)=ah then(n,NameKind.cell)else(n,k0))::_)=_;rw[jF]at h;by_cases hc:(k0 == NameKind.free&&env.scope.kind == .function&&env.kindOf n == aa .cell)=ah
  ·rw[if_pos hc,jF];cases hb:x == n with
   |true=>rfl
   |false=>rw[hb]at h;exact yd h
  ·rw[if_neg hc,jF];cases hb:x == n with
   |true=>rw[hb]at h;cases h;rfl
   |false=>rw[hb]at h;exact yd h
section
variable{X:Cx}{ag:List (af×Obj)}{σ:St}{H:Hp}{s:am}{scope:dX}{x:Str}{N':List Str}{cap:List Nat}
theorem Inv.freeHas(I:Inv X ag σ H s)(B:jS X scope x N' cap):∀y∈scope.names,y.2=.free->∃c,X.env.cells.lookup y.1=aa c:=λy hy e=>I.ok.has y.1 (B.free y hy e)
theorem Inv.clIn(I:Inv X ag σ H s)(B:jS X scope x N' cap){y:Str}{c:af}(h:(gv X.env scope.names []).lookup y=aa c):X.env.cells.lookup y=aa c:=by
 rcases My scope.names [] (I.freeHas B) h with q|q
 ·simp at q
 ·exact q
theorem Inv.cbIn(I:Inv X ag σ H s)(B:jS X scope x N' cap){C:af}{y:Str}{c:af}(h:(kC X scope C).lookup y=aa c):((y,c)∈eU (C+1) scope.names []/\scope.names.lookup y=aa .cell)\/((gv X.env scope.names []).lookup y=aa c/\X.env.cells.lookup y=aa c):=by
 rw[yy,EK]at h;cases e:(eU (C+1) scope.names []).lookup y with
 |none=>rw[e]at h;exact .inr ⟨h,I.clIn B h⟩
 |some c'=>
  rw[e]at h;cases h;have m:=j7 e;rcases uL _ _ _ m with z|z
  ·cases z
  ·exact .inl ⟨m,B.cells _ z rfl⟩
theorem Inv.cbOld(I:Inv X ag σ H s)(B:jS X scope x N' cap){C:af}{y:Str}{c:af}(h:(gv X.env scope.names []).lookup y=aa c)(hk:scope.names.lookup y=aa .free):(kC X scope C).lookup y=aa c:=by
 rw[yy,EK];cases e:(eU (C+1) scope.names []).lookup y with
 |none=>exact h
 |some c'=>
  rcases uL _ _ _ (j7 e)with z|z
  ·cases z
  ·have:=B.cells _ z rfl;rw[hk]at this;cases this
theorem Inv.block{fp:List af}{h₁:aA}{m:Str->Option ai}{t':Nat}(hh:h₁=pushCells (s.heap.push {cls:=.type "dict",data:=.dict #[]}) scope.names)(I:Inv X ag σ H s)(B:jS X scope x N' cap)(tW:∀b∈fp,jZ X ag H b)(hfo:∀b∈fp,∃o,s.heap.get? b=aa o)(re:h₁.Ns s.heap.objs.size m)(old:∀b o,s.heap.get? b=aa o->h₁.get? b=aa o):Inv (cO X scope N' s.heap.objs.size s H fp ag) [] (ae::iL σ cap) H {s with heap:=h₁,toks:=t'}:=by
 have ltC:∀x c,X.env.cells.lookup x=aa c->c<s.heap.objs.size:=λx c e=>(I.cell x c e).elim λv q=>q.lt;have ncell:∀{y:Str}{c:af},(y,c)∈eU (s.heap.objs.size+1) scope.names []->h₁.IsCell c ae/\s.heap.objs.size+1<=c/\∀z,(z,c)∈eU (s.heap.objs.size+1) scope.names []->y=z:=λh=>by rw[hh];exact BL h
 have lk:∀y k,(compEnvC scope (kC X scope s.heap.objs.size) s.heap.objs.size X.env).kindOf y=aa k->∃k',scope.names.lookup y=aa k'/\(k=k'\/(k'=.free/\k=.cell)):=λy k h=>yc h;have fhas:∀y,scope.names.lookup y=aa .free->∃c,(gv X.env scope.names []).lookup y=aa c:=λy h=>xh scope.names [] (Kq h);have nfs:∀b∈eF X.stack,b≠s.heap.objs.size:=λb hb e=>by
  rcases bG.mp (I.stkSub b hb)with z|z
  ·exact absurd I.lt (by rw[←z,e];exact fe _)
  ·exact I.nofs (lX e.symm) z
 refine⟨⟨I.ok.mod,B.kind,I.ok.glob,I.ok.blt,a9 _,λy z c h1 h2=>?_,λy hy=>?_,λy c h tX=>?_,I.ok.hd,I.ok.frames,.inl rfl,λb hb=>?_,λb o e=>I.bs b o e,cR I.ok.bsz I.sz,λb o e hb=>?_,λb hb hf=>?_,I.stack,(λb hb=>I.stkFree b hb),I.tab⟩,rfl,I.bare,Un.kept old,⟨m,re,λi y v e1 e2 e3=>?_⟩,λy c h=>?_,I.hok.fresh (a9 _),λy c h=>?_,λp hp=>?_,I.hok.kept old,?_⟩
 ·-- inj
  rcases I.cbIn B h1 with⟨a1,a2⟩|⟨a1,a2⟩ <;> rcases I.cbIn B h2 with⟨b1,b2⟩|⟨b1,b2⟩
  ·exact(ncell a1).2.2 z b1
  ·exact(v3 (ncell a1).2.1 (ltC _ _ b2)).elim
  ·exact(v3 (ncell b1).2.1 (ltC _ _ a2)).elim
  ·exact I.ok.inj y z c a2 b2
 ·-- has
  show ∃c,(kC X scope s.heap.objs.size).lookup y=aa c;have lp:scope.names.lookup y=aa .free->∃c,(kC X scope s.heap.objs.size).lookup y=aa c:=λq=>(fhas y q).imp λc hc=>I.cbOld B hc q;rcases hy with hy|hy
  ·obtain⟨k',q,z|⟨z,_⟩⟩:=lk y _ hy
   ·subst z;exact wm _ _ _ (j7 q)
   ·subst z;exact lp q
  ·obtain⟨k',q,z|⟨_,z⟩⟩:=lk y _ hy
   ·subst z;exact lp q
   ·cases z
 ·-- cab
  have hk:scope.names.lookup y=aa .cell:=by simpa using(show(scope.names.lookup y == aa .cell)=ah from h)
  show s.heap.objs.size<=c;rcases I.cbIn B tX with⟨a1,a2⟩|⟨a1,a2⟩
  ·have:=(ncell a1).2.1;lia
  ·obtain⟨c',eC⟩:=wm (n:=s.heap.objs.size+1) (a:=[]) _ (j7 hk);have e:(kC X scope s.heap.objs.size).lookup y=aa c':=by rw[yy,EK,eC];rfl
   have e2:(kC X scope s.heap.objs.size).lookup y=aa c:=tX;rw[e]at e2;cases e2;have:=(ncell (j7 eC)).2.1;lia
 ·-- exf
  obtain⟨f0,f1,f2,f3,f4,f5⟩:=tW b hb;obtain⟨o,ho⟩:=hfo b hb;refine⟨λe=>absurd (bu ho) (by rw[e];exact fe _),λy c h=>?_⟩;rcases I.cbIn B h with⟨a1,a2⟩|⟨a1,a2⟩
  ·rintro rfl;exact v3 (ncell a1).2.1 (bu ho)
  ·exact f4 y c a2
 ·-- noex
  obtain⟨f0,f1,f2,f3,f4,f5⟩:=tW b hb;rcases f3 with z|z
  ·exact I.ok.noex b o e z
  ·exact absurd (fN (bu e) (cR I.ok.bsz z)) (fe _)
 ·-- exfs
  obtain⟨f0,f1,f2,f3,f4,f5⟩:=tW b hb;rcases bG.mp (I.stkSub b hf)with z|z
  ·exact f1 z
  ·exact f2 z
 ·-- loc
  cases i with
  |zero=>simp at e2
  |succ i=>
   have kh:(iL σ cap)[i]?=aa (aa v):=by simpa using e2
   unfold iL at kh;rw[jD]at kh;cases hj:cap[i]? with
   |none=>rw[hj]at kh;cases kh
   |some j=>
    rw[hj]at kh;have e4:(σ[j]?).join=aa v:=dW kh;have e5:σ[j]?=aa (aa v):=by
     cases hq:σ[j]? with
     |none=>rw[hq]at e4;cases e4
     |some o=>rw[hq]at e4;exact congrArg aa e4
    obtain⟨b1,b2⟩:=B.caps i j y e1 hj;obtain⟨mm,hn,hl⟩:=I.loc;have tO:=B.free _ (j7 b2) rfl;have vis:fH X.env.scope y:=by
     rcases tO with z|z
     ·exact .inr (.inl z)
     ·exact .inr (.inr z)
    obtain⟨u,r,l⟩:=hl j y v b1 e5 vis;refine⟨u,r,.inr ⟨zk b2,?_⟩⟩;rcases l with⟨l,_⟩|⟨_,c,hc,wV⟩
    ·rcases tO with z|z
     ·rw[l]at z;cases z
     ·rw[l]at z;cases z
    ·obtain⟨c',eC⟩:=fhas y b2;have e6:=I.clIn B eC;rw[hc]at e6;cases e6;obtain⟨oo,ho,hd⟩:=wV;exact⟨c,I.cbOld B eC b2,oo,old c oo ho,hd⟩
 ·rcases I.cbIn B h with⟨a1,a2⟩|⟨a1,a2⟩
  ·exact⟨ae,(ncell a1).1⟩
  ·obtain⟨v,oo,ho,hd⟩:=I.cell y c a2;exact⟨v,oo,old c oo ho,hd⟩
 ·rcases I.cbIn B h with⟨a1,a2⟩|⟨a1,a2⟩
  ·exact I.hok.fresh (cR (s_ _) (ncell a1).2.1)
  ·exact I.freeC y c a2
 ·have c7:p∈X.pn++ag:=by simpa[cO]using hp
  obtain⟨e,n,ne,nf,d⟩:=I.pin p c7;refine⟨old _ _ e,n,cQ (bu e),λhf=>?_,d⟩;rcases bG.mp (I.stkSub p.1 hf)with z|z
  ·exact ne z
  ·exact nf z
 ·show(ae::iL σ cap).length=N'.length;rw[B.len];simp[iL]
end
def sr(X:Cx)(ifs:List aB)(t:TT):Prop :=
 ∀(ag:List (af×Obj)) (s:am) (σ:St) (H:Hp) (Q:Bool->Hp->Prop),Inv X ag σ H s->t σ H Q ->
  aq (aw X.prog X.w) X.A (forIn ifs ah λc r=>if r=ah then do let ok ←lT c X.env (aU c X.env);pure (ForInStep.yield ok)else pure (ForInStep.yield r)) (TP X ag σ Q) X.xe s
theorem Ig{P:aM}{w:aF}{A:aO}{R:Result->am->Prop}{s:am}{elt tg iter:aB}{ifs:List aB}{scope:dX}{pos:Pos}{it aH:ai}{env:Env}(J:Nat->am->Prop)(turn:∀k s1,J k s1->aq (aw P w) A (pyNext it) (λr s2=>match r with
   |none=>R (.ok .next) s2
   |some v=>aq (aw P w) A (zG tg it v) (λ_ s3=>aq (aw P w) A (mS tg env v) (λ_ s4=>aq (aw P w) A (forIn ifs ah λc r=>if r=ah then do let ok ←lT c env (aU c env);pure (ForInStep.yield ok)else pure (ForInStep.yield r)) (λb s5=>if b=ah then aq (aw P w) A (aU elt env) (λy s6=>aq (aw P w) A (call (.builtin "list.append") [aH,y]) (λ_ s7=>∃j,j<k/\J j s7) (λ_ _=>False) s6) (λ_ _=>False) s5 else ∃j,j<k/\J j s5) (λ_ _=>False) s4) (λ_ _=>False) s3) (λ_ _=>False) s2) (λ_ _=>False) s1) (k:Nat) (h:J k s) :
  k7 (aw P w) A (.compLoop (.ListComp elt [⟨tg,iter,ifs,0⟩] scope pos) 0 it aH env) R s:=by
 refine codeAny_loop rfl J (λj s1 hJ=>?_) k h;show aq _ A (Sem.onRaise (compTurn (.ListComp elt [⟨tg,iter,ifs,0⟩] scope pos) 0 it aH env) (λx=>do noteFrame x env;theTreesLotGoes x)) _ _ s1;refine wpAny_noted ?_;rw[compTurn_list];have no:∀(E':ai->am->Prop) (a:ai) (b:am),False->E' a b:=λ_ _ _ f=>f.elim;refine ap (wpAny_standAt (ap (dY (turn j s1 hJ) (λr s2 h2=>?_) (no _))));cases r with
 |none=>exact aD h2
 |some v=>
  refine ap (dY h2 (λ_ s3 h3=>ap (dY h3 (λ_ s4 h4=>ap (dY h4 (λb s5 h5=>?_) (no _))) (no _))) (no _));cases b with
  |true=>exact ap (ap (dY h5 (λy s6 h6=>ap (dY h6 (λ_ s7 h7=>aD (aD ⟨rfl,h7⟩)) (no _))) (no _)))
  |false=>exact aD ⟨rfl,h5⟩
def HE:TT:=λ_ H Q=>Q ah H
theorem IV{X:Cx}:sr X [] HE:=λ_ _ _ H _ I h=>wpAny_tests_nil ⟨H,I,h⟩
theorem NE{X:Cx}{c:aB}{t:TT}(h:PT X c t):sr X [c] t:=λag s σ H Q I hw=>wpAny_tests_one (h ag s σ H Q I hw)
def we(wi:TI)(ts:TT)(te:TE)(cap:List Nat):TE:=λσ H Q=>wi σ H λJ H1=>∀l,H1 l=ae->∃W:Nat->Nat->List V->Hp->Prop,(∃m,W 0 m [] (upd H1 l (.lst [])))/\∀i m ys H,W i m ys H ->
 (J.stop i H/\Q (.ref l) H)\/(J.go i H/\∀v H',J.yld i H v H'->ts (aa v::iL σ cap) H' λb H2=>if b=ah then te (aa v::iL σ cap) H2 λy H3=>H3 l=aa (.lst ys)/\ys.length<a_/\∃m',m'<m/\W (i+1) m' (ys++[y]) (upd H3 l (.lst (ys++[y]))) else ∃m',m'<m/\W (i+1) m' ys H2)
section
variable{X:Cx}{ag:List (af×Obj)}{σ:St}{H:Hp}{s:am}{scope:dX}{x:Str}{N':List Str}{cap:List Nat}
theorem Inv.unblock{fp:List af}{H':Hp}{σ':St}{s':am}{lq:aA}(I:Inv X ag σ H s)(tW:∀b∈fp,jZ X ag H b)(I':Inv (cO X scope N' s.heap.objs.size s H fp ag) [] σ' H' s') (sb:jC s.heap.objs.size s'.heap lq):Inv X ag σ H' {s' with heap:=lq}:=by
 have k:∀b o,b≠s.heap.objs.size->s'.heap.get? b=aa o->lq.get? b=aa o:=λb o hb e=>(sb.2 b hb).trans e;have nC:∀b o,s.heap.get? b=aa o->b≠s.heap.objs.size:=λb o e=>cQ (bu e);have un:Un (eF X.stack) fp H H' s.heap lq:=by
  refine⟨λb o e n hb hx=>k b o (nC b o e) (I'.base.keep b o e n hb hx),λb o e n hb hx=>?_,λb o e n hx=>I'.base.free b o e n hx,λb o e hx=>?_,I'.base.tups,I'.base.frzs,I'.base.tbls⟩
  ·obtain⟨sl,q⟩:=I'.base.slot b o e n hb hx;exact⟨sl,k b _ (nC b o e) q⟩
  ·obtain⟨o',q⟩:=I'.base.there b o e hx;exact⟨o',k b o' (nC b o e) q⟩
 have hok:cI X.prog X.w H' lq:=λb u e=>by
  have hCn:H' s.heap.objs.size=ae:=I'.free;refine(I'.hok b u e).stay (λc v hc q=>k c v ?_ q) (λ_ q=>q) λ_ _ q=>q;rintro rfl;rcases hc with z|z
  ·rw[←z,hCn]at e;cases e
  ·rw[hCn]at z;cases z
 refine I.call' (s':={s' with heap:=lq}) (ch:=fp) I'.os un hok I'.bare λb hb=>?_;obtain⟨f0,f1,f2,f3,f4,f5⟩:=tW b hb;exact⟨f3,f1,f4,f5⟩
theorem Dz{elt iter:aB}{px pos pos':Pos}{ifs:List aB}{wi:TI}{ts:TT}{te:TE}{use:Option (ai->Sem Unit)}{Q:ai->am->Prop}{Qp:VK}(B:jS X scope x N' cap)(hc:X.calm=ah)(hi:PI X (.Name x px) iter wi)(ht:∀C s₀ H₀ ex pn,sr (cO X scope N' C s₀ H₀ ex pn) ifs ts) (he:∀C s₀ H₀ ex pn,PE (cO X scope N' C s₀ H₀ ex pn) elt te) (hs:∀x,qu iter X.env x=pure x) (I:Inv X ag σ H s) (h:we wi ts te cap σ H Qp)(fin:∀{s3 s6:am}{H3 H5:Hp}{fp σ5 a f},Inv X ag σ H3 s3->(∀b∈fp,jZ X ag H3 b)->Inv (cO X scope N' s3.heap.objs.size s3 H3 fp ag) [] σ5 H5 s6->Qp (.ref a) H5->compPost (aw X.prog X.w) X.A X.xe use Q (.ref a) s3.heap.objs.size (.ok f) s6):aq (aw X.prog X.w) X.A (comprehension (.ListComp elt [⟨.Name x px,iter,ifs,0⟩] scope pos) scope X.env pos' (newList []) aj (aU iter X.env) use) Q X.xe s:=by
 refine wpAny_comprehension_free (use:=use) rfl hs (MU (I.freeHas B)) B.kind B.names (aV (hi ag s σ H _ I h) λv s1 h1=>aV h1 λitv s2 h2=>?_);obtain⟨it,fp,tn,J,H2,e,I2,T,aX,f2,h2⟩:=h2;subst e;refine lW ?_;have I3:Inv X ag σ (upd H2 s2.heap.objs.size (.lst [])) {s2 with heap:=s2.heap.push {cls:=.type "list",data:=.seq ([]:List ai).toArray},toks:=s2.toks}:=I2.lnew (its:=[]) (t':=s2.toks) .nil (k_ _);obtain⟨W,⟨m0,w0⟩,turn⟩:=h2 s2.heap.objs.size I2.fresh;generalize nz:({s2 with heap:=s2.heap.push {cls:=.type "list",data:=.seq ([]:List ai).toArray},toks:=s2.toks}:am)=s3 at I3;have hs3':({s2 with heap:=s2.heap.push {cls:=.type "list",data:=.seq ([]:List ai).toArray}}:am)=s3:=nz;generalize hH3:upd H2 s2.heap.objs.size (.lst [])=H3 at I3 w0;have nl:∀b∈fp,b≠s2.heap.objs.size:=λb hb e=>by obtain⟨o,ho,_⟩:=T.obj _ _ aX b hb;exact absurd (bu ho) (by rw[e];exact fe _)
 have k3:∀b o,s2.heap.get? b=aa o->s3.heap.get? b=aa o:=λb o e=>by rw[←nz];exact bH _ e
 have f3:∀b∈fp,jZ X ag H3 b:=λb hb=>⟨by rw[←hH3,b7 (nl b hb)];exact(f2 b hb).1,(f2 b hb).2⟩
 have bq:tn 0 s3.heap:=T.keep _ _ _ aX λb _ o e=>k3 b o e;have fo3:∀b∈fp,∃o,s3.heap.get? b=aa o:=λb hb=>(T.obj _ _ bq b hb).imp λo q=>q.1;refine JU ?_;generalize hh:pushCells (s3.heap.push {cls:=.type "dict",data:=.dict #[]}) scope.names=h₁;have old:∀b o,s3.heap.get? b=aa o->h₁.get? b=aa o:=λb o e=>hh ▸ pushCells_keeps _ _ b o (bH _ e);have re:h₁.Ns s3.heap.objs.size (λ_=>ae):=hh ▸ (Heap.Ns.new s3.heap (.type "dict")).keeps (pushCells_keeps _ _);have I4:=Inv.block (t':=s3.toks) hh.symm I3 B f3 fo3 re old;have bI:tn 0 h₁:=T.keep _ _ _ bq λb _ o e=>old b o e;have statB:∀{H':Hp},(∀b∈fp,H' b=ae)->∀b∈fp,jZ (cO X scope N' s3.heap.objs.size s3 H3 fp ag) [] H' b:=λhn b hb=>by
  obtain⟨f0,f1,f2',f3',f4,f5⟩:=f3 b hb;refine⟨hn b hb,λe=>?_,λhf=>?_,.inl hb,λy c h=>?_,λp hp=>f5 p (by simpa[cO]using hp)⟩
  ·obtain⟨o,ho⟩:=fo3 b hb;exact absurd (bu ho) (by rw[show b=s3.heap.objs.size from e];exact fe _)
  ·rcases bG.mp (I3.stkSub b hf)with z|z
   ·exact f1 z
   ·exact f2' z
  ·rcases I3.cbIn B h with⟨a1,a2⟩|⟨a1,a2⟩
   ·rintro rfl;obtain⟨o,ho⟩:=fo3 _ hb;exact v3 (BL a1).2.1 (bu ho)
   ·exact f4 y c a2
 have N2:Loc (cO X scope N' s3.heap.objs.size s3 H3 fp ag).env.scope x:=B.loc.elim (λh=>.inl (lookup_relabel_local h)) (λh=>.inr (yd h));have hfnx:(cO X scope N' s3.heap.objs.size s3 H3 fp ag).fn x=ah\/(cO X scope N' s3.heap.objs.size s3 H3 fp ag).env.scope.names.lookup x=aa .local:=B.loc.elim (λh=>.inr (lookup_relabel_local h)) (λh=>.inl (by show(scope.names.lookup x == aa .cell)=ah;rw[h];rfl));have hN0:(cO X scope N' s3.heap.objs.size s3 H3 fp ag).N[0]?=aa x:=by show N'[0]?=aa x;rw[←List.head?_eq_getElem?];exact B.hd
 have loop:k7 (aw X.prog X.w) X.A (.compLoop (.ListComp elt [⟨.Name x px,iter,ifs,0⟩] scope pos) 0 (.ref it) (.ref s2.heap.objs.size) (compEnvC scope (kC X scope s3.heap.objs.size) s3.heap.objs.size X.env))
   (compPost (aw X.prog X.w) X.A X.xe use Q (.ref s2.heap.objs.size) s3.heap.objs.size) {s3 with heap:=h₁,toks:=s3.toks}:=by
  refine Ig (λn s'=>∃i ys σ' H',(∃v0,σ'=v0::iL σ cap)/\Inv (cO X scope N' s3.heap.objs.size s3 H3 fp ag) [] σ' H' s'/\tn i s'.heap/\(∀b∈fp,H' b=ae)/\W i n ys H') ?_ m0
   ⟨0,[],_,H3,⟨ae,rfl⟩,I4,bI,λb hb=>(f3 b hb).1,w0⟩
  rintro n s5 ⟨i,ys,σ5,H5,⟨v0,rfl⟩,I5,bY,fr5,w5⟩;rcases turn i n ys H5 w5 with⟨stop,q⟩|⟨go,step⟩
  ·refine dY (T.done (cO X scope N' s3.heap.objs.size s3 H3 fp ag) rfl rfl rfl hc i [] s5 _ H5 (λ_ _=>False) I5 (statB fr5) bY stop) (λr s6 ⟨hr,I6⟩=>?_) (λ_ _ f=>f.elim);subst hr;exact fin I3 f3 I6 q
  ·refine dY (T.item (cO X scope N' s3.heap.objs.size s3 H3 fp ag) rfl rfl rfl hc i [] s5 _ H5 (λ_ _=>False) I5 (statB fr5) bY go) (λr s6 ⟨u,hr,h6⟩=>?_) (λ_ _ f=>f.elim);subst hr;refine dY h6 (λ_ s7 ⟨v,H7,I7,r7,y7,st7,fr7⟩=>?_) (λ_ _ f=>f.elim);have I7':=I7.pinned (statB fr7) (T.obj _ _ st7);have back:∀{σ8:St}{H8:Hp}{s8:am},Inv (cO X scope N' s3.heap.objs.size s3 H3 fp ag) ([]++sD fp s7.heap) σ8 H8 s8->tn (i+1) s8.heap/\(∀b∈fp,H8 b=ae):=λ{σ8 H8 s8} I8=>⟨T.keep _ _ _ st7 λb hb o e=>(I8.pin (b,o) (k6 _ (k6 _ (vF hb e)))).1,λb hb=>by obtain⟨o,e,d⟩:=T.obj _ _ st7 b hb;exact(I8.pin (b,o) (k6 _ (k6 _ (vF hb e)))).2.1⟩
   refine Ew (sw (v:=v) I7' B.nd hN0 N2 r7 (λs8 I8=>?_) hfnx);refine aV (ht _ _ _ _ _ _ s8 _ H7 _ I8 (step v H7 y7)) λb s9 ⟨H9,I9,q9⟩=>?_;cases b with
   |false=>
    obtain⟨m',hm,w9⟩:=(show ∃m',m'<n/\W (i+1) m' ys H9 from q9)
    exact⟨m',hm,i+1,ys,_,H9,⟨aa v,rfl⟩,I9.unpinned,(back I9).1,(back I9).2,w9⟩
   |true=>refine aV (he _ _ _ _ _ _ s9 _ H9 _ I9 q9) λu10 s10 ⟨y,H10,I10,r10,hl10,hz10,m',hm,w10⟩=>?_;refine aV (CS _ s10 _ H10 (.ref s2.heap.objs.size) [y] _ [u10] (λz H11=>H11=upd H10 s2.heap.objs.size (.lst (ys++[y]))) I10 rfl (.cons r10 .nil) ⟨_,ys,y,rfl,rfl,hl10,hz10,rfl⟩) λ_ s11 ⟨_,H11,I11,_,e11⟩=>?_;subst e11;exact⟨m',hm,i+1,ys++[y],_,_,⟨aa v,rfl⟩,I11.unpinned,(back I11).1,(back I11).2,w10⟩
 exact codeAny_compStart_list loop (T.self _ 0 _ _ _ bI loop)
theorem JB{elt iter:aB}{px pos:Pos}{ifs:List aB}{wi:TI}{ts:TT}{te:TE}(B:jS X scope x N' cap)(hc:X.calm=ah)(hi:PI X (.Name x px) iter wi)(ht:∀C s₀ H₀ ex pn,sr (cO X scope N' C s₀ H₀ ex pn) ifs ts) (he:∀C s₀ H₀ ex pn,PE (cO X scope N' C s₀ H₀ ex pn) elt te) (hs:∀x,qu iter X.env x=pure x:=by intro _;rfl):PE X (.ListComp elt [⟨.Name x px,iter,ifs,0⟩] scope pos) (we wi ts te cap):=by intro ag s σ H Q I h;rw[eval_ListComp];exact Dz (use:=ae) B hc hi ht he hs I h λI3 f3 I6 q=>by obtain⟨mm,hn6,_⟩:=I6.loc;exact⟨mm,hn6,λlq sb=>⟨.ref _,_,I3.unblock f3 I6 sb,rfl,q⟩⟩
end
def Walk(J:It)(xs:List V)(R:Hp->Prop):Prop :=
 ∀H,R H->∀i,(∀x,xs[i]?=aa x->J.go i H/\∀y H',J.yld i H y H'->H'=H/\y=x)/\(i=xs.length->J.stop i H)
theorem Kf{K:ax}{a:af}{xs:List V}:Walk (xz K a) xs (λH=>cc K H a xs):=λH h i=>⟨λx hx=>⟨⟨xs,x,h,hx⟩,λy H' z=>⟨z.1,by have:=z.2 xs h;rw[hx]at this;exact(dW this).symm⟩⟩,λhi=>⟨xs,h,lX hi.symm⟩⟩
theorem Gj{K:ax}{a:af}{xs:List V}:Walk (yJ K a) xs (λH=>cD K H a xs):=λH h i=>⟨λx hx=>⟨⟨xs,x,h,hx⟩,λy H' z=>⟨z.1,by have:=z.2 xs h;rw[hx]at this;exact(dW this).symm⟩⟩,λhi=>⟨xs,h,lX hi.symm⟩⟩
def pN(lo:Int)(n:Nat):List V:=(bX n).map λi=>V.int (lo+(i:Nat))
theorem xJ(lo:Int)(n:Nat):(pN lo n).length=n:=by simp[pN]
theorem IY{lo:Int}{n:Nat}:Walk (vm lo n) (pN lo n) (λ_=>True):=λH _ i=>by
 refine⟨λx hx=>?_,λhi=>by rw[xJ]at hi;exact lX hi.symm⟩;have ba:i<n:=by have:=(df.mp hx).1;rw[xJ]at this;exact this
 refine⟨ba,λy H' z=>⟨z.1,?_⟩⟩;unfold pN at hx;rw[jD,wu ba]at hx;have rg:V.int (lo+(i:Nat))=x:=dW hx;rw[z.2,←rg]
def sg(c:Nat):V:=.str ⟨#[c]⟩
def sM(z:Str):It:=⟨λi _=>i<z.cps.size,λi H x H'=>H'=H/\∃c,z.cps[i]?=aa c/\x=sg c,λi _=>i=z.cps.size⟩
theorem KW{z:Str}:Walk (sM z) (z.cps.toList.map sg) (λ_=>True):=λH _ i=>by
 refine⟨λx hx=>?_,λhi=>by show i=z.cps.size;simpa using hi⟩;rw[jD]at hx;cases e:z.cps.toList[i]? with
 |none=>rw[e]at hx;cases hx
 |some c=>
  rw[e]at hx;have ba:i<z.cps.size:=by have:=(df.mp e).1;simpa using this
  refine⟨ba,λy H' w=>⟨w.1,?_⟩⟩;obtain⟨c',e',rfl⟩:=w.2;have:z.cps[i]?=aa c:=by simpa using e
  rw[this]at e';cases e';exact(dW hx)
section
variable{X:Cx}{tg:aB}
theorem LV{P:aM}{w:aF}{K:ax}{z:Str}{it:af}{St':Nat->aA->Prop} (nv:∀i h,St' i h->∃o n vs,h.get? it=aa o/\o.cls=.type n/\o.data=.fields vs /\ ["enumerate","zip","dict_itemiterator","dict_reverseitemiterator","odict_iterator","itertools.zip_longest","itertools.pairwise"].contains n=aj)(N3:∀(A:aO) (i:Nat) (s:am) (Q:ai->am->Prop) (E:ai->am->Prop),St' i s.heap->Q (.ref it) s->aq (aw P w) A (mT (.ref it)) Q E s)(hW:∀A:aO,A.handled=ae->Walks P w A it [it] [it] z.cps.size (SignAt z) St'):rY P w K tg (sM z) [it] it St' where
 mem:=by simp
 obj:=λi h st b hb=>by
  have e:b=it:=by simpa using hb
  subst e;obtain⟨o,n,vs,h1,_,h3,_⟩:=nv i h st;exact⟨o,h1,λv q=>by rw[h3]at q;cases q⟩
 keep:=λi h h' st k=>by exact(hW ({}:aO) rfl).frame i h h' st k
 item:=by intro X hP hw hK hc i ag s σ H E I hf st hg;subst hP hw hK;obtain⟨f0,f1,f2,f3,f4,f5⟩:=hf it (by simp);refine(hW X.A (I.ok.hd hc)).item i s _ _ hg st λv h' tk hv az k=>?_;have I1:Inv X ag σ H {s with heap:=h',toks:=tk}:=I.turned (t':=tk) (λb o hb e=>k b o (by simpa using hb) e) f0 f1 f3 f4 f5;obtain⟨o,n,vs,h1,h2,h3,h4⟩:=nv _ _ az;obtain⟨c,u,e1,rfl⟩:=hv;exact⟨_,rfl,uF (s:={s with heap:=h',toks:=tk}) h1 h2 h3 h4 ⟨sg c,H,I1,⟨u,rfl⟩,⟨rfl,c,e1,rfl⟩,az,λb hb=>(hf b hb).1⟩⟩
 done:=by intro X hP hw hK hc i ag s σ H E I hf st hg;subst hP hw hK;obtain⟨f0,f1,f2,f3,f4,f5⟩:=hf it (by simp);have ki:i=z.cps.size:=hg;subst ki;exact(hW X.A (I.ok.hd hc)).done s _ _ st λh' tk k=>⟨rfl,I.turned (t':=tk) (λb o hb e=>k b o (by simpa using hb) e) f0 f1 f3 f4 f5⟩
 self:=N3
theorem Ll{J:It}{xs:List V}{R:Hp->Prop}{g:TG}{tb:TS}{D:jU}{σ:St}{H:Hp}(hJ:Walk J xs R)(Pv:Nat->St->Hp->Prop)(h0:Pv 0 σ H)(hl:∀i σ H,i<=xs.length->Pv i σ H->R H)(hs:∀i x σ H,xs[i]?=aa x->Pv i σ H->g x σ H λσ2 H2=>tb {D with nx:=Pv (i+1),ct:=Pv (i+1),bk:=D.nx} σ2 H2) (hd:∀σ H,Pv xs.length σ H->D.nx σ H):∃W:Nat->Nat->St->Hp->Prop,(∃m,W 0 m σ H)/\∀i m σ H,W i m σ H -> (J.stop i H/\D.nx σ H)\/(J.go i H/\∃N:St->Hp->Prop,(∀σ' H',N σ' H'->∃m',m'<m/\W (i+1) m' σ' H')/\∀x H',J.yld i H x H'->g x σ H' λσ2 H2=>tb {D with nx:=N,ct:=N,bk:=D.nx} σ2 H2):=by
 refine⟨λi m σ H=>m=xs.length-i/\i<=xs.length/\Pv i σ H,⟨xs.length,by simp,k_ _,h0⟩,?_⟩;rintro i m σ H ⟨rfl,hi,p⟩;have q:=hJ H (hl i σ H hi p) i;by_cases ba:i<xs.length
 ·have hx:xs[i]?=aa xs[i]:=by simp[ba]
  obtain⟨go,yl⟩:=q.1 xs[i] hx;refine .inr ⟨go,Pv (i+1),λσ' H' p'=>⟨xs.length-(i+1),∅,rfl,ba,p'⟩,λx H' y=>?_⟩;obtain⟨rfl,rfl⟩:=yl x H' y;exact hs i _ σ _ hx p
 ·have e:i=xs.length:=∅
  subst e;exact .inl ⟨q.2 rfl,hd σ H p⟩
theorem M9{α:Type}(l:List α)(f:α->Bool)(d:Nat->Bool)(hd:∀i x,l[i]?=aa x->d i=f x):(bX l.length).all d=l.all f:=by
 induction l generalizing d with
 |nil=>rfl
 |cons x r ih=>rw[fg,zV,qy,wv,qy,hd 0 x rfl];congr 1;exact ih _ λi y h=>hd (i+1) y (by simpa using h)
theorem Nq{bs:List Bool}{us:List ai}(r:bj (bs.map V.bl) us){i:Nat}{v:ai}(h:us.toArray[i]?=aa v):v=.bool (bs.getD i aj):=by
 have hl:=r.length;rw[dy]at hl;have hi:i<us.length:=by have:=(lc.mp h).1;simpa using this
 have e:(bs.map V.bl)[i]?=aa (.bl (bs.getD i aj)):=by rw[jD,d7 ∅];simp[List.getD,d7 (show i<bs.length by lia)]
 obtain⟨u,e1,e2⟩:=r.get e;have:us[i]?=aa v:=by simpa using h
 rw[this]at e1;cases e1;exact e2
theorem uz{A:aO}(h:A.handled=ae):A.in1.handled=ae:=h
theorem y_(hc:X.calm=ah):et X (.builtin "all") (λxs H Q=>∃(p:af) (bs:List Bool),xs=[.ref p]/\cc X.K H p (bs.map V.bl)/\Q (.bl (bs.all id)) H):=by
 intro ag s σ H xs us Q I r h;obtain⟨p,bs,rfl,hq,q⟩:=h;obtain⟨u,rfl,ru⟩:=vals1 r;cases ru;obtain⟨its,rv,pl,hz⟩:=I.list hq;have hl:=rv.length;rw[dy]at hl;refine call_all_walk (EL pl.isList ?_);have dq:p≠s.heap.objs.size:=by obtain⟨o,ho,_⟩:=pl.isList;exact cQ (bu ho)
 refine⟨s.heap.objs.size,_,_,_,_,_,λi=>bs.getD i aj,rfl,Walks.list (uz (I.ok.hd hc)) s.heap.objs.size p dq its.toArray,⟨⟨_,cZ _ rfl,rfl,rfl⟩,?_⟩,λi v s' Q' E' hv hQ=>?_,λh' tk k=>?_⟩
 ·obtain⟨o,ho,hc,hd⟩:=pl.isList;exact⟨o,bH _ ho,hc,hd⟩
 ·rw[Nq rv hv];exact oA hQ
 ·have e:(bX its.toArray.size).all (λi=>bs.getD i aj)=bs.all id:=by
   rw[ce,←hl];exact M9 bs id _ λi x hx=>by simp[List.getD,hx]
  rw[e];have I1:Inv X ag σ H {s with heap:=s.heap.push {cls:=.type "list_iterator",data:=.fields #[.ref p,.int 0 0]},toks:=s.toks}:=I.kept (t':=s.toks) λb o e=>bH _ e;exact⟨.bl _,H,Inv.turned (t':=tk) I1 (it:=s.heap.objs.size) (λb o hb e=>k b o (by simpa using hb) e) I.fresh (qt I.lt) (.inr I.sz) (λx c e z=>by obtain⟨v,qq⟩:=I.cell x c e;exact absurd qq.lt (by rw[z];exact fe _)) (λpp hp z=>absurd (bu (I.pin pp hp).1) (by rw[z];exact fe _)),rfl,q⟩
end
section
variable{X:Cx}
def kI(z:Str)(lo hi:Option Int):Str:=⟨((z.cps.toList.drop (HT.sIx z.length 0 lo)).take (HT.sIx z.length z.length hi-HT.sIx z.length 0 lo)).toArray⟩
theorem Lk(a b:Nat):sliceRange (a:Int) (b:Int) 1=(bX (b-a)).map λk=>a+k:=by
 unfold sliceRange;have e:(if(1:Int) > 0 then(if(a:Int)<(b:Int)then((b:Int)-a+1-1) / 1 else 0)else(if(a:Int) > b then((a:Int)-b-1-1) / (-1)else 0)).toNat=b-a:=by
  rw[if_pos (by decide)];split
  ·rw[Int.ediv_one];lia
  ·have:b-a=0:=∅
   rw[this];rfl
 show(bX (if(1:Int) > 0 then(if(a:Int)<(b:Int)then((b:Int)-a+1-1) / 1 else 0)else(if(a:Int) > b then((a:Int)-b-1-1) / (-1)else 0)).toNat).map _=_;rw[e];refine lY λk _=>?_;lia
theorem G0(lo hi:Option Int)(n:Nat):Builtin.Str.strSliceIndices lo hi 1 n=(bX (HT.sIx n n hi-HT.sIx n 0 lo)).map λk=>HT.sIx n 0 lo+k:=by
 rw[←Lk];have p:(1:Int) > 0:=by decide
 cases lo <;> cases hi <;> (unfold Builtin.Str.strSliceIndices HT.sIx;simp only[p,if_true];congr 1 <;> (try split) <;> lia)
theorem Ix{α:Type}(l:List α)(a k:Nat):((bX k).map λj=>a+j).filterMap (λi=>l[i]?)=(l.drop a).take k:=by
 induction k with
 |zero=>simp
 |succ k ih=>
  rw[oJ,nc,List.filterMap_append,ih,List.take_succ];congr 1;simp[kY];cases l[a+k]? <;> rfl
theorem Is(z:Str)(t:Tok)(l u:Option (Int×Tok)):∃m,sliceMade z t l u ae=m/\(m=.val (.str z t)/\kI z (l.map (·.1)) (u.map (·.1))=z\/m=.str (kI z (l.map (·.1)) (u.map (·.1)))):=by
 refine⟨_,rfl,?_⟩;unfold sliceMade slicePicked;have e:=G0 (l.map (·.1)) (u.map (·.1)) z.length;simp only[Option.map_none,EF];rw[e];have pk:=Ix z.cps.toList (HT.sIx z.length 0 (l.map (·.1))) (HT.sIx z.length z.length (u.map (·.1))-HT.sIx z.length 0 (l.map (·.1)));have pk':(((bX (HT.sIx z.length z.length (u.map (·.1))-HT.sIx z.length 0 (l.map (·.1)))).map λk=>HT.sIx z.length 0 (l.map (·.1))+k).filterMap (z.cps[·]?)).toArray=(kI z (l.map (·.1)) (u.map (·.1))).cps:=by unfold kI;rw[←pk];simp
 split
 ·rename_i h;left;refine⟨rfl,?_⟩;simp only[beq_self_eq_true,Bool.true_and,dy,EM,beq_iff_eq]at h;have h0:HT.sIx z.length z.length (u.map (·.1))<=z.length:=HT.sIx_le _ _ (a9 _) _;have hl:z.cps.toList.length=z.length:=by simp[Str.length]
  have h1:HT.sIx z.length 0 (l.map (·.1))=0\/z.length=0:=∅
  unfold kI;rw[h];rcases h1 with h1|h1
  ·rw[h1,ww,wx ∅]
  ·have:z.cps.toList=[]:=qH ∅;rw[this];cases z;rename_i c;simp at this;subst this;simp
 ·right;rw[show(⟨(((bX (HT.sIx z.length z.length (u.map (·.1))-HT.sIx z.length 0 (l.map (·.1)))).map λk=>HT.sIx z.length 0 (l.map (·.1))+k).filterMap (z.cps[·]?)).toArray⟩:Str)=kI z (l.map (·.1)) (u.map (·.1))from by rw[pk']]
def CC:V->Option Int->Option Int->Hp->VK->Prop:=λx lo hi H Q=>∃z,x=.str z/\z.length<=a_/\Q (.str (kI z lo hi)) H
theorem MH(z:Str)(lo hi:Option Int):(kI z lo hi).length<=z.length:=by unfold kI Str.length;simp;lia
theorem part_of{v:ai}{o:Option Int}(p:lV v o):∃q:Option (Int×Tok),v=partValue q/\q.map (·.1)=o:=by
 cases p with
 |none=>exact⟨ae,rfl,rfl⟩
 |int i t=>exact⟨aa (i,t),rfl,rfl⟩
theorem Oc:lD X CC:=by
 intro ag s σ H x v vl vu lo hi sl Q I rx hs pl pu h;obtain⟨z,rfl,hz,q⟩:=h;obtain⟨t,rfl⟩:=rx;obtain⟨l,rfl,rfl⟩:=part_of pl;obtain⟨u,rfl,rfl⟩:=part_of pu;refine⟨"str",_,F.slot_str_getitem.lookup,typeIs_str s z t,?_⟩;obtain⟨m,em,hm⟩:=Is z t l u;refine getItem_meets (typeIs_str s z t) (by decide) F.slot_str_getitem F.entry_str_getitem (F.args_str_getitem_2 _ _) (meets_str_getitem_slice z t sl l u ae (by decide)) ⟨hs,?_⟩;rw[em];rcases hm with⟨rfl,e⟩|rfl
 ·exact⟨.str z,H,I,⟨t,rfl⟩,by rw[e]at q;exact q⟩
 ·exact⟨cR (MH z _ _) hz,⟨.str _,H,I.tok _,⟨_,rfl⟩,q⟩⟩
def gT(K:ax)(H:Hp)(d:Nat)(x y:V)(k:Bool):Prop :=
 ∀(X:Cx),X.K=K->∀(ag:List (af×Obj)) (σ:St) (s:am) (u v:ai) (A:aO),Inv X ag σ H s->RelV x u->RelV y v->A.units+d<cLine->sX A s u v k
theorem G4{K:ax}{H:Hp}{d:Nat}{x y:V}(fx:e_ x=ah)(fy:e_ y=ah):gT K H d x y (dz x y):=λ_ _ _ _ _ _ _ _ _ rx ry _=>B9 rx ry fx fy
def ft(e:Nat->Bool)(n m:Nat):Bool:=(bX (min n m)).all e&&n == m
theorem Eo{A:aO}:A.in1.units=A.units+1:=rfl
theorem yi{H:Hp}{d:Nat}{a b:af}{xs ys:List V}{e:Nat->Bool}{ag:List (af×Obj)}{σ:St}{s:am}{A:aO}(I:Inv X ag σ H s)(ha:cc X.K H a xs)(hb:cc X.K H b ys)(he:∀(j:Nat) x y,xs[j]?=aa x->ys[j]?=aa y->gT X.K H d x y (e j)) (hu:A.units+(d+1)<cLine):SeqAt.RcAt A s (.ref a) (.ref b) (ft e xs.length ys.length)/\SeqAt.RcNeAt A s (.ref a) (.ref b) (!ft e xs.length ys.length):=by
 obtain⟨us,ru,pu,_⟩:=I.list ha;obtain⟨vs,rv,pv',_⟩:=I.list hb;have tY:=ru.length;have jI:=rv.length;have hE:∀j (h1:j<us.toArray.size) (h2:j<vs.toArray.size),sX A.in1 s us.toArray[j] vs.toArray[j] (e j):=λj h1 h2=>by
  have eD:j<us.length:=by simpa using h1
  have cT:j<vs.length:=by simpa using h2
  have e1:xs[j]?=aa xs[j]:=d7 ∅;have e2:ys[j]?=aa ys[j]:=d7 ∅;obtain⟨u,q1,r1⟩:=ru.get e1;obtain⟨v,q2,r2⟩:=rv.get e2;have f1:us[j]=u:=by rw[d7 eD]at q1;exact dW q1
  have f2:vs[j]=v:=by rw[d7 cT]at q2;exact dW q2
  have:=he j xs[j] ys[j] e1 e2 X rfl ag σ s u v A.in1 I r1 r2 (by rw[Eo];lia);simpa[f1,f2]using this
 by_cases hsz:xs.length=ys.length
 ·have hs:us.toArray.size=vs.toArray.size:=by simp;lia
  have e1:ft e xs.length ys.length=(bX us.toArray.size).all e:=by unfold ft;rw[hsz,Nat.min_self,beq_self_eq_true,Bool.and_true,ce,←tY,hsz]
  rw[e1];exact⟨.lists pu.isList pv'.isList hs ∅ hE,.lists pu.isList pv'.isList hs ∅ hE⟩
 ·have e1:ft e xs.length ys.length=aj:=by
   unfold ft;rw[beq_false_of_ne hsz,wy]
  have hs:(us.toArray.size != vs.toArray.size)=ah:=by simp;lia
  rw[e1];exact⟨.lists_lengths pu.isList pv'.isList hs ∅,.lists_lengths pu.isList pv'.isList hs ∅⟩
theorem zl{H:Hp}{d:Nat}{a b:af}{xs ys:List V}{e:Nat->Bool}{ag:List (af×Obj)}{σ:St}{s:am}{A:aO}(I:Inv X ag σ H s)(ha:cD X.K H a xs)(hb:cD X.K H b ys)(he:∀(j:Nat) x y,xs[j]?=aa x->ys[j]?=aa y->gT X.K H d x y (e j)) (hu:A.units+(d+1)<cLine):SeqAt.RcAt A s (.ref a) (.ref b) (ft e xs.length ys.length)/\SeqAt.RcNeAt A s (.ref a) (.ref b) (!ft e xs.length ys.length):=by
 obtain⟨us,ru,pu,_⟩:=I.tuple ha;obtain⟨vs,rv,pv',_⟩:=I.tuple hb;have tY:=ru.length;have jI:=rv.length;have hE:∀j (h1:j<us.toArray.size) (h2:j<vs.toArray.size),sX A.in1 s us.toArray[j] vs.toArray[j] (e j):=λj h1 h2=>by
  have eD:j<us.length:=by simpa using h1
  have cT:j<vs.length:=by simpa using h2
  have e1:xs[j]?=aa xs[j]:=d7 ∅;have e2:ys[j]?=aa ys[j]:=d7 ∅;obtain⟨u,q1,r1⟩:=ru.get e1;obtain⟨v,q2,r2⟩:=rv.get e2;have f1:us[j]=u:=by rw[d7 eD]at q1;exact dW q1
  have f2:vs[j]=v:=by rw[d7 cT]at q2;exact dW q2
  have:=he j xs[j] ys[j] e1 e2 X rfl ag σ s u v A.in1 I r1 r2 (by rw[Eo];lia);simpa[f1,f2]using this
 have e1:ft e xs.length ys.length=((bX (min us.toArray.size vs.toArray.size)).all e&&us.toArray.size == vs.toArray.size):=by unfold ft;rw[ce,ce,←tY,←jI]
 rw[e1];exact⟨.tuples pu pv' ∅ hE,.tuples pu pv' ∅ hE⟩
theorem FP{K:ax}{H:Hp}{d:Nat}{a b:af}{xs ys:List V}{e:Nat->Bool}(ha:cc K H a xs)(hb:cc K H b ys)(dq:a≠b)(he:∀(j:Nat) x y,xs[j]?=aa x->ys[j]?=aa y->gT K H d x y (e j)):gT K H (d+1) (.ref a) (.ref b) (ft e xs.length ys.length):=λX hK ag σ s u v A I ru rv hu=>by
 subst hK;cases ru;cases rv;exact .of_refs dq (yi I ha hb he hu).1
theorem HN{K:ax}{H:Hp}{d:Nat}{a b:af}{xs ys:List V}{e:Nat->Bool}(ha:cD K H a xs)(hb:cD K H b ys)(dq:a≠b)(he:∀(j:Nat) x y,xs[j]?=aa x->ys[j]?=aa y->gT K H d x y (e j)):gT K H (d+1) (.ref a) (.ref b) (ft e xs.length ys.length):=λX hK ag σ s u v A I ru rv hu=>by
 subst hK;cases ru;cases rv;exact .of_refs dq (zl I ha hb he hu).1
theorem Bb{K:ax}{H:Hp}{d:Nat}{a:af}:gT K H d (.ref a) (.ref a) ah:=λX hK ag σ s u v A I ru rv hu=>by
 cases ru;cases rv;exact .same _
def rV(K:ax)(neg:Bool):R2:=λx y H Q=>∃a b xs ys d e,x=.ref a/\y=.ref b/\((cc K H a xs/\cc K H b ys)\/(cD K H a xs/\cD K H b ys))/\d<=8 /\
 (∀(j:Nat) x y,xs[j]?=aa x->ys[j]?=aa y->gT K H d x y (e j))/\Q (.bl (if neg then !ft e xs.length ys.length else ft e xs.length ys.length)) H
theorem Gc(hu:X.A.units+64<cLine):bV X (d_ .Eq) (rV X.K aj):=by
 intro ag s σ H x y v u Q I rx ry h;obtain⟨a,b,xs,ys,d,e,rfl,rfl,hs,hd,he,q⟩:=h;cases rx;cases ry;rcases hs with⟨h1,h2⟩|⟨h1,h2⟩
 ·exact(yi I h1 h2 he ∅).1 _ _ _ _ ⟨.bl _,H,I,rfl,q⟩
 ·exact(zl I h1 h2 he ∅).1 _ _ _ _ ⟨.bl _,H,I,rfl,q⟩
theorem La(hu:X.A.units+64<cLine):bV X (d_ .NotEq) (rV X.K ah):=by
 intro ag s σ H x y v u Q I rx ry h;obtain⟨a,b,xs,ys,d,e,rfl,rfl,hs,hd,he,q⟩:=h;cases rx;cases ry;rcases hs with⟨h1,h2⟩|⟨h1,h2⟩
 ·exact(yi I h1 h2 he ∅).2 _ _ _ _ ⟨.bl _,H,I,rfl,q⟩
 ·exact(zl I h1 h2 he ∅).2 _ _ _ _ ⟨.bl _,H,I,rfl,q⟩
def IL(K:ax):V->List V->Hp->VK->Prop:=λx vs H Q=>∃(p:af) (xs:List V) (y:V),x=.ref p/\vs=[y]/\H p=aa (.lst xs)/\e_ y=ah/\xs.all e_=ah/\Q (.int ((xs.countP λz=>dz z y:Nat):Int)) H
theorem y8{y:V}:∀{xs:List V}{us:List ai},bj xs us->xs.all e_=ah->us.countP (iN y)=xs.countP λz=>dz z y
 |_,_,.nil,_=>rfl
 |z::xs,u::us,.cons r t,f=>by rw[qy,fD]at f;rw[List.countP_cons,List.countP_cons,uV r f.1,y8 t f.2]
theorem Ic:sT X "list.count" (IL X.K):=by
 intro ag s σ H x vs v us Q I rx rv h;obtain⟨p,xs,y,rfl,rfl,hH,fy,fx,q⟩:=h;cases rx;obtain⟨u,rfl,ru⟩:=rv.one;obtain⟨z,its,n,r,hl,e⟩:=I.lstM hH;refine qD F.slot_list_count ⟨_,e,rfl⟩ F.entry_list_count (F.args_list_count_2 _ _) (SeqAt.list_countAt p its.toArray n ae #[] u (iN y)) ⟨e,λw hw=>pr ru fy r fx w (by simpa using hw),?_⟩;exact⟨.int _,H,I.tok _,⟨_,by rw[wz,y8 r fx]⟩,q⟩
def ID(K:ax):V->List V->Hp->VK->Prop:=λx vs H Q=>∃(p:af) (xs:List V) (y:V),x=.ref p/\vs=[y]/\cD K H p xs/\e_ y=ah/\xs.all e_=ah/\Q (.int ((xs.countP λz=>dz z y:Nat):Int)) H
theorem FE:sT X "tuple.count" (ID X.K):=by
 intro ag s σ H x vs v us Q I rx rv h;obtain⟨p,xs,y,rfl,rfl,hH,fy,fx,q⟩:=h;cases rx;obtain⟨u,rfl,ru⟩:=rv.one;obtain⟨its,r,⟨⟨cls,dd,data,sl⟩,e,hc,n,hd⟩,hz⟩:=I.tuple hH;simp only at hc hd;subst hc hd;refine qD F.slot_tuple_count ⟨_,e,rfl⟩ F.entry_tuple_count (F.args_tuple_count_2 _ _) (SeqAt.tuple_countAt p its.toArray n dd sl u (iN y)) ⟨e,λw hw=>pr ru fy r fx w (by simpa using hw),?_⟩;exact⟨.int _,H,I.tok _,⟨_,by rw[wz,y8 r fx]⟩,q⟩
def J8:V->List V->Hp->VK->Prop:=λx vs H Q=>∃(p:af) (xs:List V) (y:V) (j:Nat),x=.ref p/\vs=[y]/\H p=aa (.lst xs)/\e_ y=ah/\xs.all e_=ah/\j<xs.length /\
 (∀z,xs[j]?=aa z->dz z y=ah)/\(∀(i:Nat) z,i<j->xs[i]?=aa z->dz z y=aj)/\Q (.int j) H
theorem KN:sT X "list.index" J8:=by
 intro ag s σ H x vs v us Q I rx rv h;obtain⟨p,xs,y,j,rfl,rfl,hH,fy,fx,hj,h1,h2,q⟩:=h;cases rx;obtain⟨u,rfl,ru⟩:=rv.one;obtain⟨z,its,n,r,hl,e⟩:=I.lstM hH;have hz:=pM;have at':∀(i:Nat) (hi:i<its.toArray.size),∃w,xs[i]?=aa w/\iN y its.toArray[i]=dz w y:=λi hi=>by
  have gL:i<its.length:=by simpa using hi
  have e1:xs[i]?=aa xs[i]:=d7 ∅;obtain⟨w,q1,r1⟩:=r.get e1;have f1:its[i]=w:=by rw[d7 gL]at q1;exact dW q1
  refine⟨_,e1,?_⟩;have fl:e_ xs[i]=ah:=lf.mp fx _ (tf _);rw[←uV r1 fl];simp[f1]
 refine qD F.slot_list_index ⟨_,e,rfl⟩ F.entry_list_index (F.args_list_index_2 _ _) (SeqAt.list_indexAt p its.toArray n ae #[] u (iN y) j (by simp;lia) ∅ ?_ ?_) ⟨e,λw hw=>pr ru fy r fx w (by simpa using hw),?_⟩
 ·obtain⟨w,q1,q2⟩:=at' j (by simp;lia);rw[q2];exact h1 w q1
 ·intro m hm hmj;obtain⟨w,q1,q2⟩:=at' m hm;rw[q2];exact h2 m w hmj q1
 ·exact⟨.int _,H,I.tok _,⟨_,rfl⟩,q⟩
end
abbrev Tx:=List Nat
def tS(l:Tx):Str:=⟨l.toArray⟩
def tV(l:Tx):V:=.str (tS l)
def dD(ls:List Tx):List V:=ls.map tV
theorem lM(l:Tx):(tS l).cps.toList=l:=by simp[tS]
theorem kK(l:Tx):(tS l).length=l.length:=by simp[tS,Str.length]
theorem yk(z:Str):tS z.cps.toList=z:=by cases z;simp[tS]
theorem u5{a b:Tx}(h:tS a=tS b):a=b:=by rw[←lM a,h,lM]
theorem yW(ls:List Tx):(dD ls).length=ls.length:=dy _
def cY(a b:Tx):Bool:=decide (a<=b)
def a8(ls:List Tx):List Tx:=ls.mergeSort cY
theorem BY(a b c:Tx)(h1:cY a b=ah)(h2:cY b c=ah):cY a c=ah:=by simp only[cY,decide_eq_true_eq]at *;exact List.le_trans h1 h2
theorem Iq(a b:Tx):(cY a b||cY b a)=ah:=by simp only[cY,zW,decide_eq_true_eq];exact List.le_total a b
theorem Le{a b:Tx}(h1:cY a b=ah)(h2:cY b a=ah):a=b:=by simp only[cY,decide_eq_true_eq]at *;exact List.le_antisymm h1 h2
theorem jM(ls:List Tx):(a8 ls).Perm ls:=EN _ _
theorem sB(ls:List Tx):(a8 ls).Pairwise (λa b=>cY a b=ah):=List.pairwise_mergeSort BY Iq _
theorem vE(ls:List Tx):(a8 ls).length=ls.length:=(jM ls).length_eq
theorem vI{ls ms:List Tx}(hp:ms.Perm ls)(hs:ms.Pairwise (λa b=>cY a b=ah)):ms=a8 ls :=List.Perm.eq_of_pairwise (le:=λa b=>cY a b=ah) (λ_ _ _ _ h1 h2=>Le h1 h2) hs (sB ls) (hp.trans (jM ls).symm)
theorem yV{ls:List Tx}(hs:ls.Pairwise (λa b=>cY a b=ah)):a8 ls=ls:=(vI (qI ls) hs).symm
theorem GU{ls ms:List Tx}(hp:ls.Perm ms):a8 ls=a8 ms:=vI ((jM ls).trans hp) (sB ls)
theorem BX:∀(p:Str) (l:List Str),risingS p l=ah->(p::l).Pairwise (λa b=>cY a.cps.toList b.cps.toList=ah)
 |p,[],_=>List.pairwise_singleton _ _
 |p,x::r,h=>by
  have h':(!ltCps x.cps.toList p.cps.toList&&risingS x r)=ah:=h;rw[fD,ltCps_eq]at h';have q:=BX x r h'.2;have px:cY p.cps.toList x.cps.toList=ah:=by simp only[cY,decide_eq_true_eq];intro ba;simp[ba]at h'
  refine List.pairwise_cons.mpr ⟨λy hy=>?_,q⟩;rcases bG.mp hy with rfl|hy
  ·exact px
  ·exact BY _ _ _ px (List.rel_of_pairwise_cons q hy)
theorem M_{ss:List Str}(h:sortedS ss=ah):(ss.map λz=>z.cps.toList).Pairwise (λa b=>cY a b=ah):=by
 rw[wA];cases ss with
 |nil=>exact List.Pairwise.nil
 |cons x r=>exact BX x r h
theorem uy:∀{ls:List Tx}{us:List ai},bj (dD ls) us->dj us (ls.map tS)
 |[],_,.nil=>.nil
 |l::ls,_::_,.cons ⟨t,e⟩ r=>by subst e;exact .cons _ t (uy (ls:=ls) r)
theorem C5:∀{ss:List Str}{us:List ai},dj us ss->bj (dD (ss.map λz=>z.cps.toList)) us
 |_,_,.nil=>.nil
 |_,_,.cons y t h=>.cons ⟨t,by rw[yk]⟩ (C5 h)
section
variable{X:Cx}
theorem Jq(z:Tx)(n:Nat):Txt.mul (tS z) (n:Int)=tS (bS n z).flatten:=by
 unfold Txt.mul;cases n with
 |zero=>simp[tS,jc]
 |succ n=>
  rw[if_neg ∅];split
  ·rename_i h;simp only[zW,beq_iff_eq]at h;rcases h with h|h
   ·have:n=0:=∅
    subst this;simp
   ·rw[kK]at h;have:z=[]:=qH h;subst this;simp
  ·unfold tS;congr 1;have gen:∀(k:Nat) (aH:Array Nat),(bS k z.toArray).foldl (·++·) aH=aH++(bS k z).flatten.toArray:=by
    intro k
    induction k with
    |zero=>intro aH;simp
    |succ k ih=>intro aH;rw[m8,k9,ih,m8,qB];simp[Array.append_assoc]
   have e:=gen (n+1) #[];simp only[mX];simpa using e
theorem KF:bV X (iQ .Mult) (λx y H Q=>∃(z:Tx) (n:Nat),x=tV z/\y=.int n/\n<=100/\z.length<=100/\Q (tV (bS n z).flatten) H):=by
 intro ag s σ H x y v u Q I rx ry h;obtain⟨z,n,rfl,rfl,hn,hz,q⟩:=h;obtain⟨t,rfl⟩:=rx;obtain⟨t',rfl⟩:=ry;refine SB.mul ?_ λt2 k=>?_
 ·have hp:z.length*n<=10000:=cR (zX hz hn) (by decide);refine⟨by rw[Bool.or_eq_false_iff];constructor <;> (apply decide_eq_false;lia),λh1 _=>?_,λh1 _=>?_⟩
  ·rw[kK];intro hgt;have h2:(2^63-1:Int) / n ≥ (2^63-1) / 100:=by
    have hn0:(0:Int)<n:=∅
    apply (Int.le_ediv_iff_mul_le hn0).mpr;have:((2^63-1:Int) / 100)*n<=((2^63-1) / 100)*100:=Int.mul_le_mul_of_nonneg_left ∅ (by decide);refine Int.le_trans this (by decide)
   have h3:((2^63-1:Int) / 100) > 1000:=by decide
   lia
  ·rw[kK,mX];unfold Builtin.Str.tooLong;apply decide_eq_false;have:10000<a_:=by rw[oB];decide
   lia
 ·rw[Jq];exact⟨tV _,H,I.tok _,⟨_,rfl⟩,q⟩
end
theorem Jw(t:bT)(j:Nat):(t.put j).1.led=t.led/\(t.put j).1.plain=t.plain:=⟨rfl,rfl⟩
theorem FU(t:bT)(n:Nat):(t.orStandIn n).led=t.led/\((t.orStandIn n).plain=t.plain\/(t.orStandIn n).plain=aj):=by
 unfold SetTable.orStandIn;split
 ·exact⟨rfl,.inl rfl⟩
 ·exact⟨rfl,.inr rfl⟩
theorem GY(t:bT)(es:Array (Int×ai))(h:Int)(x:ai):(layNew t es h x).2.1.led=t.led/\((layNew t es h x).2.1.plain=t.plain\/(layNew t es h x).2.1.plain=aj):=by
 unfold layNew;split
 ·rename_i slot wasDummy _;have h1:=Jw t slot;have h2:=FU (t.put slot).1 (oK es (t.put slot).2 (h,x)).size;exact⟨h2.1.trans h1.1,by rw[←h1.2];exact h2.2⟩
 ·exact⟨rfl,.inr rfl⟩
theorem Ko(t:bT)(es:Array (Int×ai))(wanted:Nat)(hp:t.plain=aj):(qJ t es wanted).2.1.led=t.led/\(qJ t es wanted).2.1.plain=aj:=by
 unfold qJ;split
 ·rename_i t' order e;have q:t'.led=t.led/\t'.plain=t.plain:=by
   unfold SetTable.relaid zY at e;cases q:zZ (EO wanted-1) (es.map (·.1))with
   |none=>rw[q]at e;cases e
   |some ow=>rw[q]at e;cases e;exact⟨rfl,rfl⟩
  dsimp only;split
  ·exact⟨q.1,q.2.trans hp⟩
  ·exact⟨rfl,rfl⟩
 ·exact⟨rfl,rfl⟩
def dw(w:aF):Bool:=w.params.followText "set-order"
structure jA(P:aM)(w:aF)(h:aA)(a:af)(ks:List Str):Prop where
 ex:∃(es:Array (Int×ai)) (ep:Nat) (t:bT) (ss:List Str),h.get? a=aa {cls:=.type "set",dict:=ae,data:=.set es ep t}/\dj (es.toList.map (·.2)) ss/\ss.Perm ks/\ElemsOf (eV P w) es.toList /\
  es.size<4090/\t.fits es.size=ah/\t.led=(!dw w)/\(ks≠[]->t.plain=aj)
theorem jA.at{P:aM}{w:aF}{h h':aA}{a:af}{ks:List Str}(S:jA P w h a ks)(k:∀o,h.get? a=aa o->h'.get? a=aa o):jA P w h' a ks:=by obtain⟨es,ep,t,ss,e,r⟩:=S.ex;exact⟨es,ep,t,ss,k _ e,r⟩
theorem Dh:∀{vs:List ai}{ss:List Str},dj vs ss->∀x,x∈ss↔∃t,Value.str x t∈vs
 |_,_,.nil,x=>by simp
 |_,_,.cons y t h,x=>by
  rw[bG,Dh h x];constructor
  ·rintro(rfl|⟨t',q⟩)
   ·exact⟨t,eN ..⟩
   ·exact⟨t',dN _ q⟩
  ·rintro⟨t',q⟩;rcases bG.mp q with q|q
   ·cases q;exact .inl rfl
   ·exact .inr ⟨t',q⟩
theorem xP:∀{us vs:List ai},us.Perm vs->∀{ss:List Str},dj vs ss->∃aI,dj us aI/\aI.Perm ss:=by intro us vs p ss h;refine⟨us.map strOf,strsAre_map us λv hv=>h.all v (p.mem_iff.mp hv),?_⟩;have:=p.map strOf;rwa[h.strs]at this
section
variable{P:aM}{w:aF}{A:aO}{E:ai->am->Prop}{s:am}
def i7(ks:List Str)(x:Str):List Str:=if x∈ks then ks else ks++[x]
theorem jA.put{h:aA}{a:af}{es es':Array (Int×ai)}{ep:Nat}{t t':bT}(e:h.get? a=aa {cls:=.type "set",dict:=ae,data:=.set es ep t}):(h.update a (Obj.putSet es' t')).get? a=aa {cls:=.type "set",dict:=ae,data:=.set es' (ep+1) t'}:=by have:=mY (Obj.putSet es' t') e (by rw[putSet_of es' t' rfl];rfl);rw[putSet_of es' t' rfl]at this;exact this
theorem G6{a:af}{ks:List Str}{x:Str}{tk:Tok}{Q:Bool->am->Prop}(S:jA P w s.heap a ks)(hn:ks.length<4000)(h:∀h' b,jC a s.heap h'->jA P w h' a (i7 ks x)->Q b {s with heap:=h'}):aq (aw P w) A (z5 a (.str x tk) ((eV P w).hash x)) Q E s:=by
 obtain⟨es,ep,t,ss,ho,hS,hp,hel,hsz,hf,kf,cS⟩:=S.ex;have isD:∀y t',(eV P w).is x (.str y t')=decide (y=x):=λy t'=>by
  show ou x (.str y t')=_;rw[j5];simp[ou]
  try exact eq_comm
 have jH:(eV P w).is x (.str x tk)=ah:=by rw[isD];simp
 have hb:es.size<scanBound:=qF hsz (by decide);unfold z5 setAddHashedIn;refine iz (ap (j9 ho rfl hf ?_));dsimp only;rw[byScan_of (knd:=eV P w) (x:=.str x tk) rfl hb hel];simp only[if_true];unfold setAddByScan;refine ap (ap (lZ (ap (wpAny_setScan_of jH ho rfl hf hel ?_))));have memx:x∈ks↔∃e∈es.toList,(eV P w).is x e.2=ah:=by
  rw[←hp.mem_iff,Dh hS x];constructor
  ·rintro⟨t',q⟩;obtain⟨e,he,ee⟩:=bP.mp q;exact⟨e,he,by rw[ee,isD];simp⟩
  ·rintro⟨e,he,q⟩;obtain⟨y,t',ey⟩:=hS.all e.2 (bP.mpr ⟨e,he,rfl⟩);rw[ey,isD]at q;have:y=x:=of_decide_eq_true q;subst this;exact⟨t',bP.mpr ⟨e,he,ey⟩⟩
 have klen:ks.length=es.size:=by
  have e1:=hp.length_eq;have e2:ss.length=es.size:=by rw[←hS.strs];simp
  lia
 cases hr:List.findIdx? (λe=>(eV P w).is x e.2) es.toList with
 |some j=>dsimp only;obtain⟨hj,hpj,_⟩:=NP.mp hr;have hx:x∈ks:=memx.mpr ⟨_,tf hj,hpj⟩;refine aD (aD ?_);exact h s.heap _ (EQ a s.heap) (by unfold i7;rw[if_pos hx];exact S)
 |none=>
  dsimp only;have hx:¬x∈ks:=λhm=>by obtain⟨e,he,q⟩:=memx.mp hm;have:=List.findIdx?_eq_none_iff.mp hr e he;rw[q]at this;exact Bool.noConfusion this
  have hgw:∀(b:Bool) {s₁:am}{Q':Unit->am->Prop},Q' () s₁->aq (aw P w) A (match b with|ah=>rule "set.scan.the-table-gave-way" |aj=>pure ()) Q' E s₁ :=
   λb s₁ Q' hq=>by cases b <;> first|exact aD hq|exact lZ hq
  have wX:=layNew_perm t es ((eV P w).hash x) (.str x tk);have wY:=layNew_fits t es ((eV P w).hash x) (.str x tk);have tZ:=GY t es ((eV P w).hash x) (.str x tk);generalize hL:layNew t es ((eV P w).hash x) (.str x tk)=L at wX wY tZ ⊢;obtain⟨es1,t1,wasDummy,gave⟩:=L;dsimp only at wX wY tZ ⊢;rw[qK]at wX;have hel1:ElemsOf (eV P w) es1.toList:=(hel.push jH rfl).perm wX;have AK:es1.size=es.size+1:=by have:=wX.length_eq;simpa using this
  have hS1:∃t4,dj (es1.toList.map (·.2)) t4/\t4.Perm (i7 ks x):=by
   have p1:=wX.map (λe:Int×ai=>e.2);rw[nc]at p1;have q1:dj (es.toList.map (·.2)++[Value.str x tk]) (ss++[x]):=by
    have gen:∀{vs:List ai}{zs:List Str},dj vs zs->dj (vs++[Value.str x tk]) (zs++[x]):=by
     intro vs zs hh
     induction hh with
     |nil=>exact .cons x tk .nil
     |cons y t _ ih=>exact .cons y t ih
    exact gen hS
   obtain⟨t4,r1,r2⟩:=xP p1 q1;refine⟨t4,r1,r2.trans ?_⟩;unfold i7;rw[if_neg hx];exact hp.append_right _
  obtain⟨t4,r1,r2⟩:=hS1;have dq:i7 ks x≠[]:=by unfold i7;rw[if_neg hx];simp
  have tail:∀t2:bT,t2.fits es1.size=ah->t2.led=(!dw w)->t2.plain=aj->aq (aw P w) A (do
    storeSet a es1 t2
    if(!wasDummy&&t2.tooFull)=ah then do
      (match (qJ t2 es1 (l0 es1.size)).2.2 with|ah=>rule "set.scan.the-table-gave-way" |aj=>pure ())
      storeSet a (qJ t2 es1 (l0 es1.size)).1 (qJ t2 es1 (l0 es1.size)).2.1
      pure (aa ah)
     else pure (aa ah)) (λr s'=>∃h',r=aa ah/\s'={s with heap:=h'}/\jC a s.heap h'/\jA P w h' a (i7 ks x)) E s:=by
   intro t2 hf2 jI d8;refine ap (z6 ho rfl ?_ (z7 (qF (show es1.size<4090 by lia) (by decide))));have o1:=jA.put (es':=es1) (t':=t2) ho;have gM:=qL s.heap a (Obj.putSet es1 t2);split
   ·have fi:=relayAll_perm t2 es1 (l0 es1.size);have hf3:=relayAll_fits t2 es1 (l0 es1.size);have hm3:=Ko t2 es1 (l0 es1.size) d8;generalize hRl:qJ t2 es1 (l0 es1.size)=Rl at fi hf3 hm3 ⊢;obtain⟨es2,t3,gave2⟩:=Rl;dsimp only at fi hf3 hm3 ⊢;have hsz2:es2.size=es1.size:=by have:=fi.length_eq;simpa using this
    refine ap (hgw _ ?_);refine ap (z6 o1 rfl ?_ (z7 (qF (show es2.size<4090 by lia) (by decide))));obtain⟨ss2,u1,u2⟩:=xP (fi.map (λe:Int×ai=>e.2)) r1;refine aD ⟨_,rfl,rfl,gM.trans (qL _ a _),⟨es2,_,t3,ss2,jA.put o1,u1,u2.trans r2,hel1.perm fi,∅,hf3,hm3.1.trans jI,λ_=>hm3.2⟩⟩
   ·exact aD ⟨_,rfl,rfl,gM,⟨es1,_,t2,t4,o1,r1,r2,hel1,∅,hf2,jI,λ_=>d8⟩⟩
  have Fh:t1.led=(!dw w):=tZ.1.trans kf;refine ap (hgw _ ?_);split
  ·refine ap ?_;rw[hashByValue_scannable 8 (x:=.str x tk) rfl];refine aD ?_;have hk:plainKind (.str x tk)=aj:=rfl;rw[hk];simp only[eB,if_false];refine aV (tail {t1 with plain:=aj} (SetTable.fits_plain_off wY) Fh rfl) λr s' ⟨h',e1,e2,e3,e4⟩=>?_;subst e1 e2;exact aD (h h' _ e3 e4)
  ·rename_i AL;refine ap (aD ?_);simp only[if_true];refine aV (tail t1 wY Fh (by simpa using AL)) λr s' ⟨h',e1,e2,e3,e4⟩=>?_;subst e1 e2;exact aD (h h' _ e3 e4)
end
def met(val:Nat->Str)(i:Nat):List Str:=((bX i).map val).foldl i7 []
theorem Dg(val:Nat->Str)(i:Nat):met val (i+1)=i7 (met val i) (val i):=by unfold met;rw[oJ,nc,ER];rfl
theorem Cc(val:Nat->Str){i:Nat}:∀{j:Nat},i<=j->(met val i).length<=(met val j).length
 |0,h=>by rw[show i=0 by lia];exact a9 _
 |j+1,h=>by
  by_cases e:i=j+1
  ·subst e;exact a9 _
  ·refine cR (Cc val (j:=j) ∅) ?_;rw[Dg];unfold i7;split
   ·exact a9 _
   ·simp
section
variable{P:aM}{w:aF}{A:aO}{R:Result->am->Prop}{I:af}{fp wr:List af}{G:Array GenState->Array GenState->Prop}{n:Nat}{Pv:Nat->ai->Prop}{St:Nat->am->Prop}
theorem IC(W:WalksS P w A.in1 I fp wr G n Pv St)(S:af)(hSf:S∉fp){J:Nat->aA->Prop}(hJ:∀i h h',J i h->(∀b o,b∉wr->h.get? b=aa o->h'.get? b=aa o)->J i h')(li:∀(i:Nat) (v:ai) (s:am) (E:ai->am->Prop) (Q:Bool->am->Prop),i<n->Pv i v->J i s.heap->(∀h' tk b,s.toks<=tk->jC S s.heap h'->J (i+1) h'->Q b {s with heap:=h',toks:=tk})->aq (aw P w) A.in1 (setAdd S v) Q E s):∀(k i:Nat) (s:am),n-i=k->i<=n->St i s->J i s.heap -> (∀s',Moved (S::wr) G s s'->J n s'.heap->R (.ok (.ret .none)) s')->k7 (aw P w) A (.builtin "set.update.loop" ⟨[.ref S,.ref I],[]⟩) R s:=by
 have hSw:S∉wr:=λh=>hSf (W.sub _ h);have nt:∀b∈wr,b∈S::wr:=λb hb=>dN _ hb;intro k
 induction k with
 |zero=>
  intro i s hk hi dG hS hR;obtain rfl:i=n:=∅
  refine tj NQ ?_;rw[wB ES _];show aq _ A.in1 (pyNext (.ref I) >>= _) _ _ s;refine ap (W.done s _ _ dG λs' hm=>?_);show aq _ A.in1 (ret Value.none) _ _ s';exact aD (hR s' (hm.mono nt) (hJ _ _ _ hS λb o hb e=>hm.heap b o hb e))
 |succ k ih=>
  intro i s hk hi dG hS hR;have ba:i<n:=∅
  refine tj NQ ?_;rw[wB ES _];show aq _ A.in1 (pyNext (.ref I) >>= _) _ _ s;refine ap (W.item i s _ _ ba dG λv s' hP hst' hm=>?_);show aq _ A.in1 (j4 [v] (setAdd S v) >>= _) _ _ s';refine ap (iz (li i v s' _ _ ba hP (hJ _ _ _ hS λb o hb e=>hm.heap b o hb e) λh' tk b oU iS lr=>?_));refine aD ⟨z8 ES _,ih (i+1) _ ∅ ba (W.frame _ s' _ _ hst' oU λb hb o e=>?_) lr λs'' hm'' hS''=>?_⟩
  ·rw[iS.2 b (λh:b=S=>hSf (by rw[←h];exact hb))];exact e
  ·refine hR s'' (Moved.trans W.gtrans ((hm.mono nt).then_heap oU λb o hb e=>?_) hm'') hS'';rw[iS.2 b (λh:b=S=>hb (by rw[h];exact eN))];exact e
end
section
variable{P:aM}{w:aF}{A:aO}{E:ai->am->Prop}{s:am}
theorem Jc(a:ai){Q:ai->am->Prop} (h:jA P w (s.heap.push {cls:=.type "set",dict:=ae,data:=.set #[] 0 (.fresh 0 0 (!dw w))}) s.heap.objs.size [] -> Q (.ref s.heap.objs.size) {s with heap:=s.heap.push {cls:=.type "set",dict:=ae,data:=.set #[] 0 (.fresh 0 0 (!dw w))}}):k7 (aw P w) A (.call (.builtin "set.__new__") ⟨[.type "set",a],[]⟩) (wants Q E) s:=by
 refine codeAny_of_tree ?_;show aq _ A.in1 (do ET "set.__new__" ⟨[.type "set",a],[]⟩;again (.builtin "set.__new__" ⟨[.type "set",a],[]⟩)) _ _ s;refine ap (oM (PySem.F.newCall_set_1 a) (aD ⟨z8 F.plain_set_new _,tj F.entry_set_new ?_⟩));rw[wB F.plain_set_new _];unfold Builtin.«set.__new__» Builtin.Frozenset.newClass;have nt:=sub_set_self;obtain⟨hp,g,d,tk,os⟩:=s;dsimp only
 wp_walk
 refine qM (aD ?_);dsimp only;simp only[newObj];refine ap (wpAny_alloc (aD ?_));refine aD (h ⟨#[],0,_,[],cZ _ rfl,.nil,qI _,λe he=>by simp at he,by decide,rfl,rfl,λh=>absurd rfl h⟩)
end
end L2
set_option maxHeartbeats 8000000
namespace L2
theorem FR:entryFor table "set.__iter__" = aa Builtin.«frozenset.__iter__»:=entryFor_alias (id':="frozenset.__iter__") (by kernel_rfl) rfl (by decide +kernel) (by kernel_rfl)
theorem BH:Slot "set_iterator" "__next__" "set_iterator.__next__" :=
 .of (owner:="set_iterator") (n:="__next__") (by rw[typeLookup_type,builtinLookup_eq_fast];kernel_rfl) (by decide +kernel) (by decide +kernel) (by decide +kernel) (by first|exact .inl (by decide +kernel)|exact .inr (by decide +kernel)) (by rw[isSubtype_type];kernel_rfl)
theorem Jn:entryFor table "set_iterator.__next__" = aa Builtin.«set_iterator.__next__»:=entryFor_of_fast (by kernel_rfl)
theorem J2(a:ai):argsOk "set_iterator.__next__" ⟨[a],[]⟩:=by unfold argsOk;kernel_rfl
theorem AT:Slot "set_iterator" "__iter__" "set_iterator.__iter__" :=
 .of (owner:="set_iterator") (n:="__iter__") (by rw[typeLookup_type,builtinLookup_eq_fast];kernel_rfl) (by decide +kernel) (by decide +kernel) (by decide +kernel) (by first|exact .inl (by decide +kernel)|exact .inr (by decide +kernel)) (by rw[isSubtype_type];kernel_rfl)
theorem J1:entryFor table "set_iterator.__iter__" = aa Builtin.«dict_keyiterator.__iter__»:=entryFor_alias (id':="dict_keyiterator.__iter__") (by kernel_rfl) rfl (by decide +kernel) (by kernel_rfl)
theorem Fx(a:ai):argsOk "set_iterator.__iter__" ⟨[a],[]⟩:=by unfold argsOk;kernel_rfl
def ii(first:ai)(i:Nat)(a:af)(n ep:Nat):Obj:={cls:=.type "set_iterator",data:=.fields #[first,.int i 0,.ref a,.int n 0,.int ep 0]}
section
variable{P:aM}{w:aF}{A:aO}{E:ai->am->Prop}{s:am}
theorem uu{I a:af}{first:ai}{i n ep:Nat}{Q:ai->am->Prop}(h:s.heap.get? I=aa (ii first i a n ep))(hQ:Q (.ref I) s):aq (aw P w) A (mT (.ref I)) Q E s:=by
 have hT:s.TypeIs (.ref I) "set_iterator":=⟨_,h,rfl⟩
 refine wpAny_pyIter_slot hT AT (qw AT hT J1 ?_ (Fx _));show aq _ _ (ret (.ref I)) _ _ s;exact aD ⟨_,rfl,"set_iterator",_,hT,BH.lookup,hQ⟩
theorem nX{I a:af}{first:ai}{i:Nat}{es:Array (Int×ai)}{ep:Nat}{t:bT}{Q:Option ai->am->Prop}(ha:s.heap.get? a=aa {cls:=.type "set",dict:=ae,data:=.set es ep t})(hf:t.fits es.size=ah)(hI:s.heap.get? I=aa (ii first i a es.size ep))(h:aq (aw P w) A.in1 (if let .int slot _:=first then do
    match ←l5 a slot.toNat (i:Int).toNat (ep:Int).toNat with
    |some (x,next)=>do
     l6 (.ref I) 0 (dZ next)
     l6 (.ref I) 1 (dZ ((i:Int)+1))
     ret x
    |none=>do l6 (.ref I) 2 .none;raiseNew (←newExc (.type "StopIteration") [])
   else do
    let aa places ←seqItems? first|j_ "internal:set_iterator"
    match places[(i:Int).toNat]? with
    |some (.int place _)=>do
     let x ←setNextDrawn a place.toNat (ep:Int).toNat
     l6 (.ref I) 1 (dZ ((i:Int)+1))
     ret x
    |some _=>j_ "internal:set_iterator"
    |none=>do l6 (.ref I) 0 (dZ 0);l6 (.ref I) 2 .none;raiseNew (←newExc (.type "StopIteration") []))
   (λfin s'=>∃r,fin=.done (.ret r)/\Q (aa r) s') (λe s'=>aq (aw P w) A (do if ←wC e (.type "StopIteration")then pure ae else throw e) Q E s') s) :
  aq (aw P w) A (pyNext (.ref I)) Q E s:=by
 have hT:s.TypeIs (.ref I) "set_iterator":=⟨_,hI,rfl⟩
 unfold pyNext;refine ap (wpAny_attempt (wpAny_callSpecial?_slot (name:=Str.ofString "__next__") hT BH (qw BH hT Jn ?_ (J2 _))));unfold Builtin.«set_iterator.__next__» slotArgs;refine ap (aD ?_);refine ap (wpAny_fieldsOf hI rfl ?_);show aq _ _ (setEntries a >>= _) _ _ s;refine ap (wpAny_setEntries_of ha rfl hf ?_);have e0:(((es.size:Nat):Int) != ((es.size:Nat):Int))=aj:=by simp
 rw[e0];simp only[eB,if_false];refine dY ?_ (λfin s' q=>?_) (λe s' q=>q) (Q:=λfin s'=>∃r,fin=.done (.ret r)/\Q (aa r) s') (E:=λe s'=>aq (aw P w) A (do if ←wC e (.type "StopIteration")then pure ae else throw e) Q E s')
 ·exact h
 ·obtain⟨r,e1,e2⟩:=q;exact⟨r,e1,aD e2⟩
end
theorem zd{α:Type}:∀{l:List α}{i:Nat} (h:i<l.length),(l[i]::l.eraseIdx i).Perm l
 |[],i,h=>by simp at h
 |x::r,0,h=>by simp
 |x::r,i+1,h=>by have q:=zd (l:=r) (i:=i) (by simpa using h);simp only[List.getElem_cons_succ,List.eraseIdx_cons_succ];exact(List.Perm.swap x _ _).trans (List.Perm.cons x q)
theorem BZ{α:Type}(next:Nat->Nat):∀(bO k:Nat) (left:List α) (out:Array α),bO=left.length->(pickOrder.go next bO k left out).toList.Perm (out.toList++left)
 |0,k,left,out,h=>by have:left=[]:=qH h.symm;subst this;simp[pickOrder.go]
 |bO+1,k,left,out,h=>by
  have ba:next k % left.length<left.length:=l7 _ ∅
  unfold pickOrder.go;rw[d7 ba];dsimp only;have ih:=BZ next bO (k+1) (left.eraseIdx (next k % left.length)) (out.push left[next k % left.length]) (by rw[List.length_eraseIdx,if_pos ba];lia)
  refine ih.trans ?_;rw[qK,qC];exact EU _ (zd ba)
theorem BQ{α:Type}(next:Nat->Nat)(xs:Array α):(tm next xs).toList.Perm xs.toList:=by
 have:=BZ next xs.size 0 xs.toList #[] (by simp)
 simpa[tm]using this
section
variable{P:aM}{w:aF}{A:aO}{E:ai->am->Prop}{s:am}
theorem K7{src:Source}{n:Nat}{Q:Nat->am->Prop}(hn:n≠0)(h:∀k d,k<n->Q k {s with drawn:=d}):aq (aw P w) A (choose src n) Q E s:=λΓ p hΓ=>by unfold choose;rw[Sem.wp_choose];refine⟨hn,?_⟩;exact h _ _ (l7 _ (Nat.pos_of_ne_zero hn))
theorem BU{α:Type}:∀(n:Nat) (xs:List α) (s:am) (Q:List α->am->Prop),n=xs.length->(∀ys d,ys.Perm xs->Q ys {s with drawn:=d})->aq (aw P w) A (drawOrder n xs) Q E s
 |0,[],s,Q,_,h=>by unfold drawOrder;exact aD (h [] s.drawn (qI _))
 |0,x::xs,s,Q,hn,h=>by simp at hn
 |n+1,[],s,Q,hn,h=>by simp at hn
 |n+1,x::xs,s,Q,hn,h=>by unfold drawOrder;refine ap (K7 (by simp) λk d hk=>?_);rw[d7 hk];dsimp only;refine ap (BU n ((x::xs).eraseIdx k) _ _ (by rw[List.length_eraseIdx,if_pos hk];lia) λys d' hy=>?_);refine aD (h _ d' ?_);exact(List.Perm.cons _ hy).trans (zd hk)
theorem uG{Q:Option ai->am->Prop}{R:Fin->am->Prop}(hh:A.handled=ae)(hQ:∀h',(∀b o,s.heap.get? b=aa o->h'.get? b=aa o)->Q ae {s with heap:=h'}):aq (aw P w) A.in1 (do raiseNew (←newExc (.type "StopIteration") [])) R (λe s'=>aq (aw P w) A (do if ←wC e (.type "StopIteration")then pure ae else throw e) Q E s') s:=by
 refine ap ?_;simp only[newExc,newTuple];refine ap (lW ?_ (by size_fits));refine ap (m:=firstArgMember _ _) (oM (a:=Value.none) (by first|rfl | (simp only[firstArgMember];rfl)) ?_);refine lW ?_ (by size_fits);simp only[raiseNew];refine ap (wpAny_handled ?_);rw[show A.in1.handled=ae from hh];refine ap (aD (wpAny_throw ?_));refine ap (EV (T:="StopIteration") (b:=ah) ⟨_,cZ _ rfl,rfl⟩ isSubtype_stop ?_);exact aD (hQ _ λb o e=>bH _ (bH _ e))
theorem yL{I a:af}{first f':ai}{i n ep:Nat}{Q:Unit->am->Prop}(hI:s.heap.get? I=aa (ii first i a n ep))(h:∀h',jC I s.heap h'->h'.get? I=aa (ii f' i a n ep)->Q () {s with heap:=h'}):aq (aw P w) A (l6 (.ref I) 0 f') Q E s:=by refine qN hI rfl (by simp[ii]) (h _ (qL ..) ?_);rw[mY _ hI (by rfl)];rfl
theorem xQ{I a:af}{first:ai}{i n ep:Nat}{Q:Unit->am->Prop}(hI:s.heap.get? I=aa (ii first i a n ep))(h:∀h',jC I s.heap h'->h'.get? I=aa (ii first (i+1) a n ep)->Q () {s with heap:=h'}):aq (aw P w) A (l6 (.ref I) 1 (dZ ((i:Int)+1))) Q E s:=by refine qN hI rfl (by simp[ii]) (h _ (qL ..) ?_);rw[mY _ hI (by rfl)];rfl
theorem u7{I a:af}{first:ai}{i n ep:Nat}{Q:Unit->am->Prop}(hI:s.heap.get? I=aa (ii first i a n ep))(h:∀h',jC I s.heap h'->(∃o,h'.get? I=aa o)->Q () {s with heap:=h'}):aq (aw P w) A (l6 (.ref I) 2 .none) Q E s:=by refine qN hI rfl (by simp[ii]) (h _ (qL ..) ⟨_,mY _ hI (by rfl)⟩)
abbrev og(es:Array (Int×ai))(ep:Nat)(t:bT):Obj:={cls:=.type "set",dict:=ae,data:=.set es ep t}
theorem KI{I a:af}{es:Array (Int×ai)}{ep:Nat}{t:bT}(dq:a≠I)(hf:t.fits es.size=ah)(hb:dw w=ah)(hh:A.handled=ae):Walks P w A I [I,a] [I] es.size (λi v=>((tm (w.params.setOrder a ep) es).toList.map (·.2))[i]?=aa v) (λi h=>h.get? I=aa (ii (dZ 0) i a es.size ep)/\h.get? a=aa (og es ep t)):=by
 have hsz:(tm (w.params.setOrder a ep) es).size=es.size:=by have:=(BQ (w.params.setOrder a ep) es).length_eq;simpa using this
 have body:∀(s:am) (i:Nat) (Q:Option (ai×Nat)->am->Prop) (E:ai->am->Prop),s.heap.get? a=aa (og es ep t) ->
   Q (((tm (w.params.setOrder a ep) es)[i]?).map λe=>(e.2,0)) s->aq (aw P w) A.in1 (l5 a (0:Int).toNat (i:Int).toNat (ep:Int).toNat) Q E s:=λs i Q E ha hq=>by
  unfold l5;refine ap (j9 ha rfl hf ?_);unfold wD;refine ap (ap (qM (aD ?_)));show aq _ _ (if dw w=ah then _ else _) _ _ s;rw[if_pos hb];simp only[mX,bne_self_eq_false,eB,if_false];unfold setWalk;refine ap (ap (j9 ha rfl hf ?_));unfold wD;refine ap (ap (qM (aD ?_)));show aq _ _ (if dw w=ah then _ else _) _ _ s;rw[if_pos hb];refine ap (qM (aD (aD ?_)));exact hq
 refine⟨λb hb=>by simp at hb;simp[hb],λi h h' st k=>⟨k I (by simp) _ st.1,k a (by simp) _ st.2⟩,λi s Q E hi st hQ=>?_,λs Q E st hQ=>?_,λi s Q E st hQ=>uu st.1 hQ⟩
 ·refine nX st.2 hf st.1 ?_;refine ap (body s i _ _ st.2 ?_);have ba:i<(tm (w.params.setOrder a ep) es).size:=∅
  rw[jg ba];dsimp only[wE];refine ap (yL st.1 λh1 gM e1=>?_);refine ap (xQ (s:={s with heap:=h1}) e1 λh2 kj e2=>?_);refine aD ⟨_,rfl,hQ _ h2 s.toks ?_ ⟨e2,?_⟩ λb o hb e=>?_⟩
  ·rw[jD];simp[jg ba]
  ·exact(kj.2 a dq).trans ((gM.2 a dq).trans st.2)
  ·exact(kj.2 b (by simpa using hb)).trans ((gM.2 b (by simpa using hb)).trans e)
 ·refine nX st.2 hf st.1 ?_;refine ap (body s es.size _ _ st.2 ?_);rw[Array.getElem?_eq_none ∅];dsimp only[Option.map_none];refine ap (u7 st.1 λh1 gM _=>?_);exact uG (s:={s with heap:=h1}) hh λh2 k2=>hQ h2 s.toks λb o hb e=>k2 b o ((gM.2 b (by simpa using hb)).trans e)
theorem NB{I a T:af}{es:Array (Int×ai)}{ep:Nat}{t:bT}{ord:List Nat}(dq:a≠I)(hT:T≠I)(hf:t.fits es.size=ah)(hp:ord.Perm (bX es.size))(hh:A.handled=ae):Walks P w A I [I,a,T] [I] es.size (λi v=>(ord.filterMap λj=>(es[j]?).map (·.2))[i]?=aa v) (λi h=>h.get? I=aa (ii (.ref T) i a es.size ep)/\h.get? a=aa (og es ep t)/\h.get? T=aa {cls:=.type "tuple",data:=.seq (ord.map λ(k:Nat)=>dZ k).toArray}):=by
 have hol:ord.length=es.size:=by simpa using hp.length_eq
 have hmem:∀j∈ord,j<es.size:=λj hj=>by simpa using hp.mem_iff.mp hj
 have fm:∀(l:List Nat),(∀j∈l,j<es.size)->∀(i j:Nat),l[i]?=aa j->∃e:Int×ai,es[j]?=aa e/\(l.filterMap λj=>(es[j]?).map (·.2))[i]?=aa e.2:=by
  intro l
  induction l with
  |nil=>intro _ i j h;simp at h
  |cons x r ih=>
   intro hl i j h;have hx:x<es.size:=hl x (eN ..);have ex:es[x]?=aa es[x]:=jg hx;cases i with
   |zero=>simp at h;subst h;exact⟨_,ex,by rw[kY,ex];rfl⟩
   |succ i=>obtain⟨e,q1,q2⟩:=ih (λj hj=>hl j (dN _ hj)) i j (by simpa using h);exact⟨e,q1,by rw[kY,ex];simpa using q2⟩
 have tupR:∀(s:am) (Q:Option (Array ai)->am->Prop) (E:ai->am->Prop),s.heap.get? T=aa {cls:=.type "tuple",data:=.seq (ord.map λ(k:Nat)=>dZ k).toArray}->Q (aa (ord.map λ(k:Nat)=>dZ k).toArray) s->aq (aw P w) A.in1 (seqItems? (.ref T)) Q E s:=λs Q E ht hq=>by exact z9 ht rfl hq
 refine⟨λb hb=>by simp at hb;simp[hb],λi h h' st k=>⟨k I (by simp) _ st.1,k a (by simp) _ st.2.1,k T (by simp) _ st.2.2⟩,λi s Q E hi st hQ=>?_,λs Q E st hQ=>?_,λi s Q E st hQ=>uu st.1 hQ⟩
 ·refine nX st.2.1 hf st.1 ?_;refine ap (tupR s _ _ st.2.2 ?_);have ba:i<ord.length:=∅
  have e1:((ord.map λ(k:Nat)=>dZ k).toArray)[(i:Int).toNat]?=aa (dZ (ord[i]:Nat)):=by simp[ba]
  dsimp only;rw[e1];obtain⟨e,q1,q2⟩:=fm ord hmem i ord[i] (d7 ba);show aq _ _ (setNextDrawn a _ _ >>= _) _ _ s;refine ap ?_;unfold setNextDrawn;refine ap (j9 st.2.1 rfl hf ?_);simp only[mX,bne_self_eq_false,eB,if_false];rw[q1];refine aD ?_;refine ap (xQ st.1 λh2 kj e2=>?_);refine aD ⟨_,rfl,hQ _ h2 s.toks q2 ⟨e2,(kj.2 a dq).trans st.2.1,(kj.2 T hT).trans st.2.2⟩ λb o hb e=>(kj.2 b (by simpa using hb)).trans e⟩
 ·refine nX st.2.1 hf st.1 ?_;refine ap (tupR s _ _ st.2.2 ?_);have e1:((ord.map λ(k:Nat)=>dZ k).toArray)[(es.size:Int).toNat]?=ae:=by simp[hol]
  dsimp only;rw[e1];refine ap (yL st.1 λh1 gM e1=>?_);refine ap (u7 (s:={s with heap:=h1}) e1 λh2 kj _=>?_);exact uG (s:={s with heap:=h2}) hh λh3 k3=>hQ h3 s.toks λb o hb e=>k3 b o ((kj.2 b (by simpa using hb)).trans ((gM.2 b (by simpa using hb)).trans e))
theorem GL(j k:Nat):gG #[j] k=if j<k then 1 else 0:=by
 unfold gG;simp only[ce,fg,m_];unfold qO;simp;split
 ·rename_i h;unfold qO;simp
 ·unfold qO;simp
theorem GZ{I a:af}{es:Array (Int×ai)}{ep:Nat}{t:bT}(dq:a≠I)(hf:t.fits es.size=ah)(hb:dw w=aj)(kf:t.led=ah)(h1:es.size=1)(hh:A.handled=ae):Walks P w A I [I,a] [I] 1 (λi v=>(es.toList.map (·.2))[i]?=aa v) (λi h=>h.get? I=aa (ii (dZ (if i=0 then 0 else((t.place.getD 0 0:Nat):Int)+1)) i a es.size ep)/\h.get? a=aa (og es ep t)):=by
 have hps:t.place.size=1:=by simp only[SetTable.fits,fD,beq_iff_eq]at hf;lia
 obtain⟨j,hj⟩:∃j,t.place=#[j]:=by
  match hq:t.place,hps with
  |⟨[j]⟩,_=>exact⟨j,rfl⟩
 have gj:((t.place.getD 0 0:Nat):Int)=(j:Int):=by rw[hj];rfl
 obtain⟨e,he⟩:∃e,es=#[e]:=by
  match hq:es,h1 with
  |⟨[e]⟩,_=>exact⟨e,rfl⟩
 have body:∀(s:am) (slot:Nat) (i:Nat) (Q:Option (ai×Nat)->am->Prop) (E:ai->am->Prop),s.heap.get? a=aa (og es ep t) ->
   Q (if j<slot then ae else aa (e.2,j+1)) s->aq (aw P w) A.in1 (l5 a slot i ep) Q E s:=λs slot i Q E ha hq=>by
  unfold l5;refine ap (j9 ha rfl hf ?_);unfold wD;refine ap (ap (qM (aD ?_)));show aq _ _ (if dw w=ah then _ else _) _ _ s;rw[if_neg (by rw[hb];decide)];refine wF (λhc=>absurd (show(!t.plain&&decide (es.size > 1))=ah from hc) (by rw[h1];simp)) (λ_=>?_);refine ap ?_;refine dY (Q:=λ_ s'=>s'=s) (E:=E) ?_ (λ_ s' nA=>?_) (λ_ _ x=>x)
  ·refine wF (λhc=>absurd (show(!t.led&&!es.isEmpty)=ah from hc) (by rw[kf];simp)) (λ_=>aD rfl)
  ·subst nA;rw[hj,GL,he];by_cases ba:j<slot
   ·rw[if_pos ba]at hq ⊢;exact aD hq
   ·rw[if_neg ba]at hq ⊢;exact aD hq
 refine⟨λb hb=>by simp at hb;simp[hb],λi h h' st k=>⟨k I (by simp) _ st.1,k a (by simp) _ st.2⟩,λi s Q E hi st hQ=>?_,λs Q E st hQ=>?_,λi s Q E st hQ=>uu st.1 hQ⟩
 ·obtain rfl:i=0:=∅
  refine nX st.2 hf st.1 ?_;show aq _ _ (l5 a (0:Int).toNat ((0:Nat):Int).toNat (ep:Int).toNat >>= _) _ _ s;simp only[mX,Int.toNat_zero];refine ap (body s 0 0 _ _ st.2 ?_);rw[if_neg (l8 j)];dsimp only;refine ap (yL st.1 λh1 gM e1=>?_);refine ap (xQ (s:={s with heap:=h1}) e1 λh2 kj e2=>?_);refine aD ⟨_,rfl,hQ _ h2 s.toks ?_ ⟨?_,?_⟩ λb o hb e=>?_⟩
  ·rw[he];rfl
  ·rw[e2,if_neg (by decide),gj];rfl
  ·exact(kj.2 a dq).trans ((gM.2 a dq).trans st.2)
  ·exact(kj.2 b (by simpa using hb)).trans ((gM.2 b (by simpa using hb)).trans e)
 ·refine nX st.2 hf st.1 ?_;rw[if_neg (by decide),gj];show aq _ _ (l5 a ((j:Int)+1).toNat ((1:Nat):Int).toNat (ep:Int).toNat >>= _) _ _ s;have e1:((j:Int)+1).toNat=j+1:=∅
  rw[e1,mX,mX];refine ap (body s (j+1) 1 _ _ st.2 ?_);rw[if_pos (ng j)];dsimp only;refine ap (u7 st.1 λh1 gM _=>?_);exact uG (s:={s with heap:=h1}) hh λh2 k2=>hQ h2 s.toks λb o hb e=>k2 b o ((gM.2 b (by simpa using hb)).trans e)
theorem vq:∀{vs:List ai}{ss:List Str} (i:Nat) (v:ai),dj vs ss->vs[i]?=aa v->∃t,v=.str (ss.getD i jc) t
 |_,_,i,v,.nil,h=>by simp at h
 |_,_,0,v,.cons y t _,h=>by simp at h;exact⟨t,by rw[←h];rfl⟩
 |_,_,i+1,v,.cons y t hr,h=>by simp only[List.getElem?_cons_succ]at h;obtain⟨t',e⟩:=vq i v hr h;exact⟨t',by rw[e];rfl⟩
set_option maxRecDepth 100000 in
theorem El{l:af}{items:Array ai}{Q:ai->am->Prop}(hh:A.handled=ae)(hl:s.heap.IsList l items){J:Nat->aA->Prop}(hJ:∀i h h',J i h->(∀b o,b<=s.heap.objs.size->h.get? b=aa o->h'.get? b=aa o)->J i h') (hJ0:J 0 (s.heap.push {cls:=.type "set",dict:=ae,data:=.set #[] 0 (.fresh 0 0 (!dw w))}))(li:∀(i:Nat) (v:ai) (s1:am) (E:ai->am->Prop) (Q:Bool->am->Prop),i<items.size->items[i]?=aa v->J i s1.heap->(∀h' tk b,s1.toks<=tk->jC s.heap.objs.size s1.heap h'->J (i+1) h'->Q b {s1 with heap:=h',toks:=tk})->aq (aw P w) A.in1.in1.in1 (setAdd s.heap.objs.size v) Q E s1)(h:∀(h':aA) (tk:Nat),J items.size h'->(∀b o,b<s.heap.objs.size->s.heap.get? b=aa o->h'.get? b=aa o)->Q (.ref s.heap.objs.size) {s with heap:=h',toks:=tk}):aq (aw P w) A (call (.type "set") [.ref l]) Q E s:=by
 obtain⟨c,tl,hmro⟩:=F.called_set.mro;have hmade:=F.called_set.made;have nt:=F.called_set.sub;refine wp (codeAny_of_tree ?_);show aq _ _ (callAny (.type "set") _) _ _ _;refine aD ⟨Code.quiet_builtin _ (by decide +kernel),tj F.entry_type_call ?_⟩;rw[Around.under_plain (weight_type_call_type "set" [.ref l] []) rfl];have h1:=F.called_set.notType;have h2:=F.called_set.canCreate;have hct:=PySem.F.typeCall_set_1 (.ref l)
 repeat any_goals (first|assumption|wp_step)
 refine oD (Jc (P:=P) (w:=w) (.ref l) (E:=E) (Q:=λobj s1=>obj=.ref s.heap.objs.size/\s1={s with heap:=s.heap.push {cls:=.type "set",dict:=ae,data:=.set #[] 0 (.fresh 0 0 (!dw w))}}/\True) λS0=>⟨rfl,rfl,trivial⟩) λr s1 hr=>?_;cases r with
 |error e=>exact hr
 |ok fl=>
  cases fl with
  |ret obj=>
   obtain⟨rfl,rfl,S0⟩:=hr;have hS:=cZ (h:=s.heap) (o:=({cls:=.type "set",dict:=ae,data:=.set #[] 0 (.fresh 0 0 (!dw w))}:Obj));have hS':(s.heap.push {cls:=.type "set",dict:=ae,data:=.set #[] 0 (.fresh 0 0 (!dw w))}).get? s.heap.objs.size=aa {cls:=.type "set",dict:=ae,data:=.set #[] 0 (.fresh 0 0 (!dw w))}:=cZ _ rfl;have hT:Shared.TypeIs {s with heap:=s.heap.push {cls:=.type "set",dict:=ae,data:=.set #[] 0 (.fresh 0 0 (!dw w))}} (.ref s.heap.objs.size) "set":=⟨_,hS',rfl⟩
   have hli:=F.called_set.init.lookup;have hbi:=F.called_set.init.bind (.ref s.heap.objs.size)
   repeat any_goals (first|assumption|wp_step)
   refine oD (codeAny_call_builtin (R:=wants (λr s2=>r=.none/\∃h' tk,s2={s with heap:=h',toks:=tk}/\J items.size h' /\ (∀b o,b<s.heap.objs.size->s.heap.get? b=aa o->h'.get? b=aa o)) E) F.called_set.init.plain F.entry_set_init (check_set_init_1 hT ?_)) λr2 s2 rh=>?_
   ·obtain⟨⟨ocls,odict,odata,oslots⟩,hol,tX,nl,hdl⟩:=hl;simp only at tX hdl;subst tX;subst hdl;have hol':(s.heap.push {cls:=.type "set",dict:=ae,data:=.set #[] 0 (.fresh 0 0 (!dw w))}).get? l=aa {cls:=.type "list",dict:=odict,data:=.seq items nl,slots:=oslots}:=bH _ hol;have hsls:=PySem.F.sub_list_set;have hslf:=PySem.F.sub_list_frozenset;have dq:(Value.type "list" == Value.type "dict")=aj:=by decide
    have tY:(s.heap.push {cls:=.type "set",dict:=ae,data:=.set #[] 0 (.fresh 0 0 (!dw w))}).IsList l items:=⟨_,hol',rfl,nl,rfl⟩
    unfold Builtin.«set.__init__» noKeywords Builtin.Frozenset.updateFrom;generalize hPI:mT=PI
    wp_walk
    subst hPI;refine EL tY (ap (wpAny_runValue ?_));have hlS:l<s.heap.objs.size:=bu hol;have hh3:A.in1.in1.in1.handled=ae:=by simp[hh]
    have hsz:(s.heap.push {cls:=.type "set",dict:=ae,data:=.set #[] 0 (.fresh 0 0 (!dw w))}).objs.size=s.heap.objs.size+1:=zT ..;have hneI:l≠(s.heap.push {cls:=.type "set",dict:=ae,data:=.set #[] 0 (.fresh 0 0 (!dw w))}).objs.size:=by rw[hsz];exact cQ (ka hlS)
    have hSf:s.heap.objs.size∉[(s.heap.push {cls:=.type "set",dict:=ae,data:=.set #[] 0 (.fresh 0 0 (!dw w))}).objs.size,l]:=by rw[hsz];simp only[bG,hV,gf,or_false,not_or];exact⟨cQ (ng _),qt hlS⟩
    refine IC ((Walks.list hh3 _ l hneI items).toS) s.heap.objs.size hSf (λi h h' hj k=>hJ i h h' hj λb o hb e=>k b o (by rw[hsz];simp only[hV];exact cQ (Nat.lt_succ_of_le hb)) e) (λi v s1 E Q hi hv hj hq=>li i v s1 E Q hi hv hj hq) (items.size-0) 0 _ ∅ (k_ _)
     ⟨⟨_,cZ _ rfl,rfl,rfl⟩,(tY.push _)⟩ (hJ 0 _ _ hJ0 λb o _ e=>bH _ e) ?_
    intro s' hm lr;obtain⟨h',g',d',tk',os'⟩:=s';obtain rfl:g'=s.gens:=hm.gens;obtain rfl:d'=s.drawn:=hm.drawn;obtain rfl:os'=s.os:=hm.os;show aq _ _ _ _ _ _;refine aD ?_;show aq _ _ (ret Value.none) _ _ _;refine aD ⟨rfl,h',tk',rfl,lr,λb o hb e=>hm.heap b o ?_ (bH _ (bH _ e))⟩;rw[hsz];simp only[bG,hV,gf,or_false,not_or];exact⟨cQ hb,cQ (ka hb)⟩
   ·cases r2 with
    |error e=>exact rh
    |ok fl2=>
     cases fl2 with
     |ret r=>
      obtain⟨rfl,h',tk,rfl,lr,mn⟩:=rh
      repeat any_goals (first|assumption|wp_step)
      exact h _ _ lr mn
     |_=>exact rh.elim
  |_=>exact hr.elim
theorem JK{l:af}{items:Array ai}{ss:List Str}{Q:ai->am->Prop}(hh:A.handled=ae)(hl:s.heap.IsList l items)(hi:dj items.toList ss)(hb:(met (λi=>ss.getD i jc) items.size).length<4000)(h:∀(h':aA) (tk:Nat),jA P w h' s.heap.objs.size (met (λi=>ss.getD i jc) items.size)->(∀b o,b<s.heap.objs.size->s.heap.get? b=aa o->h'.get? b=aa o)->Q (.ref s.heap.objs.size) {s with heap:=h',toks:=tk}):aq (aw P w) A (call (.type "set") [.ref l]) Q E s:=by
 refine El hh hl (J:=λi h=>jA P w h s.heap.objs.size (met (λi=>ss.getD i jc) i)) (λi h h' S k=>S.at λo e=>k _ o (a9 _) e)
  ⟨#[],0,_,[],cZ _ rfl,.nil,qI _,λe he=>by simp at he,by decide,rfl,rfl,λh=>absurd rfl h⟩ (λi v s1 E Q gL hv S q=>?_) h
 obtain⟨t,rfl⟩:=vq i v hi (by rw[wG];exact hv);unfold setAdd;refine iz ?_;have jH:(eV P w).is (ss.getD i jc) (.str (ss.getD i jc) t)=ah:=by show ou _ (.str _ t)=ah;simp[ou]
 refine ap ((eV P w).pyHash (k:=ss.getD i jc) jH ?_);refine G6 (s:={s1 with toks:=s1.toks+1}) S (oI (Cc _ (j3 gL)) hb) λh' b iS lr=>?_;rw[←Dg (λi=>ss.getD i jc)]at lr;exact q h' _ b (s_ _) iS lr
end
theorem DV{n:Nat}(h:n<=4096):n<a_:=oI h (by decide)
theorem Lw:typeLookup (.type "set") "__len__" = pure (aa (.builtin "set.__len__")):=F.slot_set_len.lookup
section
variable{P:aM}{w:aF}{A:aO}{E:ai->am->Prop}{s:am}
def pL(w:aF)(h:aA)(a:af)(es:Array (Int×ai)):Prop:=∃(ep:Nat) (t:bT),h.get? a=aa {cls:=.type "set",dict:=ae,data:=.set es ep t}/\es.size<4090/\t.fits es.size=ah/\t.led=(!dw w)/\(es.size≠0->t.plain=aj)
theorem pL.at{w:aF}{h h':aA}{a:af}{es:Array (Int×ai)}(S:pL w h a es)(k:∀o,h.get? a=aa o->h'.get? a=aa o):pL w h' a es:=by obtain⟨ep,t,e,r⟩:=S;exact⟨ep,t,k _ e,r⟩
theorem jA.e{h:aA}{a:af}{ks:List Str}(S:jA P w h a ks):∃es ss,pL w h a es/\dj (es.toList.map (·.2)) ss/\ss.Perm ks:=by
 obtain⟨es,ep,t,ss,ho,hS,hp,hel,hsz,hf,kf,cS⟩:=S.ex;refine⟨es,ss,⟨ep,t,ho,hsz,hf,kf,λh0=>cS λz=>h0 ?_⟩,hS,hp⟩;have e1:=hp.length_eq;have e2:ss.length=es.size:=by rw[←hS.strs];simp
 rw[z,m_]at e1;lia
structure C3(P:aM)(w:aF)(s s':am)(a I:af)(es:Array (Int×ai))(fp:List af)(n:Nat)(Pv:Nat->ai->Prop)(St:Nat->aA->Prop):Prop where
 wk:∀A:aO,A.handled=ae->Walks P w A I fp [I] n Pv St
 st:St 0 s'.heap
 old:∀b o,s.heap.get? b=aa o->s'.heap.get? b=aa o
 new:s.heap.objs.size<=I
 lt:∀b∈fp,b<s'.heap.objs.size
 rest:s'={s with heap:=s'.heap,drawn:=s'.drawn}
 ord:∀aH:Array ai,ItemsOf Pv aH n->aH.toList.Perm (es.toList.map (·.2))
 len:n<4090
 fps:∀b∈fp,b=a\/s.heap.objs.size<=b
theorem vp{l:List ai}{aH:Array ai}{n:Nat}(hl:l.length=n)(h:ItemsOf (λi v=>l[i]?=aa v) aH n):aH.toList=l:=by
 refine tq λi=>?_;by_cases hi:i<n
 ·have:i<aH.size:=by rw[h.1];exact hi
  have q:=h.2 i aH[i] (jg this);rw[q];simp[this]
 ·rw[nh (by rw[g_,h.1];lia),nh ∅]
theorem Hn{I a:af}{es:Array (Int×ai)}{ep:Nat}{t:bT}(dq:a≠I)(hf:t.fits es.size=ah)(hb:dw w=aj)(h1:es.size=0)(hh:A.handled=ae):Walks P w A I [I,a] [I] 0 (λi v=>(es.toList.map (·.2))[i]?=aa v) (λi h=>h.get? I=aa (ii (dZ 0) 0 a es.size ep)/\h.get? a=aa (og es ep t)):=by
 have he:es=#[]:=Array.eq_empty_of_size_eq_zero h1;have body:∀(s:am) (slot:Nat) (i:Nat) (Q:Option (ai×Nat)->am->Prop) (E:ai->am->Prop),s.heap.get? a=aa (og es ep t) ->
   Q ae s->aq (aw P w) A.in1 (l5 a slot i ep) Q E s:=λs slot i Q E ha hq=>by
  unfold l5;refine ap (j9 ha rfl hf ?_);unfold wD;refine ap (ap (qM (aD ?_)));show aq _ _ (if dw w=ah then _ else _) _ _ s;rw[if_neg (by rw[hb];decide)];refine wF (λhc=>absurd (show(!t.plain&&decide (es.size > 1))=ah from hc) (by rw[h1];simp)) (λ_=>?_);refine ap ?_;refine dY (Q:=λ_ s'=>s'=s) (E:=E) ?_ (λ_ s' nA=>?_) (λ_ _ x=>x)
  ·refine wF (λhc=>absurd (show(!t.led&&!es.isEmpty)=ah from hc) (by rw[he];simp)) (λ_=>aD rfl)
  ·subst nA;rw[he];have e2:∀k:Nat,(#[]:Array (Int×ai))[k]?=ae:=λk=>by simp
   dsimp only;rw[e2];exact aD hq
 refine⟨λb hb=>by simp at hb;simp[hb],λi h h' st k=>⟨k I (by simp) _ st.1,k a (by simp) _ st.2⟩,λi s Q E hi st hQ=>absurd hi (l8 i),λs Q E st hQ=>?_,λi s Q E st hQ=>uu st.1 hQ⟩;refine nX st.2 hf st.1 ?_;show aq _ _ (l5 a (0:Int).toNat ((0:Nat):Int).toNat (ep:Int).toNat >>= _) _ _ s;simp only[mX,Int.toNat_zero];refine ap (body s 0 0 _ _ st.2 ?_);dsimp only;refine ap (u7 st.1 λh1 gM _=>?_);exact uG (s:={s with heap:=h1}) hh λh2 k2=>hQ h2 s.toks λb o hb e=>k2 b o ((gM.2 b (by simpa using hb)).trans e)
theorem Jx{a:af}{es:Array (Int×ai)}{Q:ai->am->Prop}(S:pL w s.heap a es)(h:∀s' I fp n Pv St,C3 P w s s' a I es fp n Pv St->Q (.ref I) s'):aq (aw P w) A (mT (.ref a)) Q E s:=by
 obtain⟨ep,t,ho,hsz,hf,kf,cS⟩:=S;have hT:s.TypeIs (.ref a) "set":=⟨_,ho,rfl⟩
 have ltA:=bu ho;refine wpAny_pyIter_slot hT F.slot_set_iter (qw F.slot_set_iter hT FR ?_ (F.args_set_iter_1 _));unfold Builtin.«frozenset.__iter__» Builtin.Frozenset.slot0 slotArgs Builtin.Frozenset.addrOf Builtin.Frozenset.sizeOf;refine ap (aD ?_);refine ap (ap (wpAny_setEntries_of ho rfl hf (aD ?_)));unfold setDrawn;refine ap (ap (j9 ho rfl hf ?_));unfold wD;refine ap (ap (qM (aD ?_)));refine aD ?_;have fin:∀(first:ai) (s1:am) (fp:List af) (n:Nat) (Pv:Nat->ai->Prop) (St:Nat->aA->Prop),s1.heap.get? a=aa {cls:=.type "set",dict:=ae,data:=.set es ep t} ->
   C3 P w s {s1 with heap:=s1.heap.push (ii first 0 a es.size ep)} a s1.heap.objs.size es fp n Pv St ->
   aq (aw P w) A.in1 (do
    let e ←setEpoch a
    let f ←newFields "set_iterator" [first,dZ 0,Value.ref a,dZ (es.size:Nat),dZ (e:Nat)]
    ret f) (λfin s'=>∃v,fin=Fin.done (Flow.ret v)/\∃T' r,s'.TypeIs v T'/\typeLookup (Value.type T') (Str.ofString "__next__")=pure (aa r)/\Q v s') E s1:=λfirst s1 fp n Pv St ha W=>by
  refine ap (wpAny_setEpoch_of ha rfl hf ?_);refine ap (lW ?_);exact aD ⟨_,rfl,"set_iterator",_,⟨_,cZ _ rfl,rfl⟩,BH.lookup,h _ _ fp n Pv St W⟩
 refine wF (λhc=>?_) (λhc=>?_)
 ·have eC:(!dw w&&(!t.plain&&decide (es.size > 1)))=ah:=hc;refine ap (BU es.size (bX es.size) s _ (by simp) λys d hy=>?_);refine ap (wpAny_newTuple ?_ (hsz:=by rw[dy,hy.length_eq,EM];exact j3 (DV ∅)));refine fin _ _ _ _ _ _ (bH _ ho) ⟨λA' hA=>NB (T:=s.heap.objs.size) (cQ (by rw[iR];exact ka ltA)) (cQ (by rw[iR];exact ng _)) hf hy hA,⟨cZ _ rfl,?_,?_⟩,?_,?_,?_,rfl,?_,hsz,?_⟩
  ·exact bH _ (bH _ ho)
  ·exact bH _ (cZ _ rfl)
  ·exact λb o e=>bH _ (bH _ e)
  ·rw[iR];exact s_ _
  ·intro b hb;simp only[bG,gf,or_false]at hb;rw[iR,iR];rcases hb with rfl|rfl|rfl
   ·rw[iR];exact ng _
   ·exact ka (ka ltA)
   ·exact ka (ng _)
  ·intro aH lj;have e0:(ys.filterMap λj=>(es[j]?).map (·.2))=(ys.filterMap λj=>es[j]?).map (·.2):=by rw[EW]
   have pl:(ys.filterMap λj=>es[j]?).Perm es.toList:=by have:=hy.filterMap λj=>es[j]?;rwa[filterMap_getElem?_range]at this
   rw[e0]at lj;rw[vp (by rw[dy,pl.length_eq];simp) lj];exact pl.map _
  ·intro b hb;simp only[bG,gf,or_false]at hb;rcases hb with rfl|rfl|rfl
   ·rw[iR];exact .inr (s_ _)
   ·exact .inl rfl
   ·exact .inr (a9 _)
 ·have eC:¬(!dw w&&(!t.plain&&decide (es.size > 1)))=ah:=hc;refine ap (aD ?_);cases hb:dw w with
  |true=>
   refine fin _ _ _ _ _ _ ho ⟨λA' hA=>KI (cQ ltA) hf hb hA,⟨cZ _ rfl,bH _ ho⟩,λb o e=>bH _ e,a9 _,?_,rfl,?_,hsz,λb hb=>?_⟩
   ·intro b hb;simp only[bG,gf,or_false]at hb;rw[iR];rcases hb with rfl|rfl
    ·exact ng _
    ·exact ka ltA
   ·intro aH lj;have pl:=BQ (w.params.setOrder a ep) es;rw[vp (by rw[dy,pl.length_eq];simp) lj];exact pl.map _
   ·simp only[bG,gf,or_false]at hb;exact hb.elim (λz=>.inr (lX z.symm)) .inl
  |false=>
   have h01:es.size=1\/es.size=0:=by
    by_cases hk:es.size=0
    ·exact .inr hk
    ·rw[hb,cS hk]at eC;simp at eC;lia
   rcases h01 with h1|h1
   ·refine fin _ _ _ _ _ _ ho ⟨λA' hA=>GZ (cQ ltA) hf hb (by rw[kf,hb];rfl) h1 hA,⟨cZ _ rfl,bH _ ho⟩,λb o e=>bH _ e,a9 _,?_,rfl,?_,by decide,λb hb=>?_⟩
    ·intro b hb;simp only[bG,gf,or_false]at hb;rw[iR];rcases hb with rfl|rfl
     ·exact ng _
     ·exact ka ltA
    ·intro aH lj;rw[vp (by simp[h1]) lj]
    ·simp only[bG,gf,or_false]at hb;exact hb.elim (λz=>.inr (lX z.symm)) .inl
   ·refine fin _ _ _ _ _ _ ho ⟨λA' hA=>Hn (cQ ltA) hf hb h1 hA,⟨cZ _ rfl,bH _ ho⟩,λb o e=>bH _ e,a9 _,?_,rfl,?_,by decide,λb hb=>?_⟩
    ·intro b hb;simp only[bG,gf,or_false]at hb;rw[iR];rcases hb with rfl|rfl
     ·exact ng _
     ·exact ka ltA
    ·intro aH lj;rw[vp (by simp[h1]) lj]
    ·simp only[bG,gf,or_false]at hb;exact hb.elim (λz=>.inr (lX z.symm)) .inl
theorem A5{a:af}{es:Array (Int×ai)}{Q:List ai->am->Prop}(hh:A.handled=ae)(S:pL w s.heap a es)(h:∀(s':am) (vs:List ai),vs.Perm (es.toList.map (·.2))->(∀b o,s.heap.get? b=aa o->s'.heap.get? b=aa o)->s'.gens=s.gens->s'.os=s.os->Q vs s'):aq (aw P w) A (collect (.ref a)) Q E s:=by
 obtain⟨ep,t,ho,hsz,_⟩:=id S;have ltA:=bu ho;unfold collect;refine ap (wpAny_runValue (tj F.entry_proto_collect ?_));rw[wB F.plain_proto_collect _];show aq _ A.in1 (newList [] >>= λl=>again (.builtin "list.__iadd__" ⟨[l,.ref a],[]⟩)) _ _ s;refine ap (lW ?_);refine aD ⟨z8 F.plain_list_iadd _,tj F.entry_list_iadd ?_⟩;rw[wB F.plain_list_iadd _];show aq _ A.in1 (Builtin.List.listExtendWith (.ref s.heap.objs.size) (.ref a) (.ref s.heap.objs.size)) _ _ _;unfold Builtin.List.listExtendWith;have hT:∀s1:am,s1.heap.get? a=aa {cls:=.type "set",dict:=ae,data:=.set es ep t}->s1.TypeIs (.ref a) "set":=λs1 e=>⟨_,e,rfl⟩
 have t5:(s.heap.push {cls:=.type "list",data:=.seq ([]:List ai).toArray}).get? a=aa {cls:=.type "set",dict:=ae,data:=.set es ep t}:=bH _ ho;refine ap (zM (hT _ t5) ?_);have h1:Builtin.List.listSameRef (.ref s.heap.objs.size) (.ref a)=aj:=by have:¬(s.heap.objs.size=a):=qt ltA;simp[Builtin.List.listSameRef,this]
 rw[if_neg (by rw[h1];decide)];refine ap (Jx (S.at λo e=>bH _ e) λs2 I fp n Pv St W=>?_);have jj:=W.old a _ t5;refine ap (iz ?_);unfold Builtin.List.listLengthHint;refine ap (sZ (hT _ jj) Lw ?_)
 wp_delta
 refine ap (EV (T:="set") (b:=ah) (hT _ jj) (by rw[isSubtype_type];kernel_rfl) ?_);show aq _ A.in1 (typeOf (Value.ref a) >>= _) _ _ _;refine ap (zM (T:="set") (hT _ jj) ?_);refine aD ?_;rw[if_pos (by decide)];refine ap (lZ ?_);have hL:(s.heap.push {cls:=.type "list",data:=.seq ([]:List ai).toArray}).get? s.heap.objs.size=aa {cls:=.type "list",data:=.seq ([]:List ai).toArray}:=cZ _ rfl;have hL2:=W.old _ _ hL;unfold Builtin.List.listTouch;refine ap (ap (z_ hL2 rfl ?_ (by decide) (by show 1<=a_+1;decide)));have hL3:=get?_update_seq hL2 (λa:Array ai=>a.push Value.none);refine z_ hL3 rfl ?_ (by show 1<=a_;decide) (by show 0<=a_+1;decide);have hL4:=get?_update_seq hL3 (λa:Array ai=>a.pop);have Fm:s.heap.objs.size∉fp:=λz=>by
  rcases W.fps _ z with q|q
  ·exact absurd ltA (by rw[←q];exact fe _)
  ·rw[iR]at q;exact absurd (ng _) (Nat.not_lt.mpr q)
 have k4:∀b o,b≠s.heap.objs.size->s2.heap.get? b=aa o->(((s2.heap.update s.heap.objs.size (je λa=>a.push Value.none)).update s.heap.objs.size (je λa=>a.pop))).get? b=aa o:=λb o hb e=>by rw[EX _ _ _ _ hb,EX _ _ _ _ hb];exact e
 have bI:St 0 (((s2.heap.update s.heap.objs.size (je λa=>a.push Value.none)).update s.heap.objs.size (je λa=>a.pop))):=(W.wk A.in1 hh).frame 0 _ _ W.st λb hb o e=>k4 b o (λz=>Fm (z ▸ hb)) e;refine aD ⟨z8 F.plain_extend_loop _,codeAny_extend_loopS (W.wk A.in1 hh).toS (j3 (DV (by have:=W.len;lia))) _ Fm _ n 0 _ _ _ rfl (k_ _) bI hL4 (ItemsOf.nil _) λs' acc' c' hm hS' lj=>?_⟩;show aq _ A (load s.heap.objs.size >>= _) _ _ s';refine ap (wpAny_load hS' ?_);refine aD (h s' acc'.toList (W.ord acc' lj) (λb o e=>?_) ?_ ?_)
 ·have ba:=bu e;refine hm.heap b o (λhb=>?_) (k4 b o (cQ ba) (W.old b o (bH _ e)));rcases bG.mp hb with z|z
  ·exact absurd ba (by rw[z];exact fe _)
  ·rw[hV.mp z]at ba;have:=W.new;rw[iR]at this;exact absurd ba (Nat.not_lt.mpr (Nat.le_of_succ_le this))
 ·rw[hm.gens,W.rest]
 ·rw[hm.os,W.rest]
theorem JJ{a:af}{ks:List Str}{Q:List ai->am->Prop}(hh:A.handled=ae)(S:jA P w s.heap a ks)(h:∀(s':am) (vs:List ai) (ss:List Str),dj vs ss->ss.Perm ks->vs.length<4090->(∀b o,s.heap.get? b=aa o->s'.heap.get? b=aa o)->s'.gens=s.gens->s'.os=s.os->Q vs s'):aq (aw P w) A (collect (.ref a)) Q E s:=by
 obtain⟨es,ss,S,hS,hp⟩:=S.e;have hsz:es.size<4090:=by obtain⟨_,_,_,z,_⟩:=S;exact z
 refine A5 hh S λs' vs pv k1 k2 k3=>?_;obtain⟨aI,q1,q2⟩:=xP pv hS;exact h s' vs aI q1 (q2.trans hp) (by have:=pv.length_eq;simp at this;lia) k1 k2 k3
end
def fu(ls:List Tx):List Tx:=ls.foldl (λks x=>if x∈ks then ks else ks++[x]) []
theorem Bi(ls:List Tx):met (λi=>(ls.map tS).getD i jc) ls.length=(fu ls).map tS:=by
 have gen:∀(l:List Tx) (aH:List Tx),(l.map tS).foldl i7 (aH.map tS)=(l.foldl (λks x=>if x∈ks then ks else ks++[x]) aH).map tS:=by
  intro l
  induction l with
  |nil=>intro aH;rfl
  |cons x r ih=>
   intro aH;rw[eh,k9,k9];have:i7 (aH.map tS) (tS x)=(if x∈aH then aH else aH++[x]).map tS:=by
    unfold i7;have hm:tS x∈aH.map tS↔x∈aH:=by rw[bP];exact⟨λ⟨y,hy,e⟩=>by rw[←u5 e];exact hy,λh=>⟨x,h,rfl⟩⟩
    by_cases h:x∈aH
    ·rw[if_pos h,if_pos (hm.mpr h)]
    ·rw[if_neg h,if_neg (λz=>h (hm.mp z)),nc];rfl
   rw[this,ih]
 have e:(bX ls.length).map (λi=>(ls.map tS).getD i jc)=ls.map tS:=by
  refine tq λi=>?_;rw[jD];by_cases hi:i<ls.length
  ·rw[wu hi];simp[hi]
  ·rw[nh (by simpa using hi),nh (by simpa using hi)];rfl
 unfold met;rw[e];exact gen ls []
theorem CP(l aH:List Tx):(aH.Nodup->(l.foldl (λks x=>if x∈ks then ks else ks++[x]) aH).Nodup)/\∀x,x∈l.foldl (λks x=>if x∈ks then ks else ks++[x]) aH↔x∈aH\/x∈l:=by
 induction l generalizing aH with
 |nil=>exact⟨λh=>h,λx=>by simp⟩
 |cons y r ih=>
  rw[k9];obtain⟨h1,h2⟩:=ih (if y∈aH then aH else aH++[y]);refine⟨λh=>h1 ?_,λx=>?_⟩
  ·split
   ·exact h
   ·rename_i hy;rw[List.nodup_append];exact⟨h,by simp,λa ha b hb=>by simp at hb;subst hb;exact λe=>hy (e ▸ ha)⟩
  ·rw[h2 x,bG];split
   ·rename_i hy;constructor
    ·rintro(h|h)
     ·exact .inl h
     ·exact .inr (.inr h)
    ·rintro(h|rfl|h)
     ·exact .inl h
     ·exact .inl hy
     ·exact .inr h
   ·rw[gb,hV,or_assoc]
theorem Nf(l:List Tx):(fu l).Nodup:=(CP l []).1 List.nodup_nil
theorem vd(l:List Tx)(x:Tx):x∈fu l↔x∈l:=by rw[fu,(CP l []).2 x];simp
theorem Lh(l:List Tx):(fu l).length<=l.length:=by
 have gen:∀(l aH:List Tx),(l.foldl (λks x=>if x∈ks then ks else ks++[x]) aH).length<=aH.length+l.length:=by
  intro l
  induction l with
  |nil=>intro aH;simp
  |cons x r ih=>intro aH;rw[k9];refine cR (ih _) ?_;split <;> simp <;> lia
 simpa[fu]using gen l []
section
variable{X:Cx}
def nL(X:Cx)(a:af)(ls:List Tx):HO:=.ext λh=>jA X.prog X.w h a (ls.map tS)
theorem IQ(hc:X.calm=ah):et X (.type "set") (λxs H Q=>∃(p:af) (ls:List Tx),xs=[.ref p]/\cc X.K H p (dD ls)/\(fu ls).length<4000/\∀a,H a=ae->Q (.ref a) (upd H a (nL X a (fu ls)))):=by
 intro ag s σ H xs us Q I r h;obtain⟨p,ls,rfl,hq,h60,q⟩:=h;obtain⟨u,rfl,ru⟩:=vals1 r;cases ru;obtain⟨its,rv,pl,hz⟩:=I.list hq;have hl:=rv.length;rw[yW]at hl;refine JK (P:=X.prog) (w:=X.w) (I.ok.hd hc) pl.isList (by simpa using uy rv) (by rw[ce,show its.length=ls.length by lia,Bi,dy];exact h60) λh' tk S k=>?_;have S':jA X.prog X.w h' s.heap.objs.size ((fu ls).map tS):=by
  have e:its.toArray.size=ls.length:=by rw[ce];lia
  rw[e,Bi]at S;exact S
 refine⟨.ref s.heap.objs.size,_,I.laid (t':=tk) (o:=nL X s.heap.objs.size (fu ls)) (λb o e=>k b o (bu e) e) (a9 _) ?_,rfl,q _ I.fresh⟩;obtain⟨es,ep,t,ss,e,_⟩:=S'.ex;exact⟨S',⟨_,e⟩,λh1 h2 q1 q2=>q1.at q2⟩
end
structure cq(K:ax)(mg:Str->Option ai)(x:Str)(st:aZ):Prop where
 ex:∃f fd,mg x=aa (.ref f)/\nV K x x st f fd
theorem Dd{H:Hp}{p:af}{o:HO}(h:H p=ae):Same H (upd H p o):=λb u q=>by rw[b7 (jO q h)];exact q
theorem De{α:Type}{xs:List α}{k:Int}(h0:0<=k)(h:k.toNat<xs.length):fY xs k=aa xs[k.toNat]:=by
 have e:((k.toNat:Nat):Int)=k:=∅
 have q:=LA (xs:=xs) (j:=k.toNat) (v:=xs[k.toNat]) (by simp[h]);rwa[e]at q
def BK(N:List Str)(sc scope:dX)(x:Str)(N':List Str)(cap:List Nat):Bool :=
 decide (scope.kind=.function)&&scope.names.all (λy=>(decide (y.2≠.cell)||decide (scope.names.lookup y.1=aa .cell))&&(decide (y.2≠.local)||decide (scope.names.lookup y.1=aa .local))&&(decide (y.2≠.free)||decide (sc.names.lookup y.1=aa .cell)||decide (sc.names.lookup y.1=aa .free)))
 && (decide (scope.names.lookup x=aa .local)||decide (scope.names.lookup x=aa .cell))&&decide N'.Nodup&&decide (N'.head?=aa x)&&decide (N'.length=cap.length+1)&&(cap.zip N'.tail).all λp=>decide (N[p.1]?=aa p.2)&&decide (scope.names.lookup p.2=aa .free)
theorem jS.of{X:Cx}{scope:dX}{x:Str}{N':List Str}{cap:List Nat}(N:List Str)(sc:dX)(hN:X.N=N)(hsc:X.env.scope=sc)(h:BK N sc scope x N' cap=ah):jS X scope x N' cap:=by
 subst hN hsc;simp only[BK,fD,decide_eq_true_eq,lf,zW]at h;obtain⟨⟨⟨⟨⟨⟨h1,h2⟩,h3⟩,h4⟩,h5⟩,h6⟩,h7⟩:=h;refine⟨h1,λy hy e=>(h2 y hy).1.1.elim (λz=>absurd e z) λz=>z,λy hy e=>?_,h3,λy hy e=>?_,h4,h5,h6,λi j y e1 e2=>?_⟩
 ·rcases(h2 y hy).1.2 with z|z
  ·exact absurd e z
  ·exact z
 ·rcases(h2 y hy).2 with(z|z)|z
  ·exact absurd e z
  ·exact .inl z
  ·exact .inr z
 ·have hm:(j,y)∈cap.zip N'.tail:=by
   refine List.mem_iff_getElem?.mpr ⟨i,?_⟩;rw[Aa];refine⟨e2,?_⟩;rw[←List.drop_one,EY,Nat.add_comm];exact e1
  exact h7 _ hm
theorem Nc(a b:Tx):dz (tV a) (tV b)=decide (a=b):=by show(tS a == tS b)=_;rw[j5];simp only[beq_iff_eq,decide_eq_true_eq];exact⟨u5,λh=>by rw[h]⟩
theorem Ho(ls:List Tx)(x:Tx):((dD ls).countP λz=>dz z (tV x))=ls.count x:=by unfold dD List.count;rw[List.countP_map];refine List.countP_congr λy _=>?_;simp only[Function.comp_apply,Nc,decide_eq_true_eq,beq_iff_eq]
end L2
namespace Pu
open L2
abbrev St:=L2.St
inductive PV where
 |non|bl (b:Bool)|int (i:Int)|str (x:Tx)|tup (xs:List PV)|lst (xs:List PV)|raw (v:V)|exc (c:ai)
def lB(a:af)(c:ai):HO:=.ext λh=>∃o vs,h.get? a=aa o/\o.cls=c/\o.data=.fields vs/\o.dict=ae
def cx:Nat:=1000000
theorem lE:cx<=a_:=by rw[oB];decide
def dR:HO->Prop
 |.lst _=>True
 |.dK _=>True
 |.dT _=>True
 |.ins _ _ _=>True
 |.own _=>True
 |_=>False
mutual
def aT(K:ax)(H:Hp)(F:af->Prop):PV->V->Prop
 |.non,v=>v=.non
 |.bl b,v=>v=.bl b
 |.int i,v=>v=.int i
 |.str x,v=>v=tV x/\x.length<=cx
 |.tup xs,v=>∃a vs,v=.ref a/\H a=aa (.tup vs)/\Reps K H F xs vs
 |.lst xs,v=>∃a vs,v=.ref a/\Rd H a (.lst vs)/\F a/\Reps K H F xs vs
 |.raw u,v=>v=u
 |.exc c,v=>∃a,v=.ref a/\H a=aa (lB a c)
def Reps(K:ax)(H:Hp)(F:af->Prop):List PV->List V->Prop
 |[],vs=>vs=[]
 |x::xs,vs=>∃v r,vs=v::r/\aT K H F x v/\Reps K H F xs r
end
section
variable{K:ax}{H H':Hp}{F F':af->Prop}
mutual
theorem aT.mono(hF:∀a,F a->F' a)(hL:∀a xs,F a->Rd H a (.lst xs)->Rd H' a (.lst xs))(hT:∀a o,H a=aa o->¬dR o->H' a=aa o):∀(x:PV) (v:V),aT K H F x v->aT K H' F' x v
 |.non,_,h=>h
 |.bl _,_,h=>h
 |.int _,_,h=>h
 |.str _,_,h=>h
 |.raw _,_,h=>h
 |.exc _,_,⟨a,e,h⟩=>⟨a,e,hT a _ h id⟩
 |.tup xs,_,⟨a,vs,e,h1,h2⟩=>⟨a,vs,e,hT a _ h1 id,Reps.mono hF hL hT xs vs h2⟩
 |.lst xs,_,⟨a,vs,e,h1,h0,h2⟩=>⟨a,vs,e,hL a vs h0 h1,hF a h0,Reps.mono hF hL hT xs vs h2⟩
theorem Reps.mono(hF:∀a,F a->F' a)(hL:∀a xs,F a->Rd H a (.lst xs)->Rd H' a (.lst xs))(hT:∀a o,H a=aa o->¬dR o->H' a=aa o):∀(xs:List PV) (vs:List V),Reps K H F xs vs->Reps K H' F' xs vs
 |[],_,h=>h
 |x::xs,_,⟨v,r,e,h1,h2⟩=>⟨v,r,e,aT.mono hF hL hT x v h1,Reps.mono hF hL hT xs r h2⟩
end
theorem Reps.len:∀{xs:List PV}{vs:List V},Reps K H F xs vs->vs.length=xs.length
 |[],_,h=>by rw[show _=[] from h];rfl
 |_::_,_,⟨_,_,e,_,h2⟩=>by rw[e,fg,fg,Reps.len h2]
theorem Reps.get:∀{xs:List PV}{vs:List V}{i:Nat}{x:PV},Reps K H F xs vs->xs[i]?=aa x->∃v,vs[i]?=aa v/\aT K H F x v
 |[],_,_,_,_,e=>by simp at e
 |x::xs,_,0,y,⟨v,r,e,h1,_⟩,q=>by simp at q;subst q;subst e;exact⟨v,rfl,h1⟩
 |x::xs,_,i+1,y,⟨v,r,e,_,h2⟩,q=>by obtain⟨w,a,b⟩:=Reps.get (i:=i) (x:=y) h2 (by simpa using q);subst e;exact⟨w,by simpa using a,b⟩
theorem Reps.back:∀{xs:List PV}{vs:List V}{i:Nat}{v:V},Reps K H F xs vs->vs[i]?=aa v->∃x,xs[i]?=aa x/\aT K H F x v
 |[],_,_,_,h,e=>by rw[show _=[] from h]at e;simp at e
 |x::xs,_,0,y,⟨v,r,e,h1,_⟩,q=>by subst e;simp at q;subst q;exact⟨x,rfl,h1⟩
 |x::xs,_,i+1,y,⟨v,r,e,_,h2⟩,q=>by subst e;obtain⟨w,a,b⟩:=Reps.back (i:=i) (v:=y) h2 (by simpa using q);exact⟨w,by simpa using a,b⟩
theorem Reps.app:∀{xs ys:List PV}{vs ws:List V},Reps K H F xs vs->Reps K H F ys ws->Reps K H F (xs++ys) (vs++ws)
 |[],_,_,_,h,g=>by rw[show _=[] from h];exact g
 |x::xs,_,_,_,⟨v,r,e,h1,h2⟩,g=>by subst e;exact⟨v,_,rfl,h1,Reps.app h2 g⟩
theorem Reps.one{x:PV}{v:V}(h:aT K H F x v):Reps K H F [x] [v]:=⟨v,[],rfl,h,rfl⟩
theorem Reps.drop:∀(n:Nat) {xs:List PV}{vs:List V},Reps K H F xs vs->Reps K H F (xs.drop n) (vs.drop n)
 |0,_,_,h=>h
 |_+1,[],_,h=>by rw[show _=[] from h];rfl
 |n+1,_::_,_,⟨_,_,e,_,h2⟩=>by subst e;exact Reps.drop n h2
theorem Reps.take:∀(n:Nat) {xs:List PV}{vs:List V},Reps K H F xs vs->Reps K H F (xs.take n) (vs.take n)
 |0,_,_,_=>by rw[Ab,Ab];rfl
 |_+1,[],_,h=>by rw[show _=[] from h];rfl
 |n+1,_::_,_,⟨v,_,e,h1,h2⟩=>by subst e;exact⟨v,_,rfl,h1,Reps.take n h2⟩
theorem Reps.set{x:PV}{v:V}(hx:aT K H F x v):∀(n:Nat) {xs:List PV}{vs:List V},Reps K H F xs vs->Reps K H F (xs.set n x) (vs.set n v)
 |_,[],_,h=>by rw[show _=[] from h];rfl
 |0,_::_,_,⟨_,r,e,_,h2⟩=>by subst e;exact⟨v,r,rfl,hx,h2⟩
 |n+1,_::_,_,⟨w,_,e,h1,h2⟩=>by subst e;exact⟨w,_,rfl,h1,Reps.set hx n h2⟩
end
structure bp(O O' F F':af->Prop)(H H':Hp):Prop where
 fro:∀a,F a->F' a
 keep:∀b o,H b=aa o->¬O b->H' b=aa o
 there:∀b o,H b=aa o->∃o',H' b=aa o'
 fnew:∀a,F' a->F a\/H a=ae\/O a
 onew:∀a,O' a->O a\/H a=ae
theorem bp.refl(O F:af->Prop)(H:Hp):bp O O F F H H:=⟨λ_ h=>h,λ_ _ h _=>h,λ_ o h=>⟨o,h⟩,λ_ h=>.inl h,λ_ h=>.inl h⟩
theorem bp.trans{O O1 O2 F F1 F2:af->Prop}{H H1 H2:Hp}(g:bp O O1 F F1 H H1)(k:bp O1 O2 F1 F2 H1 H2):bp O O2 F F2 H H2 where
 fro:=λa h=>k.fro a (g.fro a h)
 keep:=λb o h n=>k.keep b o (g.keep b o h n) λz=>(g.onew b z).elim n λq=>by rw[q]at h;cases h
 there:=λb o h=>let ⟨o',h'⟩:=g.there b o h;k.there b o' h'
 fnew:=λa h=>by
  have back:H1 a=ae->H a=ae\/O a:=λz=>by
   cases q:H a with
   |none=>exact .inl rfl
   |some o=>obtain⟨o',h'⟩:=g.there a o q;rw[z]at h';cases h'
  rcases k.fnew a h with z|z|z
  ·exact g.fnew a z
  ·exact .inr (back z)
  ·exact .inr ((g.onew a z).symm)
 onew:=λa h=>by
  rcases k.onew a h with z|z
  ·exact g.onew a z
  ·cases q:H a with
   |none=>exact .inr rfl
   |some o=>obtain⟨o',h'⟩:=g.there a o q;rw[z]at h';cases h'
def mF(O F:af->Prop)(H:Hp):Prop:=∀b,O b->¬F b/\∃o,H b=aa o/\dR o
section
variable{K:ax}{O O' F F':af->Prop}{H H':Hp}
theorem bp.imm(g:bp O O' F F' H H')(f:mF O F H){a:af}{o:HO}(h:H a=aa o)(n:¬dR o):H' a=aa o :=
 g.keep _ _ h λz=>by
  obtain⟨_,o',e',n'⟩:=f a z;rw[h]at e';cases e';exact n n'
theorem bp.lst(g:bp O O' F F' H H')(f:mF O F H){a:af}{xs:List V}(hF:F a)(h:Rd H a (.lst xs)):Rd H' a (.lst xs):=by
 have no:¬O a:=λz=>(f a z).1 hF;rcases h with h|⟨o,h⟩
 ·exact .inl (g.keep _ _ h no)
 ·exact .inr ⟨o,g.keep _ _ h no⟩
theorem aT.grow(g:bp O O' F F' H H')(f:mF O F H){x:PV}{v:V}(h:aT K H F x v):aT K H' F' x v:=aT.mono g.fro (λ_ _ hF q=>g.lst f hF q) (λ_ _ q n=>g.imm f q n) x v h
theorem Reps.grow(g:bp O O' F F' H H')(f:mF O F H){x:List PV}{v:List V}(h:Reps K H F x v):Reps K H' F' x v:=Reps.mono g.fro (λ_ _ hF q=>g.lst f hF q) (λ_ _ q n=>g.imm f q n) x v h
end
theorem _root_.L2.Same.rd{H H':Hp}{a:af}{u:HO}(e:Same H H')(h:Rd H a u):Rd H' a u:=h.elim (λz=>.inl (e _ _ z)) λ⟨o,z⟩=>.inr ⟨o,e _ _ z⟩
structure Al(F F':af->Prop)(H H':Hp):Prop where
 fro:∀a,F a->F' a
 same:Same H H'
 fnew:∀a,F' a->F a\/(H a=ae/\∃o,H' a=aa o)
theorem Al.refl(F:af->Prop)(H:Hp):Al F F H H:=⟨λ_ h=>h,Same.refl H,λ_ h=>.inl h⟩
theorem Al.grow{F F' O:af->Prop}{H H':Hp}(a:Al F F' H H'):bp O O F F' H H' :=⟨a.fro,λb o h _=>a.same b o h,λb o h=>⟨o,a.same b o h⟩,λb h=>(a.fnew b h).imp id λz=>.inl z.1,λ_ h=>.inl h⟩
theorem Al.rep{K:ax}{F F':af->Prop}{H H':Hp}(a:Al F F' H H'){x:PV}{v:V}(h:aT K H F x v):aT K H' F' x v:=aT.mono a.fro (λ_ _ _ q=>a.same.rd q) (λ_ _ q _=>a.same _ _ q) x v h
theorem Al.reps{K:ax}{F F':af->Prop}{H H':Hp}(a:Al F F' H H'){x:List PV}{v:List V}(h:Reps K H F x v):Reps K H' F' x v:=Reps.mono a.fro (λ_ _ _ q=>a.same.rd q) (λ_ _ q _=>a.same _ _ q) x v h
theorem Al.trans{F F1 F2:af->Prop}{H H1 H2:Hp}(a:Al F F1 H H1)(b:Al F1 F2 H1 H2):Al F F2 H H2 :=
 ⟨λc h=>b.fro c (a.fro c h),a.same.trans b.same,λc h=>by
  rcases b.fnew c h with z|⟨z,w⟩
  ·rcases a.fnew c z with y|⟨y,o,q⟩
   ·exact .inl y
   ·exact .inr ⟨y,o,b.same _ _ q⟩
  ·exact .inr ⟨a.same.free z,w⟩⟩
theorem Al.new{F:af->Prop}{H:Hp}{l:af}{o:HO}(h:H l=ae):Al F (λa=>F a\/a=l) H (upd H l o) :=⟨λ_ h=>.inl h,Dd h,λa z=>z.imp id λe=>by subst e;exact⟨h,o,cE⟩⟩
theorem Al.new0{F:af->Prop}{H:Hp}{l:af}{o:HO}(h:H l=ae):Al F F H (upd H l o):=⟨λ_ h=>h,Dd h,λa z=>.inl z⟩
inductive PO where
 |lst (xs:List PV)|dK (kvs:List (aN×PV))|lls (iT:List (List PV))|ins (C:af) (fs:List (Str×PV))|dT (kvs:List (List aN×PV))|inl (C:af) (fs:List (Str×PV)) (y:Str) (xs:List PV)
def fZ:PO->Bool
 |.lls _=>aj
 |.inl ..=>aj
 |_=>ah
inductive Slot where
 |none|val (v:PV)|own (o:PO)
abbrev ak:=List Slot
def g8(K:ax)(H:Hp)(F:af->Prop)(kvs:List (aN×PV))(ws:List (aN×V)):Prop:=kW (λ(p:aN×PV) (q:aN×V)=>p.1=q.1/\aT K H F p.2 q.2) kvs ws
def r9(K:ax)(H:Hp)(F:af->Prop)(fs:List (Str×PV))(ws:List (Str×V)):Prop:=kW (λ(p:Str×PV) (q:Str×V)=>p.1=q.1/\aT K H F p.2 q.2) fs ws
def vS(K:ax)(H:Hp)(F:af->Prop)(kvs:List (List aN×PV))(ws:List (List aN×V)):Prop:=kW (λ(p:List aN×PV) (q:List aN×V)=>p.1=q.1/\aT K H F p.2 q.2) kvs ws
def wb(K:ax)(H:Hp)(F:af->Prop)(iT:List (List PV))(as:List af):Prop:=kW (λ(xs:List PV) (b:af)=>∃vs,H b=aa (.lst vs)/\Reps K H F xs vs) iT as
def eR(K:ax)(H:Hp)(F:af->Prop)(po:PO)(a:af)(S:af->Prop):Prop :=
 match po with
 |.lst xs=>(∃vs,H a=aa (.lst vs)/\Reps K H F xs vs)/\∀b,S b↔b=a
 |.dK kvs=>(∃ws,H a=aa (.dK ws)/\g8 K H F kvs ws)/\∀b,S b↔b=a
 |.lls iT=>∃as,H a=aa (.lst (as.map .ref))/\wb K H F iT as/\as.Nodup/\a∉as/\∀b,S b↔b=a\/b∈as
 |.ins C fs=>(∃dx ws,H a=aa (.ins C dx ws)/\r9 K H F fs ws)/\∀b,S b↔b=a
 |.dT kvs=>(∃ws,H a=aa (.dT ws)/\vS K H F kvs ws)/\∀b,S b↔b=a
 |.inl C fs y xs=>∃dx ws b vs,H a=aa (.ins C dx (ws++[(y,.ref b)]))/\r9 K H F fs ws/\fs.lookup y=ae/\H b=aa (.lst vs)/\Reps K H F xs vs/\a≠b/\∀c,S c↔c=a\/c=b
structure aP(K:ax)(F:af->Prop)(S:Nat->af->Prop)(ε:ak)(σ:St)(H:Hp):Prop where
 len:ε.length=σ.length
 ex:∀a,F a->∃o,H a=aa o
 val:∀(i:Nat) (pv:PV),ε[i]?=aa (.val pv)->∃v,σ[i]?=aa (aa v)/\aT K H F pv v
 own:∀(i:Nat) (po:PO),ε[i]?=aa (.own po)->∃a,σ[i]?=aa (aa (.ref a))/\eR K H F po a (S i)
 foot:∀(i:Nat) (b:af),S i b->(∃po,ε[i]?=aa (.own po))/\¬F b/\∃o,H b=aa o/\dR o
 dist:∀(i j:Nat) (b:af),S i b->S j b->i=j
def U(S:Nat->af->Prop)(b:af):Prop:=∃i,S i b
section
variable{K:ax}{F F':af->Prop}{S:Nat->af->Prop}{ε:ak}{σ:St}{H H':Hp}
theorem aP.fit(r:aP K F S ε σ H):mF (U S) F H:=λb ⟨i,h⟩=>(r.foot i b h).2
theorem g8.mono{kvs:List (aN×PV)}{ws:List (aN×V)}(hF:∀x v,aT K H F x v->aT K H' F' x v)(h:g8 K H F kvs ws):g8 K H' F' kvs ws:=by
 unfold g8 at h ⊢
 induction h with
 |nil=>exact .nil
 |cons r _ ih=>exact .cons ⟨r.1,hF _ _ r.2⟩ ih
theorem r9.mono{fs:List (Str×PV)}{ws:List (Str×V)}(hF:∀x v,aT K H F x v->aT K H' F' x v)(h:r9 K H F fs ws):r9 K H' F' fs ws:=by
 unfold r9 at h ⊢
 induction h with
 |nil=>exact .nil
 |cons r _ ih=>exact .cons ⟨r.1,hF _ _ r.2⟩ ih
theorem vS.mono{kvs:List (List aN×PV)}{ws:List (List aN×V)}(hF:∀x v,aT K H F x v->aT K H' F' x v)(h:vS K H F kvs ws):vS K H' F' kvs ws:=by
 unfold vS at h ⊢
 induction h with
 |nil=>exact .nil
 |cons r _ ih=>exact .cons ⟨r.1,hF _ _ r.2⟩ ih
theorem wb.mono{iT:List (List PV)}{as:List af}(t6:∀x v,Reps K H F x v->Reps K H' F' x v)(ha:∀b o,b∈as->H b=aa o->H' b=aa o)(h:wb K H F iT as):wb K H' F' iT as:=by
 unfold wb at h ⊢
 induction h with
 |nil=>exact .nil
 |cons r _ ih=>obtain⟨vs,h1,h2⟩:=r;exact .cons ⟨vs,ha _ _ (by simp) h1,t6 _ _ h2⟩ (ih λb o hb=>ha b o (by simp[hb]))
theorem eR.mono{po:PO}{a:af}{Sa:af->Prop}(hF:∀x v,aT K H F x v->aT K H' F' x v)(t6:∀x v,Reps K H F x v->Reps K H' F' x v)(ha:∀b o,Sa b->H b=aa o->H' b=aa o)(h:eR K H F po a Sa):eR K H' F' po a Sa:=by
 cases po with
 |lst xs=>obtain⟨⟨vs,e,q⟩,w⟩:=h;exact⟨⟨vs,ha a _ ((w a).mpr rfl) e,t6 _ _ q⟩,w⟩
 |dK kvs=>obtain⟨⟨ws,e,q⟩,w⟩:=h;exact⟨⟨ws,ha a _ ((w a).mpr rfl) e,q.mono hF⟩,w⟩
 |lls iT=>obtain⟨as,e,q,n1,n2,w⟩:=h;exact⟨as,ha a _ ((w a).mpr (.inl rfl)) e,q.mono t6 λb o hb=>ha b o ((w b).mpr (.inr hb)),n1,n2,w⟩
 |ins C fs=>obtain⟨⟨dx,ws,e,q⟩,w⟩:=h;exact⟨⟨dx,ws,ha a _ ((w a).mpr rfl) e,q.mono hF⟩,w⟩
 |dT kvs=>obtain⟨⟨ws,e,q⟩,w⟩:=h;exact⟨⟨ws,ha a _ ((w a).mpr rfl) e,q.mono hF⟩,w⟩
 |inl C fs y xs=>obtain⟨dx,ws,b,vs,e,q,n,e2,q2,ne,w⟩:=h;exact⟨dx,ws,b,vs,ha a _ ((w a).mpr (.inl rfl)) e,q.mono hF,n,ha b _ ((w b).mpr (.inr rfl)) e2,t6 _ _ q2,ne,w⟩
theorem aP.al(r:aP K F S ε σ H)(a:Al F F' H H'):aP K F' S ε σ H' where
 len:=r.len
 ex:=λb h=>(a.fnew b h).elim (λz=>let ⟨o,q⟩:=r.ex b z;⟨o,a.same _ _ q⟩) λz=>z.2
 val:=λi pv e=>let ⟨v,h1,h2⟩:=r.val i pv e;⟨v,h1,a.rep h2⟩
 own:=λi po e=>let ⟨b,h1,h2⟩:=r.own i po e;⟨b,h1,h2.mono (λ_ _ q=>a.rep q) (λ_ _ q=>a.reps q) λc o _ q=>a.same _ _ q⟩
 foot:=λi b h=>by
  obtain⟨h1,h2,o,h3,h4⟩:=r.foot i b h;refine⟨h1,λz=>?_,o,a.same _ _ h3,h4⟩;rcases a.fnew b z with y|⟨y,_⟩
  ·exact h2 y
  ·rw[h3]at y;cases y
 dist:=r.dist
end
inductive R(α:Type) where
 |ok (a:α) (ε:ak)|er (c:ai) (ε:ak)|no
def R.bind{α β:Type}(r:R α)(k:α->ak->R β):R β:=match r with
 |.ok a ε=>k a ε
 |.er c ε=>.er c ε
 |.no=>.no
def bg{α:Type}(o:Option α)(ε:ak):R α:=match o with
 |some a=>.ok a ε
 |none=>.no
@[simp] theorem R.bind_ok{α β:Type}(a:α)(ε:ak)(k:α->ak->R β):(R.ok a ε).bind k=k a ε:=rfl
@[simp] theorem R.bind_er{α β:Type}(c:ai)(ε:ak)(k:α->ak->R β):(R.er c ε:R α).bind k=.er c ε:=rfl
@[simp] theorem R.bind_no{α β:Type}(k:α->ak->R β):(R.no:R α).bind k=.no:=rfl
@[simp] theorem eK{α:Type}(a:α)(ε:ak):bg (aa a) ε=.ok a ε:=rfl
@[simp] theorem Op{α:Type}(ε:ak):bg (ae:Option α) ε=.no:=rfl
def Ok(K:ax)(E:XK)(σ:St)(F:af->Prop)(S:Nat->af->Prop)(H:Hp){α:Type}(r:R α)(C:α->ak->(af->Prop)->(Nat->af->Prop)->Hp->Prop):Prop:=match r with
 |.ok a ε'=>∀F' S' H',aP K F' S' ε' σ H'->bp (U S) (U S') F F' H H'->C a ε' F' S' H'
 |.er c ε'=>∀x F' S' H',aP K F' S' ε' σ H'->bp (U S) (U S') F F' H H'->E c x H'
 |.no=>False
section
variable{K:ax}{E:XK}{σ:St}{F:af->Prop}{S:Nat->af->Prop}{H:Hp}{α β:Type}{C C':α->ak->(af->Prop)->(Nat->af->Prop)->Hp->Prop}{D:β->ak->(af->Prop)->(Nat->af->Prop)->Hp->Prop}
theorem Ok.imp{r:R α}(h:Ok K E σ F S H r C)(f:∀a ε' F' S' H',aP K F' S' ε' σ H'->bp (U S) (U S') F F' H H'->C a ε' F' S' H'->C' a ε' F' S' H'):Ok K E σ F S H r C':=by
 cases r with
 |ok a ε'=>exact λF' S' H' r g=>f a ε' F' S' H' r g (h F' S' H' r g)
 |er c ε'=>exact h
 |no=>exact h
theorem Ok.from{r:R β}{F1:af->Prop}{S1:Nat->af->Prop}{H1:Hp}(h:Ok K E σ F S H r D)(g:bp (U S) (U S1) F F1 H H1):Ok K E σ F1 S1 H1 r D:=by
 cases r with
 |ok a ε'=>exact λF' S' H' r' g'=>h F' S' H' r' (g.trans g')
 |er c ε'=>exact λx F' S' H' r' g'=>h x F' S' H' r' (g.trans g')
 |no=>exact h
theorem Ok.bind{r:R α}{k:α->ak->R β}(h:Ok K E σ F S H (r.bind k) D):Ok K E σ F S H r (λa ε1 F1 S1 H1=>Ok K E σ F1 S1 H1 (k a ε1) D):=by
 cases r with
 |ok a ε'=>exact λF' S' H' r g=>Ok.from h g
 |er c ε'=>exact h
 |no=>exact h
end
structure Bx(p:Prop):Prop where
 run:p
def iK(X:Cx)(e:aB):TE:=λσ H Q=>Bx (∀ag s,Inv X ag σ H s->aq (aw X.prog X.w) X.A (aU e X.env) (EP X ag σ Q) X.xe s)
def xl(X:Cx)(e:aB):TT:=λσ H Q=>Bx (∀ag s,Inv X ag σ H s->aq (aw X.prog X.w) X.A (lT e X.env (aU e X.env)) (TP X ag σ Q) X.xe s)
def wpS(X:Cx)(st:aZ):TS:=λD σ H=>Bx (∀ag s,Inv X ag σ H s->aq (aw X.prog X.w) X.A (exec st X.env) (SP X ag D) X.xe s)
def n0(X:Cx)(st:List aZ):TS:=λD σ H=>Bx (∀ag s,Inv X ag σ H s->aq (aw X.prog X.w) X.A (execs st X.env) (SP X ag D) X.xe s)
section
variable{X:Cx}{e:aB}{st:aZ}{sts:List aZ}
theorem bL:PE X e (iK X e):=λag s _ _ _ I h=>h.run ag s I
theorem pR:PT X e (xl X e):=λag s _ _ _ I h=>h.run ag s I
theorem BM:PS X st (wpS X st):=λag s _ _ _ I h=>h.run ag s I
theorem sA:kT X sts (n0 X sts):=λag s _ _ _ I h=>h.run ag s I
theorem b9{t:TE}(h:PE X e t){σ:St}{H:Hp}{Q:VK}(q:t σ H Q):iK X e σ H Q:=⟨λag s I=>h ag s σ H Q I q⟩
theorem v6{t:TT}(h:PT X e t){σ:St}{H:Hp}{Q:Bool->Hp->Prop}(q:t σ H Q):xl X e σ H Q:=⟨λag s I=>h ag s σ H Q I q⟩
theorem gX{t:TS}(h:PS X st t){σ:St}{H:Hp}{D:jU}(q:t D σ H):wpS X st D σ H:=⟨λag s I=>h ag s σ H D I q⟩
theorem yS{t:TS}(h:kT X sts t){σ:St}{H:Hp}{D:jU}(q:t D σ H):n0 X sts D σ H:=⟨λag s I=>h ag s σ H D I q⟩
end
def DE(X:Cx)(E:XK)(e:aB)(d:ak->R PV):Prop :=
 ∀F S ε σ H Q,aP X.K F S ε σ H->Ok X.K E σ F S H (d ε) (λpv _ F' _ H'=>∀v,aT X.K H' F' pv v->Q v H')->iK X e σ H Q
def DN(X:Cx)(E:XK)(e:aB)(d:ak->R PO):Prop :=
 ∀F S ε σ H Q,aP X.K F S ε σ H->Ok X.K E σ F S H (d ε) (λpo _ F' S' H'=>∀a Sa,eR X.K H' F' po a Sa->(∀b,Sa b->H b=ae/\¬F' b/\¬U S' b/\∃o,H' b=aa o/\dR o)->Q (.ref a) H')->iK X e σ H Q
def DT(X:Cx)(E:XK)(e:aB)(d:ak->R Bool):Prop :=
 ∀F S ε σ H Q,aP X.K F S ε σ H->Ok X.K E σ F S H (d ε) (λb _ _ _ H'=>Q b H')->xl X e σ H Q
end Pu
namespace Pu
open L2
section
variable{X:Cx}{E:XK}{a b c:aB}{da db dc:ak->R PV}{pos:Pos}
def dC(pv:PV):ak->R PV:=λε=>.ok pv ε
theorem aR{i j pos}:DE X E (.Constant (.int i) j pos) (dC (.int i)):=λF S ε σ H Q r h=>b9 M5 (h F S H r (bp.refl ..) _ rfl)
theorem n6{i j pos}:DE X E (.Constant (.bool i) j pos) (dC (.bl i)):=λF S ε σ H Q r h=>b9 Kx (h F S H r (bp.refl ..) _ rfl)
theorem F_{j pos}:DE X E (.Constant .none j pos) (dC .non):=λF S ε σ H Q r h=>b9 KL (h F S H r (bp.refl ..) _ rfl)
theorem c_(l:Tx){x:Str}{j pos}(hx:x=tS l:=by decide +kernel)(hl:l.length<=cx:=by decide):DE X E (.Constant (.str x) j pos) (dC (.str l)):=λF S ε σ H Q r h=>b9 JI (h F S H r (bp.refl ..) _ (by rw[hx];exact⟨rfl,hl⟩))
def dV(i:Nat):ak->R PV:=λε=>match ε[i]? with
 |some (.val pv)=>.ok pv ε
 |_=>.no
theorem au(i:Nat){x:Str}{pos:Pos}(hN:X.N[i]?=aa x:=by rfl)(hv:fH X.env.scope x:=by first|exact Or.inl rfl|exact Or.inr (Or.inl rfl)|exact Or.inr (Or.inr rfl))(hd:(x == ("__debug__" : Str))=aj:=by decide)(bU:(x == ("__classdict__" : Str))=aj:=by decide):DE X E (.Name x pos) (dV i):=λF S ε σ H Q r h=>by
 unfold dV at h;split at h
 ·rename_i p e;obtain⟨v,e1,e2⟩:=r.val i p e;exact b9 (gU hN hv hd bU) ⟨v,e1,h F S H r (bp.refl ..) v e2⟩
 ·exact h.elim
theorem sG{x:Str}{i:Int}{pos:Pos}(h:∃t,X.mg x=aa (.int i t))(hg:Gl X x:=by rfl)(hd:(x == ("__debug__" : Str))=aj:=by decide):DE X E (.Name x pos) (dC (.int i)):=λF S ε σ H Q r q=>by obtain⟨t,e⟩:=h;exact b9 (yB (v:=.int i) hg e ⟨t,rfl⟩ hd) (q F S H r (bp.refl ..) _ rfl)
theorem zb{x:Str}{l:Tx}{pos:Pos}(h:∃t,X.mg x=aa (.str (tS l) t))(hg:Gl X x:=by rfl)(hl:l.length<=cx:=by decide)(hd:(x == ("__debug__" : Str))=aj:=by decide):DE X E (.Name x pos) (dC (.str l)):=λF S ε σ H Q r q=>by obtain⟨t,e⟩:=h;exact b9 (yB (v:=tV l) hg e ⟨t,rfl⟩ hd) (q F S H r (bp.refl ..) _ ⟨rfl,hl⟩)
def aP.frz{K:ax}{F:af->Prop}{S:Nat->af->Prop}{ε:ak}{σ:St}{H:Hp}{i:Nat}{xs:List PV}(r:aP K F S ε σ H)(e:ε[i]?=aa (.own (.lst xs))):∃a F' S',aP K F' S' (ε.set i (.val (.lst xs))) σ H/\bp (U S) (U S') F F' H H/\σ[i]?=aa (aa (.ref a))/\aT K H F' (.lst xs) (.ref a):=by
 obtain⟨a,e1,⟨vs,ha,hr⟩,hS⟩:=r.own i _ e;have hi:i<ε.length:=(df.mp e).1;have sub:∀b,F b->F b\/b=a:=λb h=>.inl h;have mono:∀x v,aT K H F x v->aT K H (λb=>F b\/b=a) x v:=aT.mono sub (λ_ _ _ q=>q) (λ_ _ q _=>q);have monos:∀x v,Reps K H F x v->Reps K H (λb=>F b\/b=a) x v:=Reps.mono sub (λ_ _ _ q=>q) (λ_ _ q _=>q);have rp:aT K H (λb=>F b\/b=a) (.lst xs) (.ref a):=⟨a,vs,rfl,.inl ha,.inr rfl,monos _ _ hr⟩
 refine⟨a,λb=>F b\/b=a,λj b=>S j b/\j≠i,⟨by rw[fE];exact r.len,λb h=>?_,λj pv q=>?_,λj po q=>?_,λj b h=>?_,λj k b h1 h2=>r.dist j k b h1.1 h2.1⟩,?_,e1,rp⟩
 ·rcases h with h|rfl
  ·exact r.ex b h
  ·exact⟨_,ha⟩
 ·by_cases hj:i=j
  ·subst hj;rw[ff hi]at q;cases q;exact⟨_,e1,rp⟩
  ·rw[dO hj]at q;obtain⟨v,q1,q2⟩:=r.val j pv q;exact⟨v,q1,mono _ _ q2⟩
 ·by_cases hj:i=j
  ·subst hj;rw[ff hi]at q;cases q
  ·rw[dO hj]at q;obtain⟨v,q1,q2⟩:=r.own j po q;refine⟨v,q1,?_⟩;have q3:=q2.mono (H':=H) mono monos λ_ _ _ z=>z;have eS:(λb=>S j b/\j≠i)=S j:=by funext b;simp[d9 hj]
   rw[eS];exact q3
 ·obtain⟨⟨po,q1⟩,q2,q3⟩:=r.foot j b h.1;refine⟨⟨po,by rw[dO (d9 h.2)];exact q1⟩,λz=>?_,q3⟩;rcases z with z|rfl
  ·exact q2 z
  ·exact h.2 (r.dist j i b h.1 ((hS b).mpr rfl))
 ·refine⟨λ_ h=>.inl h,λb o h _=>h,λb o h=>⟨o,h⟩,λb h=>?_,λb ⟨j,h⟩=>.inl ⟨j,h.1⟩⟩;rcases h with h|rfl
  ·exact .inl h
  ·exact .inr (.inr ⟨i,(hS b).mpr rfl⟩)
def dM(i:Nat):ak->R PV:=λε=>match ε[i]? with
 |some (.own (.lst xs))=>.ok (.lst xs) (ε.set i (.val (.lst xs)))
 |_=>.no
theorem Nk(i:Nat){x:Str}{pos:Pos}(hN:X.N[i]?=aa x:=by rfl)(hv:fH X.env.scope x:=by first|exact Or.inl rfl|exact Or.inr (Or.inl rfl)|exact Or.inr (Or.inr rfl))(hd:(x == ("__debug__" : Str))=aj:=by decide)(bU:(x == ("__classdict__" : Str))=aj:=by decide):DE X E (.Name x pos) (dM i):=λF S ε σ H Q r h=>by
 unfold dM at h;split at h
 ·rename_i p e;obtain⟨a,F',S',r',g,e1,e2⟩:=r.frz e;exact b9 (gU hN hv hd bU) ⟨_,e1,h F' S' H r' g _ e2⟩
 ·exact h.elim
def P2(K:ax)(r:R2)(f:PV->PV->Option PV):Prop:=∀(F:af->Prop) (H:Hp) (x y:PV) (v u:V) (Q:VK) (pv:PV),aT K H F x v->aT K H F y u->f x y=aa pv->(∀w F' H',Al F F' H H'->aT K H' F' pv w->Q w H')->r v u H Q
def d2(f:PV->PV->Option PV)(da db:ak->R PV):ak->R PV:=λε=>(da ε).bind λx ε1=>(db ε1).bind λy ε2=>bg (f x y) ε2
theorem vU{r:R2}{f:PV->PV->Option PV}(hp:P2 X.K r f)(ha:DE X E a da)(hb:DE X E b db){F:af->Prop}{S:Nat->af->Prop}{ε:ak}{σ:St}{H:Hp}{Q:VK}(rl:aP X.K F S ε σ H)(h:Ok X.K E σ F S H (d2 f da db ε) (λpv _ F' _ H'=>∀v,aT X.K H' F' pv v->Q v H')):iK X a σ H λx H1=>iK X b σ H1 λy H2=>r x y H2 Q:=by
 refine ha F S ε σ H _ rl ((Ok.bind h).imp λx ε1 F1 S1 H1 r1 g1 h1 v rv=>?_);refine hb F1 S1 ε1 σ H1 _ r1 ((Ok.bind h1).imp λy ε2 F2 S2 H2 r2 g2 h2 u ru=>?_);cases e:f x y with
 |none=>rw[e]at h2;exact h2.elim
 |some pv=>rw[e]at h2;exact hp F2 H2 x y v u Q pv (rv.grow g2 r1.fit) ru e λw F' H' al rw'=>h2 F' S2 H' (r2.al al) al.grow w rw'
theorem bZ{op:Operator}{r:R2}{f:PV->PV->Option PV}(ho:bV X (iQ op) r)(hp:P2 X.K r f)(ha:DE X E a da)(hb:DE X E b db):DE X E (.BinOp a op b pos) (d2 f da db):=λF S ε σ H Q rl h=>b9 (FC ho bL bL) (vU hp ha hb rl h)
theorem om{op:CmpOp}{r:R2}{f:PV->PV->Option PV}(ho:bV X (d_ op) r)(hp:P2 X.K r f)(ha:DE X E a da)(hb:DE X E b db)(hm:zH op b=aj):DE X E (.Compare a [op] [b] pos) (d2 f da db):=λF S ε σ H Q rl h=>b9 (LC ho bL bL hm) (vU hp ha hb rl h)
def ly:PV->Option Bool
 |.bl b=>aa b
 |_=>ae
def dB(d:ak->R PV):ak->R Bool:=λε=>(d ε).bind λx ε1=>bg (ly x) ε1
theorem D3{K:ax}{H:Hp}{F:af->Prop}{x:PV}{v:V}{k:Bool}(h:aT K H F x v)(e:ly x=aa k):v=.bl k:=by
 cases x <;> simp[ly]at e;subst e;exact h
theorem uH{F:af->Prop}{S:Nat->af->Prop}{ε:ak}{σ:St}{H:Hp}{Q:Bool->Hp->Prop}{d:ak->R PV}(h:Ok X.K E σ F S H (dB d ε) (λk _ _ _ H'=>Q k H')):Ok X.K E σ F S H (d ε) (λpv _ F' _ H'=>∀v,aT X.K H' F' pv v->∃k,v=.bl k/\Q k H'):=by
 refine(Ok.bind h).imp λx ε1 F1 S1 H1 r1 g1 h1 v rv=>?_;cases e:ly x with
 |none=>rw[e]at h1;exact h1.elim
 |some k=>rw[e]at h1;exact⟨k,D3 rv e,h1 F1 S1 H1 r1 (bp.refl ..)⟩
theorem ig{op:CmpOp}{r:R2}{f:PV->PV->Option PV}(ho:bV X (d_ op) r)(hp:P2 X.K r f)(ha:DE X E a da)(hb:DE X E b db)(hm:zH op b=aj):DT X E (.Compare a [op] [b] pos) (dB (d2 f da db)):=λF S ε σ H Q rl h=>v6 (IP ho bL bL hm) (vU (Q:=λx H'=>∃k,x=.bl k/\Q k H') hp ha hb rl (uH h))
theorem lP{e:aB}{d:ak->R PV}(hd:DE X E e d)(he:∀gI,lT e X.env gI=(do let v ←gI;standAt e.pos;j4 [v] (truthy v)):=by intro _;rfl):DT X E e (dB d):=λF S ε σ H Q rl h=>v6 (LK bL he) (hd F S ε σ H _ rl (uH h))
def kM(f g:PV->PV->Option PV)(da db dc:ak->R PV):ak->R PV:=λε=>(da ε).bind λx ε1=>(db ε1).bind λy ε2=>(bg ((f x y).bind ly) ε2).bind λk ε2=>
 match k with
 |true=>(dc ε2).bind λz ε3=>bg (g y z) ε3
 |false=>.ok (.bl aj) ε2
theorem DP{r r':R2}{f g:PV->PV->Option PV}(hp:P2 X.K r f)(c7:P2 X.K r' g)(ha:DE X E a da)(hb:DE X E b db)(hc:DE X E c dc){F:af->Prop}{S:Nat->af->Prop}{ε:ak}{σ:St}{H:Hp}{Q:VK}(rl:aP X.K F S ε σ H)(h:Ok X.K E σ F S H (kM f g da db dc ε) (λpv _ F' _ H'=>∀v,aT X.K H' F' pv v->Q v H')):xE r r' (iK X a) (iK X b) (iK X c) σ H Q:=by
 refine ha F S ε σ H _ rl ((Ok.bind h).imp λx ε1 F1 S1 H1 r1 g1 h1 v rv=>?_);refine hb F1 S1 ε1 σ H1 _ r1 ((Ok.bind h1).imp λy ε2 F2 S2 H2 r2 g2 h2 u ru=>?_);cases e:f x y with
 |none=>rw[e]at h2;exact h2.elim
 |some pv=>
  rw[e]at h2;refine hp F2 H2 x y v u _ pv (rv.grow g2 r1.fit) ru e λw F' H' al rw'=>?_;cases e2:ly pv with
  |none=>rw[iB,e2]at h2;exact h2.elim
  |some k=>
   rw[iB,e2]at h2;refine⟨k,D3 rw' e2,?_⟩;have r3:=r2.al al;cases k with
   |false=>exact pH (Ok.from h2 al.grow F' S2 H' r3 (bp.refl ..) _ rfl)
   |true=>
    have h3:Ok X.K E σ F2 S2 H2 ((dc ε2).bind λz ε3=>bg (g y z) ε3) (λpv _ F' _ H'=>∀v,aT X.K H' F' pv v->Q v H'):=h2;refine pZ (hc F' S2 ε2 σ H' _ r3 ((Ok.bind (Ok.from h3 al.grow)).imp λz ε4 F4 S4 H4 r4 g4 h4 u4 ru4=>?_));cases e4:g y z with
    |none=>rw[e4]at h4;exact h4.elim
    |some pz=>rw[e4]at h4;exact c7 F4 H4 y z u u4 Q pz ((al.rep ru).grow g4 r3.fit) ru4 e4 λw5 F5 H5 al5 rw5=>h4 F5 S4 H5 (r4.al al5) al5.grow w5 rw5
theorem D_{op op':CmpOp}{r r':R2}{f g:PV->PV->Option PV}(ho:bV X (d_ op) r)(gh:bV X (d_ op') r')(hp:P2 X.K r f)(c7:P2 X.K r' g)(ha:DE X E a da)(hb:DE X E b db)(hc:DE X E c dc)(hm:lastMarks [op,op'] [b,c]=aj:=by with_unfolding_all rfl):DE X E (.Compare a [op,op'] [b,c] pos) (kM f g da db dc):=λF S ε σ H Q rl h=>b9 (KH ho gh bL bL bL hm) (DP hp c7 ha hb hc rl h)
theorem Bn{op op':CmpOp}{r r':R2}{f g:PV->PV->Option PV}(ho:bV X (d_ op) r)(gh:bV X (d_ op') r')(hp:P2 X.K r f)(c7:P2 X.K r' g)(ha:DE X E a da)(hb:DE X E b db)(hc:DE X E c dc)(hm:lastMarks [op,op'] [b,c]=aj:=by with_unfolding_all rfl):DT X E (.Compare a [op,op'] [b,c] pos) (dB (kM f g da db dc)):=λF S ε σ H Q rl h=>v6 (Lc ho gh bL bL bL hm) (DP (Q:=λx H'=>∃k,x=.bl k/\Q k H') hp c7 ha hb hc rl (uH h))
variable{ta tb:ak->R Bool}{rest:List aB}
def DW(X:Cx)(E:XK)(e:aB)(d:ak->R Bool):Prop:=∀F S ε σ H Q,aP X.K F S ε σ H->Ok X.K E σ F S H (d ε) (λb _ _ _ H'=>Q b H')->∀(gI:Sem ai) ag s,Inv X ag σ H s->aq (aw X.prog X.w) X.A (lT e X.env gI) (TP X ag σ Q) X.xe s
def HS(X:Cx)(e:aB):TT:=λσ H Q=>∀(gI:Sem ai) ag s,Inv X ag σ H s->aq (aw X.prog X.w) X.A (lT e X.env gI) (TP X ag σ Q) X.xe s
theorem Mq{e:aB}:PW X e (HS X e):=λgI ag s _ _ _ I h=>h gI ag s I
theorem DW.dt{e:aB}{d:ak->R Bool}(h:DW X E e d):DT X E e d:=λF S ε σ H Q rl q=>⟨λag s I=>h F S ε σ H Q rl q _ ag s I⟩
def xw(ta tb:ak->R Bool):ak->R Bool:=λε=>(ta ε).bind λk ε1=>match k with
 |true=>tb ε1
 |false=>.ok aj ε1
def nH(ta tb:ak->R Bool):ak->R Bool:=λε=>(ta ε).bind λk ε1=>match k with
 |true=>.ok ah ε1
 |false=>tb ε1
def iG(ta:ak->R Bool):ak->R Bool:=λε=>(ta ε).bind λk ε1=>.ok (!k) ε1
theorem xu(h:DT X E a ta):DW X E (.BoolOp .Or [a] pos) ta:=λF S ε σ H Q rl q gI ag s I=>Jy pR gI ag s σ H Q I (h F S ε σ H Q rl q)
theorem xy(ha:DT X E a ta)(hb:DW X E (.BoolOp .Or (b::rest) pos) tb):DW X E (.BoolOp .Or (a::b::rest) pos) (nH ta tb):=λF S ε σ H Q rl q gI ag s I=>by
 refine KG pR Mq gI ag s σ H Q I (ha F S ε σ H _ rl ((Ok.bind q).imp λk ε1 F1 S1 H1 r1 g1 h1=>?_));cases k with
 |true=>exact pZ (h1 F1 S1 H1 r1 (bp.refl ..))
 |false=>exact pH (hb F1 S1 ε1 σ H1 Q r1 h1)
theorem kD(ha:DT X E a ta):DT X E (.UnaryOp .Not a pos) (iG ta):=λF S ε σ H Q rl q=>v6 (Hz pR) (ha F S ε σ H _ rl ((Ok.bind q).imp λk ε1 F1 S1 H1 r1 g1 h1=>h1 F1 S1 H1 r1 (bp.refl ..)))
def jL(da db:ak->R PV):ak->R PV:=λε=>(dB da ε).bind λk ε1=>match k with
 |true=>db ε1
 |false=>.ok (.bl aj) ε1
def yw(da db:ak->R PV):ak->R PV:=λε=>(dB da ε).bind λk ε1=>match k with
 |true=>.ok (.bl ah) ε1
 |false=>db ε1
def sH(da:ak->R PV):ak->R PV:=λε=>(dB da ε).bind λk ε1=>.ok (.bl (!k)) ε1
theorem DQ{d:ak->R PV}{β:Type}{D:β->ak->(af->Prop)->(Nat->af->Prop)->Hp->Prop}{k:Bool->ak->R β}{F:af->Prop}{S:Nat->af->Prop}{ε:ak}{σ:St}{H:Hp}{P:Bool->Hp->Prop}(h:Ok X.K E σ F S H ((dB d ε).bind k) D) (f:∀c ε1 F1 S1 H1,aP X.K F1 S1 ε1 σ H1->bp (U S) (U S1) F F1 H H1->Ok X.K E σ F1 S1 H1 (k c ε1) D->P c H1):Ok X.K E σ F S H (d ε) (λpv _ F' _ H'=>∀v,aT X.K H' F' pv v->∃c,v=.bl c/\P c H'):=by have h2:=(Ok.bind h).imp (C':=λc ε1 F1 S1 H1=>P c H1) λc ε1 F1 S1 H1 r1 g1 h1=>f c ε1 F1 S1 H1 r1 g1 h1;exact uH h2
theorem rJ{op}{d:ak->R PV}(h:DE X E a d):DE X E (.BoolOp op [a] pos) d:=λF S ε σ H Q rl q=>b9 (IE bL) (h F S ε σ H Q rl q)
theorem oi(ha:DE X E a da)(hb:DE X E (.BoolOp .And (b::rest) pos) db):DE X E (.BoolOp .And (a::b::rest) pos) (jL da db):=λF S ε σ H Q rl q=>by
 refine b9 (FQ bL bL) (ha F S ε σ H _ rl (DQ q λk ε1 F1 S1 H1 r1 g1 h1=>?_));cases k with
 |true=>exact pZ (hb F1 S1 ε1 σ H1 Q r1 h1)
 |false=>exact pH (h1 F1 S1 H1 r1 (bp.refl ..) _ rfl)
theorem LG(ha:DE X E a da):DE X E (.UnaryOp .Not a pos) (sH da):=λF S ε σ H Q rl q=>b9 (L_ bL) (ha F S ε σ H _ rl (DQ q λk ε1 F1 S1 H1 r1 g1 h1=>h1 F1 S1 H1 r1 (bp.refl ..) _ rfl))
def dA{α:Type}(t:ak->R Bool)(da db:ak->R α):ak->R α:=λε=>(t ε).bind λk ε1=>match k with
 |true=>da ε1
 |false=>db ε1
theorem C1(hc:DT X E c ta)(ha:DE X E a da)(hb:DE X E b db):DE X E (.IfExp c a b pos) (dA ta da db):=λF S ε σ H Q rl q=>by
 refine b9 (Jr pR bL bL) (hc F S ε σ H _ rl ((Ok.bind q).imp λk ε1 F1 S1 H1 r1 g1 h1=>?_));cases k with
 |true=>exact pZ (ha F1 S1 ε1 σ H1 Q r1 h1)
 |false=>exact pH (hb F1 S1 ε1 σ H1 Q r1 h1)
def P1(K:ax)(r:V->Hp->VK->Prop)(f:PV->Option PV):Prop:=∀(F:af->Prop) (H:Hp) (x:PV) (v:V) (Q:VK) (pv:PV),aT K H F x v->f x=aa pv->(∀w F' H',Al F F' H H'->aT K H' F' pv w->Q w H')->r v H Q
def d1(f:PV->Option PV)(da:ak->R PV):ak->R PV:=λε=>(da ε).bind λx ε1=>bg (f x) ε1
theorem KU{r:V->Hp->VK->Prop}{f:PV->Option PV}(hp:P1 X.K r f)(ha:DE X E a da){F:af->Prop}{S:Nat->af->Prop}{ε:ak}{σ:St}{H:Hp}{Q:VK}(rl:aP X.K F S ε σ H)(h:Ok X.K E σ F S H (d1 f da ε) (λpv _ F' _ H'=>∀v,aT X.K H' F' pv v->Q v H')):iK X a σ H λx H1=>r x H1 Q:=by
 refine ha F S ε σ H _ rl ((Ok.bind h).imp λx ε1 F1 S1 H1 r1 g1 h1 v rv=>?_);cases e:f x with
 |none=>rw[e]at h1;exact h1.elim
 |some pv=>rw[e]at h1;exact hp F1 H1 x v Q pv rv e λw F' H' al rw'=>h1 F' S1 H' (r1.al al) al.grow w rw'
theorem CO{op:UnaryOp}{r:V->Hp->VK->Prop}{f:PV->Option PV}(ho:wj X (unaryOp op) r)(hp:P1 X.K r f)(ha:DE X E a da):DE X E (.UnaryOp op a pos) (d1 f da):=λF S ε σ H Q rl h=>b9 (LX ho bL) (KU hp ha rl h)
end
def nJ(X:Cx)(es:List aB):TA:=λσ H Q=>Bx (∀pos ag s,Inv X ag σ H s->aq (aw X.prog X.w) X.A (spliced (cL pos (aL es X.env))) (AP X ag σ Q) X.xe s)
def DA(X:Cx)(E:XK)(es:List aB)(d:ak->R (List PV)):Prop :=
 ∀F S ε σ H Q,aP X.K F S ε σ H->Ok X.K E σ F S H (d ε) (λpvs _ F' _ H'=>∀vs,Reps X.K H' F' pvs vs->Q vs H')->nJ X es σ H Q
section
variable{X:Cx}{E:XK}{a b c e:aB}{es:List aB}{da db dc d:ak->R PV}{ds:ak->R (List PV)}{pos:Pos}
theorem gD{es:List aB}:PA X es (nJ X es):=λpos ag s _ _ _ I h=>h.run pos ag s I
theorem nU{t:TA}(h:PA X es t){σ:St}{H:Hp}{Q:List V->Hp->Prop}(q:t σ H Q):nJ X es σ H Q:=⟨λpos ag s I=>h pos ag s σ H Q I q⟩
def aC:ak->R (List PV):=λε=>.ok [] ε
def ar(d:ak->R PV)(ds:ak->R (List PV)):ak->R (List PV):=λε=>(d ε).bind λx ε1=>(ds ε1).bind λxs ε2=>.ok (x::xs) ε2
theorem aG:DA X E [] aC:=λF S ε σ H Q rl h=>nU jt (h F S H rl (bp.refl ..) _ rfl)
theorem JG(ha:DE X E e d)(hr:DA X E es ds)(hs:aL (e::es) X.env=(aj,aU e X.env)::aL es X.env:=by rfl):DA X E (e::es) (ar d ds):=λF S ε σ H Q rl h=>by refine nU (io bL gD hs) (ha F S ε σ H _ rl ((Ok.bind h).imp λx ε1 F1 S1 H1 r1 g1 h1 v rv=>?_));refine hr F1 S1 ε1 σ H1 _ r1 ((Ok.bind h1).imp λxs ε2 F2 S2 H2 r2 g2 h2 vs kl=>?_);exact h2 F2 S2 H2 r2 (bp.refl ..) _ ⟨v,vs,rfl,rv.grow g2 r1.fit,kl⟩
theorem aP.more{K:ax}{F N:af->Prop}{S:Nat->af->Prop}{ε:ak}{σ:St}{H:Hp}(r:aP K F S ε σ H)(hn:∀b,N b->¬U S b/\∃o,H b=aa o):aP K (λb=>F b\/N b) S ε σ H:=by
 have mono:∀x v,aT K H F x v->aT K H (λb=>F b\/N b) x v:=aT.mono (λ_ h=>.inl h) (λ_ _ _ q=>q) (λ_ _ q _=>q);have monos:∀x v,Reps K H F x v->Reps K H (λb=>F b\/N b) x v:=Reps.mono (λ_ h=>.inl h) (λ_ _ _ q=>q) (λ_ _ q _=>q);refine⟨r.len,λb h=>h.elim (r.ex b) λz=>(hn b z).2,λi pv e=>?_,λi po e=>?_,λi b h=>?_,r.dist⟩
 ·obtain⟨v,h1,h2⟩:=r.val i pv e;exact⟨v,h1,mono _ _ h2⟩
 ·obtain⟨v,h1,h2⟩:=r.own i po e;exact⟨v,h1,h2.mono mono monos λ_ _ _ z=>z⟩
 ·obtain⟨h1,h2,h3⟩:=r.foot i b h;exact⟨h1,λz=>z.elim h2 λw=>(hn b w).1 ⟨i,h⟩,h3⟩
def uR:PO->Option PV
 |.lst xs=>aa (.lst xs)
 |_=>ae
def dF(d:ak->R PO):ak->R PV:=λε=>(d ε).bind λpo ε1=>bg (uR po) ε1
theorem DN.de{d:ak->R PO}(h:DN X E e d):DE X E e (dF d):=λF S ε σ H Q rl q=>by
 unfold dF at q;refine h F S ε σ H Q rl ?_;cases e0:d ε with
 |no=>rw[e0]at q;exact q.elim
 |er c ε'=>rw[e0]at q;exact q
 |ok po ε1=>
  rw[e0]at q;intro F1 S1 H1 r1 g1 a Sa ow fr;cases po with
  |dK kvs=>exact q.elim
  |lls iT=>exact q.elim
  |ins C fs=>exact q.elim
  |dT kvs=>exact q.elim
  |inl C fs y xs=>exact q.elim
  |lst xs=>
   have hN:∀b,Sa b->¬U S1 b/\∃o,H1 b=aa o:=λb z=>let ⟨_,_,x3,o,x4,_⟩:=fr b z;⟨x3,o,x4⟩
   obtain⟨⟨vs,ha,hr⟩,hS⟩:=ow;have g2:bp (U S) (U S1) F (λb=>F1 b\/Sa b) H H1:=⟨λb z=>.inl (g1.fro b z),g1.keep,g1.there,λb z=>z.elim (g1.fnew b) λw=>.inr (.inl (fr b w).1),g1.onew⟩
   exact q _ S1 H1 (r1.more hN) g2 _ ⟨a,vs,rfl,.inl ha,.inr ((hS a).mpr rfl),Reps.mono (λ_ z=>.inl z) (λ_ _ _ z=>z) (λ_ _ z _=>z) _ _ hr⟩
def bo(xs:List PV):Option PV:=if xs.length<=1000 then aa (.tup xs)else ae
def eQ(xs:List PV):Option PO:=if xs.length<=1000 then aa (.lst xs)else ae
def dL{α:Type}(f:List PV->Option α)(ds:ak->R (List PV)):ak->R α:=λε=>(ds ε).bind λxs ε1=>bg (f xs) ε1
def PL(K:ax)(r:List V->Hp->VK->Prop)(f:List PV->Option PV):Prop:=∀(F:af->Prop) (H:Hp) (xs:List PV) (vs:List V) (Q:VK) (pv:PV),Reps K H F xs vs->f xs=aa pv->(∀w F' H',Al F F' H H'->aT K H' F' pv w->Q w H')->r vs H Q
def kG(K:ax)(r:List V->Hp->VK->Prop)(f:List PV->Option PO):Prop:=∀(F:af->Prop) (H:Hp) (xs:List PV) (vs:List V) (Q:VK) (po:PO),(∀a,F a->∃o,H a=aa o)->Reps K H F xs vs->f xs=aa po ->
 (∀a F' H' Sa,Al F F' H H'->eR K H' F' po a Sa->(∀b,Sa b->H b=ae/\¬F' b/\∃o,H' b=aa o/\dR o)->Q (.ref a) H')->r vs H Q
theorem yI{r:List V->Hp->VK->Prop}{f:List PV->Option PV}(hp:PL X.K r f)(hd:DA X E es ds){F:af->Prop}{S:Nat->af->Prop}{ε:ak}{σ:St}{H:Hp}{Q:VK}(rl:aP X.K F S ε σ H)(h:Ok X.K E σ F S H (dL f ds ε) (λpv _ F' _ H'=>∀v,aT X.K H' F' pv v->Q v H')):nJ X es σ H λxs H1=>r xs H1 Q:=by
 refine hd F S ε σ H _ rl ((Ok.bind h).imp λxs ε1 F1 S1 H1 r1 g1 h1 vs kl=>?_);cases e:f xs with
 |none=>rw[e]at h1;exact h1.elim
 |some pv=>rw[e]at h1;exact hp F1 H1 xs vs Q pv kl e λw F' H' al rw'=>h1 F' S1 H' (r1.al al) al.grow w rw'
theorem mE{O O' F F':af->Prop}{H H':Hp}(g:bp O O' F F' H H'){b:af}(h:H' b=ae):H b=ae:=by
 cases q:H b with
 |none=>rfl
 |some o=>obtain⟨o',e⟩:=g.there b o q;rw[h]at e;cases e
theorem sf{r:List V->Hp->VK->Prop}{f:List PV->Option PO}(hp:kG X.K r f)(hd:DA X E es ds){F:af->Prop}{S:Nat->af->Prop}{ε:ak}{σ:St}{H:Hp}{Q:VK}(rl:aP X.K F S ε σ H)(h:Ok X.K E σ F S H (dL f ds ε) (λpo _ F' S' H'=>∀a Sa,eR X.K H' F' po a Sa->(∀b,Sa b->H b=ae/\¬F' b/\¬U S' b/\∃o,H' b=aa o/\dR o)->Q (.ref a) H')):nJ X es σ H λxs H1=>r xs H1 Q:=by
 refine hd F S ε σ H _ rl ((Ok.bind h).imp λxs ε1 F1 S1 H1 r1 g1 h1 vs kl=>?_);cases e:f xs with
 |none=>rw[e]at h1;exact h1.elim
 |some po=>
  rw[e]at h1;refine hp F1 H1 xs vs Q po r1.ex kl e λa F' H' Sa al ow fr=>h1 F' S1 H' (r1.al al) al.grow a Sa ow λb z=>?_;obtain⟨z1,z2,o,z3,z4⟩:=fr b z;refine⟨mE g1 z1,z2,λ⟨i,w⟩=>?_,o,z3,z4⟩;obtain⟨_,_,o',w1,_⟩:=r1.foot i b w;rw[z1]at w1;cases w1
theorem x0{n:Nat}(h:n<=1000):n<=a_:=j3 (Lv h)
theorem IW{K:ax}:PL K (λxs H Q=>xs.length<=a_/\∀p,H p=ae->Q (.ref p) (upd H p (.tup xs))) bo:=λF H xs vs Q pv rs e q=>by
 unfold bo at e;split at e
 ·cases e;refine⟨by rw[rs.len];exact x0 (by assumption),λp hp=>q _ F _ (Al.new0 hp) ⟨p,vs,rfl,cE,(Al.new0 hp).reps rs⟩⟩
 ·cases e
theorem u0{K:ax}{F:af->Prop}{H:Hp}{l:af}{xs:List PV}{vs:List V}(hl:H l=ae)(rs:Reps K H F xs vs):eR K (upd H l (.lst vs)) F (.lst xs) l (λb=>b=l):=⟨⟨vs,cE,(Al.new0 hl).reps rs⟩,λb=>Iff.rfl⟩
theorem vg{F:af->Prop}{H:Hp}{l:af}{o:HO}(hl:H l=ae)(hF:∀a,F a->∃o,H a=aa o)(hn:dR o):∀b,b=l->H b=ae/\¬F b/\∃o',(upd H l o) b=aa o'/\dR o':=λb z=>by
 subst z;exact⟨hl,(λw=>by obtain⟨o,q⟩:=hF b w;rw[hl]at q;cases q),o,cE,hn⟩
theorem Ms{K:ax}:kG K (λxs H Q=>xs.length<=a_/\∀p,H p=ae->Q (.ref p) (upd H p (.lst xs))) eQ:=λF H xs vs Q po hF rs e q=>by
 unfold eQ at e;split at e
 ·cases e;exact⟨by rw[rs.len];exact x0 (by assumption),λp hp=>q p F _ _ (Al.new0 hp) (u0 hp rs) (vg hp hF trivial)⟩
 ·cases e
theorem cp{x1}(h:DA X E es ds):DE X E (.Tuple es x1 pos) (dL bo ds):=λF S ε σ H Q rl q=>b9 (Hq gD) (yI IW h rl q)
theorem rS(h:DA X E es ds):DN X E (.List es pos) (dL eQ ds):=λF S ε σ H Q rl q=>b9 (MN gD) (sf Ms h rl q)
theorem kR(h:DA X E es ds):DE X E (.List es pos) (dF (dL eQ ds)):=(rS h).de
variable{x:Str}{p:Pos}{id T:String}{r:List V->Hp->VK->Prop}{f:List PV->Option PV}{fn:List PV->Option PO}
theorem cu(hc:et X (.builtin id) r)(hp:PL X.K r f)(hm:X.mg x=ae)(hv:eA x=aa (.builtin id))(ha:DA X E (e::es) ds)(hg:Gl X x:=by rfl)(hn:x≠"__name__":=by decide)(gK:(x == ("__debug__" : Str))=aj:=by decide)(he:aL (e::es) X.env=(aj,aU e X.env)::aL es X.env:=by rfl) (cS:(cL pos (aL es X.env)).any (·.1)=aj:=by rfl):DE X E (.Call (.Name x p) (e::es) [] pos) (dL f ds):=λF S ε σ H Q rl q=>b9 (oq hc hg hm hv gD hn gK he cS) (yI hp ha rl q)
theorem xA(hc:et X (.builtin id) r)(hp:kG X.K r fn)(hm:X.mg x=ae)(hv:eA x=aa (.builtin id))(ha:DA X E (e::es) ds)(hg:Gl X x:=by rfl)(hn:x≠"__name__":=by decide)(gK:(x == ("__debug__" : Str))=aj:=by decide)(he:aL (e::es) X.env=(aj,aU e X.env)::aL es X.env:=by rfl) (cS:(cL pos (aL es X.env)).any (·.1)=aj:=by rfl):DN X E (.Call (.Name x p) (e::es) [] pos) (dL fn ds):=λF S ε σ H Q rl q=>b9 (oq hc hg hm hv gD hn gK he cS) (sf hp ha rl q)
theorem zr(hc:et X (.type T) r)(hp:PL X.K r f)(hm:X.mg x=ae)(hv:eA x=aa (.type T))(ha:DA X E (e::es) ds)(hg:Gl X x:=by rfl)(hn:x≠"__name__":=by decide)(gK:(x == ("__debug__" : Str))=aj:=by decide)(he:aL (e::es) X.env=(aj,aU e X.env)::aL es X.env:=by rfl) (cS:(cL pos (aL es X.env)).any (·.1)=aj:=by rfl):DE X E (.Call (.Name x p) (e::es) [] pos) (dL f ds):=λF S ε σ H Q rl q=>b9 (vH hc hg hm hv gD hn gK he cS) (yI hp ha rl q)
theorem Cm(hc:et X (.type T) r)(hp:kG X.K r fn)(hm:X.mg x=ae)(hv:eA x=aa (.type T))(ha:DA X E (e::es) ds)(hg:Gl X x:=by rfl)(hn:x≠"__name__":=by decide)(gK:(x == ("__debug__" : Str))=aj:=by decide)(he:aL (e::es) X.env=(aj,aU e X.env)::aL es X.env:=by rfl) (cS:(cL pos (aL es X.env)).any (·.1)=aj:=by rfl):DN X E (.Call (.Name x p) (e::es) [] pos) (dL fn ds):=λF S ε σ H Q rl q=>b9 (vH hc hg hm hv gD hn gK he cS) (sf hp ha rl q)
theorem ic{r:R2}{f:PV->PV->Option PV}(hr:lv X r)(hp:P2 X.K r f)(ha:DE X E a da)(hb:DE X E b db)(hs:CY b:=by exact λ_ _=>rfl):DE X E (.Subscript a b pos) (d2 f da db):=λF S ε σ H Q rl h=>b9 (Jk hr bL bL hs) (vU hp ha hb rl h)
def yF(X:Cx)(e:Option aB):TO:=λσ H Q=>Bx (∀ag s,Inv X ag σ H s->aq (aw X.prog X.w) X.A (evalPart e X.env) (λu s'=>∃o H',Inv X ag σ H' s'/\lV u o/\Q o H') X.xe s)
theorem A1{o:Option aB}:L2.PO X o (yF X o):=λag s _ _ _ I h=>h.run ag s I
theorem Ea{o:Option aB}{t:TO}(h:L2.PO X o t){σ:St}{H:Hp}{Q:Option Int->Hp->Prop}(q:t σ H Q):yF X o σ H Q:=⟨λag s I=>h ag s σ H Q I q⟩
def DO(X:Cx)(E:XK)(e:Option aB)(d:ak->R (Option Int)):Prop:=∀F S ε σ H Q,aP X.K F S ε σ H->Ok X.K E σ F S H (d ε) (λo _ _ _ H'=>Q o H')->yF X e σ H Q
def nR:ak->R (Option Int):=λε=>.ok ae ε
def vM:PV->Option Int
 |.int i=>aa i
 |_=>ae
def gw(d:ak->R PV):ak->R (Option Int):=λε=>(d ε).bind λx ε1=>bg ((vM x).map aa) ε1
theorem CA:DO X E ae nR:=λF S ε σ H Q rl h=>Ea Jd (h F S H rl (bp.refl ..))
theorem pi(he:DE X E e d):DO X E (aa e) (gw d):=λF S ε σ H Q rl h=>by
 refine Ea (Kr bL) (he F S ε σ H _ rl ((Ok.bind h).imp λx ε1 F1 S1 H1 r1 g1 h1 v rv=>?_));cases x <;> first|exact(show False from h1).elim|skip
 rename_i i;exact⟨i,rv,h1 F1 S1 H1 r1 (bp.refl ..)⟩
def iX{α:Type}(f:PV->Option Int->Option Int->Option α)(d:ak->R PV)(dl du:ak->R (Option Int)):ak->R α:=λε=>(d ε).bind λx ε1=>(dl ε1).bind λl ε2=>(du ε2).bind λu ε3=>bg (f x l u) ε3
def CI(K:ax)(r:V->Option Int->Option Int->Hp->VK->Prop)(f:PV->Option Int->Option Int->Option PV):Prop:=∀(F:af->Prop) (H:Hp) (x:PV) (lo hi:Option Int) (v:V) (Q:VK) (pv:PV),aT K H F x v->f x lo hi=aa pv->(∀w F' H',Al F F' H H'->aT K H' F' pv w->Q w H')->r v lo hi H Q
theorem vR{r:V->Option Int->Option Int->Hp->VK->Prop}{f:PV->Option Int->Option Int->Option PV}{lo hi:Option aB}{dl du:ak->R (Option Int)}{p2:Pos}(hr:lD X r)(hp:CI X.K r f)(he:DE X E e d)(hl:DO X E lo dl)(hu:DO X E hi du):DE X E (.Subscript e (.Slice lo hi ae p2) pos) (iX f d dl du):=λF S ε σ H Q rl h=>by
 refine b9 (JO hr bL A1 A1) (he F S ε σ H _ rl ((Ok.bind h).imp λx ε1 F1 S1 H1 r1 g1 h1 v rv=>?_));refine hl F1 S1 ε1 σ H1 _ r1 ((Ok.bind h1).imp λl ε2 F2 S2 H2 r2 g2 h2=>?_);refine hu F2 S2 ε2 σ H2 _ r2 ((Ok.bind h2).imp λu ε3 F3 S3 H3 r3 g3 h3=>?_);cases e3:f x l u with
 |none=>rw[e3]at h3;exact h3.elim
 |some pv=>rw[e3]at h3;exact hp F3 H3 x l u v Q pv ((rv.grow g2 r1.fit).grow g3 r2.fit) e3 λw F' H' al rw'=>h3 F' S3 H' (r3.al al) al.grow w rw'
end
inductive aS where
 |next|ret (s:Slot)|brk|cont
def lL(K:ax)(H:Hp)(F:af->Prop)(s:Slot)(v:V)(Sr:af->Prop):Prop:=match s with
 |.val pv=>aT K H F pv v/\∀b,¬Sr b
 |.own po=>∃a,v=.ref a/\eR K H F po a Sr
 |.none=>False
def ie(pin:List Nat)(σ σ':St):Prop:=∀i∈pin,σ'[i]?=σ[i]?
theorem ie.refl(pin:List Nat)(σ:St):ie pin σ σ:=λ_ _=>rfl
theorem ie.trans{pin:List Nat}{σ σ1 σ2:St}(a:ie pin σ σ1)(b:ie pin σ1 σ2):ie pin σ σ2:=λi h=>(b i h).trans (a i h)
theorem ie.set{pin:List Nat}{σ:St}{i:Nat}{x:Option V}(h:i∉pin):ie pin σ (σ.set i x):=λj hj=>by rw[dO (by rintro rfl;exact h hj)]
def vX(F':af->Prop)(S':Nat->af->Prop)(H':Hp)(Sr:af->Prop):Prop:=∀b,Sr b->¬F' b/\¬U S' b/\∃o,H' b=aa o/\dR o
def ix(K:ax)(E:XK)(pin:List Nat)(σ:St)(F:af->Prop)(S:Nat->af->Prop)(H:Hp)(r:R aS)(D:jU):Prop:=match r with
 |.ok .next ε'=>∀F' S' σ' H',aP K F' S' ε' σ' H'->bp (U S) (U S') F F' H H'->ie pin σ σ'->D.nx σ' H'
 |.ok .brk ε'=>∀F' S' σ' H',aP K F' S' ε' σ' H'->bp (U S) (U S') F F' H H'->ie pin σ σ'->D.bk σ' H'
 |.ok .cont ε'=>∀F' S' σ' H',aP K F' S' ε' σ' H'->bp (U S) (U S') F F' H H'->ie pin σ σ'->D.ct σ' H'
 |.ok (.ret s) ε'=>∀v F' S' σ' H' Sr,aP K F' S' ε' σ' H'->bp (U S) (λb=>U S' b\/Sr b) F F' H H'->ie pin σ σ'->lL K H' F' s v Sr->vX F' S' H' Sr->D.rt v H'
 |.er c ε'=>∀x F' S' σ' H',aP K F' S' ε' σ' H'->bp (U S) (U S') F F' H H'->ie pin σ σ'->E c x H'
 |.no=>False
def DS(X:Cx)(E:XK)(pin:List Nat)(st:aZ)(d:ak->R aS):Prop:=∀F S ε σ H D,aP X.K F S ε σ H->ix X.K E pin σ F S H (d ε) D->wpS X st D σ H
def fW(X:Cx)(E:XK)(pin:List Nat)(st:List aZ)(d:ak->R aS):Prop:=∀F S ε σ H D,aP X.K F S ε σ H->ix X.K E pin σ F S H (d ε) D->n0 X st D σ H
section
variable{K:ax}{E:XK}{pin:List Nat}{σ σ1:St}{F F1:af->Prop}{S S1:Nat->af->Prop}{H H1:Hp}{D:jU}
theorem ix.from{r:R aS}(h:ix K E pin σ F S H r D)(g:bp (U S) (U S1) F F1 H H1)(p:ie pin σ σ1):ix K E pin σ1 F1 S1 H1 r D:=by
 cases r with
 |no=>exact h
 |er c ε'=>exact λx F' S' σ' H' r' g' p'=>h x F' S' σ' H' r' (g.trans g') (p.trans p')
 |ok f ε'=>
  cases f with
  |next=>exact λF' S' σ' H' r' g' p'=>h F' S' σ' H' r' (g.trans g') (p.trans p')
  |brk=>exact λF' S' σ' H' r' g' p'=>h F' S' σ' H' r' (g.trans g') (p.trans p')
  |cont=>exact λF' S' σ' H' r' g' p'=>h F' S' σ' H' r' (g.trans g') (p.trans p')
  |ret s=>exact λv F' S' σ' H' Sr r' g' p'=>h v F' S' σ' H' Sr r' (g.trans g') (p.trans p')
theorem ix.bindE{α:Type}{r:R α}{k:α->ak->R aS}(h:ix K E pin σ F S H (r.bind k) D):Ok K E σ F S H r (λa ε1 F1 S1 H1=>ix K E pin σ F1 S1 H1 (k a ε1) D):=by
 cases r with
 |no=>exact h
 |er c ε'=>exact λx F' S' H' r' g'=>h x F' S' σ H' r' g' (ie.refl _ _)
 |ok a ε'=>exact λF' S' H' r' g'=>h.from g' (ie.refl _ _)
end
section
variable{X:Cx}{E:XK}{pin:List Nat}{st:aZ}{rest:List aZ}{d d1 d2:ak->R aS}{e:aB}{de:ak->R PV}{pos:Pos}
def eu:ak->R aS:=λε=>.ok .next ε
theorem gr:fW X E pin [] eu:=λF S ε σ H D rl h=>yS G_ (h F S σ H rl (bp.refl ..) (ie.refl _ _))
def bb(d1 d2:ak->R aS):ak->R aS:=λε=>match d1 ε with
 |.ok .next ε1=>d2 ε1
 |r=>r
theorem bv(h1:DS X E pin st d1)(h2:fW X E pin rest d2):fW X E pin (st::rest) (bb d1 d2):=λF S ε σ H D rl h=>by
 refine yS (F6 BM sA) (h1 F S ε σ H {D with nx:=n0 X rest D} rl ?_);unfold bb at h;split at h
 ·rename_i ε1 e1;rw[e1];exact λF' S' σ' H' r' g' p'=>h2 F' S' ε1 σ' H' D r' (h.from g' p')
 ·rename_i r dq;generalize d1 ε=r1 at h dq;cases r1 with
  |no=>exact h
  |er c ε'=>exact h
  |ok f ε'=>
   cases f with
   |next=>exact absurd rfl (dq ε')
   |brk=>exact h
   |cont=>exact h
   |ret s=>exact h
theorem bn(h1:DS X E pin st d1):fW X E pin [st] d1:=λF S ε σ H D rl h=>yS (G5 BM) (h1 F S ε σ H D rl h)
def sP(f:aS):ak->R aS:=λε=>.ok f ε
def ze(d:ak->R PV):ak->R aS:=λε=>(d ε).bind λ_ ε1=>.ok .next ε1
def cy(d:ak->R PV):ak->R aS:=λε=>(d ε).bind λx ε1=>.ok (.ret (.val x)) ε1
theorem bp.cup{O O' F F':af->Prop}{H H':Hp}(g:bp O O' F F' H H'):bp O (λb=>O' b\/False) F F' H H':=⟨g.fro,g.keep,g.there,g.fnew,λa h=>h.elim (g.onew a) ge⟩
theorem dJ(he:DE X E e de):DS X E pin (.Return (aa e) pos) (cy de):=λF S ε σ H D rl h=>gX (uS bL) (he F S ε σ H _ rl (h.bindE.imp λx ε1 F1 S1 H1 r1 g1 h1 v rv=>h1 v F1 S1 σ H1 (λ_=>False) r1 (bp.refl ..).cup (ie.refl _ _) ⟨rv,λ_ z=>z⟩ λ_ z=>z.elim))
theorem MP:DS X E pin (.Return ae pos) (sP (.ret (.val .non))):=λF S ε σ H D rl h=>gX Nm (h _ F S σ H (λ_=>False) rl (bp.refl ..).cup (ie.refl _ _) ⟨rfl,λ_ z=>z⟩ λ_ z=>z.elim)
def pe(d:ak->R PO):ak->R aS:=λε=>(d ε).bind λx ε1=>.ok (.ret (.own x)) ε1
theorem Ci{dn:ak->R PO}(he:DN X E e dn):DS X E pin (.Return (aa e) pos) (pe dn):=λF S ε σ H D rl h=>by
 refine gX (uS bL) (he F S ε σ H _ rl ?_);unfold pe at h;cases e0:dn ε with
 |no=>rw[e0]at h;exact h.elim
 |er c ε'=>rw[e0]at h;exact λx F' S' H' r' g'=>h x F' S' σ H' r' g' (ie.refl _ _)
 |ok po ε1=>rw[e0]at h;intro F1 S1 H1 r1 g1 a Sa ow fr;exact h _ F1 S1 σ H1 Sa r1 ⟨g1.fro,g1.keep,g1.there,g1.fnew,λb z=>z.elim (g1.onew b) λw=>.inr (fr b w).1⟩ (ie.refl _ _) ⟨a,rfl,ow⟩ λb z=>let ⟨_,x2,x3,x4⟩:=fr b z;⟨x2,x3,x4⟩
def p9(i:Nat):ak->R aS:=λε=>match ε[i]? with
 |some (.own po)=>.ok (.ret (.own po)) (ε.set i .none)
 |_=>.no
theorem aP.drop{K:ax}{F:af->Prop}{S:Nat->af->Prop}{ε:ak}{σ:St}{H:Hp}(r:aP K F S ε σ H)(i:Nat):aP K F (λj b=>S j b/\j≠i) (ε.set i .none) σ H:=by
 have no:∀{j s},(ε.set i .none)[j]?=aa s->s≠.none->j≠i/\ε[j]?=aa s:=λ{j s} e hs=>by
  by_cases hj:i=j
  ·subst hj;by_cases hi:i<ε.length
   ·rw[ff hi]at e;exact absurd (dW e).symm hs
   ·rw[nh (by rw[fE];lia)]at e;cases e
  ·rw[dO hj]at e;exact⟨d9 hj,e⟩
 refine⟨by rw[fE];exact r.len,r.ex,λj pv e=>r.val j pv (no e (by intro z;cases z)).2,λj po e=>?_,λj b h=>?_,λj k b h1 h2=>r.dist j k b h1.1 h2.1⟩
 ·obtain⟨hj,e⟩:=no e (by intro z;cases z);obtain⟨a,h1,h2⟩:=r.own j po e;have eS:(λb=>S j b/\j≠i)=S j:=by funext b;simp[hj]
  exact⟨a,h1,by rw[eS];exact h2⟩
 ·obtain⟨⟨po,q1⟩,q2⟩:=r.foot j b h.1;exact⟨⟨po,by rw[dO (d9 h.2)];exact q1⟩,q2⟩
theorem C_(i:Nat){x:Str}{p:Pos}(hN:X.N[i]?=aa x:=by rfl)(hv:fH X.env.scope x:=by first|exact Or.inl rfl|exact Or.inr (Or.inl rfl)|exact Or.inr (Or.inr rfl))(hd:(x == ("__debug__" : Str))=aj:=by decide)(bU:(x == ("__classdict__" : Str))=aj:=by decide):DS X E pin (.Return (aa (.Name x p)) pos) (p9 i):=λF S ε σ H D rl h=>by
 unfold p9 at h;split at h
 ·rename_i po e;obtain⟨a,e1,ow⟩:=rl.own i po e;refine gX (uS (gU hN hv hd bU)) ⟨_,e1,h _ F (λj b=>S j b/\j≠i) σ H (S i) (rl.drop i) ⟨λ_ z=>z,λ_ _ z _=>z,λ_ o z=>⟨o,z⟩,λ_ z=>.inl z,λb z=>?_⟩ (ie.refl _ _) ⟨a,rfl,ow⟩ λb z=>?_⟩
  ·rcases z with⟨j,z,_⟩|z
   ·exact .inl ⟨j,z⟩
   ·exact .inl ⟨i,z⟩
  ·exact⟨(rl.foot i b z).2.1,λ⟨j,w,hj⟩=>hj (rl.dist j i b w z),(rl.foot i b z).2.2⟩
 ·exact h.elim
theorem aP.set{K:ax}{F:af->Prop}{S:Nat->af->Prop}{ε:ak}{σ:St}{H:Hp}{i:Nat}{pv:PV}{v:V}(r:aP K F S ε σ H)(h:aT K H F pv v):aP K F (λj b=>S j b/\j≠i) (ε.set i (.val pv)) (σ.set i (aa v)) H:=by
 have r0:=r.drop i;have len:(ε.set i (.val pv)).length=(σ.set i (aa v)).length:=by rw[fE,fE];exact r.len
 refine⟨len,r.ex,λj p e=>?_,λj po e=>?_,λj b h=>?_,r0.dist⟩
 ·by_cases hj:i=j
  ·subst hj;have hi:i<ε.length:=by have:=(df.mp e).1;rw[fE]at this;exact this
   rw[ff hi]at e;cases e;exact⟨v,ff (by rw[←r.len];exact hi),h⟩
  ·rw[dO hj]at e;obtain⟨w,h1,h2⟩:=r.val j p e;exact⟨w,by rw[dO hj];exact h1,h2⟩
 ·have hj:i≠j:=by
   rintro rfl;have hi:i<ε.length:=by have:=(df.mp e).1;rw[fE]at this;exact this
   rw[ff hi]at e;cases e
  rw[dO hj]at e;obtain⟨a,h1,h2⟩:=r.own j po e;have eS:(λb=>S j b/\j≠i)=S j:=by funext b;simp[d9 hj]
  exact⟨a,by rw[dO hj];exact h1,by rw[eS];exact h2⟩
 ·obtain⟨⟨po,q1⟩,q2⟩:=r0.foot j b h;refine⟨⟨po,?_⟩,q2⟩;rw[dO (d9 h.2)]at q1 ⊢;exact q1
theorem bp.less{S:Nat->af->Prop}{F:af->Prop}{H:Hp}(i:Nat):bp (U S) (U λj b=>S j b/\j≠i) F F H H:=⟨λ_ z=>z,λ_ _ z _=>z,λ_ o z=>⟨o,z⟩,λ_ z=>.inl z,λb ⟨j,z⟩=>.inl ⟨j,z.1⟩⟩
theorem aP.setOwn{K:ax}{F:af->Prop}{S:Nat->af->Prop}{ε:ak}{σ:St}{H:Hp}{i:Nat}{po:PO}{a:af}{Sa:af->Prop}(r:aP K F S ε σ H)(hi:i<ε.length)(h:eR K H F po a Sa)(fr:vX F S H Sa):aP K F (λj b=>(S j b/\j≠i)\/(j=i/\Sa b)) (ε.set i (.own po)) (σ.set i (aa (.ref a))) H:=by
 have r0:=r.drop i;refine⟨by rw[fE,fE];exact r.len,r.ex,λj p e=>?_,λj po' e=>?_,λj b h=>?_,λj k b h1 h2=>?_⟩
 ·have hj:i≠j:=by rintro rfl;rw[ff hi]at e;cases e
  rw[dO hj]at e;obtain⟨w,h1,h2⟩:=r.val j p e;exact⟨w,by rw[dO hj];exact h1,h2⟩
 ·by_cases hj:i=j
  ·subst hj;rw[ff hi]at e;cases e;have eS:(λb=>(S i b/\i≠i)\/(i=i/\Sa b))=Sa:=by funext b;simp
   exact⟨a,ff (by rw[←r.len];exact hi),by rw[eS];exact h⟩
  ·rw[dO hj]at e;obtain⟨a',h1,h2⟩:=r.own j po' e;have eS:(λb=>(S j b/\j≠i)\/(j=i/\Sa b))=S j:=by funext b;simp[d9 hj]
   exact⟨a',by rw[dO hj];exact h1,by rw[eS];exact h2⟩
 ·rcases h with h|⟨rfl,h⟩
  ·obtain⟨⟨po',q1⟩,q2⟩:=r0.foot j b h;refine⟨⟨po',?_⟩,q2⟩;rw[dO (d9 h.2)]at q1 ⊢;exact q1
  ·obtain⟨x1,x2,x3⟩:=fr b h;exact⟨⟨po,ff hi⟩,x1,x3⟩
 ·rcases h1 with h1|⟨rfl,h1⟩ <;> rcases h2 with h2|⟨rfl,h2⟩
  ·exact r.dist j k b h1.1 h2.1
  ·exact absurd ⟨j,h1.1⟩ (fr b h2).2.1
  ·exact absurd ⟨k,h2.1⟩ (fr b h1).2.1
  ·rfl
def cN(i:Nat)(d:ak->R PV):ak->R aS:=λε=>(d ε).bind λx ε1=>.ok .next (ε1.set i (.val x))
theorem gq(i:Nat){x:Str}{p:Pos}(hN:X.N.Nodup)(he:DE X E e de)(hp:i∉pin:=by decide)(hi:X.N[i]?=aa x:=by rfl)(hx:Loc X.env.scope x:=by first|exact Or.inl rfl|exact Or.inr rfl)(hs:kZ e (aa (.Name x p)) pos.line X.env=pure aj:=by rfl)(hf:X.fn x=ah\/X.env.scope.names.lookup x=aa .local:=by first|exact .inl rfl|exact .inr rfl):DS X E pin (.Assign [.Name x p] e pos) (cN i de):=λF S ε σ H D rl h=>gX (D7 hN hi hx bL hs hf) (he F S ε σ H _ rl (h.bindE.imp λx ε1 F1 S1 H1 r1 g1 h1 v rv=>h1 F1 _ _ H1 (r1.set rv) (bp.less i) (ie.set hp)))
def ju(i:Nat)(d:ak->R PO):ak->R aS:=λε=>(d ε).bind λx ε1=>if i<ε1.length then .ok .next (ε1.set i (.own x))else .no
theorem p_(i:Nat){x:Str}{p:Pos}{dn:ak->R PO}(hN:X.N.Nodup)(he:DN X E e dn)(hp:i∉pin:=by decide)(hi:X.N[i]?=aa x:=by rfl)(hx:Loc X.env.scope x:=by first|exact Or.inl rfl|exact Or.inr rfl)(hs:kZ e (aa (.Name x p)) pos.line X.env=pure aj:=by rfl)(hf:X.fn x=ah\/X.env.scope.names.lookup x=aa .local:=by first|exact .inl rfl|exact .inr rfl):DS X E pin (.Assign [.Name x p] e pos) (ju i dn):=λF S ε σ H D rl h=>by
 refine gX (D7 hN hi hx bL hs hf) (he F S ε σ H _ rl ?_);unfold ju at h;cases e0:dn ε with
 |no=>rw[e0]at h;exact h.elim
 |er c ε'=>rw[e0]at h;exact λx F' S' H' r' g'=>h x F' S' σ H' r' g' (ie.refl _ _)
 |ok po ε1=>
  rw[e0]at h;simp only[R.bind_ok]at h;intro F1 S1 H1 r1 g1 a Sa ow fr;by_cases hl:i<ε1.length
  ·rw[if_pos hl]at h;refine h F1 _ _ H1 (r1.setOwn hl ow λb z=>(fr b z).2) ⟨g1.fro,g1.keep,g1.there,g1.fnew,λb ⟨j,z⟩=>?_⟩ (ie.set hp);rcases z with z|⟨_,z⟩
   ·exact g1.onew b ⟨j,z.1⟩
   ·exact .inr (fr b z).1
  ·rw[if_neg hl]at h;exact h.elim
theorem gB{c:aB}{a b:List aZ}{t:ak->R Bool}(hc:DT X E c t)(ha:fW X E pin a d1)(hb:fW X E pin b d2):DS X E pin (.If c a b pos) (dA t d1 d2):=λF S ε σ H D rl h=>by
 refine gX (MW pR sA sA) (hc F S ε σ H _ rl (h.bindE.imp λk ε1 F1 S1 H1 r1 g1 h1=>?_));cases k with
 |true=>exact pZ (ha F1 S1 ε1 σ H1 D r1 h1)
 |false=>exact pH (hb F1 S1 ε1 σ H1 D r1 h1)
def Cb:ak->R aS:=λ_=>.no
theorem MT{sts:List aZ}:fW X E pin sts Cb:=λ_ _ _ _ _ _ _ h=>h.elim
def iM(r:R aS):R aS:=match r with
 |.er _ _=>.no
 |r=>r
theorem pI(h:DS X.nox E0 pin st d):DS X E pin st (λε=>iM (d ε)):=λF S ε σ H D rl q=>Bx.mk λag s I=>by
 have q:ix X.K E pin σ F S H (iM (d ε)) D:=q;have q':ix X.K E0 pin σ F S H (d ε) D:=by
  cases e:d ε with
  |no=>rw[e]at q;exact q
  |er c ε'=>rw[e]at q;exact q.elim
  |ok f ε'=>rw[e]at q;cases f <;> exact q
 exact dY ((h F S ε σ H D rl q').run ag s (I.wish _)) (λ_ _ z=>z.unwish) λ_ _ z=>z.elim
def qj(X:Cx)(tg iter:aB):TI:=λσ H Rr=>Bx (∀ag s,Inv X ag σ H s->aq (aw X.prog X.w) X.A (aU iter X.env) (λv s1=>aq (aw X.prog X.w) X.A (mT v) (uJ X ag σ tg Rr) X.xe s1) X.xe s)
theorem zu{tg iter:aB}:PI X tg iter (qj X tg iter):=λag s _ _ _ I h=>h.run ag s I
theorem Ir{tg iter:aB}{t:TI}(h:PI X tg iter t){σ:St}{H:Hp}{Rr:It->Hp->Prop}(q:t σ H Rr):qj X tg iter σ H Rr:=⟨λag s I=>h ag s σ H Rr I q⟩
def DI(X:Cx)(E:XK)(tg iter:aB)(d:ak->R (List PV)):Prop:=∀F S ε σ H Rr,aP X.K F S ε σ H ->
 Ok X.K E σ F S H (d ε) (λpvs _ F' S' H'=>∀J vs RR,Reps X.K H' F' pvs vs->vs.length<=a_->Walk J vs RR->(∀S'' F'' H'',bp (U S') (U S'') F' F'' H' H''->RR H'')->Rr J H')->qj X tg iter σ H Rr
def j0(i:Nat)(db:ak->R aS):List PV->ak->R aS
 |[],ε=>.ok .next ε
 |x::xs,ε=>match db (ε.set i (.val x))with
  |.ok .next ε'=>j0 i db xs ε'
  |.ok .cont ε'=>j0 i db xs ε'
  |.ok .brk ε'=>.ok .next ε'
  |r=>r
def gu(i:Nat)(di:ak->R (List PV))(db:ak->R aS):ak->R aS:=λε=>(di ε).bind λxs ε1=>j0 i db xs ε1
theorem nW(i:Nat){x:Str}{p:Pos}{iter:aB}{body:List aZ}{di:ak->R (List PV)}{db:ak->R aS}(hpo:PassesOwn (aw X.prog X.w) X.A X.env X.xe)(hc:X.calm=ah)(hN:X.N.Nodup)(hi:DI X E (.Name x p) iter di)(hb:fW X E pin body db)(hp:i∉pin:=by decide) (hx:X.N[i]?=aa x:=by rfl) (hl:Loc X.env.scope x:=by first|exact Or.inl rfl|exact Or.inr rfl) (hs:∀x,qu iter X.env x=pure x:=by intro _;rfl)(hf:X.fn x=ah\/X.env.scope.names.lookup x=aa .local:=by first|exact .inl rfl|exact .inr rfl):DS X E pin (.For (.Name x p) iter body [] pos) (gu i di db):=λF S ε σ H D rl h=>by
 refine gX (JR hpo hc zu (zx hN hx hl hf) sA hs) (hi F S ε σ H _ rl (h.bindE.imp λxs ε1 F1 S1 H1 r1 g1 h1 J vs RR rs hz hw keep=>?_));refine Ll hw (λk σ' H'=>∃F' S' ε',aP X.K F' S' ε' σ' H'/\bp (U S1) (U S') F1 F' H1 H'/\ix X.K E pin σ' F' S' H' (j0 i db (xs.drop k) ε') D) ⟨F1,S1,ε1,r1,bp.refl ..,h1⟩ (λk σ' H' _ ⟨F',S',ε',_,g,_⟩=>keep S' F' H' g) ?_ ?_
 ·rintro k v σ' H' hv ⟨F',S',ε',r',g',q⟩;obtain⟨x,hx,rx⟩:=rs.back hv;have hk:k<xs.length:=(df.mp hx).1;have ed:xs.drop k=x::xs.drop (k+1):=by rw[wH hk];congr 1;exact(df.mp hx).2
  rw[ed]at q;have rx':=rx.grow g' r1.fit;have r2:=r'.set (i:=i) rx';have gl:bp (U S') (U λj b=>S' j b/\j≠i) F' F' H' H':=bp.less i;show n0 X body _ (σ'.set i (aa v)) H';refine hb F' _ _ _ H' _ r2 ?_;unfold j0 at q;have q:=q.from gl (ie.set (x:=aa v) hp);cases e:db (ε'.set i (.val x))with
  |no=>rw[e]at q;exact q
  |er c ε3=>rw[e]at q;exact q
  |ok f ε3=>
   rw[e]at q;cases f with
   |next=>exact λF3 S3 σ3 H3 r3 g3 p3=>⟨F3,S3,ε3,r3,(g'.trans gl).trans g3,q.from g3 p3⟩
   |cont=>exact λF3 S3 σ3 H3 r3 g3 p3=>⟨F3,S3,ε3,r3,(g'.trans gl).trans g3,q.from g3 p3⟩
   |brk=>exact q
   |ret s=>exact q
 ·rintro σ' H' ⟨F',S',ε',r',g',q⟩;have hl:vs.length=xs.length:=rs.len;rw[hl,List.drop_length]at q;exact q F' S' σ' H' r' (bp.refl ..) (ie.refl _ _)
end
def vO(K:ax)(E:XK)(vs:List V)(F:af->Prop)(S:Nat->af->Prop)(H:Hp)(r:R Slot)(Q:VK):Prop:=match r with
 |.ok s aI=>∀v F' S' H' Sr,aP K F' S' aI (vs.map aa) H'->bp (U S) (λb=>U S' b\/Sr b) F F' H H'->lL K H' F' s v Sr->vX F' S' H' Sr->(∀b,Sr b->H b=ae)->Q v H'
 |.er c aI=>∀x F' S' H',aP K F' S' aI (vs.map aa) H'->bp (U S) (U S') F F' H H'->E c x H'
 |.no=>False
def bF(K:ax)(g:ak->R Slot):Sp:=λvs H Q E=>∃F S ss,aP K F S ss (vs.map aa) H/\vO K E vs F S H (g ss) Q
structure cC(CX:fG)(P:aM)(w:aF)(K:ax)(mg:Str->Option ai)(base:aA)(x:Str)(k:Nat)(ps:List Str)(sp:Sp):Prop where
 ex:∃f fd,mg x=aa (.ref f)/\jQ P w K mg base CX k f fd ps sp/\Binds K fd ps []/\oE K (.ref f)=ah
def back:ak->ak->Option ak
 |[],_=>aa []
 |.own _::ss,.own po::es=>(back ss es).map (.own po::·)
 |.own _::_,_=>ae
 |s::ss,_::es=>(back ss es).map (s::·)
 |_::_,[]=>ae
theorem vf:∀{ss es aI:ak},back ss es=aa aI->aI.length=ss.length/\∀(i:Nat) (s:Slot),aI[i]?=aa s->(∃po po',ss[i]?=aa (.own po)/\es[i]?=aa (.own po')/\s=.own po')\/(ss[i]?=aa s/\∀po,s≠.own po)
 |[],_,aI,h=>by cases h;exact⟨rfl,λi s e=>by simp at e⟩
 |.own po::ss,.own po'::es,aI,h=>by
  unfold back at h;cases e:back ss es with
  |none=>rw[e]at h;cases h
  |some r=>
   rw[e]at h;cases h;obtain⟨l,q⟩:=vf e;refine⟨by simp[l],λi s hi=>?_⟩;cases i with
   |zero=>simp at hi;subst hi;exact .inl ⟨po,po',rfl,rfl,rfl⟩
   |succ i=>simpa using q i s (by simpa using hi)
 |.own po::ss,.none::es,aI,h=>by cases h
 |.own po::ss,.val _::es,aI,h=>by cases h
 |.own po::ss,[],aI,h=>by cases h
 |.none::ss,[],aI,h=>by cases h
 |.val _::ss,[],aI,h=>by cases h
 |.none::ss,x::es,aI,h=>by
  have h:(back ss es).map (Slot.none::·)=aa aI:=by unfold back at h;cases x <;> exact h
  cases e:back ss es with
  |none=>rw[e]at h;cases h
  |some r=>
   rw[e]at h;cases h;obtain⟨l,q⟩:=vf e;refine⟨by simp[l],λi s hi=>?_⟩;cases i with
   |zero=>simp at hi;subst hi;exact .inr ⟨rfl,λ_ z=>by cases z⟩
   |succ i=>simpa using q i s (by simpa using hi)
 |.val pv::ss,x::es,aI,h=>by
  have h:(back ss es).map (Slot.val pv::·)=aa aI:=by unfold back at h;cases x <;> exact h
  cases e:back ss es with
  |none=>rw[e]at h;cases h
  |some r=>
   rw[e]at h;cases h;obtain⟨l,q⟩:=vf e;refine⟨by simp[l],λi s hi=>?_⟩;cases i with
   |zero=>simp at hi;subst hi;exact .inr ⟨rfl,λ_ z=>by cases z⟩
   |succ i=>simpa using q i s (by simpa using hi)
def bC(n:Nat)(d:ak->R aS):ak->R Slot:=λss=>match d (ss++bS n .none)with
 |.ok (.ret r) ε'=>(bg (back ss ε') []).bind λaI _=>.ok r aI
 |.ok .next ε'=>(bg (back ss ε') []).bind λaI _=>.ok (.val .non) aI
 |.er c ε'=>(bg (back ss ε') []).bind λaI _=>.er c aI
 |_=>.no
section
variable{K:ax}{F F':af->Prop}{S S':Nat->af->Prop}{ss ε' aI:ak}{σ':St}{H H':Hp}{vs:List V}
theorem aP.start(r:aP K F S ss (vs.map aa) H)(n:Nat):aP K F S (ss++bS n .none) (vs.map aa++bS n ae) H:=by
 have hl:ss.length=(vs.map aa).length:=r.len;have no:∀{j:Nat}{s:Slot},(ss++bS n Slot.none)[j]?=aa s->s≠.none->ss[j]?=aa s:=λ{j s} e hs=>by
  by_cases hj:j<ss.length
  ·rw[gF hj]at e;exact e
  ·rw[mV ∅,List.getElem?_replicate]at e;split at e
   ·exact absurd (dW e).symm hs
   ·cases e
 have up:∀{j:Nat}{v:Option V},(vs.map aa)[j]?=aa v->(vs.map aa++bS n ae)[j]?=aa v:=λ{j v} e=>by rw[gF (df.mp e).1];exact e
 refine⟨by simp[hl],r.ex,λj pv e=>?_,λj po e=>?_,λj b h=>?_,r.dist⟩
 ·obtain⟨v,h1,h2⟩:=r.val j pv (no e (by intro z;cases z));exact⟨v,up h1,h2⟩
 ·obtain⟨v,h1,h2⟩:=r.own j po (no e (by intro z;cases z));exact⟨v,up h1,h2⟩
 ·obtain⟨⟨po,q⟩,q2⟩:=r.foot j b h;exact⟨⟨po,by rw[gF (df.mp q).1];exact q⟩,q2⟩
theorem BO{po:PO}{a:af}{Sa:af->Prop}(h:eR K H F po a Sa)(hf:fZ po=ah):∀b,Sa b↔b=a:=by
 cases po with
 |lst xs=>exact h.2
 |dK kvs=>exact h.2
 |lls iT=>cases hf
 |ins C fs=>exact h.2
 |dT kvs=>exact h.2
 |inl C fs y xs=>cases hf
theorem Jf{po:PO}{a:af}{Sa:af->Prop}(h:eR K H F po a Sa):Sa a:=by
 cases po with
 |lst xs=>exact(h.2 a).mpr rfl
 |dK kvs=>exact(h.2 a).mpr rfl
 |lls iT=>obtain⟨as,_,_,_,_,w⟩:=h;exact(w a).mpr (.inl rfl)
 |ins C fs=>exact(h.2 a).mpr rfl
 |dT kvs=>exact(h.2 a).mpr rfl
 |inl C fs y xs=>obtain⟨_,_,_,_,_,_,_,_,_,_,w⟩:=h;exact(w a).mpr (.inl rfl)
theorem aP.back{O':af->Prop}{pin:List Nat}{n:Nat}(r0:aP K F S ss (vs.map aa) H)(r:aP K F' S' ε' σ' H')(g:bp (U S) O' F F' H H')(p:ie pin (vs.map aa++bS n ae) σ')(ji:∀(i:Nat) (po:PO),ss[i]?=aa (.own po)->i∈pin)(hb:back ss ε'=aa aI):∃S'',aP K F' S'' aI (vs.map aa) H'/\(∀b,U S'' b->U S' b)/\((∀(i:Nat) (po:PO),ss[i]?=aa (.own po)->fZ po=ah)->∀b,U S b->U S'' b):=by
 obtain⟨hl,hg⟩:=vf hb;have inj:∀(i:Nat) (po:PO),ss[i]?=aa (.own po)->∃a,(vs.map aa)[i]?=aa (aa (.ref a))/\σ'[i]?=aa (aa (.ref a))/\eR K H F po a (S i):=λi po e=>by obtain⟨a,h1,h2⟩:=r0.own i po e;refine⟨a,h1,?_,h2⟩;rw[p i (ji i po e),gF (df.mp h1).1];exact h1
 have bk:∀(i:Nat) (po:PO),ss[i]?=aa (.own po)->∃po',aI[i]?=aa (.own po')/\ε'[i]?=aa (.own po'):=λi po e=>by
  have hi:i<aI.length:=by rw[hl];exact(df.mp e).1
  rcases hg i aI[i] (by simp[hi])with⟨p1,p2,q1,q2,q3⟩|⟨q1,q2⟩
  ·exact⟨p2,by rw[d7 hi,q3],q2⟩
  ·rw[e]at q1;exact absurd (dW q1).symm (q2 po)
 refine⟨λi b=>S' i b/\∃po,ss[i]?=aa (.own po),⟨by rw[hl];exact r0.len,r.ex,λi pv e=>?_,λi po e=>?_,λi b h=>?_,λi j b h1 h2=>r.dist i j b h1.1 h2.1⟩,λb ⟨i,h⟩=>⟨i,h.1⟩,λlu b ⟨i,h⟩=>?_⟩
 ·rcases hg i _ e with⟨_,_,_,_,z⟩|⟨q1,_⟩
  ·cases z
  ·obtain⟨v,h1,h2⟩:=r0.val i pv q1;exact⟨v,h1,h2.grow g r0.fit⟩
 ·rcases hg i _ e with⟨p1,p2,q1,q2,q3⟩|⟨_,q2⟩
  ·cases q3;obtain⟨a,h1,h2,h3⟩:=inj i p1 q1;obtain⟨a',h4,h5⟩:=r.own i po q2;rw[h2]at h4;cases h4;refine⟨a,h1,?_⟩;have eS:(λb=>S' i b/\∃po,ss[i]?=aa (.own po))=S' i:=by funext b;exact propext ⟨λz=>z.1,λz=>⟨z,p1,q1⟩⟩
   rw[eS];exact h5
  ·exact absurd rfl (q2 po)
 ·obtain⟨po,q⟩:=h.2;obtain⟨po',z1,z2⟩:=bk i po q;exact⟨⟨po',z1⟩,(r.foot i b h.1).2⟩
 ·obtain⟨⟨po,q⟩,_⟩:=r0.foot i b h;obtain⟨a,h1,h2,h3⟩:=inj i po q;obtain⟨po',z1,z2⟩:=bk i po q;obtain⟨a',h4,h5⟩:=r.own i po' z2;rw[h2]at h4;cases h4;have e:b=a:=(BO h3 (lu i po q) b).mp h;exact⟨i,e ▸ Jf h5,po,q⟩
end
theorem vJ{K:ax}{E:XK}{vs:List V}{F:af->Prop}{S:Nat->af->Prop}{H:Hp}{r:R Slot}{Q:VK}(h:vO K E vs F S H r Q):r≠.no:=λz=>by rw[z]at h;exact h
theorem Bc{K:ax}{g:ak->R Slot}{m:Nat}(bz:∀ss,g ss≠.no->ss.length=m):∀vs H Q E,bF K g vs H Q E->vs.length=m:=λvs H Q E ⟨F,S,ss,rl,ok⟩=>by have:=bz ss (vJ ok);have h2:=rl.len;rw[dy]at h2;lia
theorem Ec{X:Cx}{E:XK}{body:List aZ}{N ps:List Str}{vs:List V}{H:Hp}{Q:VK}{n:Nat}{g:ak->R Slot}{d:ak->R aS}{pin:List Nat}(hn:N.length=ps.length+n)(bz:∀ss,g ss≠.no->ss.length=ps.length) (ji:∀ss,g ss≠.no->∀(i:Nat) po,ss[i]?=aa (.own po)->i∈pin) (lu:∀ss rs aI,g ss=.ok rs aI->(∃pv,rs=.val pv)\/∀(i:Nat) po,ss[i]?=aa (.own po)->fZ po=ah) (hg:∀ss,g ss≠.no->bC n d ss=g ss)(hb:fW X E pin body d) (gi:bF X.K g vs H Q E):n0 X body {nx:=λ_ H'=>Q .non H',rt:=Q} (L2.start N vs) H:=by
 obtain⟨F,S,ss,rl,ok⟩:=gi;have hl:=bz ss (vJ ok);have h2:=rl.len;rw[dy]at h2;have es:L2.start N vs=vs.map aa++bS n ae:=by unfold L2.start;rw[show N.length-vs.length=n by lia]
 rw[es];refine hb F S _ _ H _ (rl.start n) ?_;have Fi:=ji ss (vJ ok);have ki:=hg ss (vJ ok);have w8:=lu ss;rw[←ki]at ok w8;unfold bC at ok w8;generalize d (ss++bS n .none)=r at ok w8 ⊢;cases r with
 |no=>exact ok
 |er c ε'=>
  intro x F' S' σ' H' r' g' p';have ok:vO X.K E vs F S H ((bg (back ss ε') []).bind λaI _=>.er c aI) Q:=ok;cases e:back ss ε' with
  |none=>rw[e]at ok;exact ok.elim
  |some aI=>rw[e]at ok;obtain⟨S'',r'',sub,_⟩:=rl.back r' g' p' Fi e;exact ok x F' S'' H' r'' ⟨g'.fro,g'.keep,g'.there,g'.fnew,λb z=>g'.onew b (sub b z)⟩
 |ok fl ε'=>
  have fin:∀(rs:Slot),(∀aI,back ss ε'=aa aI->(∃pv,rs=.val pv)\/∀(i:Nat) po,ss[i]?=aa (.own po)->fZ po=ah)->vO X.K E vs F S H ((bg (back ss ε') []).bind λaI _=>.ok rs aI) Q->∀(v:V) F' S' σ' H' Sr,aP X.K F' S' ε' σ' H'->bp (U S) (λb=>U S' b\/Sr b) F F' H H'->ie pin (vs.map aa++bS n ae) σ'->lL X.K H' F' rs v Sr->vX F' S' H' Sr->Q v H':=by
   intro rs hrs ok v F' S' σ' H' Sr r' g' p' hv lo;cases e:back ss ε' with
   |none=>rw[e]at ok;exact ok.elim
   |some aI=>
    rw[e]at ok;obtain⟨S'',r'',sub,up⟩:=rl.back r' g' p' Fi e;refine ok v F' S'' H' Sr r'' ⟨g'.fro,g'.keep,g'.there,g'.fnew,λb z=>g'.onew b (z.imp (sub b) id)⟩ hv (λb z=>⟨(lo b z).1,λw=>(lo b z).2.1 (sub b w),(lo b z).2.2⟩) λb z=>?_;rcases hrs aI e with⟨pv,rfl⟩|hf
    ·exact absurd z (hv.2 b)
    rcases g'.onew b (.inr z)with w|w
    ·exact absurd (sub b (up hf b w)) (lo b z).2.1
    ·exact w
  cases fl with
  |brk=>exact ok.elim
  |cont=>exact ok.elim
  |ret rs=>exact fin rs (λaI e=>w8 rs aI (by show(bg (back ss ε') []).bind _=_;rw[e];rfl)) ok
  |next=>exact λF' S' σ' H' r' g' p'=>fin (.val .non) (λ_ _=>.inl ⟨_,rfl⟩) ok .non F' S' σ' H' (λ_=>False) r' ⟨g'.fro,g'.keep,g'.there,g'.fnew,λb z=>z.elim (g'.onew b) ge⟩ p' ⟨rfl,λ_ z=>z⟩ λ_ z=>z.elim
theorem Gy{f:af}{fd:gc}{CX:fG}{P:aM}{w:aF}{K:ax}{mg:Str->Option ai}{base:aA}{x qual:Str}{st:aZ}{N ps:List Str}{k n:Nat}{g:ak->R Slot}{d:ak->R aS}{pin:List Nat}(Fn:nV K x qual st f fd)(Sc:b_ N ps (aW st))(hn:N.length=ps.length+n)(hb:∀(kV doc pm:ai) (an:Option af) (aJ ct:ai) (us:List ai),us.length=ps.length->fC (hU x qual (iZ st) (fB st) (aW st) .none kV doc pm an aJ ct) ⟨us,[]⟩=pure (ps.zip us))(bz:∀ss,g ss≠.no->ss.length=ps.length) (ji:∀ss,g ss≠.no->∀(i:Nat) po,ss[i]?=aa (.own po)->i∈pin) (lu:∀ss rs aI,g ss=.ok rs aI->(∃pv,rs=.val pv)\/∀(i:Nat) po,ss[i]?=aa (.own po)->fZ po=ah) (hg:∀ss,g ss≠.no->bC n d ss=g ss)(gJ:∀(A:aO) (outer:List Env) (s:am) (H:Hp) (E:XK),eY k (A.deeper (iA qual (aW st) s.heap.objs.size f fd.code))->fW (im CX P w K mg base N qual (aW st) f fd.code A outer s H E) E pin (fB st) d):jQ P w K mg base CX (k+1) f fd ps (bF K g):=by obtain⟨oc,od,kV,doc,pm,an,aJ,ct,osl,rfl,lk,bU⟩:=Fn.ex;exact FS lk bU Sc (Bc bz) λA outer s H vs Q E hr gi=>⟨_,sA,Ec hn bz ji lu hg (gJ A outer s H E hr) gi⟩
theorem CH{f:af}{fd:gc}{CX:fG}{P:aM}{w:aF}{K:ax}{mg:Str->Option ai}{base:aA}{x qual:Str}{st:aZ}{N ps:List Str}{k n:Nat}{g:ak->R Slot}{d:ak->R aS}{pin:List Nat}(Fn:nV K x qual st f fd)(Sc:b_ N ps (aW st))(hn:N.length=ps.length+n)(hb:∀(kV doc pm:ai) (an:Option af) (aJ ct:ai) (us:List ai),us.length=ps.length->fC (hU x qual (iZ st) (fB st) (aW st) .none kV doc pm an aJ ct) ⟨us,[]⟩=pure (ps.zip us))(bz:∀ss,g ss≠.no->ss.length=ps.length) (ji:∀ss,g ss≠.no->∀(i:Nat) po,ss[i]?=aa (.own po)->i∈pin/\fZ po=ah) (hg:∀ss,g ss≠.no->bC n d ss=g ss)(gJ:∀(f:af) (aJ:ai) (A:aO) (outer:List Env) (s:am) (H:Hp) (E:XK),eY k (A.deeper (iA qual (aW st) s.heap.objs.size f aJ))->fW (im CX P w K mg base N qual (aW st) f aJ A outer s H E) E pin (fB st) d):jQ P w K mg base CX (k+1) f fd ps (bF K g):=Gy Fn Sc hn hb bz (λss h i po e=>(ji ss h i po e).1) (λss rs aI h=>.inr λi po e=>(ji ss (by rw[h];exact nofun) i po e).2) hg λA outer s H E=>gJ f fd.code A outer s H E
theorem Nz{CX:fG}{P:aM}{w:aF}{K:ax}{mg:Str->Option ai}{base:aA}{x:Str}{st:aZ}{N ps:List Str}{k n:Nat}{g:ak->R Slot}{d:ak->R aS}{pin:List Nat}(D:cq K mg x st)(Sc:b_ N ps (aW st))(hn:N.length=ps.length+n)(hb:∀(kV doc pm:ai) (an:Option af) (aJ ct:ai) (us:List ai),us.length=ps.length->fC (hU x x (iZ st) (fB st) (aW st) .none kV doc pm an aJ ct) ⟨us,[]⟩=pure (ps.zip us))(bz:∀ss,g ss≠.no->ss.length=ps.length) (ji:∀ss,g ss≠.no->∀(i:Nat) po,ss[i]?=aa (.own po)->i∈pin/\fZ po=ah) (hg:∀ss,g ss≠.no->bC n d ss=g ss)(gJ:∀(f:af) (aJ:ai) (A:aO) (outer:List Env) (s:am) (H:Hp) (E:XK),eY k (A.deeper (iA x (aW st) s.heap.objs.size f aJ))->fW (im CX P w K mg base N x (aW st) f aJ A outer s H E) E pin (fB st) d):cC CX P w K mg base x (k+1) ps (bF K g):=by obtain⟨f,fd,hm,Fn⟩:=D.ex;exact⟨f,fd,hm,CH Fn Sc hn hb bz ji hg gJ,Fn.binds hb,Fn.kp⟩
abbrev bW:=Sum PV Nat
def h_(K:ax)(σ:St)(F:af->Prop)(H:Hp):List bW->List V->Prop
 |[],vs=>vs=[]
 |.inl pv::as,vs=>∃v r,vs=v::r/\aT K H F pv v/\h_ K σ F H as r
 |.inr i::as,vs=>∃v r,vs=v::r/\σ[i]?=aa (aa v)/\h_ K σ F H as r
def DG(X:Cx)(E:XK)(es:List aB)(d:ak->R (List bW)):Prop :=
 ∀F S ε σ H Q,aP X.K F S ε σ H->Ok X.K E σ F S H (d ε) (λas _ F' _ H'=>∀vs,h_ X.K σ F' H' as vs->Q vs H')->nJ X es σ H Q
section
variable{X:Cx}{E:XK}{e:aB}{es:List aB}{de:ak->R PV}{dg:ak->R (List bW)}{pos:Pos}
def bB:ak->R (List bW):=λε=>.ok [] ε
def gV(d:ak->R PV)(dg:ak->R (List bW)):ak->R (List bW):=λε=>(d ε).bind λx ε1=>(dg ε1).bind λxs ε2=>.ok (.inl x::xs) ε2
def gO(i:Nat)(dg:ak->R (List bW)):ak->R (List bW):=λε=>match ε[i]? with
 |some (.own _)=>(dg ε).bind λxs ε2=>.ok (.inr i::xs) ε2
 |_=>.no
theorem bJ:DG X E [] bB:=λF S ε σ H Q rl h=>nU jt (h F S H rl (bp.refl ..) _ rfl)
theorem Hb(ha:DE X E e de)(hr:DG X E es dg)(hs:aL (e::es) X.env=(aj,aU e X.env)::aL es X.env:=by rfl):DG X E (e::es) (gV de dg):=λF S ε σ H Q rl h=>by refine nU (io bL gD hs) (ha F S ε σ H _ rl ((Ok.bind h).imp λx ε1 F1 S1 H1 r1 g1 h1 v rv=>?_));refine hr F1 S1 ε1 σ H1 _ r1 ((Ok.bind h1).imp λxs ε2 F2 S2 H2 r2 g2 h2 vs kl=>?_);exact h2 F2 S2 H2 r2 (bp.refl ..) _ ⟨v,vs,rfl,rv.grow g2 r1.fit,kl⟩
theorem gS(i:Nat){x:Str}{p:Pos}(hr:DG X E es dg)(hN:X.N[i]?=aa x:=by rfl)(hv:fH X.env.scope x:=by first|exact Or.inl rfl|exact Or.inr (Or.inl rfl)|exact Or.inr (Or.inr rfl))(hd:(x == ("__debug__" : Str))=aj:=by decide)(bU:(x == ("__classdict__" : Str))=aj:=by decide) (hs:aL (.Name x p::es) X.env=(aj,aU (.Name x p) X.env)::aL es X.env:=by rfl):DG X E (.Name x p::es) (gO i dg):=λF S ε σ H Q rl h=>by
 unfold gO at h;split at h
 ·rename_i po e;obtain⟨a,e1,_⟩:=rl.own i po e;refine nU (io (gU hN hv hd bU) gD hs) ⟨_,e1,hr F S ε σ H _ rl ((Ok.bind h).imp λxs ε2 F2 S2 H2 r2 g2 h2 vs kl=>?_)⟩;exact h2 F2 S2 H2 r2 (bp.refl ..) _ ⟨_,vs,rfl,e1,kl⟩
 ·exact h.elim
end
def eM(ε:ak):List bW->Option ak
 |[]=>aa []
 |.inl pv::as=>(eM ε as).map (.val pv::·)
 |.inr i::as=>match ε[i]? with
  |some (.own po)=>(eM ε as).map (.own po::·)
  |_=>ae
def gn:ak->List bW->ak->ak
 |ε,.inl _::as,_::ss=>gn ε as ss
 |ε,.inr i::as,s::ss=>gn (ε.set i s) as ss
 |ε,_,_=>ε
def cz:List bW->List Nat
 |[]=>[]
 |.inl _::as=>cz as
 |.inr i::as=>i::cz as
theorem Cf:∀{as:List bW}{i:Nat},i∈cz as↔∃k:Nat,as[k]?=aa (.inr i)
 |[],i=>by simp[cz]
 |.inl _::as,i=>by
  unfold cz;rw[Cf];constructor
  ·rintro⟨k,h⟩;exact⟨k+1,by simpa using h⟩
  ·rintro⟨k,h⟩;cases k with
   |zero=>simp at h
   |succ k=>exact⟨k,by simpa using h⟩
 |.inr j::as,i=>by
  unfold cz;rw[bG,Cf];constructor
  ·rintro(rfl|⟨k,h⟩)
   ·exact⟨0,rfl⟩
   ·exact⟨k+1,by simpa using h⟩
  ·rintro⟨k,h⟩;cases k with
   |zero=>simp at h;exact .inl h.symm
   |succ k=>exact .inr ⟨k,by simpa using h⟩
theorem vz{ε:ak}:∀{as:List bW}{ss:ak},eM ε as=aa ss->ss.length=as.length/\∀(k:Nat) (s:Slot),ss[k]?=aa s->(∃pv,as[k]?=aa (.inl pv)/\s=.val pv)\/∃i po,as[k]?=aa (.inr i)/\ε[i]?=aa (.own po)/\s=.own po
 |[],ss,h=>by cases h;exact⟨rfl,λk s e=>by simp at e⟩
 |.inl pv::as,ss,h=>by
  unfold eM at h;cases e:eM ε as with
  |none=>rw[e]at h;cases h
  |some r=>
   rw[e]at h;cases h;obtain⟨l,q⟩:=vz e;refine⟨by simp[l],λk s hk=>?_⟩;cases k with
   |zero=>simp at hk;exact .inl ⟨pv,rfl,hk.symm⟩
   |succ k=>simpa using q k s (by simpa using hk)
 |.inr i::as,ss,h=>by
  unfold eM at h;split at h
  ·rename_i po ei;cases e:eM ε as with
   |none=>rw[e]at h;cases h
   |some r=>
    rw[e]at h;cases h;obtain⟨l,q⟩:=vz e;refine⟨by simp[l],λk s hk=>?_⟩;cases k with
    |zero=>simp at hk;exact .inr ⟨i,po,rfl,ei,hk.symm⟩
    |succ k=>simpa using q k s (by simpa using hk)
  ·cases h
theorem uQ:∀(as:List bW) (ε ss:ak),(gn ε as ss).length=ε.length
 |[],ε,ss=>by cases ss <;> rfl
 |.inl _::as,ε,[]=>rfl
 |.inr _::as,ε,[]=>rfl
 |.inl _::as,ε,s::ss=>uQ as ε ss
 |.inr i::as,ε,s::ss=>by show(gn (ε.set i s) as ss).length=_;rw[uQ,fE]
theorem qg:∀(as:List bW) (ε ss:ak) (j:Nat),j∉cz as->(gn ε as ss)[j]?=ε[j]?
 |[],ε,ss,j,_=>by cases ss <;> rfl
 |.inl _::as,ε,[],j,_=>rfl
 |.inr _::as,ε,[],j,_=>rfl
 |.inl _::as,ε,s::ss,j,h=>qg as ε ss j h
 |.inr i::as,ε,s::ss,j,h=>by
  have h1:¬(j=i\/j∈cz as):=by simpa[cz]using h
  show(gn (ε.set i s) as ss)[j]?=_;rw[qg as _ ss j λz=>h1 (.inr z),dO λz=>h1 (.inl z.symm)]
theorem rG:∀(as:List bW) (ε ss:ak) (j k:Nat) (s:Slot),(cz as).Nodup->j<ε.length->as[k]?=aa (.inr j)->ss[k]?=aa s->(gn ε as ss)[j]?=aa s
 |[],ε,ss,j,k,s,_,_,h,_=>by simp at h
 |_::as,ε,[],j,k,s,_,_,_,h=>by simp at h
 |.inl _::as,ε,t::ss,j,0,s,_,_,h,_=>by simp at h
 |.inl _::as,ε,t::ss,j,k+1,s,nd,hj,h,g=>rG as ε ss j k s nd hj (by simpa using h) (by simpa using g)
 |.inr i::as,ε,t::ss,j,0,s,nd,hj,h,g=>by simp at h g;subst h g;have nd':i∉cz as:=(jd.mp nd).1;show(gn (ε.set i t) as ss)[i]?=_;rw[qg as _ ss i nd',ff hj]
 |.inr i::as,ε,t::ss,j,k+1,s,nd,hj,h,g=>rG as (ε.set i t) ss j k s (jd.mp nd).2 (by rw[fE];exact hj) (by simpa using h) (by simpa using g)
theorem h_.len{K:ax}{σ:St}{F:af->Prop}{H:Hp}:∀{as:List bW}{vs:List V},h_ K σ F H as vs->vs.length=as.length
 |[],_,h=>by rw[show _=[] from h];rfl
 |.inl _::as,_,⟨v,r,e,_,h⟩=>by rw[e,fg,fg,h_.len h]
 |.inr _::as,_,⟨v,r,e,_,h⟩=>by rw[e,fg,fg,h_.len h]
theorem h_.val{K:ax}{σ:St}{F:af->Prop}{H:Hp}:∀{as:List bW}{vs:List V}{k:Nat}{pv:PV},h_ K σ F H as vs->as[k]?=aa (.inl pv)->∃v,vs[k]?=aa v/\aT K H F pv v
 |[],_,k,_,_,e=>by simp at e
 |.inl x::as,_,0,pv,⟨v,r,e,h,_⟩,q=>by simp at q;subst q e;exact⟨v,rfl,h⟩
 |.inr _::as,_,0,pv,_,q=>by simp at q
 |.inl x::as,_,k+1,pv,⟨v,r,e,_,h⟩,q=>by obtain⟨w,a,b⟩:=h_.val (k:=k) h (by simpa using q);subst e;exact⟨w,by simpa using a,b⟩
 |.inr x::as,_,k+1,pv,⟨v,r,e,_,h⟩,q=>by obtain⟨w,a,b⟩:=h_.val (k:=k) h (by simpa using q);subst e;exact⟨w,by simpa using a,b⟩
theorem h_.own{K:ax}{σ:St}{F:af->Prop}{H:Hp}:∀{as:List bW}{vs:List V}{k i:Nat},h_ K σ F H as vs->as[k]?=aa (.inr i)->∃v,vs[k]?=aa v/\σ[i]?=aa (aa v)
 |[],_,k,_,_,e=>by simp at e
 |.inr x::as,_,0,pv,⟨v,r,e,h,_⟩,q=>by simp at q;subst q e;exact⟨v,rfl,h⟩
 |.inl _::as,_,0,pv,_,q=>by simp at q
 |.inl x::as,_,k+1,pv,⟨v,r,e,_,h⟩,q=>by obtain⟨w,a,b⟩:=h_.own (k:=k) h (by simpa using q);subst e;exact⟨w,by simpa using a,b⟩
 |.inr x::as,_,k+1,pv,⟨v,r,e,_,h⟩,q=>by obtain⟨w,a,b⟩:=h_.own (k:=k) h (by simpa using q);subst e;exact⟨w,by simpa using a,b⟩
section
variable{K:ax}{F F':af->Prop}{S S':Nat->af->Prop}{ε ss aI:ak}{σ:St}{H H':Hp}{as:List bW}{vs:List V}
def kN(as:List bW)(S:Nat->af->Prop)(k:Nat)(b:af):Prop:=∃i,as[k]?=aa (.inr i)/\S i b
theorem vj(b:af)(h:U (kN as S) b):U S b:=let ⟨_,i,_,h⟩:=h;⟨i,h⟩
theorem wf:∀{as:List bW}{i k l:Nat},(cz as).Nodup->as[k]?=aa (.inr i)->as[l]?=aa (.inr i)->k=l
 |[],_,_,_,_,h,_=>by simp at h
 |.inl _::as,i,0,_,_,h,_=>by simp at h
 |.inl _::as,i,_,0,_,_,h=>by simp at h
 |.inl _::as,i,k+1,l+1,nd,h1,h2=>by rw[wf (as:=as) (i:=i) (k:=k) (l:=l) nd (by simpa using h1) (by simpa using h2)]
 |.inr j::as,i,0,0,_,_,_=>rfl
 |.inr j::as,i,0,l+1,nd,h1,h2=>by simp at h1;subst h1;exact absurd (Cf.mpr ⟨l,by simpa using h2⟩) (jd.mp nd).1
 |.inr j::as,i,k+1,0,nd,h1,h2=>by simp at h2;subst h2;exact absurd (Cf.mpr ⟨k,by simpa using h1⟩) (jd.mp nd).1
 |.inr j::as,i,k+1,l+1,nd,h1,h2=>by rw[wf (as:=as) (i:=i) (k:=k) (l:=l) (jd.mp nd).2 (by simpa using h1) (by simpa using h2)]
theorem aP.cal(r:aP K F S ε σ H)(ha:h_ K σ F H as vs)(hs:eM ε as=aa ss)(nd:(cz as).Nodup):aP K F (kN as S) ss (vs.map aa) H:=by
 obtain⟨hl,hg⟩:=vz hs;have up:∀{k:Nat}{v:V},vs[k]?=aa v->(vs.map aa)[k]?=aa (aa v):=λ{k v} e=>by rw[jD,e];rfl
 refine⟨by rw[hl,dy,ha.len],r.ex,λk pv e=>?_,λk po e=>?_,λk b h=>?_,λk l b h1 h2=>?_⟩
 ·rcases hg k _ e with⟨p,q1,q2⟩|⟨_,_,_,_,z⟩
  ·cases q2;obtain⟨v,a1,a2⟩:=ha.val q1;exact⟨v,up a1,a2⟩
  ·cases z
 ·rcases hg k _ e with⟨_,_,z⟩|⟨i,p,q1,q2,q3⟩
  ·cases z
  ·cases q3;obtain⟨v,a1,a2⟩:=ha.own q1;obtain⟨a,b1,b2⟩:=r.own i po q2;rw[a2]at b1;cases b1;have eS:kN as S k=S i:=by
    funext b;exact propext ⟨λ⟨j,h1,h2⟩=>by rw[q1]at h1;cases h1;exact h2,λh=>⟨i,q1,h⟩⟩
   exact⟨a,up a1,by rw[eS];exact b2⟩
 ·obtain⟨i,h1,h2⟩:=h;obtain⟨⟨po,q⟩,q2⟩:=r.foot i b h2;have hk:k<ss.length:=by rw[hl];exact(df.mp h1).1
  refine⟨?_,q2⟩;rcases hg k ss[k] (by simp[hk])with⟨_,z,_⟩|⟨j,p,z1,z2,z3⟩
  ·rw[h1]at z;cases z
  ·exact⟨p,by rw[d7 hk,z3]⟩
 ·obtain⟨i,a1,a2⟩:=h1;obtain⟨j,b1,b2⟩:=h2;have:=r.dist i j b a2 b2;subst this;exact wf nd a1 b1
theorem aP.called{O':af->Prop}(r:aP K F S ε σ H)(ha:h_ K σ F H as vs)(hs:eM ε as=aa ss)(nd:(cz as).Nodup)(r':aP K F' S' aI (vs.map aa) H')(g:bp (U (kN as S)) O' F F' H H')(hO:∀b,U S' b->O' b)(hso:∀(k:Nat) i,as[k]?=aa (.inr i)->∃po,aI[k]?=aa (.own po)):∃S2,aP K F' S2 (gn ε as aI) σ H'/\bp (U S) (U S2) F F' H H'/\∀b,U S2 b->U S' b\/U S b:=by
 have up:∀{k:Nat}{v:V},(vs.map aa)[k]?=aa (aa v)->vs[k]?=aa v:=λ{k v} e=>by
  rw[jD]at e;cases q:vs[k]? with
  |none=>rw[q]at e;cases e
  |some x=>rw[q]at e;cases e;rfl
 have fit:mF (U (kN as S)) F H:=λb h=>r.fit b (vj b h);have slen:∀i po,ε[i]?=aa (.own po)->i<ε.length:=λi po e=>(df.mp e).1;have lt:∀(k:Nat) i,as[k]?=aa (.inr i)->i<ε.length:=λk i e=>by
  obtain⟨hl,hg⟩:=vz hs;have hk:k<ss.length:=by rw[hl];exact(df.mp e).1
  rcases hg k ss[k] (by simp[hk])with⟨_,z,_⟩|⟨j,p,z1,z2,z3⟩
  ·rw[e]at z;cases z
  ·rw[e]at z1;cases z1;exact slen _ _ z2
 refine⟨λj b=>(∃k:Nat,as[k]?=aa (.inr j)/\S' k b)\/(j∉cz as/\S j b),⟨by rw[uQ];exact r.len,r'.ex,λj pv e=>?_,λj po e=>?_,λj b h=>?_,λi j b h1 h2=>?_⟩,⟨g.fro,λb o e n=>g.keep b o e λz=>n (vj b z),g.there,λa z=>(g.fnew a z).imp id λw=>w.imp id (vj a),λb ⟨j,z⟩=>?_⟩,λb ⟨j,z⟩=>?_⟩
 ·by_cases hj:j∈cz as
  ·obtain⟨k,hk⟩:=Cf.mp hj;obtain⟨po,q⟩:=hso k j hk;rw[rG as ε aI j k _ nd (lt k j hk) hk q]at e;cases e
  ·rw[qg as ε aI j hj]at e;obtain⟨v,h1,h2⟩:=r.val j pv e;exact⟨v,h1,h2.grow g fit⟩
 ·by_cases hj:j∈cz as
  ·obtain⟨k,hk⟩:=Cf.mp hj;obtain⟨po',q⟩:=hso k j hk;rw[rG as ε aI j k _ nd (lt k j hk) hk q]at e;cases e;obtain⟨a,h1,h2⟩:=r'.own k po q;obtain⟨v,a1,a2⟩:=ha.own hk;rw[up h1]at a1;cases a1;have eS:(λb=>(∃k:Nat,as[k]?=aa (.inr j)/\S' k b)\/(j∉cz as/\S j b))=S' k:=by
    funext b;refine propext ⟨λz=>?_,λz=>.inl ⟨k,hk,z⟩⟩;rcases z with⟨l,z1,z2⟩|⟨z,_⟩
    ·rw[wf nd hk z1];exact z2
    ·exact absurd hj z
   exact⟨a,a2,by rw[eS];exact h2⟩
  ·rw[qg as ε aI j hj]at e;obtain⟨a,h1,h2⟩:=r.own j po e;have eS:(λb=>(∃k:Nat,as[k]?=aa (.inr j)/\S' k b)\/(j∉cz as/\S j b))=S j:=by
    funext b;refine propext ⟨λz=>?_,λz=>.inr ⟨hj,z⟩⟩;rcases z with⟨l,z1,z2⟩|⟨_,z⟩
    ·exact absurd (Cf.mpr ⟨l,z1⟩) hj
    ·exact z
   have h3:eR K H' F' po a (S j):=by refine h2.mono (λ_ _ q=>q.grow g fit) (λ_ _ q=>q.grow g fit) λb o z q=>g.keep b o q λ⟨l,i,w1,w2⟩=>?_;have:=r.dist i j b w2 z;subst this;exact hj (Cf.mpr ⟨l,w1⟩)
   exact⟨a,h1,by rw[eS];exact h3⟩
 ·rcases h with⟨k,h1,h2⟩|⟨h1,h2⟩
  ·obtain⟨⟨po,q⟩,q2⟩:=r'.foot k b h2;exact⟨⟨po,rG as ε aI j k _ nd (lt k j h1) h1 q⟩,q2⟩
  ·obtain⟨⟨po,q⟩,q2,o,q3,q4⟩:=r.foot j b h2;have no:¬U (kN as S) b:=λ⟨l,i,w1,w2⟩=>by have:=r.dist i j b w2 h2;subst this;exact h1 (Cf.mpr ⟨l,w1⟩)
   refine⟨⟨po,by rw[qg as ε aI j h1];exact q⟩,λz=>?_,o,g.keep b o q3 no,q4⟩;rcases g.fnew b z with w|w|w
   ·exact q2 w
   ·rw[q3]at w;cases w
   ·exact no w
 ·have cross:∀{i j:Nat}{b:af},(∃k:Nat,as[k]?=aa (.inr i)/\S' k b)->(j∉cz as/\S j b)->False:=λ{i j b} ⟨k,w1,w2⟩ ⟨w3,w4⟩=>by
   obtain⟨_,_,o,q3,_⟩:=r.foot j b w4;rcases g.onew b (hO b ⟨k,w2⟩)with⟨l,i',z1,z2⟩|z
   ·have:=r.dist i' j b z2 w4;subst this;exact w3 (Cf.mpr ⟨l,z1⟩)
   ·rw[q3]at z;cases z
  rcases h1 with h1|h1 <;> rcases h2 with h2|h2
  ·obtain⟨k,a1,a2⟩:=h1;obtain⟨l,b1,b2⟩:=h2;have:=r'.dist k l b a2 b2;subst this;rw[a1]at b1;cases b1;rfl
  ·exact(cross h1 h2).elim
  ·exact(cross h2 h1).elim
  ·exact r.dist i j b h1.2 h2.2
 ·rcases z with⟨k,_,z⟩|⟨_,z⟩
  ·rcases g.onew b (hO b ⟨k,z⟩)with w|w
   ·exact .inl (vj b w)
   ·exact .inr w
  ·exact .inl ⟨j,z⟩
 ·rcases z with⟨k,_,z⟩|⟨_,z⟩
  ·exact .inl ⟨k,z⟩
  ·exact .inr ⟨j,z⟩
end
def DR(X:Cx)(E:XK)(e:aB)(d:ak->R Slot):Prop :=
 ∀F S ε σ H Q,aP X.K F S ε σ H->Ok X.K E σ F S H (d ε) (λs _ F' S' H'=>∀v Sr,lL X.K H' F' s v Sr->(∀b,Sr b->H b=ae/\¬F' b/\¬U S' b/\∃o,H' b=aa o/\dR o)->Q v H')->iK X e σ H Q
def f_:List bW->ak->Bool
 |[],_=>ah
 |.inl _::as,_::ss=>f_ as ss
 |.inr _::as,.own _::ss=>f_ as ss
 |_,_=>aj
theorem lG:∀{as:List bW}{ss:ak},f_ as ss=ah->∀(k:Nat) i,as[k]?=aa (.inr i)->∃po,ss[k]?=aa (.own po)
 |[],_,_,k,i,h=>by simp at h
 |.inl _::as,s::ss,q,0,i,h=>by simp at h
 |.inl _::as,s::ss,q,k+1,i,h=>by simpa using lG (as:=as) (ss:=ss) (by unfold f_ at q;exact q) k i (by simpa using h)
 |.inr _::as,.own po::ss,q,0,i,h=>⟨po,rfl⟩
 |.inr _::as,.own po::ss,q,k+1,i,h=>by simpa using lG (as:=as) (ss:=ss) (by unfold f_ at q;exact q) k i (by simpa using h)
 |.inr _::as,.val _::ss,q,k,i,h=>by cases q
 |.inr _::as,.none::ss,q,k,i,h=>by cases q
 |.inl _::as,[],q,k,i,h=>by cases q
 |.inr _::as,[],q,k,i,h=>by cases q
def fV{α:Type}(ε:ak)(as:List bW)(r:R α):R α:=match r with
 |.ok s aI=>if f_ as aI then .ok s (gn ε as aI)else .no
 |.er c aI=>if f_ as aI then .er c (gn ε as aI)else .no
 |.no=>.no
def aY(g:ak->R Slot)(dg:ak->R (List bW)):ak->R Slot:=λε=>(dg ε).bind λas ε1=>(bg (if(cz as).Nodup then eM ε1 as else ae) ε1).bind λss ε1=>fV ε1 as (g ss)
section
variable{CX:fG}{X:Cx}{E:XK}{pin:List Nat}{e:aB}{es:List aB}{dg:ak->R (List bW)}{pos:Pos}{x:Str}{k:Nat}{ps:List Str}{g:ak->R Slot}{p:Pos}{d:ak->R Slot}
theorem Dr{K:ax}{F0 F1:af->Prop}{S0 S1:Nat->af->Prop}{ε1:ak}{σ:St}{H H1:Hp}{as:List bW}{vs:List V}{Q:VK}(r1:aP K F1 S1 ε1 σ H1)(g1:bp (U S0) (U S1) F0 F1 H H1)(av:h_ K σ F1 H1 as vs)(q:Ok K E σ F1 S1 H1 ((bg (if(cz as).Nodup then eM ε1 as else ae) ε1).bind λss ε1=>fV ε1 as (g ss)) λs _ F' S' H'=>∀v Sr,lL K H' F' s v Sr->(∀b,Sr b->H b=ae/\¬F' b/\¬U S' b/\∃o,H' b=aa o/\dR o)->Q v H'):bF K g vs H1 Q E:=by
 have q:=Ok.bind q;by_cases nd:(cz as).Nodup
 ·rw[if_pos nd]at q;cases es:eM ε1 as with
  |none=>rw[es]at q;exact q.elim
  |some ss=>
   rw[es]at q;have q:=q F1 S1 H1 r1 (bp.refl ..);dsimp only at q;refine⟨F1,kN as S1,ss,r1.cal av es nd,?_⟩;cases eg:g ss with
   |no=>rw[eg]at q;exact q.elim
   |er cv aI=>
    rw[eg]at q;intro y F' S' H' r' g';unfold fV at q;dsimp only at q;by_cases kp:f_ as aI=ah
    ·rw[if_pos kp]at q;obtain⟨S2,r2,g2,_⟩:=r1.called av es nd r' g' (λ_ z=>z) (lG kp);exact q y F' S2 H' r2 g2
    ·rw[if_neg kp]at q;exact q.elim
   |ok s aI=>
    rw[eg]at q;intro v F' S' H' Sr r' g' rv lo fr;unfold fV at q;dsimp only at q;by_cases kp:f_ as aI=ah
    ·rw[if_pos kp]at q;obtain⟨S2,r2,g2,u2⟩:=r1.called av es nd r' g' (λ_ z=>.inl z) (lG kp);refine q F' S2 H' r2 g2 v Sr rv λb z=>⟨mE g1 (fr b z),(lo b z).1,λw=>?_,(lo b z).2.2⟩
     rcases u2 b w with w|⟨i,w⟩
     ·exact(lo b z).2.1 w
     ·obtain⟨_,_,o,y1,_⟩:=r1.foot i b w;rw[fr b z]at y1;cases y1
    ·rw[if_neg kp]at q;exact q.elim
 ·rw[if_neg nd]at q;exact q.elim
theorem bQ(c:cC CX X.prog X.w X.K X.mg X.base x k ps (bF X.K g))(hr:eY k X.A)(hx:pV CX X E)(ha:DG X E (e::es) dg)(hg:Gl X x:=by rfl)(hd:(x == ("__debug__" : Str))=aj:=by decide) (h1:aL (e::es) X.env=(aj,aU e X.env)::aL es X.env:=by rfl) (h2:(cL pos (aL es X.env)).any (·.1)=aj:=by rfl):DR X E (.Call (.Name x p) (e::es) [] pos) (aY g dg):=λF S ε σ H Q rl h=>by obtain⟨f,fd,hm,Fn,hb,hk⟩:=c.ex;refine b9 (BB Fn hr hg hm hk hb .nil hx gD hd h1 h2) (ha F S ε σ H _ rl ((Ok.bind h).imp λas ε1 F1 S1 H1 r1 g1 q vs av=>?_));rw[hG];exact Dr r1 g1 av q
def vV:Slot->Option PV
 |.val pv=>aa pv
 |.own (.lst xs)=>aa (.lst xs)
 |_=>ae
def bh(d:ak->R Slot):ak->R PV:=λε=>(d ε).bind λs ε1=>bg (vV s) ε1
def vy:Slot->Option PO
 |.own po=>aa po
 |_=>ae
def mI(d:ak->R Slot):ak->R PO:=λε=>(d ε).bind λs ε1=>bg (vy s) ε1
theorem DR.dn(h:DR X E e d):DN X E e (mI d):=λF S ε σ H Q rl q=>by
 unfold mI at q;refine h F S ε σ H Q rl ?_;cases e0:d ε with
 |no=>rw[e0]at q;exact q.elim
 |er c ε'=>rw[e0]at q;exact q
 |ok s ε1=>
  rw[e0]at q;cases s with
  |none=>exact q.elim
  |val pv=>exact q.elim
  |own po=>intro F1 S1 H1 r1 g1 v Sr rv fr;obtain⟨a,rfl,ow⟩:=rv;exact q F1 S1 H1 r1 g1 a Sr ow fr
theorem DR.de(h:DR X E e d):DE X E e (bh d):=λF S ε σ H Q rl q=>by
 unfold bh at q;cases e0:d ε with
 |no=>rw[e0]at q;exact q.elim
 |er c ε'=>refine h F S ε σ H Q rl ?_;rw[e0]at q ⊢;exact q
 |ok s ε1=>
  cases s with
  |none=>rw[e0]at q;exact q.elim
  |val pv=>refine h F S ε σ H Q rl ?_;rw[e0]at q ⊢;exact λF1 S1 H1 r1 g1 v Sr rv fr=>q F1 S1 H1 r1 g1 v rv.1
  |own po=>
   refine h.dn.de F S ε σ H Q rl ?_;unfold dF mI;rw[e0]at q ⊢;cases po with
   |lst xs=>exact q
   |dK kvs=>exact q
   |lls iT=>exact q
   |ins C fs=>exact q
   |dT kvs=>exact q
   |inl C fs y xs=>exact q
def kB(d:ak->R Slot):ak->R aS:=λε=>(d ε).bind λs ε1=>.ok (.ret s) ε1
theorem rM(he:DR X E e d):DS X E pin (.Return (aa e) pos) (kB d):=λF S ε σ H D rl h=>by
 refine gX (uS bL) (he F S ε σ H _ rl ?_);unfold kB at h;cases e0:d ε with
 |no=>rw[e0]at h;exact h.elim
 |er c ε'=>rw[e0]at h;exact λx F' S' H' r' g'=>h x F' S' σ H' r' g' (ie.refl _ _)
 |ok s ε1=>rw[e0]at h;intro F1 S1 H1 r1 g1 v Sr rv fr;exact h v F1 S1 σ H1 Sr r1 ⟨g1.fro,g1.keep,g1.there,g1.fnew,λb z=>z.elim (g1.onew b) λw=>.inr (fr b w).1⟩ (ie.refl _ _) rv λb z=>(fr b z).2
def jB(d:ak->R Slot):ak->R aS:=λε=>(d ε).bind λ_ ε1=>.ok .next ε1
theorem ph(he:DR X E e d)(hs:kZ e ae pos.line X.env=pure aj:=by rfl):DS X E pin (.Expr e pos) (jB d):=λF S ε σ H D rl h=>gX (yu bL hs) (he F S ε σ H _ rl (h.bindE.imp λx ε1 F1 S1 H1 r1 g1 h1 v Sr rv fr=>h1 F1 S1 σ H1 r1 (bp.refl ..) (ie.refl _ _)))
end
end Pu
namespace L2
section
variable{X:Cx}{ag:List (af×Obj)}{σ:St}{H:Hp}{s:am}{scope:dX}{x:Str}{N':List Str}{cap:List Nat}
theorem MX{elt iter:aB}{y:Str}{px py pos spos:Pos}{i₀:Nat}{ifs:List aB}{wi:TI}{ts:TT}{te:TE}(B:jS X scope x N' cap)(hc:X.calm=ah)(hi:PI X (.Name x px) iter wi)(ht:∀C s₀ H₀ ex pn,sr (cO X scope N' C s₀ H₀ ex pn) ifs ts) (he:∀C s₀ H₀ ex pn,PE (cO X scope N' C s₀ H₀ ex pn) elt te) (hN:X.N.Nodup) (hiy:X.N[i₀]?=aa y) (hxy:Loc X.env.scope y) (hsw:kZ (.ListComp elt [⟨.Name x px,iter,ifs,0⟩] scope pos) (aa (.Name y py)) spos.line X.env=pure ah) (hf:X.fn y=ah\/X.env.scope.names.lookup y=aa .local) (hs:∀x,qu iter X.env x=pure x):PS X (.Assign [.Name y py] (.ListComp elt [⟨.Name x px,iter,ifs,0⟩] scope pos) spos) (λD σ H=>we wi ts te cap σ H λv H'=>D.nx (σ.set i₀ (aa v)) H'):=by
 intro ag s σ H D I h;rw[exec_Assign_Name_used _ _ _ _ hsw];refine ap (wpAny_standAt (ap ?_));show aq _ X.A (do let _ ←comprehension (.ListComp elt [⟨.Name x px,iter,ifs,0⟩] scope pos) scope X.env _ (newList []) aj (aU iter X.env) (aa (mS (.Name y py) X.env))) _ _ s;refine ap (dY (?_:aq _ X.A _ (λ_ s'=>SP X ag D .next s') X.xe s) (λ_ s' hq=>aD (aD hq)) λ_ _ e=>e);refine Dz (use:=aa (mS (.Name y py) X.env)) B hc hi ht he hs I h λ{s3 s6 H3 H5 fp σ5 a f} I3 f3 I6 q=>?_;obtain⟨mm,hn6,_⟩:=I6.loc;have J6:Inv X ag σ _ _:=I3.unblock f3 I6 (EQ _ _);have nlc:s3.heap.objs.size≠X.env.locals:=λe=>absurd I3.lt (by rw[←e];exact fe _);have nce:∀z c,X.env.cells.lookup z=aa c->c≠s3.heap.objs.size:=λz c e e2=>by obtain⟨vv,oo,ho,_⟩:=I3.cell z c e;exact absurd (bu ho) (by rw[e2];exact fe _)
 refine Ew (Ds (v:=.ref a) J6 hN hiy hxy rfl (λs7 I7 ⟨a7,sb7,ha7⟩=>?_) hf);have na7:s3.heap.objs.size≠a7:=by
  rcases ha7 with z|z
  ·rw[z];exact nlc
  ·exact(nce _ _ z).symm
 refine⟨mm,hn6.sameBut sb7 na7,λlq sb=>⟨_,_,?_,q⟩⟩;have hC5:H5 s3.heap.objs.size=ae:=I6.free;refine I7.call' (s':={s7 with heap:=lq}) (ch:=[s3.heap.objs.size]) rfl ⟨λb o e n hb hx=>?_,λb o e n hb hx=>?_,λb o e n hx=>n,λb o e hx=>?_,λb xs e=>e,λb o u e=>e,λb ps e=>e⟩ ?_ I7.bare λb hb=>?_
 ·exact(sb.2 b (by simpa using hx)).trans e
 ·exact⟨o.slots,(sb.2 b (by simpa using hx)).trans (by simpa using e)⟩
 ·exact⟨o,(sb.2 b (by simpa using hx)).trans e⟩
 ·intro b u e;refine(I7.hok b u e).stay (λc v hc q=>(sb.2 c ?_).trans q) (λ_ q=>q) λ_ _ q=>q;rintro rfl;rcases hc with z|z
  ·rw[←z,hC5]at e;cases e
  ·rw[hC5]at z;cases z
 ·have e:b=s3.heap.objs.size:=by simpa using hb
  subst e;refine⟨.inr I3.sz,nlc,nce,λp hp e2=>?_⟩;obtain⟨e3,_⟩:=I3.pin p hp;exact absurd (bu e3) (by rw[e2];exact fe _)
end
end L2
namespace Pu
open L2
def cU(ε:ak):List Nat->Option (List bW)
 |[]=>aa []
 |j::cap=>match ε[j]? with
  |some (.val pv)=>(cU ε cap).map (.inl pv::·)
  |some (.own _)=>(cU ε cap).map (.inr j::·)
  |_=>ae
def c9{α:Type}(cap:List Nat)(d:ak->R α)(x:PV):ak->R α:=λε=>(bg (cU ε cap) ε).bind λas _=>(bg (if(cz as).Nodup then eM ε (.inl x::as)else ae) ε).bind λss _=>fV ε (.inl x::as) (d ss)
def bN{α:Type}(r:R α):R α:=match r with
 |.er _ _=>.no
 |r=>r
def i8(cap:List Nat)(dt:ak->R Bool)(de:ak->R PV):List PV->List PV->ak->R (List PV)
 |[],aH,ε=>.ok aH ε
 |x::xs,aH,ε=>(bN (c9 cap dt x ε)).bind λk ε1=>match k with
  |true=>(bN (c9 cap de x ε1)).bind λy ε2=>i8 cap dt de xs (aH++[y]) ε2
  |false=>i8 cap dt de xs aH ε1
def cB(cap:List Nat)(di:ak->R (List PV))(dt:ak->R Bool)(de:ak->R PV):ak->R PO:=λε=>(di ε).bind λxs ε1=>(i8 cap dt de xs [] ε1).bind λys ε2=>.ok (.lst ys) ε2
theorem xk{K:ax}{F:af->Prop}{S:Nat->af->Prop}{ε:ak}{σ:St}{H:Hp}(r:aP K F S ε σ H):∀{cap:List Nat}{as:List bW},cU ε cap=aa as->∃vs,h_ K σ F H as vs/\iL σ cap=vs.map aa
 |[],as,h=>by cases h;exact⟨[],rfl,rfl⟩
 |j::cap,as,h=>by
  unfold cU at h;split at h
  ·rename_i pv e;cases q:cU ε cap with
   |none=>rw[q]at h;cases h
   |some bs=>
    rw[q]at h;cases h;obtain⟨vs,h1,h2⟩:=xk r q;obtain⟨v,e1,e2⟩:=r.val j pv e;refine⟨v::vs,⟨v,vs,rfl,e2,h1⟩,?_⟩;show(σ[j]?).join::iL σ cap=_;rw[e1,h2];rfl
  ·rename_i po e;cases q:cU ε cap with
   |none=>rw[q]at h;cases h
   |some bs=>
    rw[q]at h;cases h;obtain⟨vs,h1,h2⟩:=xk r q;obtain⟨a,e1,e2⟩:=r.own j po e;refine⟨.ref a::vs,⟨_,vs,rfl,e1,h1⟩,?_⟩;show(σ[j]?).join::iL σ cap=_;rw[e1,h2];rfl
  ·cases h
theorem Bd{K:ax}{E:XK}{F:af->Prop}{S:Nat->af->Prop}{ε:ak}{σ:St}{H:Hp}{α:Type}{cap:List Nat}{d:ak->R α}{x:PV}{v:V}{C:α->ak->(af->Prop)->(Nat->af->Prop)->Hp->Prop}(r:aP K F S ε σ H) (rx:aT K H F x v) (h:Ok K E σ F S H (bN (c9 cap d x ε)) C):∃Sb ss,aP K F Sb ss (aa v::iL σ cap) H/\Ok K E0 (aa v::iL σ cap) F Sb H (d ss) (λa _ F' _ H'=>∃ε' S',aP K F' S' ε' σ H'/\bp (U S) (U S') F F' H H'/\C a ε' F' S' H'):=by
 unfold c9 at h;cases ec:cU ε cap with
 |none=>rw[ec]at h;exact h.elim
 |some as=>
  rw[ec]at h;simp only[eK,R.bind_ok]at h;by_cases nd:(cz as).Nodup
  ·rw[if_pos nd]at h;cases es:eM ε (.inl x::as)with
   |none=>rw[es]at h;exact h.elim
   |some ss=>
    rw[es]at h;simp only[eK,R.bind_ok]at h;obtain⟨vs,av,ev⟩:=xk r ec;have av':h_ K σ F H (.inl x::as) (v::vs):=⟨v,vs,rfl,rx,av⟩
    have eσ:aa v::iL σ cap=(v::vs).map aa:=by rw[ev];rfl
    have nd':(cz (.inl x::as)).Nodup:=nd;refine⟨kN (.inl x::as) S,ss,by rw[eσ];exact r.cal av' es nd',?_⟩;rw[eσ];cases ed:d ss with
    |no=>rw[ed]at h;exact h.elim
    |er c aI=>
     rw[ed]at h;unfold fV at h;dsimp only at h;by_cases kp:f_ (.inl x::as) aI=ah
     ·rw[if_pos kp]at h;exact h.elim
     ·rw[if_neg kp]at h;exact h.elim
    |ok a aI=>
     rw[ed]at h;intro F' S' H' r' g';unfold fV at h;dsimp only at h;by_cases kp:f_ (.inl x::as) aI=ah
     ·rw[if_pos kp]at h;obtain⟨S2,r2,g2,_⟩:=r.called av' es nd' r' g' (λ_ z=>z) (lG kp);exact⟨_,S2,r2,g2,h F' S2 H' r2 g2⟩
     ·rw[if_neg kp]at h;exact h.elim
  ·rw[if_neg nd]at h;exact h.elim
def vn(X:Cx)(ifs:List aB):TT:=λσ H Q=>Bx (∀ag s,Inv X ag σ H s->aq (aw X.prog X.w) X.A (forIn ifs ah λc r=>if r=ah then do let ok ←lT c X.env (aU c X.env);pure (ForInStep.yield ok)else pure (ForInStep.yield r)) (TP X ag σ Q) X.xe s)
def DF(X:Cx)(E:XK)(ifs:List aB)(d:ak->R Bool):Prop:=∀F S ε σ H Q,aP X.K F S ε σ H->Ok X.K E σ F S H (d ε) (λb _ _ _ H'=>Q b H')->vn X ifs σ H Q
def dI:ak->R Bool:=λε=>.ok ah ε
theorem nN{X:Cx}{E:XK}:DF X E [] dI:=λF S ε σ H Q rl h=>⟨λag s I=>IV ag s σ H Q I (h F S H rl (bp.refl ..))⟩
theorem vk{X:Cx}{E:XK}{c:aB}{d:ak->R Bool}(h:DT X E c d):DF X E [c] d:=λF S ε σ H Q rl q=>⟨λag s I=>NE pR ag s σ H Q I (h F S ε σ H Q rl q)⟩
theorem Ok.bindB{K:ax}{E:XK}{σ:St}{F F1:af->Prop}{S S1:Nat->af->Prop}{H H1:Hp}{α β:Type}{D:β->ak->(af->Prop)->(Nat->af->Prop)->Hp->Prop}{r:R α}{k:α->ak->R β}(h:Ok K E σ F S H (r.bind k) D)(g:bp (U S) (U S1) F F1 H H1):Ok K E σ F1 S1 H1 r (λa ε1 _ _ _=>Ok K E σ F S H (k a ε1) D):=by
 cases r with
 |no=>exact h
 |er c ε'=>exact λx F' S' H' r' g'=>h x F' S' H' r' (g.trans g')
 |ok a ε'=>exact λF' S' H' r' g'=>h
section
variable{X:Cx}{E:XK}{scope:dX}{x:Str}{N':List Str}{cap:List Nat}
theorem bp.stay{O O' F F':af->Prop}{H H':Hp}(g:bp O O' F F' H H'){l:af}{o:HO}(e:H l=aa o)(n:¬O l)(nF:¬F l):H' l=aa o/\¬F' l/\¬O' l :=
 ⟨g.keep l o e n,λz=>(g.fnew l z).elim nF λw=>w.elim (λq=>by rw[e]at q;cases q) n,λz=>(g.onew l z).elim n λq=>by rw[e]at q;cases q⟩
theorem Cu{elt iter:aB}{px:Pos}{ifs:List aB}{di:ak->R (List PV)}{dt:ak->R Bool}{de:ak->R PV}(hi:DI X E (.Name x px) iter di)(ht:∀C s₀ H₀ ex pn,DF (cO X scope N' C s₀ H₀ ex pn) E0 ifs dt) (he:∀C s₀ H₀ ex pn,DE (cO X scope N' C s₀ H₀ ex pn) E0 elt de){F:af->Prop}{S:Nat->af->Prop}{ε:ak}{σ:St}{H:Hp}{Q:VK} (rl:aP X.K F S ε σ H) (h:Ok X.K E σ F S H (cB cap di dt de ε) (λpo _ F' S' H'=>∀a Sa,eR X.K H' F' po a Sa->(∀b,Sa b->H b=ae/\¬F' b/\¬U S' b/\∃o,H' b=aa o/\dR o)->Q (.ref a) H')):we (qj X (.Name x px) iter) (λσ H Q=>∀C s₀ H₀ ex pn,vn (cO X scope N' C s₀ H₀ ex pn) ifs σ H Q) (λσ H Q=>∀C s₀ H₀ ex pn,iK (cO X scope N' C s₀ H₀ ex pn) elt σ H Q) cap σ H Q:=by
 refine hi F S ε σ H _ rl ((Ok.bind h).imp λxs ε1 F1 S1 H1 r1 g1 h1 J vs RR rs hz hw keep l hl=>?_);have h1:=h1.bind;have hvl:vs.length=xs.length:=rs.len;have a0:Al F1 F1 H1 (upd H1 l (.lst [])):=Al.new0 hl;have nF1:¬F1 l:=λz=>by obtain⟨o,q⟩:=r1.ex l z;rw[hl]at q;cases q
 have nS1:¬U S1 l:=λ⟨i,z⟩=>by obtain⟨_,_,o,q,_⟩:=r1.foot i l z;rw[hl]at q;cases q
 have hH:H l=ae:=mE g1 hl;refine⟨λi m ys H'=>m=xs.length-i/\i<=xs.length/\∃F' S' ε' aH,aP X.K F' S' ε' σ H'/\bp (U S1) (U S') F1 F' H1 H'/\H' l=aa (.lst ys)/\¬F' l/\¬U S' l/\Reps X.K H' F' aH ys/\ys.length<=i /\ Ok X.K E σ F1 S1 H1 (i8 cap dt de (xs.drop i) aH ε') (λys' ε2 F2 S2 H2=>Ok X.K E σ F2 S2 H2 (R.ok (PO.lst ys') ε2) (λpo _ F' S' H'=>∀a Sa,eR X.K H' F' po a Sa->(∀b,Sa b->H b=ae/\¬F' b/\¬U S' b/\∃o,H' b=aa o/\dR o)->Q (.ref a) H')),⟨_,rfl,k_ _,F1,S1,ε1,[],r1.al a0,a0.grow,cE,nF1,nS1,rfl,a9 _,h1⟩,?_⟩;rintro i m ys H2 ⟨rfl,hi,F2,S2,ε2,aH,r2,g2,el,nF2,nS2,racc,hyl,q2⟩;have RH:=keep S2 F2 H2 g2;by_cases ba:i<xs.length
 ·obtain⟨v,hv⟩:∃v,vs[i]?=aa v:=⟨_,d7 ∅⟩
  obtain⟨go,yl⟩:=(hw H2 RH i).1 v hv;refine .inr ⟨go,λv' H' y=>?_⟩;obtain⟨e1,e2⟩:=yl v' H' y;subst e1 e2;obtain⟨px',hx,rx⟩:=rs.back hv;have ed:xs.drop i=px'::xs.drop (i+1):=by rw[wH ba];congr 1;exact(df.mp hx).2
  rw[ed]at q2;have rx2:=rx.grow g2 r1.fit;have q3:=Ok.bindB q2 g2;obtain⟨Sb,ss,rb,okb⟩:=Bd r2 rx2 q3;intro C s₀ H₀ ex pn;refine ht C s₀ H₀ ex pn F2 Sb ss _ H' _ rb (okb.imp λb _ F3 _ H3 _ _ ⟨ε3,S3,r3,g3,q4⟩=>?_);obtain⟨el3,nF3,nS3⟩:=g3.stay el nS2 nF2;cases b with
  |false=>exact pH ⟨_,∅,rfl,ba,F3,S3,ε3,aH,r3,g2.trans g3,el3,nF3,nS3,racc.grow g3 r2.fit,∅,q4⟩
  |true=>
   refine pZ ?_;have q5:Ok X.K E σ F1 S1 H1 ((bN (c9 cap de px' ε3)).bind λy ε2=>i8 cap dt de (xs.drop (i+1)) (aH++[y]) ε2) _:=q4;obtain⟨Sc,sc,rc,okc⟩:=Bd r3 (rx2.grow g3 r2.fit) (Ok.bindB q5 (g2.trans g3));intro C s₀ H₀ ex pn;refine he C s₀ H₀ ex pn F3 Sc sc _ H3 _ rc (okc.imp λy _ F4 _ H4 _ _ ⟨ε4,S4,r4,g4,q6⟩ u ru=>?_);obtain⟨el4,nF4,nS4⟩:=g4.stay el3 nS3 nF3;have racc4:=(racc.grow g3 r2.fit).grow g4 r3.fit;have gl:bp (λb=>U S4 b\/b=l) (U S4) F4 F4 H4 (upd H4 l (.lst (ys++[u]))):=⟨λ_ z=>z,λb o e n=>by rw[b7 λz=>n (.inr z)];exact e,λb o e=>by
    by_cases hb:b=l
    ·subst hb;exact⟨_,cE⟩
    ·exact⟨o,by rw[b7 hb];exact e⟩,λ_ z=>.inl z,λ_ z=>.inl (.inl z)⟩
   have fit4:mF (λb=>U S4 b\/b=l) F4 H4:=λb z=>by
    rcases z with z|rfl
    ·exact r4.fit b z
    ·exact⟨nF4,_,el4,trivial⟩
   have r5:aP X.K F4 S4 ε4 σ (upd H4 l (.lst (ys++[u]))):=by
    refine⟨r4.len,λb z=>let ⟨o,q⟩:=r4.ex b z;gl.there b o q,λj pv e=>?_,λj po e=>?_,λj b z=>?_,r4.dist⟩
    ·obtain⟨w,x1,x2⟩:=r4.val j pv e;exact⟨w,x1,x2.grow gl fit4⟩
    ·obtain⟨w,x1,x2⟩:=r4.own j po e;refine⟨w,x1,x2.mono (λ_ _ q=>q.grow gl fit4) (λ_ _ q=>q.grow gl fit4) λb o z q=>?_⟩;rw[b7 (by rintro rfl;exact nS4 ⟨j,z⟩)];exact q
    ·obtain⟨x1,x2,o,x3,x4⟩:=r4.foot j b z;exact⟨x1,x2,o,by rw[b7 (by rintro rfl;exact nS4 ⟨j,z⟩)];exact x3,x4⟩
   have g5:bp (U S1) (U S4) F1 F4 H1 (upd H4 l (.lst (ys++[u]))):=by
    have gg:=(g2.trans g3).trans g4;refine⟨gg.fro,λb o e n=>?_,λb o e=>?_,gg.fnew,gg.onew⟩
    ·rw[b7 (by rintro rfl;rw[hl]at e;cases e)];exact gg.keep b o e n
    ·obtain⟨o',q⟩:=gg.there b o e;exact gl.there b o' q
   refine⟨el4,?_,_,∅,rfl,ba,F4,S4,ε4,aH++[y],r5,g5,cE,nF4,nS4,(racc4.grow gl fit4).app (.one (ru.grow gl fit4)),by simp;lia,q6⟩;lia
 ·have e:i=xs.length:=∅
  subst e;refine .inl ⟨(hw H2 RH _).2 hvl.symm,?_⟩;rw[List.drop_length]at q2;exact q2 F2 S2 H2 r2 g2 F2 S2 H2 r2 (bp.refl ..) l (λb=>b=l) ⟨⟨ys,el,racc⟩,λb=>Iff.rfl⟩ λb z=>by subst z;exact⟨hH,nF2,nS2,_,el,trivial⟩
theorem ku{elt iter:aB}{px pos:Pos}{ifs:List aB}{di:ak->R (List PV)}{dt:ak->R Bool}{de:ak->R PV}(B:jS X scope x N' cap)(hc:X.calm=ah)(hi:DI X E (.Name x px) iter di)(ht:∀C s₀ H₀ ex pn,DF (cO X scope N' C s₀ H₀ ex pn) E0 ifs dt) (he:∀C s₀ H₀ ex pn,DE (cO X scope N' C s₀ H₀ ex pn) E0 elt de) (hs:∀x,qu iter X.env x=pure x:=by intro _;rfl):DN X E (.ListComp elt [⟨.Name x px,iter,ifs,0⟩] scope pos) (cB cap di dt de):=λF S ε σ H Q rl h=>b9 (JB (wi:=qj X (.Name x px) iter) (ts:=λσ H Q=>∀C s₀ H₀ ex pn,vn (cO X scope N' C s₀ H₀ ex pn) ifs σ H Q) (te:=λσ H Q=>∀C s₀ H₀ ex pn,iK (cO X scope N' C s₀ H₀ ex pn) elt σ H Q) (pos:=pos) B hc zu (λC s₀ H₀ ex pn ag s σ H Q I h=>(h C s₀ H₀ ex pn).run ag s I) (λC s₀ H₀ ex pn ag s σ H Q I h=>(h C s₀ H₀ ex pn).run ag s I) hs) (Cu hi ht he rl h)
end
theorem HB(x y:Tx):tS x++tS y=tS (x++y):=by
 show(⟨x.toArray++y.toArray⟩:Str)=⟨(x++y).toArray⟩
 simp
def bd:PV->PV->Option PV
 |.int i,.int j=>aa (.int (i+j))
 |.str x,.str y=>if(x++y).length<=cx then aa (.str (x++y))else ae
 |.tup xs,.tup ys=>if xs≠[]/\ys≠[]/\xs.length+ys.length<=1000 then aa (.tup (xs++ys))else ae
 |.lst xs,.lst ys=>if xs.length+ys.length<=cx then aa (.lst (xs++ys))else ae
 |_,_=>ae
def fA:PV->PV->Option PV
 |.int i,.int j=>aa (.int (i-j))
 |_,_=>ae
def sJ(i:Int):Bool:=decide (-(2^64)<i/\i<2^64)
def jW:PV->PV->Option PV
 |.int i,.int j=>if sJ i||sJ j then aa (.int (i*j))else ae
 |.str x,.int j=>if 0<=j/\j<=100/\x.length<=100 then aa (.str (bS j.toNat x).flatten)else ae
 |_,_=>ae
def fI:PV->PV->Option PV
 |.int i,.int j=>if 0<j then aa (.int (i % j))else ae
 |_,_=>ae
def r8:PV->PV->Option PV
 |.int i,.int j=>if 0<=j/\j<=1000000/\i.natAbs<2^64 then aa (.int (i^j.toNat))else ae
 |_,_=>ae
def nY:PV->Option PV
 |.int i=>aa (.int (-i))
 |_=>ae
def CU:R2:=λx y H Q=>∃l b xs zs,x=.ref l/\y=.ref b/\Rd H l (.lst xs)/\Rd H b (.lst zs)/\xs.length+zs.length<=a_/\∀p,H p=ae->Q (.ref p) (upd H p (.lst (xs++zs)))
def B1(K:ax):R2:=λx y H Q=>((kA λi j=>V.int (i+j)) x y H Q\/∃i j,x=.str i/\y=.str j/\i.length+j.length<=a_/\Q (.str (i++j)) H)\/(BF K x y H Q\/CU x y H Q)
def C6:R2:=λx y H Q=>rI yG (λi j=>.int (i*j)) x y H Q\/∃(z:Tx) (n:Nat),x=tV z/\y=.int n/\n<=100/\z.length<=100/\Q (tV (bS n z).flatten) H
section
variable{X:Cx}{K:ax}
theorem mB:P2 K (kA λi j=>.int (i-j)) fA:=λF H x y v u Q pv rx ry e q=>by
 unfold fA at e;split at e
 ·cases e;exact⟨_,_,rx,ry,q _ F H (Al.refl ..) rfl⟩
 ·cases e
theorem qp:P2 K (rI (λ_ j=>0<j) λi j=>.int (i % j)) fI:=λF H x y v u Q pv rx ry e q=>by
 unfold fI at e;split at e
 ·split at e
  ·cases e;exact⟨_,_,rx,ry,by assumption,q _ F H (Al.refl ..) rfl⟩
  ·cases e
 ·cases e
theorem NG:P2 K (rI BW λi j=>.int (i^j.toNat)) r8:=λF H x y v u Q pv rx ry e q=>by
 unfold r8 at e;split at e
 ·split at e
  ·cases e;exact⟨_,_,rx,ry,by assumption,q _ F H (Al.refl ..) rfl⟩
  ·cases e
 ·cases e
theorem D6:P1 K (rU λi=>.int (-i)) nY:=λF H x v Q pv rx e q=>by
 unfold nY at e;split at e
 ·cases e;exact⟨_,rx,q _ F H (Al.refl ..) rfl⟩
 ·cases e
theorem yT{ag:List (af×Obj)}{σ:St}{H:Hp}{s:am}{l:af}{xs:List V}(I:Inv X ag σ H s)(h:Rd H l (.lst xs)):∃(its:List ai) (n:Nat),bj xs its/\s.heap.get? l=aa {cls:=.type "list",data:=.seq its.toArray n}/\xs.length<=a_:=by obtain⟨z,its,n,r,e⟩:=h.ok I.hok;exact⟨its,n,r,e,z⟩
theorem Iv:bV X (iQ .Add) CU:=by
 intro ag s σ H x y v u Q I rx ry h;obtain⟨l,b,xs,zs,rfl,rfl,hl,hb,hz,q⟩:=h;cases rx;cases ry;obtain⟨its,n,r,e,_⟩:=yT I hl;obtain⟨its2,n2,r2,e2,_⟩:=yT I hb;have hl:=r.length;have jI:=r2.length;refine PySem.P.add_list e e2 ?_ (by rw[ce,ce];lia);have ea:its.toArray++its2.toArray=(its++its2).toArray:=by simp
 rw[ea];exact⟨.ref _,_,I.lnew (t':=s.toks) (r.append r2) (by rw[ef];lia),rfl,q _ I.fresh⟩
theorem eI:bV X (iQ .Add) (B1 X.K):=(Oo.or Ie).or (Oh.or Iv)
theorem eE:P2 K (B1 K) bd:=λF H x y v u Q pv rx ry e q=>by
 unfold bd at e;split at e
 ·cases e;exact .inl (.inl ⟨_,_,rx,ry,q _ F H (Al.refl ..) rfl⟩)
 ·rename_i x y;split at e
  ·rename_i hl;cases e;refine .inl (.inr ⟨_,_,rx.1,ry.1,?_,?_⟩)
   ·rw[kK,kK];rw[ef]at hl;exact cR hl lE
   ·exact q _ F H (Al.refl ..) ⟨by rw[HB];rfl,hl⟩
  ·cases e
 ·rename_i xs ys;split at e
  ·rename_i hl;cases e;obtain⟨a,vs,rfl,ha,ra⟩:=rx;obtain⟨b,ws,rfl,hb,rb⟩:=ry;have la:=ra.len;have lb:=rb.len;refine .inr (.inl ⟨a,b,vs,ws,rfl,rfl,cD.of ha,cD.of hb,λz=>hl.1 (by rw[z]at la;exact qH la.symm),by rw[la,lb];exact x0 hl.2.2,λz=>absurd (by rw[z]at lb;exact qH lb.symm) hl.2.1,λ_ p hp=>?_⟩);exact q _ F _ (Al.new0 hp) ⟨p,_,rfl,cE,(Al.new0 hp).reps (ra.app rb)⟩
  ·cases e
 ·rename_i xs ys;split at e
  ·rename_i hl;cases e;obtain⟨a,vs,rfl,ha,fa,ra⟩:=rx;obtain⟨b,ws,rfl,hb,fb,rb⟩:=ry;have la:=ra.len;have lb:=rb.len;refine .inr (.inr ⟨a,b,vs,ws,rfl,rfl,ha,hb,by rw[la,lb];exact cR hl lE,λp hp=>?_⟩);exact q _ _ _ (Al.new hp) ⟨p,_,rfl,.inl cE,.inr rfl,(Al.new hp).reps (ra.app rb)⟩
  ·cases e
 ·cases e
theorem yf:bV X (iQ .Mult) C6:=Od.or KF
theorem xR:P2 K C6 jW:=λF H x y v u Q pv rx ry e q=>by
 unfold jW at e;split at e
 ·rename_i i j;split at e
  ·rename_i h;cases e;refine .inl ⟨_,_,rx,ry,?_,q _ F H (Al.refl ..) rfl⟩;rw[zW]at h;exact h.imp of_decide_eq_true of_decide_eq_true
  ·cases e
 ·rename_i x j;split at e
  ·rename_i h;cases e;refine .inr ⟨x,j.toNat,rx.1,?_,∅,h.2.2,q _ F H (Al.refl ..) ⟨rfl,?_⟩⟩
   ·rw[show u=V.int j from ry];congr 1;lia
   ·rw[yj];have h1:j.toNat<=100:=∅
    exact cR (zX h1 h.2.2) (by decide)
  ·cases e
 ·cases e
def eP(f:Int->Int->Bool):PV->PV->Option PV
 |.int i,.int j=>aa (.bl (f i j))
 |_,_=>ae
theorem i_{f:Int->Int->Bool}:P2 K (kA λi j=>.bl (f i j)) (eP f):=λF H x y v u Q pv rx ry e q=>by
 unfold eP at e;split at e
 ·cases e;exact⟨_,_,rx,ry,q _ F H (Al.refl ..) rfl⟩
 ·cases e
def cV:PV->Option V
 |.non=>aa .non
 |.bl b=>aa (.bl b)
 |.int i=>aa (.int i)
 |.str x=>aa (tV x)
 |_=>ae
theorem iH{H:Hp}{F:af->Prop}{x:PV}{v w:V}(r:aT K H F x v)(e:cV x=aa w):v=w:=by
 cases x <;> simp[cV]at e <;> subst e
 ·exact r
 ·exact r
 ·exact r
 ·exact r.1
theorem pc{x:PV}{w:V}(e:cV x=aa w):e_ w=ah:=by
 cases x <;> simp[cV]at e <;> subst e <;> rfl
mutual
def cr:PV->PV->Option Bool
 |.tup xs,y=>match y with
  |.tup ys=>eJ xs ys
  |_=>ae
 |.lst xs,y=>match y with
  |.lst ys=>eJ xs ys
  |_=>ae
 |.non,y=>(cV y).map (dz .non)
 |.bl b,y=>(cV y).map (dz (.bl b))
 |.int i,y=>(cV y).map (dz (.int i))
 |.str x,y=>(cV y).map (dz (tV x))
 |.raw _,_=>ae
 |.exc _,_=>ae
def eJ:List PV->List PV->Option Bool
 |[],ys=>aa ys.isEmpty
 |x::xs,ys=>match ys with
  |[]=>aa aj
  |y::ys=>(cr x y).bind λa=>(eJ xs ys).map λb=>a&&b
end
mutual
def fJ:PV->Nat
 |.tup xs=>fM xs+1
 |.lst xs=>fM xs+1
 |_=>0
def fM:List PV->Nat
 |[]=>0
 |x::xs=>max (fJ x) (fM xs)
end
theorem Er{H:Hp}{d d':Nat}{x y:V}{k:Bool}(h:gT K H d x y k)(hd:d<=d'):gT K H d' x y k:=λX hK ag σ s u v A I ru rv hu=>h X hK ag σ s u v A I ru rv ∅
theorem vo{H:Hp}{F:af->Prop}{w:V}{y:PV}{u:V}{k:Bool}{d:Nat}(fw:e_ w=ah)(e:(cV y).map (dz w)=aa k)(ry:aT K H F y u):gT K H d w u k:=by
 cases q:cV y with
 |none=>rw[q]at e;cases e
 |some z=>
  rw[q]at e;cases e;rw[iH ry q];exact G4 fw (pc q)
theorem GI{H:Hp}{a:af}{xs ys:List V}(h:Rd H a (.lst xs))(g:Rd H a (.lst ys)):xs=ys:=by
 rcases h with h|⟨o,h⟩ <;> rcases g with g|⟨o',g⟩ <;> rw[h]at g <;> cases g <;> rfl
theorem Nr{a:Bool}{e:Nat->Bool}{n m:Nat}:ft (λj=>if j=0 then a else e (j-1)) (n+1) (m+1)=(a&&ft e n m):=by
 unfold ft;rw[show min (n+1) (m+1)=min n m+1 by lia,zV,qy,wv,if_pos rfl,Bool.and_assoc];congr 1;congr 1
 ·simp
mutual
theorem xY{H:Hp}{F:af->Prop}:∀(x y:PV) {v:V}{k:Bool},cr x y=aa k->aT K H F x v->aT K H F y v->k=ah
 |.tup xs,y,v,k,e,rx,ry=>by
  unfold cr at e;split at e
  ·obtain⟨a,vs,rfl,ha,ra⟩:=rx;obtain⟨b,ws,eb,hb,rb⟩:=ry;cases eb;rw[ha]at hb;cases hb;exact yN xs _ e ra rb
  ·cases e
 |.lst xs,y,v,k,e,rx,ry=>by
  unfold cr at e;split at e
  ·obtain⟨a,vs,rfl,ha,_,ra⟩:=rx;obtain⟨b,ws,eb,hb,_,rb⟩:=ry;cases eb;rw[GI ha hb]at ra;exact yN xs _ e ra rb
  ·cases e
 |.non,y,v,k,e,rx,ry=>by
  unfold cr at e;cases q:cV y with
  |none=>rw[q]at e;cases e
  |some z=>rw[q]at e;cases e;rw[←iH ry q,show v=V.non from rx];rfl
 |.bl b,y,v,k,e,rx,ry=>by
  unfold cr at e;cases q:cV y with
  |none=>rw[q]at e;cases e
  |some z=>rw[q]at e;cases e;rw[←iH ry q,show v=V.bl b from rx];exact beq_self_eq_true b
 |.int b,y,v,k,e,rx,ry=>by
  unfold cr at e;cases q:cV y with
  |none=>rw[q]at e;cases e
  |some z=>rw[q]at e;cases e;rw[←iH ry q,show v=V.int b from rx];exact beq_self_eq_true b
 |.str b,y,v,k,e,rx,ry=>by
  unfold cr at e;cases q:cV y with
  |none=>rw[q]at e;cases e
  |some z=>rw[q]at e;cases e;rw[←iH ry q,show v=tV b from rx.1];exact beq_self_eq_true (tS b)
 |.raw _,_,_,_,e,_,_=>by unfold cr at e;cases e
 |.exc _,_,_,_,e,_,_=>by unfold cr at e;cases e
theorem yN{H:Hp}{F:af->Prop}:∀(xs ys:List PV) {vs:List V}{k:Bool},eJ xs ys=aa k->Reps K H F xs vs->Reps K H F ys vs->k=ah
 |[],ys,vs,k,e,rx,ry=>by
  unfold eJ at e;rw[show vs=[] from rx]at ry;have:=ry.len;cases ys with
  |nil=>cases e;rfl
  |cons=>simp at this
 |x::xs,ys,vs,k,e,rx,ry=>by
  unfold eJ at e;obtain⟨v,r,rfl,h1,h2⟩:=rx;cases ys with
  |nil=>have:=ry.len;simp at this
  |cons y ys=>
   obtain⟨v',r',ev,g1,g2⟩:=ry;cases ev;simp only at e;cases q1:cr x y with
   |none=>rw[q1]at e;cases e
   |some a=>
    cases q2:eJ xs ys with
    |none=>rw[q1,q2]at e;cases e
    |some b=>
     rw[q1,q2]at e;cases e;rw[xY x y q1 h1 g1,yN xs ys q2 h2 g2];rfl
end
mutual
theorem NJ{H:Hp}{F:af->Prop}:∀(x y:PV) {v u:V}{k:Bool},cr x y=aa k->aT K H F x v->aT K H F y u->gT K H (fJ x) v u k
 |.tup xs,y,v,u,k,e,rx,ry=>by
  have e0:=e;unfold cr at e;split at e
  ·rename_i ys;obtain⟨a,vs,rfl,ha,ra⟩:=id rx;obtain⟨b,ws,rfl,hb,rb⟩:=id ry;by_cases iD:a=b
   ·subst iD;rw[xY _ _ e0 rx ry];exact Bb
   ·obtain⟨f,hf,rfl⟩:=sk xs ys e ra rb;unfold fJ;exact HN (cD.of ha) (cD.of hb) iD hf
  ·cases e
 |.lst xs,y,v,u,k,e,rx,ry=>by
  have e0:=e;unfold cr at e;split at e
  ·rename_i ys;obtain⟨a,vs,rfl,ha,_,ra⟩:=id rx;obtain⟨b,ws,rfl,hb,_,rb⟩:=id ry;by_cases iD:a=b
   ·subst iD;rw[xY _ _ e0 rx ry];exact Bb
   ·obtain⟨f,hf,rfl⟩:=sk xs ys e ra rb;unfold fJ;exact FP (.inl ha) (.inl hb) iD hf
  ·cases e
 |.non,y,v,u,k,e,rx,ry=>by unfold cr at e;rw[show v=V.non from rx];exact vo rfl e ry
 |.bl b,y,v,u,k,e,rx,ry=>by unfold cr at e;rw[show v=V.bl b from rx];exact vo rfl e ry
 |.int b,y,v,u,k,e,rx,ry=>by unfold cr at e;rw[show v=V.int b from rx];exact vo rfl e ry
 |.str b,y,v,u,k,e,rx,ry=>by unfold cr at e;rw[show v=tV b from rx.1];exact vo rfl e ry
 |.raw _,_,_,_,_,e,_,_=>by unfold cr at e;cases e
 |.exc _,_,_,_,_,e,_,_=>by unfold cr at e;cases e
theorem sk{H:Hp}{F:af->Prop}:∀(xs ys:List PV) {vs us:List V}{k:Bool},eJ xs ys=aa k->Reps K H F xs vs->Reps K H F ys us -> ∃f:Nat->Bool,(∀(j:Nat) x y,vs[j]?=aa x->us[j]?=aa y->gT K H (fM xs) x y (f j))/\k=ft f vs.length us.length
 |[],ys,vs,us,k,e,rx,ry=>by
  unfold eJ at e;rw[show vs=[] from rx];refine⟨λ_=>ah,λj x y h=>by simp at h,?_⟩;have:=ry.len;cases e;unfold ft;cases ys with
  |nil=>simp at this;simp[this]
  |cons=>rw[this];simp
 |x::xs,ys,vs,us,k,e,rx,ry=>by
  unfold eJ at e;obtain⟨v,r,rfl,h1,h2⟩:=rx;cases ys with
  |nil=>
   cases e;rw[show us=[] from ry];exact⟨λ_=>ah,λj x y _ h=>by simp at h,by simp[ft]⟩
  |cons y ys=>
   obtain⟨u,r',rfl,g1,g2⟩:=ry;simp only at e;cases q1:cr x y with
   |none=>rw[q1]at e;cases e
   |some a=>
    cases q2:eJ xs ys with
    |none=>rw[q1,q2]at e;cases e
    |some b=>
     rw[q1,q2]at e;cases e;obtain⟨f,hf,rfl⟩:=sk xs ys q2 h2 g2;refine⟨λj=>if j=0 then a else f (j-1),λj p q hp hq=>?_,by rw[fg,fg,Nr]⟩;cases j with
     |zero=>simp at hp hq;subst hp hq;show gT K H _ _ _ (if(0:Nat)=0 then a else f (0-1));rw[if_pos rfl];exact Er (NJ x y q1 h1 g1) (by unfold fM;exact Nat.le_max_left _ _)
     |succ j=>show gT K H _ _ _ (if j+1=0 then a else f (j+1-1));rw[if_neg ∅];exact Er (hf j p q (by simpa using hp) (by simpa using hq)) (show fM xs<=max (fJ x) (fM xs)from Nat.le_max_right _ _)
end
def eqT(neg:Bool)(x y:PV):Option PV:=match cV x,cV y with
 |some v,aa u=>if su v u then aa (.bl (neg^^decide (v=u)))else ae
 |none,ae=>if fJ x<=8 then(cr x y).map λk=>.bl (neg^^k)else ae
 |_,_=>ae
def DL(K:ax):R2:=λx y H Q=>CZ x y H Q\/rV K aj x y H Q
def A_(K:ax):R2:=λx y H Q=>B2 x y H Q\/rV K ah x y H Q
theorem jX(hu:X.A.units+64<cLine):bV X (d_ .Eq) (DL X.K):=Oj.or (Gc hu)
theorem rR(hu:X.A.units+64<cLine):bV X (d_ .NotEq) (A_ X.K):=Ow.or (La hu)
theorem DM{H:Hp}{F:af->Prop}{x y:PV}{v u:V}{k:Bool}{Q:VK}{neg:Bool}(hx:cV x=ae)(e:cr x y=aa k)(hd:fJ x<=8)(rx:aT K H F x v)(ry:aT K H F y u)(q:Q (.bl (neg^^k)) H):rV K neg v u H Q:=by
 have fin:∀{k':Bool},k=k'->Q (.bl (if neg=ah then !k' else k')) H:=λ{k'} z=>by subst z;cases neg <;> simpa using q
 cases x with
 |tup xs=>
  unfold cr at e;split at e
  ·rename_i ys;obtain⟨a,vs,rfl,ha,ra⟩:=rx;obtain⟨b,ws,rfl,hb,rb⟩:=ry;obtain⟨f,hf,ek⟩:=sk xs ys e ra rb;unfold fJ at hd;exact⟨a,b,vs,ws,fM xs,f,rfl,rfl,.inr ⟨cD.of ha,cD.of hb⟩,∅,hf,fin ek⟩
  ·cases e
 |lst xs=>
  unfold cr at e;split at e
  ·rename_i ys;obtain⟨a,vs,rfl,ha,_,ra⟩:=rx;obtain⟨b,ws,rfl,hb,_,rb⟩:=ry;obtain⟨f,hf,ek⟩:=sk xs ys e ra rb;unfold fJ at hd;exact⟨a,b,vs,ws,fM xs,f,rfl,rfl,.inl ⟨.inl ha,.inl hb⟩,∅,hf,fin ek⟩
  ·cases e
 |raw _=>unfold cr at e;cases e
 |exc _=>unfold cr at e;cases e
 |non=>cases hx
 |bl _=>cases hx
 |int _=>cases hx
 |str _=>cases hx
theorem jP:P2 K (DL K) (eqT aj):=λF H x y v u Q pv rx ry e q=>by
 unfold eqT at e;split at e
 ·rename_i a b ea eb;split at e
  ·rename_i hs;cases e;rw[iH rx ea,iH ry eb];refine .inl ⟨hs,?_⟩;have:=q (.bl (decide (a=b))) F H (Al.refl ..) (by simp[aT]);exact this
  ·cases e
 ·rename_i ea eb;split at e
  ·rename_i hd;cases ek:cr x y with
   |none=>rw[ek]at e;cases e
   |some k=>
    rw[ek]at e;cases e;exact .inr (DM (neg:=aj) ea ek hd rx ry (q _ F H (Al.refl ..) rfl))
  ·cases e
 ·cases e
theorem sv:P2 K (A_ K) (eqT ah):=λF H x y v u Q pv rx ry e q=>by
 unfold eqT at e;split at e
 ·rename_i a b ea eb;split at e
  ·rename_i hs;cases e;rw[iH rx ea,iH ry eb];refine .inl ⟨hs,?_⟩;have:=q (.bl (!decide (a=b))) F H (Al.refl ..) (by simp[aT]);exact this
  ·cases e
 ·rename_i ea eb;split at e
  ·rename_i hd;cases ek:cr x y with
   |none=>rw[ek]at e;cases e
   |some k=>
    rw[ek]at e;cases e;exact .inr (DM (neg:=ah) ea ek hd rx ry (q _ F H (Al.refl ..) rfl))
  ·cases e
 ·cases e
end
end Pu
namespace Pu
open L2
section
variable{X:Cx}{K:ax}
def uw(i j:Tx):Bool:=!(Ey (tS j) (tS i) 0 (tS j).length 1).isEmpty
def gY:List PV->Option (List V)
 |[]=>aa []
 |x::xs=>(cV x).bind λv=>(gY xs).map λr=>v::r
theorem rO{H:Hp}{F:af->Prop}:∀{xs:List PV}{vs ws:List V},Reps K H F xs vs->gY xs=aa ws->vs=ws/\ws.all e_=ah
 |[],_,_,r,e=>by cases e;exact⟨r,rfl⟩
 |x::xs,_,ws,⟨v,r,rfl,h1,h2⟩,e=>by
  unfold gY at e;cases q:cV x with
  |none=>rw[q]at e;cases e
  |some w=>
   cases q2:gY xs with
   |none=>rw[q,q2]at e;cases e
   |some wr=>
    rw[q,q2]at e;cases e;obtain⟨e1,e2⟩:=rO h2 q2;exact⟨by rw[iH h1 q,e1],by rw[qy,pc q,e2];rfl⟩
def pA(neg:Bool):PV->PV->Option PV
 |.str x,.str y=>aa (.bl (neg^^uw x y))
 |x,.lst ys=>(cV x).bind λv=>(gY ys).map λws=>.bl (neg^^r_ v ws)
 |x,.tup ys=>(cV x).bind λv=>(gY ys).map λws=>.bl (neg^^r_ v ws)
 |_,_=>ae
def D9(K:ax):R2:=λx y H Q=>(∃i j,x=.str i/\y=.str j/\Q (.bl (!(Ey j i 0 j.length 1).isEmpty)) H)\/ye K aj x y H Q
theorem Ma:bV X (d_ .In) (D9 X.K):=Og.or Mh
theorem BG{H:Hp}{F:af->Prop}{x:PV}{ys:List PV}{v:V}{p:af}{us:List V}{Q:VK}{neg:Bool}{pv:PV}(rx:aT K H F x v)(hp:cc K H p us\/cD K H p us)(ru:Reps K H F ys us)(e:((cV x).bind λv=>(gY ys).map λws=>PV.bl (neg^^r_ v ws))=aa pv) (q:∀w,aT K H F pv w->Q w H):ye K neg v (.ref p) H Q:=by
 cases q1:cV x with
 |none=>rw[q1]at e;cases e
 |some w=>
  cases q2:gY ys with
  |none=>rw[q1,q2]at e;cases e
  |some ws=>
   rw[q1,q2]at e;cases e;obtain⟨rfl,hf⟩:=rO ru q2;rw[iH rx q1];refine⟨p,us,rfl,hp,pc q1,hf,?_⟩;have:=q _ rfl;cases neg <;> simpa using this
theorem FV:P2 K (D9 K) (pA aj):=λF H x y v u Q pv rx ry e q=>by
 unfold pA at e;split at e
 ·cases e;exact .inl ⟨_,_,rx.1,ry.1,by have:=q _ F H (Al.refl ..) rfl;simpa[uw]using this⟩
 ·obtain⟨a,us,rfl,ha,_,ra⟩:=ry;exact .inr (BG (neg:=aj) rx (.inl (.inl ha)) ra e λw rw'=>q w F H (Al.refl ..) rw')
 ·obtain⟨a,us,rfl,ha,ra⟩:=ry;exact .inr (BG (neg:=aj) rx (.inr (cD.of ha)) ra e λw rw'=>q w F H (Al.refl ..) rw')
 ·cases e
def bE:List PV->Option PV
 |[.str x]=>aa (.int x.length)
 |[.lst xs]=>aa (.int xs.length)
 |[.tup xs]=>aa (.int xs.length)
 |_=>ae
theorem ik{H:Hp}{F:af->Prop}{x:PV}{vs:List V}(r:Reps K H F [x] vs):∃v,vs=[v]/\aT K H F x v:=by obtain⟨v,r',rfl,h1,h2⟩:=r;rw[show r'=[] from h2];exact⟨v,rfl,h1⟩
theorem gE:PL K (λxs H Q=>∃x n,xs=[x]/\Bw K x H n/\Q (.int n) H) bE:=λF H xs vs Q pv rs e q=>by
 unfold bE at e;split at e
 ·cases e;obtain⟨v,rfl,rv⟩:=ik rs;rw[rv.1];exact⟨_,_,rfl,⟨by rw[kK];exact cR rv.2 lE,rfl⟩,by rw[kK];exact q _ F H (Al.refl ..) rfl⟩
 ·cases e;obtain⟨v,rfl,a,us,rfl,ha,_,ra⟩:=ik rs;exact⟨_,_,rfl,.inl ⟨us,.inl ha,rfl⟩,by rw[ra.len];exact q _ F H (Al.refl ..) rfl⟩
 ·cases e;obtain⟨v,rfl,a,us,rfl,ha,ra⟩:=ik rs;exact⟨_,_,rfl,.inr ⟨us,cD.of ha,rfl⟩,by rw[ra.len];exact q _ F H (Al.refl ..) rfl⟩
 ·cases e
def pX:List PV->Option PO
 |[.lst xs]=>aa (.lst xs)
 |[.tup xs]=>aa (.lst xs)
 |_=>ae
theorem CW:kG K (λxs H Q=>∃p ys,xs=[.ref p]/\(cc K H p ys\/cD K H p ys)/\∀l,H l=ae->Q (.ref l) (upd H l (.lst ys))) pX:=λF H xs vs Q po hF rs e q=>by
 unfold pX at e;split at e
 ·cases e;obtain⟨v,rfl,a,us,rfl,ha,_,ra⟩:=ik rs;exact⟨a,us,rfl,.inl (.inl ha),λl hl=>q l F _ _ (Al.new0 hl) (u0 hl ra) (vg hl hF trivial)⟩
 ·cases e;obtain⟨v,rfl,a,us,rfl,ha,ra⟩:=ik rs;exact⟨a,us,rfl,.inr (cD.of ha),λl hl=>q l F _ _ (Al.new0 hl) (u0 hl ra) (vg hl hF trivial)⟩
 ·cases e
def mJ:List PV->Option PV
 |[.lst xs]=>aa (.tup xs)
 |[.tup xs]=>aa (.tup xs)
 |_=>ae
theorem y6:PL K (λxs H Q=>∃p ys,xs=[.ref p]/\((cc K H p ys/\∀l,H l=ae->Q (.ref l) (upd H l (.tup ys)))\/(cD K H p ys/\Q (.ref p) H))) mJ:=λF H xs vs Q pv rs e q=>by
 unfold mJ at e;split at e
 ·cases e;obtain⟨v,rfl,a,us,rfl,ha,_,ra⟩:=ik rs;exact⟨a,us,rfl,.inl ⟨.inl ha,λl hl=>q _ F _ (Al.new0 hl) ⟨l,us,rfl,cE,(Al.new0 hl).reps ra⟩⟩⟩
 ·cases e;obtain⟨v,rfl,a,us,rfl,ha,ra⟩:=ik rs;exact⟨a,us,rfl,.inr ⟨cD.of ha,q _ F H (Al.refl ..) ⟨a,us,rfl,ha,ra⟩⟩⟩
 ·cases e
def ir:List PV->Option (List Tx)
 |[]=>aa []
 |.str x::xs=>(ir xs).map (x::·)
 |_=>ae
def ao(ls:List Tx):List PV:=ls.map .str
theorem uN(ls:List Tx):ir (ao ls)=aa ls:=by
 induction ls with
 |nil=>rfl
 |cons x ls ih=>show(ir (ao ls)).map (x::·)=_;rw[ih];rfl
theorem uD:∀{xs:List PV}{ls:List Tx},ir xs=aa ls->xs=ao ls
 |[],ls,e=>by cases e;rfl
 |.str x::xs,ls,e=>by
  unfold ir at e;cases q:ir xs with
  |none=>rw[q]at e;cases e
  |some r=>rw[q]at e;cases e;rw[uD q];rfl
 |.non::_,_,e=>by cases e
 |.bl _::_,_,e=>by cases e
 |.int _::_,_,e=>by cases e
 |.tup _::_,_,e=>by cases e
 |.lst _::_,_,e=>by cases e
 |.raw _::_,_,e=>by cases e
 |.exc _::_,_,e=>by cases e
theorem Oe{H:Hp}{F:af->Prop}:∀{ls:List Tx}{vs:List V},Reps K H F (ao ls) vs↔vs=dD ls/\∀x∈ls,x.length<=cx
 |[],vs=>by simp[ao,Reps,dD]
 |x::ls,vs=>by
  show(∃v r,vs=v::r/\(v=tV x/\x.length<=cx)/\Reps K H F (ao ls) r)↔_;constructor
  ·rintro⟨v,r,rfl,⟨rfl,h1⟩,h2⟩;obtain⟨rfl,h3⟩:=Oe.mp h2;exact⟨rfl,λy hy=>by
    rcases bG.mp hy with rfl|hy
    ·exact h1
    ·exact h3 y hy⟩
  ·rintro⟨rfl,h⟩;exact⟨tV x,dD ls,rfl,⟨rfl,h x (by simp)⟩,Oe.mpr ⟨rfl,λy hy=>h y (by simp[hy])⟩⟩
def lx:List PV->Option (List Bool)
 |[]=>aa []
 |.bl b::xs=>(lx xs).map (b::·)
 |_=>ae
theorem Cw{H:Hp}{F:af->Prop}:∀{xs:List PV}{vs:List V}{bs:List Bool},Reps K H F xs vs->lx xs=aa bs->vs=bs.map V.bl
 |[],_,_,r,e=>by cases e;exact r
 |.bl b::xs,_,bs,⟨v,r,rfl,h1,h2⟩,e=>by
  unfold lx at e;cases q:lx xs with
  |none=>rw[q]at e;cases e
  |some r'=>rw[q]at e;cases e;rw[Cw h2 q,show v=V.bl b from h1];rfl
 |.non::_,_,_,_,e=>by cases e
 |.str _::_,_,_,_,e=>by cases e
 |.int _::_,_,_,_,e=>by cases e
 |.tup _::_,_,_,_,e=>by cases e
 |.lst _::_,_,_,_,e=>by cases e
 |.raw _::_,_,_,_,e=>by cases e
 |.exc _::_,_,_,_,e=>by cases e
def n9:List PV->Option PV
 |[.lst xs]=>(lx xs).map λbs=>.bl (bs.all id)
 |_=>ae
theorem zA:PL K (λxs H Q=>∃(p:af) (bs:List Bool),xs=[.ref p]/\cc K H p (bs.map V.bl)/\Q (.bl (bs.all id)) H) n9:=λF H xs vs Q pv rs e q=>by
 unfold n9 at e;split at e
 ·rename_i ys;cases q1:lx ys with
  |none=>rw[q1]at e;cases e
  |some bs=>
   rw[q1]at e;cases e;obtain⟨v,rfl,a,us,rfl,ha,_,ra⟩:=ik rs;rw[Cw ra q1]at ha;exact⟨a,bs,rfl,.inl ha,q _ F H (Al.refl ..) rfl⟩
 ·cases e
def qi:PV->Option String
 |.non=>aa "NoneType"
 |.bl _=>aa "bool"
 |.int _=>aa "int"
 |.str _=>aa "str"
 |.tup _=>aa "tuple"
 |.lst _=>aa "list"
 |_=>ae
def dU:List PV->Option PV
 |[x,.raw (.ty T)]=>(qi x).bind λt=>(d4 [] (.type t) (.type T)).map λb=>.bl b
 |_=>ae
theorem nK:et X (.builtin "isinstance") (λxs H Q=>∃x t T b,xs=[x,.ty T]/\g9 X.K H x (.type t)/\d4 X.K (.type t) (.type T)=aa b/\Q (.bl b) H):=by
 intro ag s σ H xs us Q I r h;obtain⟨x,t,T,b,rfl,ty,e,q⟩:=h;cases r with
 |cons r1 r2=>
  cases r2 with
  |cons r3 r4=>
   cases r4;cases r3;exact IS I r1 ty e λtk=>⟨.bl b,H,I.tok _,rfl,q⟩
theorem Ju{H:Hp}{F:af->Prop}{x:PV}{v:V}{t:String}(r:aT K H F x v)(e:qi x=aa t):g9 K H v (.type t):=by
 cases x with
 |non=>cases e;rw[show v=V.non from r];exact .non
 |bl b=>cases e;rw[show v=V.bl b from r];exact .bl b
 |int b=>cases e;rw[show v=V.int b from r];exact .int b
 |str b=>cases e;rw[show v=tV b from r.1];exact .str _
 |tup xs=>cases e;obtain⟨a,vs,rfl,ha,_⟩:=r;exact .tup ha
 |lst xs=>
  cases e;obtain⟨a,vs,rfl,ha,_⟩:=r;rcases ha with ha|⟨o,ha⟩
  ·exact .lst ha
  ·exact .frz ha
 |raw _=>cases e
 |exc _=>cases e
theorem n4:PL K (λxs H Q=>∃x t T b,xs=[x,.ty T]/\g9 K H x (.type t)/\d4 K (.type t) (.type T)=aa b/\Q (.bl b) H) dU:=λF H xs vs Q pv rs e q=>by
 unfold dU at e;split at e
 ·rename_i x T;cases q1:qi x with
  |none=>rw[q1]at e;cases e
  |some t=>
   cases q2:d4 [] (.type t) (.type T)with
   |none=>rw[q1,iB,q2]at e;cases e
   |some b=>
    rw[q1,iB,q2]at e;cases e;obtain⟨v,r',rfl,h1,h2⟩:=rs;obtain⟨u,rfl,h3⟩:=ik h2;rw[show u=V.ty T from h3];exact⟨v,t,T,b,rfl,Ju h1 q1,q2,q _ F H (Al.refl ..) rfl⟩
 ·cases e
theorem nM{E:XK}{x:Str}{T:String}{pos:Pos}(hm:X.mg x=ae)(hv:eA x=aa (.type T))(hg:Gl X x:=by rfl)(hn:x≠"__name__":=by decide)(hd:(x == ("__debug__" : Str))=aj:=by decide):DE X E (.Name x pos) (dC (.raw (.ty T))):=λF S ε σ H Q r q=>b9 (Jp (v:=.ty T) hg hm hv rfl hn hd) (q F S H r (bp.refl ..) _ rfl)
def cn:PV->PV->Option PV
 |.lst xs,.int i=>fY xs i
 |.tup xs,.int i=>fY xs i
 |.str x,.int i=>(fY x i).map λc=>.str [c]
 |_,_=>ae
theorem Bg{H:Hp}{F:af->Prop}{xs:List PV}{vs:List V}{i:Int}{x:PV}(r:Reps K H F xs vs)(e:fY xs i=aa x):∃v,fY vs i=aa v/\aT K H F x v:=by
 unfold fY at e ⊢;rw[r.len];cases q:jn xs.length i with
 |none=>rw[q]at e;cases e
 |some j=>rw[q]at e;exact r.get e
theorem iy:P2 K (DH K) cn:=λF H x y v u Q pv rx ry e q=>by
 unfold cn at e;split at e
 ·rename_i xs i;obtain⟨a,us,rfl,ha,_,ra⟩:=rx;obtain⟨w,e1,e2⟩:=Bg ra e;exact .inl ⟨a,us,i,w,rfl,ry,.inl ha,e1,q _ F H (Al.refl ..) e2⟩
 ·rename_i xs i;obtain⟨a,us,rfl,ha,ra⟩:=rx;obtain⟨w,e1,e2⟩:=Bg ra e;exact .inr (.inl ⟨a,us,i,w,rfl,ry,cD.of ha,e1,q _ F H (Al.refl ..) e2⟩)
 ·rename_i x i;cases q1:fY x i with
  |none=>rw[q1]at e;cases e
  |some c=>
   rw[q1]at e;cases e;rw[rx.1];exact .inr (.inr ⟨_,i,c,rfl,ry,by rw[kK];exact cR rx.2 lE,by rw[lM];exact q1,q _ F H (Al.refl ..) ⟨rfl,by show 1<=cx;decide⟩⟩)
 ·cases e
def fz{α:Type}(xs:List α)(lo hi:Option Int):List α:=(xs.drop (HT.sIx xs.length 0 lo)).take (HT.sIx xs.length xs.length hi-HT.sIx xs.length 0 lo)
theorem Kj{α:Type}(xs:List α)(lo hi:Option Int):(fz xs lo hi).length<=xs.length:=by unfold fz;rw[mU,j8];lia
def ij:PV->Option Int->Option Int->Option PV
 |.str x,lo,hi=>aa (.str (fz x lo hi))
 |.lst xs,lo,hi=>aa (.lst (fz xs lo hi))
 |.tup xs,lo,hi=>if HT.sIx xs.length 0 lo=0/\HT.sIx xs.length xs.length hi=xs.length then ae else aa (.tup (fz xs lo hi))
 |_,_,_=>ae
def Cd(K:ax):V->Option Int->Option Int->Hp->VK->Prop:=λx lo hi H Q=>CC x lo hi H Q\/(B7 K x lo hi H Q\/Dk K x lo hi H Q)
theorem v_:lD X (Cd X.K):=Oc.or (Of.or IM)
theorem Bu{H:Hp}{F:af->Prop}{xs:List PV}{vs:List V}(r:Reps K H F xs vs)(lo hi:Option Int):Reps K H F (fz xs lo hi) (mD vs lo hi):=by unfold fz mD;rw[r.len];exact(r.drop _).take _
theorem vW:CI K (Cd K) ij:=λF H x lo hi v Q pv rx e q=>by
 unfold ij at e;split at e
 ·cases e;rw[rx.1];refine .inl ⟨_,rfl,by rw[kK];exact cR rx.2 lE,?_⟩;refine q _ F H (Al.refl ..) ⟨?_,cR (Kj ..) rx.2⟩;unfold kI fz;rw[kK,lM];rfl
 ·cases e;obtain⟨a,us,rfl,ha,_,ra⟩:=rx;exact .inr (.inl ⟨a,us,rfl,.inl ha,λp hp=>q _ _ _ (Al.new hp) ⟨p,_,rfl,.inl cE,.inr rfl,(Al.new hp).reps (Bu ra lo hi)⟩⟩)
 ·split at e
  ·cases e
  ·rename_i hw;cases e;obtain⟨a,us,rfl,ha,ra⟩:=rx;exact .inr (.inr ⟨a,us,rfl,cD.of ha,by rw[ra.len];exact hw,λp hp=>q _ _ _ (Al.new0 hp) ⟨p,_,rfl,cE,(Al.new0 hp).reps (Bu ra lo hi)⟩⟩)
 ·cases e
variable{E:XK}{tg l a b:aB}{d:ak->R PV}{ds:ak->R (List PV)}{p pos:Pos}
def iu:PV->Option (List PV)
 |.lst xs=>aa xs
 |.tup xs=>aa xs
 |.str x=>aa (x.map λc=>.str [c])
 |_=>ae
def cg(d:ak->R PV):ak->R (List PV):=λε=>(d ε).bind λx ε1=>bg (iu x) ε1
theorem BV{H:Hp}{F:af->Prop}:∀(x:Tx),Reps K H F (x.map λc=>PV.str [c]) (x.map sg)
 |[]=>rfl
 |c::x=>⟨sg c,x.map sg,rfl,⟨rfl,by show 1<=cx;decide⟩,BV x⟩
theorem jb(he:DE X E l d):DI X E tg l (cg d):=λF S ε σ H Rr rl h=>Bx.mk λag s I=>by
 have w:=he F S ε σ H (λv H1=>∃F1 S1 ε1 x,aP X.K F1 S1 ε1 σ H1/\aT X.K H1 F1 x v/\Ok X.K E σ F1 S1 H1 (bg (iu x) ε1) (λpvs _ F' S' H'=>∀J vs RR,Reps X.K H' F' pvs vs->vs.length<=a_->Walk J vs RR->(∀S'' F'' H'',bp (U S') (U S'') F' F'' H' H''->RR H'')->Rr J H')) rl
  ((Ok.bind h).imp λx ε1 F1 S1 H1 r1 g1 h1 v rv=>⟨F1,S1,ε1,x,r1,rv,h1⟩)
 refine aV (w.run ag s I) λv s1 ⟨x,H1,I1,rx,F1,S1,ε1,pv,r1,rv,h1⟩=>?_;cases pv with
 |lst xs=>
  obtain⟨a,us,rfl,ha,hF,ra⟩:=rv;cases rx;obtain⟨its,rr,pp,hz⟩:=I1.list (.inl ha);refine EL pp.isList ?_;refine⟨s1.heap.objs.size,[s1.heap.objs.size],_,_,H1,rfl,I1.kept (t':=s1.toks) λb o e=>bH _ e,J4 a _,⟨_,cZ _ rfl,rfl,rfl⟩,λb hb=>?_,h1 F1 S1 H1 r1 (bp.refl ..) (xz X.K a) us (λH=>cc X.K H a us) ra hz Kf λS2 F2 H2 g2=>.inl (g2.lst r1.fit hF ha)⟩;have e:b=s1.heap.objs.size:=by simpa using hb
  subst e;exact I1.fpOk (a9 _) (I1.hok.fresh (a9 _))
 |tup xs=>
  obtain⟨a,us,rfl,ha,ra⟩:=rv;cases rx;obtain⟨its,rr,pp,hz⟩:=I1.tuple (cD.of ha);refine wpAny_pyIter_tuple (show s1.heap.IsTuple a its.toArray from pp) ?_;refine⟨s1.heap.objs.size,[s1.heap.objs.size],_,_,H1,rfl,I1.kept (t':=s1.toks) λb o e=>bH _ e,Me a _,⟨_,cZ _ rfl,rfl,rfl⟩,λb hb=>?_,h1 F1 S1 H1 r1 (bp.refl ..) (yJ X.K a) us (λH=>cD X.K H a us) ra hz Gj λS2 F2 H2 g2=>cD.of (g2.imm r1.fit ha id)⟩;have e:b=s1.heap.objs.size:=by simpa using hb
  subst e;exact I1.fpOk (a9 _) (I1.hok.fresh (a9 _))
 |str z=>
  obtain⟨rfl,hz⟩:=rv;obtain⟨t,rfl⟩:=rx;have qq:Rr (sM (tS z)) H1:=h1 F1 S1 H1 r1 (bp.refl ..) (sM (tS z)) (z.map sg) (λ_=>True) (BV z) (by rw[dy];exact cR hz lE) (by have:=KW (z:=tS z);rw[lM]at this;exact this) λ_ _ _ _=>trivial;have fin:∀(n:String) (St':Nat->aA->Prop),(∀i h,St' i h->∃o n vs,h.get? s1.heap.objs.size=aa o/\o.cls=.type n/\o.data=.fields vs /\ ["enumerate","zip","dict_itemiterator","dict_reverseitemiterator","odict_iterator","itertools.zip_longest","itertools.pairwise"].contains n=aj) ->
    (∀(A:aO) (i:Nat) (s:am) (Q:ai->am->Prop) (E:ai->am->Prop),St' i s.heap->Q (.ref s1.heap.objs.size) s->aq (aw X.prog X.w) A (mT (.ref s1.heap.objs.size)) Q E s) ->
    (∀A:aO,A.handled=ae->Walks X.prog X.w A s1.heap.objs.size [s1.heap.objs.size] [s1.heap.objs.size] (tS z).cps.size (SignAt (tS z)) St') ->
    St' 0 (s1.heap.push {cls:=.type n,data:=.fields #[.str (tS z) t,.int 0 0]}) ->
    uJ X ag σ tg Rr (.ref s1.heap.objs.size) {s1 with heap:=s1.heap.push {cls:=.type n,data:=.fields #[.str (tS z) t,.int 0 0]}}:=λn St' h1 h2 h3 h4=>by
   refine⟨s1.heap.objs.size,[s1.heap.objs.size],St',sM (tS z),H1,rfl,I1.kept (t':=s1.toks) λb o e=>bH _ e,LV h1 h2 h3,h4,λb hb=>?_,qq⟩;have e:b=s1.heap.objs.size:=by simpa using hb
   subst e;exact I1.fpOk (a9 _) (I1.hok.fresh (a9 _))
  cases ha:(tS z).cps.all (· < 128)
  ·refine wpAny_pyIter_wide ha (fin "str_iterator" (λi h=>h.IsStrIter s1.heap.objs.size "str_iterator" (tS z) t i) (λi h ⟨o,e1,e2,e3⟩=>⟨o,_,_,e1,e2,e3,by decide⟩) (λA i s Q E st h=>wpAny_pyIter_striter_wide st h) (λA' hA=>Walks.strWide hA _ (tS z) t) ⟨_,cZ _ rfl,rfl,rfl⟩)
  ·refine wpAny_pyIter_ascii ha (fin "str_ascii_iterator" (λi h=>h.IsStrIter s1.heap.objs.size "str_ascii_iterator" (tS z) t i) (λi h ⟨o,e1,e2,e3⟩=>⟨o,_,_,e1,e2,e3,by decide⟩) (λA i s Q E st h=>wpAny_pyIter_striter_ascii st h) (λA' hA=>Walks.strAscii hA _ (tS z) t) ⟨_,cZ _ rfl,rfl,rfl⟩)
 |non=>exact(show False from h1).elim
 |bl _=>exact(show False from h1).elim
 |int _=>exact(show False from h1).elim
 |raw _=>exact(show False from h1).elim
 |exc _=>exact(show False from h1).elim
def dH(lo:Int)(n:Nat):List PV:=(bX n).map λi=>PV.int (lo+(i:Nat))
theorem G1{H:Hp}{F:af->Prop}(lo:Int)(n:Nat):Reps K H F (dH lo n) (pN lo n):=by
 unfold dH pN
 induction (bX n)with
 |nil=>rfl
 |cons x xs ih=>exact⟨_,_,rfl,rfl,ih⟩
def i6:List PV->Option (List PV)
 |[.int j]=>if j<=1000000/\-1000000<=j then aa (dH 0 j.toNat)else ae
 |_=>ae
theorem rQ(hm:X.mg "range" = ae)(ha:DA X E [a] ds)(hg:Gl X "range":=by rfl)(hs:aL [a] X.env=[(aj,aU a X.env)]:=by rfl):DI X E tg (.Call (.Name "range" p) [a] [] pos) (dL i6 ds):=λF S ε σ H Rr rl h=>by
 refine Ir (Np hg hm gD hs) (ha F S ε σ H _ rl ((Ok.bind h).imp λxs ε1 F1 S1 H1 r1 g1 h1 vs kl=>?_));unfold i6 at h1;split at h1
 ·rename_i j;split at h1
  ·rename_i hj;obtain⟨v,rfl,rv⟩:=ik kl;refine⟨j,by rw[show v=V.int j from rv],∅,∅,h1 F1 S1 H1 r1 (bp.refl ..) _ _ _ (G1 0 j.toNat) (by rw[xJ,oB];lia) IY λ_ _ _ _=>trivial⟩
  ·exact h1.elim
 ·exact h1.elim
end
section
variable{K:ax}{F:af->Prop}{S:Nat->af->Prop}{ε:ak}{σ:St}{H:Hp}{i:Nat}{xs xs':List PV}{vs':List V}{a:af}
theorem aP.lstAt(r:aP K F S ε σ H)(e:ε[i]?=aa (.own (.lst xs))):∃a vs,σ[i]?=aa (aa (.ref a))/\H a=aa (.lst vs)/\Reps K H F xs vs/\S i a/\∀b,S i b->b=a:=by obtain⟨a,e1,⟨vs,h1,h2⟩,h3⟩:=r.own i _ e;exact⟨a,vs,e1,h1,h2,(h3 a).mpr rfl,λb h=>(h3 b).mp h⟩
theorem aP.upd(r:aP K F S ε σ H)(e:ε[i]?=aa (.own (.lst xs)))(ea:σ[i]?=aa (aa (.ref a)))(h:Reps K H F xs' vs'):aP K F S (ε.set i (.own (.lst xs'))) σ (upd H a (.lst vs'))/\bp (U S) (U S) F F H (upd H a (.lst vs')):=by
 obtain⟨a',vs,e1,h1,h2,h3,h4⟩:=r.lstAt e;rw[ea]at e1;cases e1;have hi:i<ε.length:=(df.mp e).1;have g:bp (U S) (U S) F F H (L2.upd H a (.lst vs')):=⟨λ_ z=>z,λb o q n=>by rw[b7 (by rintro rfl;exact n ⟨i,h3⟩)];exact q,λb o q=>by
  by_cases hb:b=a
  ·subst hb;exact⟨_,cE⟩
  ·exact⟨o,by rw[b7 hb];exact q⟩,λ_ z=>.inl z,λ_ z=>.inl z⟩
 refine⟨⟨by rw[fE];exact r.len,λb z=>let ⟨o,q⟩:=r.ex b z;g.there b o q,λj pv q=>?_,λj po q=>?_,λj b z=>?_,r.dist⟩,g⟩
 ·have hj:i≠j:=by rintro rfl;rw[ff hi]at q;cases q
  rw[dO hj]at q;obtain⟨v,q1,q2⟩:=r.val j pv q;exact⟨v,q1,q2.grow g r.fit⟩
 ·by_cases hj:i=j
  ·subst hj;rw[ff hi]at q;cases q;exact⟨a,ea,⟨vs',cE,h.grow g r.fit⟩,λb=>⟨h4 b,λz=>by rw[z];exact h3⟩⟩
  ·rw[dO hj]at q;obtain⟨c,q1,q2⟩:=r.own j po q;refine⟨c,q1,q2.mono (λ_ _ z=>z.grow g r.fit) (λ_ _ z=>z.grow g r.fit) λb o z w=>?_⟩;rw[b7 (by rintro rfl;exact hj (r.dist i j b h3 z))];exact w
 ·obtain⟨⟨po,q1⟩,q2,o,q3,q4⟩:=r.foot j b z;by_cases hj:i=j
  ·subst hj;rw[h4 b z];exact⟨⟨_,ff hi⟩,by rw[←h4 b z];exact q2,_,cE,trivial⟩
  ·exact⟨⟨po,by rw[dO hj];exact q1⟩,q2,o,by rw[b7 (by rintro rfl;exact hj (r.dist i j b h3 z))];exact q3,q4⟩
end
section
variable{X:Cx}{E:XK}{pin:List Nat}{e b:aB}{de db:ak->R PV}{pos:Pos}
def dQ(ε:ak)(i:Nat):Option (List PV):=match ε[i]? with
 |some (.own (.lst xs))=>aa xs
 |_=>ae
theorem iq{ε:ak}{i:Nat}{xs:List PV}(h:dQ ε i=aa xs):ε[i]?=aa (.own (.lst xs)):=by
 unfold dQ at h;split at h
 ·cases h;assumption
 ·cases h
def n5(i:Nat)(de:ak->R PV):ak->R aS:=λε=>(bg (dQ ε i) ε).bind λ_ ε=>(de ε).bind λy ε1=>(bg (dQ ε1 i) ε1).bind λxs ε1=>if xs.length<cx then .ok .next (ε1.set i (.own (.lst (xs++[y]))))else .no
theorem CM(i:Nat){x:Str}{p apos cpos:Pos}(he:DE X E e de)(hN:X.N[i]?=aa x:=by rfl)(hv:fH X.env.scope x:=by first|exact Or.inl rfl|exact Or.inr (Or.inl rfl)|exact Or.inr (Or.inr rfl))(hd:(x == ("__debug__" : Str))=aj:=by decide)(bU:(x == ("__classdict__" : Str))=aj:=by decide) (h1:k8 (.Name x p) "append" X.env (aU (.Name x p) X.env)=aU (.Name x p) X.env:=by rfl)(h2:((cL cpos (aL [e] X.env)).all (λx=>!x.1)&&(qz cpos (qA [] X.env)).all (λx=>x.1.isSome)&&decide ([e].length+([]:List jf).length+(if([]:List jf).isEmpty then 0 else 1)<30))=ah:=by rfl)(h3:(apos.endLine == cpos.line)=ah:=by rfl) (h4:aL [e] X.env=(aj,aU e X.env)::aL [] X.env:=by rfl) (h5:(cL cpos (aL [] X.env)).any (·.1)=aj:=by rfl)(hs:kZ (.Call (.Attribute (.Name x p) "append" apos) [e] [] cpos) ae pos.line X.env=pure aj:=by rfl):DS X E pin (.Expr (.Call (.Attribute (.Name x p) "append" apos) [e] [] cpos) pos) (n5 i de):=λF S ε σ H D rl h=>by
 unfold n5 at h;cases e0:dQ ε i with
 |none=>rw[e0]at h;exact h.elim
 |some xs0=>
  rw[e0]at h;simp only[eK,R.bind_ok]at h;obtain⟨a,vs0,ea,ha,_,_,_⟩:=rl.lstAt (iq e0);refine gX (yu (vQ Ac PySem.F.slot_list_append PySem.F.type_list_append CS (gU hN hv hd bU) (io bL jt h4) h1 h2 h3 h4 h5) hs) ⟨.ref a,ea,.inl ⟨rfl,_,cc.of ha⟩,?_⟩;refine he F S ε σ H _ rl (h.bindE.imp λy ε1 F1 S1 H1 r1 g1 q v rv=>?_);cases e1:dQ ε1 i with
  |none=>rw[e1]at q;exact q.elim
  |some xs=>
   rw[e1]at q;simp only[eK,R.bind_ok]at q;obtain⟨a',vs,ea',mo,ra,_,_⟩:=r1.lstAt (iq e1);rw[ea]at ea';cases ea';split at q
   ·rename_i hl;obtain⟨r2,g2⟩:=r1.upd (iq e1) ea (ra.app (.one rv));exact⟨a,vs,v,rfl,rfl,mo,by rw[ra.len];exact fN hl lE,q F1 S1 σ _ r2 g2 (ie.refl _ _)⟩
   ·exact q.elim
def J0:V->List V->Hp->VK->Prop:=λx vs H Q=>∃l b xs zs,x=.ref l/\vs=[.ref b]/\H l=aa (.lst xs)/\Rd H b (.lst zs)/\xs.length+zs.length<=a_/\Q .non (L2.upd H l (.lst (xs++zs)))
theorem Ku:sT X "list.extend" J0:=by
 intro ag s σ H x vs v us Q I rx rv h;obtain⟨l,b,xs,zs,rfl,rfl,hH,hB,hz,q⟩:=h;cases rx;obtain⟨u,rfl,ru⟩:=rv.one;cases ru;obtain⟨z,its,n,r,hl,e⟩:=I.lstM hH;obtain⟨its2,n2,r2,e2,_⟩:=yT I hB;have jI:=r2.length;have hsz:its.toArray.size+its2.toArray.size<=a_:=by rw[ce,ce];lia
 have wZ:¬(!its.toArray.isEmpty&&EH (its.toArray.size+its2.toArray.size))=ah:=by rw[LJ hsz,wy];exact eT
 refine qD F.slot_list_extend ⟨_,e,rfl⟩ F.entry_list_extend (F.args_list_extend_2 _ _)
  (AutoSeq1.list_extend_list_list_0 l its.toArray n b its2.toArray n2 wZ (by rw[ce];lia) ∅) ⟨e,e2,?_⟩
 refine⟨.non,_,I.lset (its':=its++its2) hH e (by simp) (r.append r2) ?_,rfl,q⟩;rw[ef];lia
def lK(i:Nat)(de:ak->R PV):ak->R aS:=λε=>(bg (dQ ε i) ε).bind λ_ ε=>(de ε).bind λy ε1=>(bg (dQ ε1 i) ε1).bind λxs ε1=>match y with
 |.lst ys=>if xs.length+ys.length<=cx then .ok .next (ε1.set i (.own (.lst (xs++ys))))else .no
 |_=>.no
theorem ya(i:Nat){x:Str}{p apos cpos:Pos}(he:DE X E e de)(hN:X.N[i]?=aa x:=by rfl)(hv:fH X.env.scope x:=by first|exact Or.inl rfl|exact Or.inr (Or.inl rfl)|exact Or.inr (Or.inr rfl))(hd:(x == ("__debug__" : Str))=aj:=by decide)(bU:(x == ("__classdict__" : Str))=aj:=by decide) (h1:k8 (.Name x p) "extend" X.env (aU (.Name x p) X.env)=aU (.Name x p) X.env:=by rfl)(h2:((cL cpos (aL [e] X.env)).all (λx=>!x.1)&&(qz cpos (qA [] X.env)).all (λx=>x.1.isSome)&&decide ([e].length+([]:List jf).length+(if([]:List jf).isEmpty then 0 else 1)<30))=ah:=by rfl)(h3:(apos.endLine == cpos.line)=ah:=by rfl) (h4:aL [e] X.env=(aj,aU e X.env)::aL [] X.env:=by rfl) (h5:(cL cpos (aL [] X.env)).any (·.1)=aj:=by rfl)(hs:kZ (.Call (.Attribute (.Name x p) "extend" apos) [e] [] cpos) ae pos.line X.env=pure aj:=by rfl):DS X E pin (.Expr (.Call (.Attribute (.Name x p) "extend" apos) [e] [] cpos) pos) (lK i de):=λF S ε σ H D rl h=>by
 unfold lK at h;cases e0:dQ ε i with
 |none=>rw[e0]at h;exact h.elim
 |some xs0=>
  rw[e0]at h;simp only[eK,R.bind_ok]at h;obtain⟨a,vs0,ea,ha,_,_,_⟩:=rl.lstAt (iq e0);refine gX (yu (vQ Ac PySem.F.slot_list_extend PySem.F.type_list_extend Ku (gU hN hv hd bU) (io bL jt h4) h1 h2 h3 h4 h5) hs) ⟨.ref a,ea,.inl ⟨rfl,_,cc.of ha⟩,?_⟩;refine he F S ε σ H _ rl (h.bindE.imp λy ε1 F1 S1 H1 r1 g1 q v rv=>?_);cases e1:dQ ε1 i with
  |none=>rw[e1]at q;exact q.elim
  |some xs=>
   rw[e1]at q;simp only[eK,R.bind_ok]at q;obtain⟨a',vs,ea',mo,ra,_,_⟩:=r1.lstAt (iq e1);rw[ea]at ea';cases ea';split at q
   ·rename_i ys;split at q
    ·rename_i hl;obtain⟨c,us,rfl,hc,_,rc⟩:=rv;obtain⟨r2,g2⟩:=r1.upd (iq e1) ea (ra.app rc);exact⟨a,c,vs,us,rfl,rfl,mo,hc,by rw[ra.len,rc.len];exact cR hl lE,q F1 S1 σ _ r2 g2 (ie.refl _ _)⟩
    ·exact q.elim
   ·exact q.elim
def v5(i:Nat)(db de:ak->R PV):ak->R aS:=λε=>(de ε).bind λy ε1=>(bg (dQ ε1 i) ε1).bind λ_ ε1=>(db ε1).bind λk ε2=>(bg (dQ ε2 i) ε2).bind λxs ε2=>match k with
 |.int k=>match jn xs.length k with
  |some j=>.ok .next (ε2.set i (.own (.lst (xs.set j y))))
  |none=>.no
 |_=>.no
theorem KP(i:Nat){x:Str}{p tpos:Pos}(hb:DE X E b db)(he:DE X E e de)(hN:X.N[i]?=aa x:=by rfl)(hv:fH X.env.scope x:=by first|exact Or.inl rfl|exact Or.inr (Or.inl rfl)|exact Or.inr (Or.inr rfl))(hd:(x == ("__debug__" : Str))=aj:=by decide)(bU:(x == ("__classdict__" : Str))=aj:=by decide) (ha:∀v,mS (.Subscript (.Name x p) b tpos) X.env v=(do
   let ov ←j4 [v] (aU (.Name x p) X.env)
   let iv ←j4 [v,ov] (aU b X.env)
   standAt tpos
   j4 [v,ov,iv] (setItem ov iv v)
   release [v,ov,iv] []):=by intro _;rfl) (hs:swapsWithSole [.Subscript (.Name x p) b tpos] e pos.line X.env=pure aj:=by rfl) (hw:swappedStores [.Subscript (.Name x p) b tpos] e X.env=pure ae:=by rfl)
  (h1:(qr [.Subscript (.Name x p) b tpos] X.env).map (·.2)=[mS (.Subscript (.Name x p) b tpos) X.env]:=by rfl):DS X E pin (.Assign [.Subscript (.Name x p) b tpos] e pos) (v5 i db de):=λF S ε σ H D rl h=>by
 refine gX (Ce bL (Fu (gU hN hv hd bU) bL M8 ha) hs hw h1) (he F S ε σ H _ rl (h.bindE.imp λy ε1 F1 S1 H1 r1 g1 q v rv=>?_));cases e0:dQ ε1 i with
 |none=>rw[e0]at q;exact q.elim
 |some xs0=>
  rw[e0]at q;simp only[eK,R.bind_ok]at q;obtain⟨a,vs0,ea,ha0,_,_,_⟩:=r1.lstAt (iq e0);refine⟨.ref a,ea,hb F1 S1 ε1 σ H1 _ r1 (q.bindE.imp λk ε2 F2 S2 H2 r2 g2 q2 u ru=>?_)⟩;cases e1:dQ ε2 i with
  |none=>rw[e1]at q2;exact q2.elim
  |some xs=>
   rw[e1]at q2;simp only[eK,R.bind_ok]at q2;obtain⟨a',vs,ea',mo,ra,_,_⟩:=r2.lstAt (iq e1);rw[ea]at ea';cases ea';split at q2
   ·rename_i k;split at q2
    ·rename_i j hj;obtain⟨r3,g3⟩:=r2.upd (iq e1) ea (ra.set (rv.grow g2 r1.fit) j);exact⟨a,vs,k,j,rfl,ru,mo,by rw[ra.len];exact hj,q2 F2 S2 σ _ r3 g3 (ie.refl _ _)⟩
    ·exact q2.elim
   ·exact q2.elim
end
mutual
def imm:PV->Bool
 |.lst _=>aj
 |.tup xs=>lC xs
 |_=>ah
def lC:List PV->Bool
 |[]=>ah
 |x::xs=>imm x&&lC xs
end
mutual
theorem aT.imm{K:ax}{H:Hp}{F F':af->Prop}:∀(x:PV) {v:V},imm x=ah->aT K H F x v->aT K H F' x v
 |.non,_,_,h=>h
 |.bl _,_,_,h=>h
 |.int _,_,_,h=>h
 |.str _,_,_,h=>h
 |.raw _,_,_,h=>h
 |.exc _,_,_,h=>h
 |.lst _,_,e,_=>by simp[Pu.imm]at e
 |.tup xs,_,e,⟨a,vs,e1,h1,h2⟩=>⟨a,vs,e1,h1,Reps.imm xs (by simpa[Pu.imm]using e) h2⟩
theorem Reps.imm{K:ax}{H:Hp}{F F':af->Prop}:∀(xs:List PV) {vs:List V},lC xs=ah->Reps K H F xs vs->Reps K H F' xs vs
 |[],_,_,h=>h
 |x::xs,_,e,⟨v,r,e1,h1,h2⟩=>by
  have e':imm x=ah/\lC xs=ah:=by simpa[lC]using e
  exact⟨v,r,e1,aT.imm x e'.1 h1,Reps.imm xs e'.2 h2⟩
end
section
variable{K:ax}{F:af->Prop}{S:Nat->af->Prop}{ε:ak}{σ:St}{H:Hp}{i:Nat}{xs:List PV}
theorem aP.look(r:aP K F S ε σ H)(e:ε[i]?=aa (.own (.lst xs))):∃a,σ[i]?=aa (aa (.ref a))/\¬F a/\aT K H (λb=>F b\/b=a) (.lst xs) (.ref a)/\(∀b,F b\/b=a->∃o,H b=aa o) /\ (∀{F' H'},Al (λb=>F b\/b=a) F' H H'->Al F (λb=>F' b/\b≠a) H H'):=by
 obtain⟨a,vs,e1,h1,h2,h3,h4⟩:=r.lstAt e;have nF:¬F a:=(r.foot i a h3).2.1;refine⟨a,e1,nF,⟨a,vs,rfl,.inl h1,.inr rfl,Reps.mono (λ_ z=>.inl z) (λ_ _ _ z=>z) (λ_ _ z _=>z) _ _ h2⟩,λb z=>z.elim (r.ex b) λz=>by rw[z];exact⟨_,h1⟩,λ{F' H'} al=>⟨λb z=>⟨al.fro b (.inl z),by rintro rfl;exact nF z⟩,al.same,λb z=>?_⟩⟩;rcases al.fnew b z.1 with(w|w)|w
 ·exact .inl w
 ·exact absurd w z.2
 ·exact .inr w
end
section
variable{X:Cx}{E:XK}{e b:aB}{de db:ak->R PV}{pos p:Pos}{x y:Str}{id T:String}{r:List V->Hp->VK->Prop}{f:List PV->Option PV}{fn:List PV->Option PO}
def nS(o:Option PV):Option PV:=o.bind λv=>if imm v then aa v else ae
theorem FW{o:Option PV}{v:PV}(h:nS o=aa v):o=aa v/\imm v=ah:=by
 cases o with
 |none=>cases h
 |some w=>
  have h:(if imm w then aa w else ae)=aa v:=h;split at h
  ·cases h;exact⟨rfl,by assumption⟩
  ·cases h
def Dw:PO->Bool
 |.lst xs=>lC xs
 |_=>aj
def i9{α:Type}(f:List PV->Option α)(i:Nat):ak->R α:=λε=>(bg (dQ ε i) ε).bind λxs ε=>bg (f [.lst xs]) ε
theorem Nn{F:af->Prop}{S:Nat->af->Prop}{ε:ak}{σ:St}{H:Hp}{Q:VK}{i:Nat}(hp:PL X.K r f)(rl:aP X.K F S ε σ H)(h:Ok X.K E σ F S H (i9 (λxs=>nS (f xs)) i ε) (λpv _ F' _ H'=>∀v,aT X.K H' F' pv v->Q v H')):∃a,σ[i]?=aa (aa (.ref a))/\r [.ref a] H Q:=by
 unfold i9 at h;cases e0:dQ ε i with
 |none=>rw[e0]at h;exact h.elim
 |some xs=>
  rw[e0]at h;simp only[eK,R.bind_ok]at h;obtain⟨a,ea,nF,ra,hex,fS⟩:=rl.look (iq e0);refine⟨a,ea,?_⟩;cases e1:nS (f [.lst xs])with
  |none=>rw[e1]at h;exact h.elim
  |some pv=>rw[e1]at h;obtain⟨e2,e3⟩:=FW e1;exact hp _ H [.lst xs] [.ref a] Q pv (.one ra) e2 λw F' H' al rw'=>h _ S H' (rl.al (fS al)) (fS al).grow w (aT.imm pv e3 rw')
theorem Di(i:Nat)(hc:et X (.builtin id) r)(hp:PL X.K r f)(hm:X.mg x=ae)(hv:eA x=aa (.builtin id))(hN:X.N[i]?=aa y:=by rfl)(km:fH X.env.scope y:=by first|exact Or.inl rfl|exact Or.inr (Or.inl rfl)|exact Or.inr (Or.inr rfl))(hd:(y == ("__debug__" : Str))=aj:=by decide) (bU:(y == ("__classdict__" : Str))=aj:=by decide) (hg:Gl X x:=by rfl) (hn:x≠"__name__":=by decide) (gK:(x == ("__debug__" : Str))=aj:=by decide) {yp:Pos}(he:aL [.Name y yp] X.env=(aj,aU (.Name y yp) X.env)::aL [] X.env:=by rfl) (cS:(cL pos (aL [] X.env)).any (·.1)=aj:=by rfl):DE X E (.Call (.Name x p) [.Name y yp] [] pos) (i9 (λxs=>nS (f xs)) i):=λF S ε σ H Q rl q=>by obtain⟨a,ea,hr⟩:=Nn hp rl q;exact b9 (oq hc hg hm hv (io (gU hN km hd bU) jt he) hn gK he cS) ⟨_,ea,hr⟩
def qe(o:Option PO):Option PO:=o.bind λv=>if Dw v then aa v else ae
theorem L4{F:af->Prop}{S:Nat->af->Prop}{ε:ak}{σ:St}{H:Hp}{Q:VK}{i:Nat}(hp:kG X.K r fn)(rl:aP X.K F S ε σ H)(h:Ok X.K E σ F S H (i9 (λxs=>qe (fn xs)) i ε) (λpo _ F' S' H'=>∀a Sa,eR X.K H' F' po a Sa->(∀b,Sa b->H b=ae/\¬F' b/\¬U S' b/\∃o,H' b=aa o/\dR o)->Q (.ref a) H')):∃a,σ[i]?=aa (aa (.ref a))/\r [.ref a] H Q:=by
 unfold i9 at h;cases e0:dQ ε i with
 |none=>rw[e0]at h;exact h.elim
 |some xs=>
  rw[e0]at h;simp only[eK,R.bind_ok]at h;obtain⟨a,ea,nF,ra,hex,fS⟩:=rl.look (iq e0);refine⟨a,ea,?_⟩;cases e1:fn [.lst xs]with
  |none=>rw[e1]at h;exact h.elim
  |some po=>
   rw[e1]at h;cases po with
   |dK kvs=>exact h.elim
   |lls iT=>exact h.elim
   |ins C fs=>exact h.elim
   |dT kvs=>exact h.elim
   |inl C fs y xs=>exact h.elim
   |lst ys=>
    have h:Ok X.K E σ F S H (bg (if lC ys then aa (PO.lst ys)else ae) ε) _:=h;split at h
    ·rename_i hi;refine hp _ H [.lst xs] [.ref a] Q _ hex (.one ra) e1 λc F' H' Sa al ow fr=>h _ S H' (rl.al (fS al)) (fS al).grow c Sa ?_ λb z=>?_
     ·obtain⟨⟨vs,o1,o2⟩,o3⟩:=ow;exact⟨⟨vs,o1,Reps.imm ys hi o2⟩,o3⟩
     ·obtain⟨z1,z2,o,z3,z4⟩:=fr b z;refine⟨z1,λw=>z2 w.1,λ⟨j,w⟩=>?_,o,z3,z4⟩;obtain⟨_,_,o',w1,_⟩:=rl.foot j b w;rw[z1]at w1;cases w1
    ·exact h.elim
theorem KZ(i:Nat)(hc:et X (.builtin id) r)(hp:kG X.K r fn)(hm:X.mg x=ae)(hv:eA x=aa (.builtin id))(hN:X.N[i]?=aa y:=by rfl)(km:fH X.env.scope y:=by first|exact Or.inl rfl|exact Or.inr (Or.inl rfl)|exact Or.inr (Or.inr rfl))(hd:(y == ("__debug__" : Str))=aj:=by decide) (bU:(y == ("__classdict__" : Str))=aj:=by decide) (hg:Gl X x:=by rfl) (hn:x≠"__name__":=by decide) (gK:(x == ("__debug__" : Str))=aj:=by decide) {yp:Pos}(he:aL [.Name y yp] X.env=(aj,aU (.Name y yp) X.env)::aL [] X.env:=by rfl) (cS:(cL pos (aL [] X.env)).any (·.1)=aj:=by rfl):DN X E (.Call (.Name x p) [.Name y yp] [] pos) (i9 (λxs=>qe (fn xs)) i):=λF S ε σ H Q rl q=>by obtain⟨a,ea,hr⟩:=L4 hp rl q;exact b9 (oq hc hg hm hv (io (gU hN km hd bU) jt he) hn gK he cS) ⟨_,ea,hr⟩
end
end Pu
namespace Pu
open L2
def jT(h:aA)(e T:af)(c fl:ai):Prop:=∃oe vs oT ts,h.get? e=aa oe/\oe.cls=c/\(oe.data=.fields vs/\oe.dict=ae)/\vs[1]?=aa (.ref T)/\T≠e/\h.get? T=aa oT/\oT.data=.fields ts/\ts[3]?=aa fl
def Made(h:aA)(e:af)(c:ai):Prop:=∃oe vs,h.get? e=aa oe/\oe.cls=c/\(oe.data=.fields vs/\oe.dict=ae)/\vs[1]?=aa .none
structure Kp(fs:List af)(X:af->Prop)(h h':aA):Prop where
 keep:∀b o,h.get? b=aa o->b∉fs->¬X b->h'.get? b=aa o
 slot:∀b o,h.get? b=aa o->b∈fs->¬X b->∃sl,h'.get? b=aa {o with slots:=sl}
 there:∀b o,h.get? b=aa o->∃o',h'.get? b=aa o'
theorem Kp.trans{fs:List af}{X Y:af->Prop}{h h1 h2:aA}(a:Kp fs X h h1)(b:Kp fs Y h1 h2):Kp fs (λc=>X c\/Y c) h h2 where
 keep:=λc o e n x=>b.keep c o (a.keep c o e n λz=>x (.inl z)) n λz=>x (.inr z)
 slot:=λc o e n x=>by obtain⟨sl,e1⟩:=a.slot c o e n λz=>x (.inl z);obtain⟨sl2,e2⟩:=b.slot c _ e1 n λz=>x (.inr z);exact⟨sl2,e2⟩
 there:=λc o e=>let ⟨o',e'⟩:=a.there c o e;b.there c o' e'
theorem Kp.imp{fs fs':List af}{X Y:af->Prop}{h h':aA}(a:Kp fs X h h')(hfs:∀b,b∈fs->b∈fs')(hX:∀b o,h.get? b=aa o->X b->Y b):Kp fs' Y h h' where
 keep:=λc o e n x=>a.keep c o e (λz=>n (hfs c z)) λz=>x (hX c o e z)
 slot:=λc o e n x=>by
  by_cases hc:c∈fs
  ·exact a.slot c o e hc λz=>x (hX c o e z)
  ·exact⟨o.slots,a.keep c o e hc λz=>x (hX c o e z)⟩
 there:=a.there
theorem IR(f:Array ai->Array ai)(o:Obj):(l9 f o).dict=o.dict:=by
 obtain⟨c,d,dt,sl⟩:=o;cases dt <;> rfl
section
variable{M:Model}{A:aO}{E:ai->am->Prop}{s:am}
theorem BP{base:aA}{env:Env}{outer:List Env}{L e:af}{oe:Obj}{vs:Array ai}{w_:ai}{NU:Bool}{Q:Unit->am->Prop}(lp:A.frames=aa (env::outer)) (hl:s.heap.FunFrames base (env::outer)) (hf:env.frame=aa L) (he:s.heap.get? e=aa oe) (hd:oe.data=.fields vs) (oX:oe.dict=ae) (hsz:1<vs.size)(h:∀h' T,Kp (eF (env::outer)) (λb=>b=e) s.heap h'->jT h' e T oe.cls .none->s.heap.objs.size<=T->Q () {s with heap:=h'}):aq M A (do let a ←frameOf env;let pl ←entryPlaceOf L NU;let b ←EntryCells.newEntry w_ a .none (dZ L) .none pl;l6 (.ref e) 1 b) (λ_ s'=>aq M A (wI (.ref e) ae) Q E s') E s:=by
 have hene:e∉(env::outer).filterMap (·.frame):=λhm=>by obtain⟨_,o,ho,t7⟩:=hl.mem hm;rw[he]at ho;injection ho with ho;subst ho;exact t7 vs hd
 refine ap (wpAny_frameOf_fun lp hl hf λh₁ hs₁=>?_);refine ap (wpAny_entryPlaceOf λpl cS=>?_);unfold EntryCells.newEntry newFields;refine ap (lW ?_ (cS.sizeOk5 _ _ _ _ _));have he₁:h₁.get? e=aa oe:=(hs₁.2.1 e hene).trans he;have he₂:=bH (h:=h₁) {cls:=.type "traceback",dict:=ae,data:=.fields ([w_,.ref L,.none,dZ L,.none]++(if pl.isEmpty then bS 6 Value.none else pl)).toArray} he₁;refine qN he₂ hd hsz ?_;have mq:h₁.objs.size≠e:=qt (bu he₁);have hd₃:=tt hd (·.setIfInBounds 1 (Value.ref h₁.objs.size));have he₃:=mY (l9 (·.setIfInBounds 1 (Value.ref h₁.objs.size))) he₂ (Ae hd₃);have hT₃:=(mZ (h₁.push {cls:=.type "traceback",dict:=ae,data:=.fields ([w_,.ref L,.none,dZ L,.none]++(if pl.isEmpty then bS 6 Value.none else pl)).toArray}) (l9 (·.setIfInBounds 1 (Value.ref h₁.objs.size))) (d9 mq)).trans (cZ h₁ rfl);unfold wI;refine ap (oF he₃ hd₃ (x:=.ref h₁.objs.size) (by simp[hsz]) ?_);rw[if_pos (show(Value.ref h₁.objs.size != Value.none)=ah from by simp)];refine qN hT₃ rfl (by simp only[ce,ef,fg,m_] <;> lia) (h _ h₁.objs.size ?_ ?_ ?_)
 ·have keep:∀b o,b≠e->h₁.get? b=aa o ->
    (((h₁.push {cls:=.type "traceback",dict:=ae,data:=.fields ([w_,.ref L,.none,dZ L,.none]++(if pl.isEmpty then bS 6 Value.none else pl)).toArray}).update e (l9 (·.setIfInBounds 1 (Value.ref h₁.objs.size)))).update h₁.objs.size (l9 (·.setIfInBounds 3 ((ae:Option af).elim Value.none λf=>dZ f)))).get? b=aa o:=λb o kg hb=>by
   have hbT:h₁.objs.size≠b:=qt (bu hb);rw[mZ _ _ hbT,mZ _ _ (d9 kg)];exact bH _ hb
  refine⟨λb o hb hn hx=>keep b o hx ((hs₁.2.1 b hn).trans hb),λb o hb hn hx=>?_,λb o hb=>?_⟩
  ·obtain⟨sl,q⟩:=hs₁.2.2 b o hb;exact⟨sl,keep b _ hx q⟩
  ·by_cases kg:b=e
   ·subst kg;exact⟨_,(mZ _ _ mq).trans he₃⟩
   ·obtain⟨sl,q⟩:=hs₁.2.2 b o hb;exact⟨_,keep b _ kg q⟩
 ·refine⟨_,_,_,_,(mZ _ _ mq).trans he₃,Obj.cls_mapFields _ _,⟨hd₃,by rw[IR];exact oX⟩,by simp[hsz],mq,mY _ hT₃ (Ae (tt rfl _)),tt rfl _,by first | (simp;done) | (rcases cS with rfl|⟨_,_,_,_,_,_,_,rfl⟩ <;> simp)⟩
 ·exact lX hs₁.1.symm
theorem K1{base:aA}{env:Env}{outer:List Env}{L e:af}{c:ai}{Q:Unit->am->Prop}(lp:A.frames=aa (env::outer))(hl:s.heap.FunFrames base (env::outer))(hf:env.frame=aa L)(hm:Made s.heap e c)(h:∀h' T,Kp (eF (env::outer)) (λb=>b=e) s.heap h'->jT h' e T c .none->s.heap.objs.size<=T->Q () {s with heap:=h'}):aq M A (leaving env (.ref e)) Q E s:=by obtain⟨oe,vs,he,hc,⟨hd,oX⟩,h1⟩:=hm;subst hc;unfold leaving noteFrame;simp only[hf];refine ap (ap (oF he hd h1 ?_));rw[if_neg (by decide)];exact BP lp hl hf he hd oX (lc.mp h1).1 h
theorem C4{base:aA}{env:Env}{outer:List Env}{L e T:af}{c:ai}{Q:Unit->am->Prop}(lp:A.frames=aa (env::outer))(hl:s.heap.FunFrames base (env::outer))(hf:env.frame=aa L)(ht:jT s.heap e T c .none)(h:∀h' T',Kp (eF (env::outer)) (λb=>b=e\/b=T) s.heap h'->jT h' e T' c .none->s.heap.objs.size<=T'->Q () {s with heap:=h'}):aq M A (noteFrame (.ref e) env) (λ_ s2=>aq M A (wI (.ref e) ae) Q E s2) E s:=by
 obtain⟨oe,vs,oT,ts,he,ml,⟨hd,oX⟩,h1,mq,hT,nB,h3⟩:=ht;subst ml;unfold noteFrame;simp only[hf];refine ap (oF he hd h1 ?_);rw[if_pos (show(Value.ref T != Value.none)=ah from by simp)];refine ap (oF hT nB h3 ?_);rw[if_neg (show ¬((Value.none == dZ L)=ah)from by simp[dZ])];refine ap (qN hT nB (lc.mp h3).1 ?_);have other:∀b,b≠T->(s.heap.update T (l9 (·.setIfInBounds 3 Value.none))).get? b=s.heap.get? b:=λb hb=>mZ _ _ (d9 hb);have noRecord:∀b o,s.heap.get? b=aa o->(∀vs,o.data≠.fields vs)->b≠T:=λb o hb t7 q=>by rw[q,hT]at hb;injection hb with hb;subst hb;exact t7 ts nB
 refine BP lp (hl.of_keeps λb o hb t7=>⟨o,(other b (noRecord b o hb t7)).trans hb,rfl⟩) hf ((other e (d9 mq)).trans he) hd oX (lc.mp h1).1 λh' T' k fl hn=>?_;have k0:Kp (eF (env::outer)) (λb=>b=T) s.heap (s.heap.update T (l9 (·.setIfInBounds 3 Value.none))):=by
  refine⟨λb o hb _ hx=>(other b hx).trans hb,λb o hb _ hx=>⟨o.slots,(other b hx).trans hb⟩,λb o hb=>?_⟩;by_cases hx:b=T
  ·subst hx;exact⟨_,mY _ hT (Ae (tt nB _))⟩
  ·exact⟨o,(other b hx).trans hb⟩
 refine h h' T' ((k0.trans k).imp (λ_ z=>z) λb o _ z=>z.symm) fl ?_;have e2:(s.heap.update T (l9 (·.setIfInBounds 3 Value.none))).objs.size<=T':=hn;rwa[EZ]at e2
theorem Mr{base:aA}{env:Env}{outer:List Env}{L e T:af}{c:ai}{Q:Unit->am->Prop}(lp:A.frames=aa (env::outer))(hl:s.heap.FunFrames base (env::outer))(hf:env.frame=aa L)(ht:jT s.heap e T c .none)(h:∀h' T',Kp (eF (env::outer)) (λb=>b=e\/b=T) s.heap h'->jT h' e T' c .none->s.heap.objs.size<=T'->Q () {s with heap:=h'}):aq M A (leaving env (.ref e)) Q E s:=by unfold leaving;exact ap (C4 lp hl hf ht h)
theorem Mb{e T:af}{c fl:ai}{Q:Unit->am->Prop}(ht:jT s.heap e T c fl)(h:∀h',Kp [] (λb=>b=T) s.heap h'->jT h' e T c .none->Q () {s with heap:=h'}):aq M A (wI (.ref e) ae) Q E s:=by
 obtain⟨oe,vs,oT,ts,he,ml,⟨hd,oX⟩,h1,mq,hT,nB,h3⟩:=ht;have xf:3<ts.size:=(lc.mp h3).1;have other:∀b,b≠T->(s.heap.update T (l9 (·.setIfInBounds 3 ((ae:Option af).elim Value.none λf=>dZ f)))).get? b=s.heap.get? b:=λb hb=>mZ _ _ (d9 hb);have self:=mY (l9 (·.setIfInBounds 3 ((ae:Option af).elim Value.none λf=>dZ f))) hT (Ae (tt nB _));unfold wI;refine ap (oF he hd h1 ?_);rw[if_pos (show(Value.ref T != Value.none)=ah from by simp)];refine qN hT nB xf (h _ ⟨λb o hb _ hx=>(other b hx).trans hb,λb o hb _ hx=>⟨o.slots,(other b hx).trans hb⟩,λb o hb=>?_⟩ ⟨oe,vs,_,_,(other e (d9 mq)).trans he,ml,⟨hd,oX⟩,h1,mq,self,tt nB _,by simp[xf]⟩);by_cases hx:b=T
 ·subst hx;exact⟨_,self⟩
 ·exact⟨o,(other b hx).trans hb⟩
end
def cf(P:aM)(w:aF):fG:=λouter H s E e s'=>∃(a T:af) (c:ai) (H':Hp),e=.ref a/\s'.os=s.os/\lS s'.gens/\Un (eF outer) [] H H' s.heap s'.heap/\cI P w H' s'.heap/\jT s'.heap a T c .none /\
 (s.heap.get? a=ae/\s.heap.get? T=ae/\H' a=ae/\H' T=ae)/\E c ae H'
theorem FN{P:aM}{w:aF}{H:Hp}{h:aA}{a:af}{o:HO}(x:cH P w H h a o):∃u,h.get? a=aa u:=by
 cases o with
 |lst xs=>obtain⟨_,_,_,_,e⟩:=x;exact⟨_,e⟩
 |tup xs=>obtain⟨_,_,_,⟨o,e,_⟩,_⟩:=x;exact⟨_,e⟩
 |dK kvs=>obtain⟨_,_,_,_,o,_,_,e,_⟩:=x;exact⟨_,e⟩
 |dT kvs=>obtain⟨_,_,_,_,o,_,_,e,_⟩:=x;exact⟨_,e⟩
 |set S n=>obtain⟨o,_,_,_,e,_⟩:=x;exact⟨_,e⟩
 |ins C dx fs=>obtain⟨_,_,_,e,_⟩:=x;exact⟨_,e⟩
 |own y=>exact x
 |xd fs=>obtain⟨_,⟨_,_,_,e,_⟩,_⟩:=x;exact⟨_,e⟩
 |rng lo hi=>obtain⟨_,_,_,e⟩:=x;exact⟨_,e⟩
 |frz ob u=>obtain⟨e,_⟩:=x;exact⟨_,e⟩
 |tbl ps=>obtain⟨_,e,_⟩:=x;exact⟨_,e⟩
 |met f y=>exact⟨_,x⟩
 |ext φ=>obtain⟨_,e,_⟩:=x;exact e
theorem HV{P:aM}{w:aF}{H:Hp}{h:aA}{a:af}(x:cI P w H h)(e:h.get? a=ae):H a=ae:=by
 cases q:H a with
 |none=>rfl
 |some u=>obtain⟨o,z⟩:=FN (x a u q);rw[e]at z;cases z
theorem qh{fs:List af}{H H':Hp}{h h':aA}{a:af}(u:Un fs [] H H' h h')(e:h'.get? a=ae):h.get? a=ae:=by
 cases q:h.get? a with
 |none=>rfl
 |some o=>obtain⟨o',z⟩:=u.there a o q (by simp);rw[e]at z;cases z
theorem y3{fs fs':List af}{H H':Hp}{h h1 h2:aA}{X:af->Prop}(u:Un fs [] H H' h h1)(k:Kp fs' X h1 h2)(hf:∀b o,h.get? b=aa o->b∈fs'->b∈fs)(hX:∀b o,h.get? b=aa o->¬X b):Un fs [] H H' h h2 where
 keep:=λb o e n hb hx=>k.keep b o (u.keep b o e n hb hx) (λz=>hb (hf b o e z)) (hX b o e)
 slot:=λb o e n hb hx=>by
  obtain⟨sl,e1⟩:=u.slot b o e n hb hx;by_cases rj:b∈fs'
  ·obtain⟨sl2,e2⟩:=k.slot b _ e1 rj (hX b o e);exact⟨sl2,e2⟩
  ·exact⟨sl,k.keep b _ e1 rj (hX b o e)⟩
 free:=u.free
 there:=λb o e hx=>let ⟨o',e'⟩:=u.there b o e hx;k.there b o' e'
 tups:=u.tups
 frzs:=u.frzs
 tbls:=u.tbls
theorem yg{P:aM}{w:aF}{fs:List af}{H:Hp}{h h':aA}{X:af->Prop}(x:cI P w H h)(k:Kp fs X h h')(hf:∀b∈fs,H b=ae)(hX:∀b,X b->H b=ae):cI P w H h':=λb u e=>
 (x b u e).stay (λc v hc q=>k.keep c v q (λz=>by
   have:=hf c z;rcases hc with rfl|hc
   ·rw[e]at this;cases this
   ·rw[hc]at this;cases this) λz=>by
   have:=hX c z;rcases hc with rfl|hc
   ·rw[e]at this;cases this
   ·rw[hc]at this;cases this) (λ_ q=>q) λ_ _ q=>q
section
variable{P:aM}{w:aF}{K:ax}{mg:Str->Option ai}{base:aA}{N:List Str}{qual:Str}{scope:dX}{f:af}{cd:ai}{A:aO}{outer:List Env}{s₀:am}{H₀:Hp}{E:XK}
theorem cA:pV (cf P w) (im (cf P w) P w K mg base N qual scope f cd A outer s₀ H₀ E) E:=λag σ H s e s' I h=>by
 obtain⟨a,T,c,H',rfl,ho,hg,un,hok,fl,⟨fa,fT,na,nT⟩,hE⟩:=h;have I':=I.call' (s':=s') (ch:=[]) ho un hok hg (λb z=>absurd z (by simp));refine Mr (L:=s₀.heap.objs.size) I.ok.frames I'.stack rfl fl λlq T' k fl' fT'=>?_;have nZ:(im (cf P w) P w K mg base N qual scope f cd A outer s₀ H₀ E).ex=[]:=rfl;have fa0:s₀.heap.get? a=ae:=qh I.base fa;have fT0:s₀.heap.get? T=ae:=qh I.base fT;have fT0':s₀.heap.get? T'=ae:=qh I'.base (zE fT');have old:∀b o,s₀.heap.get? b=aa o->b≠a/\b≠T:=λb o e=>⟨(by rintro rfl;rw[fa0]at e;cases e),(by rintro rfl;rw[fT0]at e;cases e)⟩
 refine⟨a,T',c,H',rfl,I'.os,I'.bare,y3 I'.base k (λb o e z=>?_) (λb o e z=>z.elim (old b o e).1 (old b o e).2),yg I'.hok k I'.stkFree (λb z=>by rcases z with rfl|rfl <;> assumption),fl',⟨fa0,fT0',na,I'.hok.fresh fT'⟩,hE⟩;rcases bG.mp (I.stkSub b z)with q|q
 ·exact absurd (bu e) (by rw[q];exact fe _)
 ·exact q
end
section
variable{X:Cx}{E:XK}{pin:List Nat}{e:aB}{de:ak->R PV}{x:Str}{C:af}{bmB:List ai}{newId initId B:String}{np cpos pos:Pos}
def AS(X:Cx)(E:XK):Prop:=∀(ag:List (af×Obj)) (σ:St) (H:Hp) (s:am) (a:af) (c:ai) (h':aA),Inv X ag σ H s->(∀b o,s.heap.get? b=aa o->h'.get? b=aa o)->Made h' a c->s.heap.get? a=ae->(E c ae H)->X.xe (.ref a) {s with heap:=h'}
def kE(c:ai)(de:ak->R PV):ak->R aS:=λε=>(de ε).bind λ_ ε1=>.er c ε1
theorem Kn{h h':aA}{e:af}{cls:ai}{args:List ai}(m:Heap.MadeExcOf h h' e cls args):Made h' e cls:=by obtain⟨t,he,_,_⟩:=m.there;exact⟨_,_,he,rfl,⟨rfl,rfl⟩,rfl⟩
theorem pW(hx:AS X E)(hc:X.calm=ah)(O:OwnCls x C bmB newId X.mg X.base)(FB:ExcBaseFacts B newId initId bmB)(he:DE X.nox E0 e de)(hg:Gl X x:=by rfl)(hd:(x == ("__debug__" : Str))=aj:=by decide)(h1:aL [e] X.env=[(aj,aU e X.env)]:=by rfl):DS X E pin (.Raise (aa (.Call (.Name x np) [e] [] cpos)) ae pos) (kE (.ref C) (λε=>bN (de ε))):=λF S ε σ H D rl q=>Bx.mk λag s I=>by
 obtain⟨tl,N,nm,qn,bs,hdct,sn,sub,ab,col,dd,k0,k1,k2,k3,k5,mN,hC,hN,hni,T⟩:=O.obj;refine wpAny_Raise_call_subT (C:=C) (nm:=nm) (q:=qn) (N:=N) (bs:=bs) (bm:=tl) (hdct:=hdct) (sn:=sn) (sub:=sub) (ab:=ab) (col:=col) (dd:=dd) (k0:=k0) (k1:=k1) (k2:=k2) (k3:=k3) (k5:=k5)
  FB (mN:=mN) (T.hasType FB.hasBase) (I.ok.hd hc) (by rw[h1];rfl) hni (qo I hg O.bound ⟨rfl,?_⟩ hd)
 have q2:Ok X.K E0 σ F S H (de ε) (λ_ ε1 F1 S1 H1=>ix X.K E pin σ F1 S1 H1 (.er (.ref C) ε1) D):=by
  have q:ix X.K E pin σ F S H ((bN (de ε)).bind λ_ ε1=>.er (.ref C) ε1) D:=q;cases e0:de ε with
  |no=>rw[e0]at q;exact q.elim
  |er c ε'=>rw[e0]at q;exact q.elim
  |ok v ε'=>rw[e0]at q;exact λF' S' H' r' g'=>q.from g' (ie.refl _ _)
 rw[h1];refine zQ (dY (zI (dY ((he F S ε σ H (λv H1=>∃F1 S1 ε1,aP X.K F1 S1 ε1 σ H1/\ix X.K E pin σ F1 S1 H1 (.er (.ref C) ε1) D) rl (q2.imp λv ε1 F1 S1 H1 r1 g1 h v' rv=>⟨F1,S1,ε1,r1,h⟩)).run ag s (I.wish _)) (λu s1 ⟨v,H1,I1,r1,F1,S1,ε1,rl1,ok⟩=>?_) λ_ _ z=>z.elim)) (λ_ _ z=>z) λ_ _ z=>z);have I1:=I1.unwish;refine EB ⟨rfl,(by show 1<=a_;decide),I1.bk _ _ hC,hN.keeps I1.bk,T.keeps I1.bk,λh' a m=>?_⟩;exact hx ag σ H1 s1 a (.ref C) h' I1 m.keeps (Kn m) m.new (ok ae F1 S1 σ H1 rl1 (bp.refl ..) (ie.refl _ _))
end
section
variable{P:aM}{w:aF}{K:ax}{mg:Str->Option ai}{base:aA}{N:List Str}{qual:Str}{scope:dX}{f:af}{cd:ai}{A:aO}{outer:List Env}{s₀:am}{H₀:Hp}{E:XK}
theorem pq:AS (im (cf P w) P w K mg base N qual scope f cd A outer s₀ H₀ E) E:=λag σ H s a c h' I kp md new hE=>by
 have I':Inv _ ag σ H {s with heap:=h'}:=I.kept (t':=s.toks) kp;refine K1 (s:={s with heap:=h'}) (L:=s₀.heap.objs.size) I.ok.frames I'.stack rfl md λlq T' k fl' fT'=>?_;have fa0:s₀.heap.get? a=ae:=qh I.base new;have fT0':s₀.heap.get? T'=ae:=qh I'.base (zE fT');have na:H a=ae:=HV I.hok new;refine⟨a,T',c,H,rfl,I'.os,I'.bare,y3 I'.base k (λb o e z=>?_) (λb o e z=>by rw[show b=a from z,fa0]at e;cases e),yg I'.hok k I'.stkFree (λb z=>by rw[show b=a from z];exact na),fl',⟨fa0,fT0',na,I'.hok.fresh fT'⟩,hE⟩;rcases bG.mp (I.stkSub b z)with q|q
 ·exact absurd (bu e) (by rw[q];exact fe _)
 ·exact q
end
section
variable{X:Cx}{ag:List (af×Obj)}{σ:St}{H:Hp}{s:am}
theorem Il{M:Model}{A:aO}{E:ai->am->Prop}{i:Nat}{x:Str}{v:V}{Q:Unit->am->Prop}(I:Inv X ag σ H s)(hN:X.N.Nodup)(hi:X.N[i]?=aa x)(hk:X.env.scope.names.lookup x=aa .local)(hv:σ[i]?=aa (aa v))(h:∀s',Inv X ag (σ.set i ae) H s'->Q () s'):aq M A (unbindName X.env x) Q E s:=by
 obtain⟨m,hn,hl⟩:=id I.loc;have ml:(X.env.scope.kind == .class||(X.env.scope.kind == .module&&X.env.locals != X.env.globals))=aj:=by rw[I.ok.kind];rfl
 have hiσ:i<σ.length:=(df.mp hv).1;obtain⟨u,_,lk⟩:=hl i x v hi hv (.inl hk);have hm:m x=aa u:=by
  rcases lk with⟨_,z⟩|⟨z,_⟩
  ·exact z
  ·have z:X.env.scope.names.lookup x=aa .cell\/X.env.scope.names.lookup x=aa .free:=z;rcases z with z|z <;> rw[hk]at z <;> cases z
 refine wpAny_unbindName_local hk hn hm ml λh' u' hn' hs=>?_;obtain⟨oL,_,_,ln,_⟩:=id hn;have up:∀b o,X.s₀.heap.get? b=aa o->h'.get? b=s.heap.get? b:=λb o e=>hs.2 b (cQ (fN (bu e) I.ok.above));refine h _ ⟨I.ok,I.os,I.bare,⟨λb o e n hb hx=>(up b o e).trans (I.base.keep b o e n hb hx),λb o e n hb hx=>?_,I.base.free,λb o e hx=>?_,I.base.tups,I.base.frzs,I.base.tbls⟩,⟨_,hn',λj y v' e1 e2 e3=>?_⟩,λy c e=>?_,I.free,I.freeC,λp hp=>?_,λb ob e=>?_,by rw[fE];exact I.len⟩
 ·obtain⟨sl,q⟩:=I.base.slot b o e n hb hx;exact⟨sl,(up b o e).trans q⟩
 ·obtain⟨o',q⟩:=I.base.there b o e hx;exact⟨o',(up b o e).trans q⟩
 ·by_cases hj:j=i
  ·subst hj;rw[ff hiσ]at e2;cases e2
  ·rw[dO (d9 hj)]at e2;obtain⟨w,r',q⟩:=hl j y v' e1 e2 e3;refine⟨w,r',?_⟩;rcases q with⟨k,e⟩|⟨k,c,e,z⟩
   ·have:y≠x:=λe=>hj (xt hN e1 (e ▸ hi));exact .inl ⟨k,by simp[this,e]⟩
   ·exact .inr ⟨k,c,e,z.sameBut hs (I.cne y c e)⟩
 ·obtain⟨w',z⟩:=I.cell y c e;exact⟨w',z.sameBut hs (I.cne y c e)⟩
 ·obtain⟨e,n,ne,nf,d⟩:=I.pin p hp;exact⟨(hs.2 p.1 ne).trans e,n,ne,nf,d⟩
 ·refine(I.hok b ob e).stay (λc w' hc q=>(hs.2 c ?_).trans q) (λ_ q=>q) λ_ _ q=>q;rintro rfl;rcases hc with rfl|hc
  ·rw[I.free]at e;cases e
  ·rw[I.free]at hc;cases hc
end
def XP(X:Cx)(ag:List (af×Obj))(σ:St)(XE:ai->Hp->Prop)(e:ai)(s':am):Prop:=∃s1 H1,Inv X ag σ H1 s1/\cf X.prog X.w X.stack H1 s1 (λc _ H'=>XE c H') e s'
def DX(X:Cx)(e:aB)(d:ak->R Slot):Prop :=
 ∀F S ε σ H Q (XE:ai->Hp->Prop),aP X.K F S ε σ H->Ok X.K (λc _ H'=>XE c H') σ F S H (d ε) (λs _ F' S' H'=>∀v Sr,lL X.K H' F' s v Sr->(∀b,Sr b->H b=ae/\¬F' b/\¬U S' b/\∃o,H' b=aa o/\dR o)->Q v H') ->
  ∀ag s,Inv X ag σ H s->aq (aw X.prog X.w) X.A (aU e X.env) (EP X ag σ Q) (XP X ag σ XE) s
section
variable{X:Cx}{e:aB}{es:List aB}{dg:ak->R (List bW)}{pos:Pos}{x:Str}{k:Nat}{ps:List Str}{g:ak->R Slot}{p:Pos}{d:ak->R Slot}
def sm(g:ak->R Slot)(dg:ak->R (List bW)):ak->R Slot:=λε=>(bN (dg ε)).bind λas ε1=>(bg (if(cz as).Nodup then eM ε1 as else ae) ε1).bind λss ε1=>fV ε1 as (g ss)
theorem He(c:cC (cf X.prog X.w) X.prog X.w X.K X.mg X.base x k ps (bF X.K g))(hr:eY k X.A)(ha:DG X.nox E0 (e::es) dg)(hg:Gl X x:=by rfl)(hd:(x == ("__debug__" : Str))=aj:=by decide) (h1:aL (e::es) X.env=(aj,aU e X.env)::aL es X.env:=by rfl) (h2:(cL pos (aL es X.env)).any (·.1)=aj:=by rfl):DX X (.Call (.Name x p) (e::es) [] pos) (sm g dg):=λF S ε σ H Q XE rl h ag s I=>by
 obtain⟨f,fd,hm,Fn,hb,hk⟩:=c.ex;have q0:Ok X.K E0 σ F S H (dg ε) (λas ε1 F1 S1 H1=>Ok X.K (λc _ H'=>XE c H') σ F1 S1 H1 ((bg (if(cz as).Nodup then eM ε1 as else ae) ε1).bind λss ε1=>fV ε1 as (g ss)) (λs _ F' S' H'=>∀v Sr,lL X.K H' F' s v Sr->(∀b,Sr b->H b=ae/\¬F' b/\¬U S' b/\∃o,H' b=aa o/\dR o)->Q v H')):=by
  unfold sm at h;cases e0:dg ε with
  |no=>rw[e0]at h;exact h.elim
  |er c ε'=>rw[e0]at h;exact h.elim
  |ok as ε1=>rw[e0]at h;exact λF1 S1 H1 r1 g1=>Ok.from h g1
 refine wq (qo I hg hm ?_ hd);have wa:=(ha F S ε σ H (λvs H1=>∃F1 S1 ε1 as,aP X.K F1 S1 ε1 σ H1/\h_ X.K σ F1 H1 as vs/\(∀b,H1 b=ae->H b=ae)/\Ok X.K (λc _ H'=>XE c H') σ F1 S1 H1 ((bg (if(cz as).Nodup then eM ε1 as else ae) ε1).bind λss ε1=>fV ε1 as (g ss)) (λs _ F' S' H'=>∀v Sr,lL X.K H' F' s v Sr->(∀b,Sr b->H b=ae/\¬F' b/\¬U S' b/\∃o,H' b=aa o/\dR o)->Q v H')) rl (q0.imp λas ε1 F1 S1 H1 r1 g1 q vs av=>⟨F1,S1,ε1,as,r1,av,λb z=>mE g1 z,q⟩)).run pos ag s (I.wish _);refine EC (h₀:=X.base) I.ok.mod.kin hk (dY wa (λus s1 ⟨vs,H1,I1,r,F1,S1,ε1,as,r1,av,fb,q⟩=>⟨I1.unwish.kIn,?_⟩) λ_ _ z=>z.elim) h1 h2;have I1:=I1.unwish;have q:=Ok.bind q;by_cases nd:(cz as).Nodup
 ·rw[if_pos nd]at q;cases es:eM ε1 as with
  |none=>rw[es]at q;exact q.elim
  |some ss=>
   rw[es]at q;have q:=q F1 S1 H1 r1 (bp.refl ..);dsimp only at q;have gi:bF X.K g vs H1 Q (λc _ H'=>XE c H'):=by
    refine⟨F1,kN as S1,ss,r1.cal av es nd,?_⟩;cases eg:g ss with
    |no=>rw[eg]at q;exact q.elim
    |er cv aI=>
     rw[eg]at q;intro y F' S' H' r' g';unfold fV at q;dsimp only at q;by_cases kp:f_ as aI=ah
     ·rw[if_pos kp]at q;obtain⟨S2,r2,g2,_⟩:=r1.called av es nd r' g' (λ_ z=>z) (lG kp);exact q ae F' S2 H' r2 g2
     ·rw[if_neg kp]at q;exact q.elim
    |ok sl aI=>
     rw[eg]at q;intro v F' S' H' Sr r' g' rv lo fr;unfold fV at q;dsimp only at q;by_cases kp:f_ as aI=ah
     ·rw[if_pos kp]at q;obtain⟨S2,r2,g2,u2⟩:=r1.called av es nd r' g' (λ_ z=>.inl z) (lG kp);refine q F' S2 H' r2 g2 v Sr rv λb z=>⟨fb b (fr b z),(lo b z).1,λw=>?_,(lo b z).2.2⟩
      rcases u2 b w with w|⟨i,w⟩
      ·exact(lo b z).2.1 w
      ·obtain⟨_,_,o,y1,_⟩:=r1.foot i b w;rw[fr b z]at y1;cases y1
     ·rw[if_neg kp]at q;exact q.elim
   have hl:us.length=ps.length:=by rw[←r.length];exact Fn.len _ _ _ _ gi
   refine wp (oD (Fn.run X.A X.stack s1 H1 ⟨us,[]⟩ us vs Q _ hr I1.env0 (by have:=hb s1 us I1.kIn (by rw[hG];exact hl);rwa[hG]at this) r gi) λrr s' hq=>?_);cases rr with
   |error er=>exact⟨s1,H1,I1,hq⟩
   |ok fl=>
    cases fl with
    |ret u=>exact I1.after hq
    |next=>exact ge hq
    |brk=>exact ge hq
    |cont=>exact ge hq
 ·rw[if_neg nd]at q;exact q.elim
end
abbrev hand(X:Cx)(a:af):Cx:={X with A:=X.A.mark (aa (.ref a)),calm:=aj,xe:=λ_ _=>False}
section
variable{X:Cx}{ag:List (af×Obj)}{σ:St}{H:Hp}{s:am}{a:af}
theorem Inv.hand(I:Inv X ag σ H s)(hf:(X.A.mark (aa (.ref a))).frames=X.A.frames:=by rfl):Inv (Pu.hand X a) ag σ H s :=
 ⟨⟨I.ok.mod,I.ok.kind,I.ok.glob,I.ok.blt,I.ok.above,I.ok.inj,I.ok.has,I.ok.cab,(λz=>by cases z),hf.trans I.ok.frames,I.ok.stk,I.ok.exf,I.ok.bs,I.ok.bsz,I.ok.noex,I.ok.exfs,I.ok.funs,I.ok.frf,I.ok.tab⟩,I.os,I.bare,I.base,I.loc,I.cell,I.free,I.freeC,I.pin,I.hok,I.len⟩
theorem Inv.unhand(I:Inv (Pu.hand X a) ag σ H s)(ok:X.Ok):Inv X ag σ H s:=⟨ok,I.os,I.bare,I.base,I.loc,I.cell,I.free,I.freeC,I.pin,I.hok,I.len⟩
end
def Under(h:aA)(D:af)(c:ai):Prop:=∃C bm N nm q bs hdct sn sub ab col dd k0 k1 k2 k3 k5 newId,c=.ref C/\h.get? C=aa (Af nm q C N bs bm hdct sn sub ab col dd k0 k1 k2 k3 k5 newId)/\(Value.ref C::bm).contains (.ref D)=ah
def oj(h:aA)(D:af):Prop:=∃bm N nm q bs hdct sn sub ab col dd k0 k1 k2 k3 k5 newId,h.get? D=aa (Af nm q D N bs bm hdct sn sub ab col dd k0 k1 k2 k3 k5 newId)/\bm.contains (.type "BaseException")=ah
theorem Under.keeps{h h':aA}{D:af}{c:ai}(x:Under h D c)(k:∀b o,h.get? b=aa o->h'.get? b=aa o):Under h' D c:=by obtain⟨C,bm,N,nm,q,bs,hdct,sn,sub,ab,col,dd,k0,k1,k2,k3,k5,newId,e,h1,h2⟩:=x;exact⟨C,bm,N,nm,q,bs,hdct,sn,sub,ab,col,dd,k0,k1,k2,k3,k5,newId,e,k _ _ h1,h2⟩
theorem oj.keeps{h h':aA}{D:af}(x:oj h D)(k:∀b o,h.get? b=aa o->h'.get? b=aa o):oj h' D:=by obtain⟨bm,N,nm,q,bs,hdct,sn,sub,ab,col,dd,k0,k1,k2,k3,k5,newId,h1,h2⟩:=x;exact⟨bm,N,nm,q,bs,hdct,sn,sub,ab,col,dd,k0,k1,k2,k3,k5,newId,k _ _ h1,h2⟩
theorem GP{M:Model}{A:aO}{E:ai->am->Prop}{s:am}{e D:af}{oe:Obj}{c:ai}{Q:Bool->am->Prop}(hu:Under s.heap D c)(hD:oj s.heap D)(he:s.heap.get? e=aa oe)(ml:oe.cls=c)(hq:Q ah s):aq M A (excMatches (.ref e) (.ref D)) Q E s:=by
 obtain⟨C,bm,N,nm,q,bs,hdct,sn,sub,ab,col,dd,k0,k1,k2,k3,k5,newId,rfl,hC,iE⟩:=hu;obtain⟨bm',N',nm',q',bs',hdct',sn',sub',ab',col',dd',k0',k1',k2',k3',k5',newId',hD,hb⟩:=hD;obtain⟨h,g,d,t,os⟩:=s;have hcB:(Value.ref D::bm').contains (.type "BaseException")=ah:=by rw[List.contains_cons,hb,Bool.or_true]
 have f:=tc_notTuple;unfold excMatches
 repeat (first | (with_reducible refine E2 he ?_;rw[ml])|with_reducible refine E2 hC ?_|with_reducible refine E2 hD ?_ | (with_reducible refine wpAny_isSubtype_exc hC ?_;rw[iE]) | (with_reducible refine wpAny_isSubtype_exc hD ?_;rw[hcB])|wp_step)
 exact hq
def pY(i:Nat)(caught:ai->Bool)(dx:ak->R Slot)(dh:ak->R aS):ak->R aS:=λε=>match dx ε with
 |.ok s ε'=>.ok (.ret s) ε'
 |.er c ε'=>if caught c=ah/\i<ε'.length then(match dh (ε'.set i (.val (.exc c)))with
  |.ok f ε2=>(match ε2[i]? with
   |some (.val _)=>.ok f (ε2.set i .none)
   |_=>.no)
  |_=>.no)else .no
 |.no=>.no
section
variable{X:Cx}{E:XK}{pin:List Nat}{e:aB}{dx:ak->R Slot}{dh:ak->R aS}{rp np hp pos:Pos}{sx n:Str}{D:af}{suite:List aZ}{b₀:aZ}{caught:ai->Bool}
theorem aP.unset{K:ax}{F:af->Prop}{S:Nat->af->Prop}{ε:ak}{σ:St}{H:Hp}{i:Nat}(r:aP K F S ε σ H):aP K F (λj b=>S j b/\j≠i) (ε.set i .none) (σ.set i ae) H:=by
 have r0:=r.drop i;have ne:∀{j:Nat}{s:Slot},(ε.set i .none)[j]?=aa s->s≠.none->j≠i:=λ{j s} e hs z=>by
  subst z;by_cases hj:j<ε.length
  ·rw[ff hj]at e;exact hs (dW e).symm
  ·rw[nh (by rw[fE];lia)]at e;cases e
 refine⟨by rw[fE,fE];exact r.len,r.ex,λj pv e=>?_,λj po e=>?_,r0.foot,r0.dist⟩
 ·obtain⟨v,h1,h2⟩:=r0.val j pv e;exact⟨v,by rw[dO (d9 (ne e (by intro z;cases z)))];exact h1,h2⟩
 ·obtain⟨v,h1,h2⟩:=r0.own j po e;exact⟨v,by rw[dO (d9 (ne e (by intro z;cases z)))];exact h1,h2⟩
theorem Mt{P:aM}{w:aF}{H:Hp}{h:aA}{a T:af}{c fl:ai}(ok:cI P w H h)(na:H a=ae)(f:jT h a T c fl):cI P w (upd H a (lB a c)) h:=λb u q=>by
 by_cases hb:b=a
 ·subst hb;rw[cE]at q;cases q;obtain⟨oe,vs,_,_,he,hc,hd,_⟩:=f;exact⟨⟨oe,vs,he,hc,hd⟩,⟨oe,he⟩,λh1 h2 ⟨o,ws,e1,e2,e3⟩ k=>⟨o,ws,k o e1,e2,e3⟩⟩
 ·rw[b7 hb]at q;exact(ok b u q).stay (λ_ _ _ z=>z) (λd z=>by rw[b7 (jO z na)];exact z) λd xs z=>by rw[b7 (jO z na)];exact z
def Ee(X:Cx)(ss:List aZ)(d:ak->R Slot):Prop :=
 ∀F S ε σ H Q (XE:ai->Hp->Prop),aP X.K F S ε σ H->Ok X.K (λc _ H'=>XE c H') σ F S H (d ε) (λs _ F' S' H'=>∀v Sr,lL X.K H' F' s v Sr->(∀b,Sr b->H b=ae/\¬F' b/\¬U S' b/\∃o,H' b=aa o/\dR o)->Q v H') ->
  ∀ag s,Inv X ag σ H s->aq (aw X.prog X.w) X.A (execs ss X.env) (λfl s'=>∃u,fl=.ret u/\EP X ag σ Q u s') (XP X ag σ XE) s
theorem Mo(hx:DX X e dx):Ee X [.Return (aa e) rp] dx:=λF S ε σ H Q XE rl h ag s I=>Ev (wpAny_Return_some (dY (hx F S ε σ H Q XE rl h ag s I) (λu s1 q=>⟨u,rfl,q⟩) λ_ _ q=>q))
theorem HI{ss:List aZ}(i:Nat)(hN:X.N.Nodup)(hx:Ee X ss dx)(hD:X.mg sx=aa (.ref D))(hE:oj X.base D)(hcg:∀c,caught c=ah->Under X.base D c)(hh:∀a,fW (hand X a) E0 pin (b₀::suite) dh)(c7:i∉pin:=by decide) (hi:X.N[i]?=aa n:=by rfl) (hl:X.env.scope.names.lookup n=aa .local:=by rfl) (hg:Gl X sx:=by rfl) (hd:(sx == ("__debug__" : Str))=aj:=by decide) (dG:X.stack=X.env::X.outer:=by rfl) (hfm:X.env.frame=aa X.env.locals:=by rfl) (hf:X.fn n=ah\/X.env.scope.names.lookup n=aa .local:=by first|exact .inl rfl|exact .inr rfl):DS X E pin (.Try ss [.ExceptHandler (aa (.Name sx np)) (aa n) (b₀::suite) hp] [] [] pos) (pY i caught dx dh):=λF S ε σ H Dn rl q=>Bx.mk λag s I=>by
 refine wpAny_Try_except ?_;have body:=hx F S ε σ H (λv H'=>Dn.rt v H') (λc H'=>∃F' S' ε',aP X.K F' S' ε' σ H'/\bp (U S) (U S') F F' H H'/\caught c=ah/\i<ε'.length/\ix X.K E pin σ F S H (match dh (ε'.set i (.val (.exc c)))with
  |.ok f ε2=>(match ε2[i]? with
   |some (.val _)=>.ok f (ε2.set i .none)
   |_=>.no)
  |_=>.no) Dn) rl (by
  unfold pY at q;cases e0:dx ε with
  |no=>rw[e0]at q;exact q.elim
  |ok sl ε'=>rw[e0]at q;intro F' S' H' r' g' v Sr rv fr;exact q v F' S' σ H' Sr r' ⟨g'.fro,g'.keep,g'.there,g'.fnew,λb z=>z.elim (g'.onew b) λw=>.inr (fr b w).1⟩ (ie.refl _ _) rv λb z=>(fr b z).2
  |er c ε'=>
   rw[e0]at q;intro y F' S' H' r' g';dsimp only at q;by_cases hc:caught c=ah/\i<ε'.length
   ·rw[if_pos hc]at q;exact⟨F',S',ε',r',g',hc.1,hc.2,q⟩
   ·rw[if_neg hc]at q;exact q.elim) ag s I
 refine dY body (λfl s1 ⟨u,efl,v,H1,I1,r1,q1⟩=>?_) λev s1 xp=>?_
 ·subst efl;exact⟨v,σ,H1,I1,r1,q1⟩
 obtain⟨s0,H0,I0,a,T,c,H1,rfl,ho,hg1,un,hok,fl,⟨fa,fT,na,nT⟩,F1,S1,ε1,rl1,g1,hcc,ba,okh⟩:=xp;have I1:=I0.call' (s':=s1) (ch:=[]) ho un hok hg1 (λb z=>absurd z (by simp));have kpI:∀{h2:aA}{Y:af->Prop}{T':af},Kp (eF X.stack) Y s1.heap h2->(∀b o,s0.heap.get? b=aa o->¬Y b)->(∀b,Y b->H1 b=ae)->jT h2 a T' c .none->∀tk,Inv X ag σ (upd H1 a (lB a c)) {s1 with heap:=h2,toks:=tk}:=λ{h2 Y T'} k hY1 hY2 f2 tk=>by
  refine I0.call' (s':={s1 with heap:=h2,toks:=tk}) (ch:=[]) ho ?_ (Mt (yg hok k (λb hb=>I1.stkFree b hb) hY2) na f2) hg1 (λb z=>absurd z (by simp));have u2:=y3 un k (λb o _ z=>z) hY1;have na':∀b o,H1 b=aa o->b≠a:=λb o e=>jO e na;refine⟨u2.keep,u2.slot,λb o e n hx=>?_,u2.there,λb xs e=>?_,λb o u e=>?_,λb ps e=>?_⟩
  ·rw[b7 (by rintro rfl;rw[fa]at e;cases e)];exact u2.free b o e n hx
  ·have:=u2.tups b xs e;rw[b7 (na' b _ this)];exact this
  ·have:=u2.frzs b o u e;rw[b7 (na' b _ this)];exact this
  ·have:=u2.tbls b ps e;rw[b7 (na' b _ this)];exact this
 have H1T:∀b,b=a\/b=T->H1 b=ae:=λb z=>by rcases z with rfl|rfl <;> assumption
 have old1:∀b o,s0.heap.get? b=aa o->¬(b=a\/b=T):=λb o e z=>by
  rcases z with rfl|rfl
  ·rw[fa]at e;cases e
  ·rw[fT]at e;cases e
 refine C4 (outer:=X.outer) (by rw[I0.ok.frames,dG]) (by rw[←dG];exact I1.stack) hfm fl λh2 T' k fl2 fT'=>?_;rw[←dG]at k;have I2:=kpI k old1 H1T fl2 s1.toks;refine wpAny_handleBy_cons (codeAny_handlers_test ?_) (by intro z;cases z);have I2h:Inv (hand X a) ag σ (upd H1 a (lB a c)) {s1 with heap:=h2}:=Inv.hand I2;refine qo (X:=hand X a) I2h hg hD ?_ hd;obtain⟨oe,vs,oT,ts,he2,N4,_⟩:=id fl2;refine GP (s:={s1 with heap:=h2}) ((hcg c hcc).keeps I2.bk) (hE.keeps I2.bk) he2 N4 ?_;show k7 _ _ _ _ _;refine codeAny_handlers_suite_as (Mb (s:={s1 with heap:=h2}) fl2 λh3 k3 fl3=>?_);have k':Kp (eF X.stack) (λb=>(b=a\/b=T)\/b=T') s1.heap h3:=k.trans (k3.imp (λb z=>by simp at z) λb o _ z=>z);have I3:=kpI (T':=T') k' (λb o e z=>by
  rcases z with z|rfl
  ·exact old1 b o e z
  ·rw[qh un (zE fT')]at e;cases e) (λb z=>by
  rcases z with z|rfl
  ·exact H1T b z
  ·exact I1.hok.fresh fT') fl3 s1.toks
 have I3h:Inv (hand X a) ag σ (upd H1 a (lB a c)) {s1 with heap:=h3}:=Inv.hand I3;refine sw (X:=hand X a) (v:=.ref a) I3h hN hi (.inl hl) rfl (λs4 I4=>?_) hf;have al:Al F1 F1 H1 (upd H1 a (lB a c)):=Al.new0 na;have r2:=rl1.al al;have r3:=r2.set (i:=i) (pv:=.exc c) (v:=.ref a) ⟨a,rfl,cE⟩;have g3:bp (U S) (U λj b=>S1 j b/\j≠i) F F1 H (upd H1 a (lB a c)):=(g1.trans al.grow).trans (bp.less i);have less:∀{S':Nat->af->Prop}{F':af->Prop}{H':Hp},bp (U S') (U λj b=>S' j b/\j≠i) F' F' H' H':=λ{S' F' H'}=>bp.less i;have pn:∀{σ':St},ie pin (σ.set i (aa (.ref a))) σ'->ie pin σ (σ'.set i ae):=λ{σ'} p=>((ie.set c7).trans p).trans (ie.set c7);have okd:ix (hand X a).K E0 pin (σ.set i (aa (.ref a))) F1 (λj b=>S1 j b/\j≠i) (upd H1 a (lB a c)) (dh (ε1.set i (.val (.exc c)))) {nx:=λσ' H'=>Dn.nx (σ'.set i ae) H',rt:=Dn.rt,bk:=λσ' H'=>Dn.bk (σ'.set i ae) H',ct:=λσ' H'=>Dn.ct (σ'.set i ae) H'}:=by
  cases ed:dh (ε1.set i (.val (.exc c)))with
  |no=>rw[ed]at okh;exact okh.elim
  |er c' ε2=>rw[ed]at okh;exact okh.elim
  |ok f ε2=>
   rw[ed]at okh;dsimp only at okh;split at okh
   ·cases f with
    |next=>exact λF' S' σ' H' r' g' p'=>okh F' _ _ H' r'.unset ((g3.trans g').trans less) (pn p')
    |brk=>exact λF' S' σ' H' r' g' p'=>okh F' _ _ H' r'.unset ((g3.trans g').trans less) (pn p')
    |cont=>exact λF' S' σ' H' r' g' p'=>okh F' _ _ H' r'.unset ((g3.trans g').trans less) (pn p')
    |ret sl=>
     intro v F' S' σ' H' Sr r' g' p' rv lo;refine okh v F' _ _ H' Sr r'.unset ?_ (pn p') rv λb z=>⟨(lo b z).1,λ⟨j,w⟩=>(lo b z).2.1 ⟨j,w.1⟩,(lo b z).2.2⟩
     have gg:=g3.trans g';exact⟨gg.fro,gg.keep,gg.there,gg.fnew,λb z=>gg.onew b (z.imp (λ⟨j,w⟩=>⟨j,w.1⟩) id)⟩
   ·exact okh.elim
 refine dY ((hh a F1 _ _ _ _ _ r3 okd).run ag s4 I4) (λf s5 sp=>?_) λ_ _ z=>z.elim;have away:∀{σ5:St}{H5:Hp}{Q:Unit->am->Prop},Inv (hand X a) ag σ5 H5 s5->(∀s6,Inv X ag (σ5.set i ae) H5 s6->Q () s6)->aq (aw X.prog X.w) X.A (do bindName X.env n .none;unbindBehindTheSuite X.env n hp) Q X.xe s5:=λ{σ5 H5 Q} I5 hQ=>by
  have I5':=Inv.unhand I5 I0.ok;refine ap (wpAny_bindName (sw (v:=.non) I5' hN hi (.inl hl) rfl (λs6 I6=>?_) hf));unfold unbindBehindTheSuite;refine wpAny_onRaise ?_;have hiσ:i<σ5.length:=by rw[I5'.len];exact(df.mp hi).1
  refine Il I6 hN hi hl (ff hiσ) λs7 I7=>hQ s7 ?_;rw[List.set_set]at I7;exact I7
 cases f with
 |next=>obtain⟨σ5,H5,I5,q5⟩:=sp;exact away I5 λs6 I6=>⟨_,H5,I6,q5⟩
 |brk=>obtain⟨σ5,H5,I5,q5⟩:=sp;exact away I5 λs6 I6=>⟨_,H5,I6,q5⟩
 |cont=>obtain⟨σ5,H5,I5,q5⟩:=sp;exact away I5 λs6 I6=>⟨_,H5,I6,q5⟩
 |ret u=>obtain⟨v,σ5,H5,I5,rv,q5⟩:=sp;exact away I5 λs6 I6=>⟨v,_,H5,I6,rv,q5⟩
theorem IN(i:Nat)(hN:X.N.Nodup)(hx:DX X e dx)(hD:X.mg sx=aa (.ref D))(hE:oj X.base D)(hcg:∀c,caught c=ah->Under X.base D c)(hh:∀a,fW (hand X a) E0 pin (b₀::suite) dh)(c7:i∉pin:=by decide) (hi:X.N[i]?=aa n:=by rfl) (hl:X.env.scope.names.lookup n=aa .local:=by rfl) (hg:Gl X sx:=by rfl) (hd:(sx == ("__debug__" : Str))=aj:=by decide) (dG:X.stack=X.env::X.outer:=by rfl) (hfm:X.env.frame=aa X.env.locals:=by rfl) (hf:X.fn n=ah\/X.env.scope.names.lookup n=aa .local:=by first|exact .inl rfl|exact .inr rfl):DS X E pin (.Try [.Return (aa e) rp] [.ExceptHandler (aa (.Name sx np)) (aa n) (b₀::suite) hp] [] [] pos) (pY i caught dx dh):=HI i hN (Mo hx) hD hE hcg hh c7 hi hl hg hd dG hfm hf
end
structure jr(k:Nat)(A:aO):Prop where
 dp:A.depth+3*k+5<recursionLimit
 un:A.units+16*k+200<cLine
theorem eY.hand{k:Nat}{A:aO}{v:Option ai}(r:eY k A):jr k (A.mark v):=⟨r.dp,r.un⟩
theorem jr.mono{j k:Nat}{A:aO}(r:jr k A)(h:j<=k):jr j A:=⟨by have:=r.dp;lia,by have:=r.un;lia⟩
theorem jr.deeper{k:Nat}{A:aO}(r:jr (k+1) A)(env:Env):jr k (A.deeper env) :=⟨by have:=r.dp;show A.depth+1+3*k+5<_;lia,by have:=r.un;show A.units+3+16*k+200<_;lia⟩
theorem jr.units{k:Nat}{A:aO}(r:jr k A):A.units+64<cLine:=by have:=r.un;lia
def sL(P:aM)(w:aF)(K:ax)(mg:Str->Option ai)(base:aA)(N:List Str)(qual:Str)(scope:dX)(f:af)(cd:ai)(A:aO)(outer:List Env)(s:am)(H:Hp):Cx :=
 {(im xW P w K mg base N qual scope f cd A outer s H E0)with calm:=aj,xe:=λ_ _=>False}
structure xF(P:aM)(w:aF)(K:ax)(mg:Str->Option ai)(base:aA)(k:Nat)(f:af)(fd:gc)(ps:List Str)(sp:Sp):Prop where
 len:∀vs H Q E,sp vs H Q E->vs.length=ps.length
 run:∀(A:aO) (outer:List Env) (s:am) (H:Hp) (args:Args) (us:List ai) (vs:List V) (Q:VK),jr k A->pK P w K mg base A outer s H->BindsTo s fd args (ps.zip us)->bj vs us->sp vs H Q E0 ->
  k7 (aw P w) A (.call (.ref f) args) (CR xW outer P w H s Q E0) s
structure uY(P:aM)(w:aF)(K:ax)(mg:Str->Option ai)(base:aA)(x:Str)(k:Nat)(ps:List Str)(sp:Sp):Prop where
 ex:∃f fd,mg x=aa (.ref f)/\xF P w K mg base k f fd ps sp/\Binds K fd ps []/\oE K (.ref f)=ah
theorem Iu{P:aM}{w:aF}{K:ax}{mg:Str->Option ai}{base:aA}{k:Nat}{f:af}{name qual:Str}{params:Arguments}{body:List aZ}{scope:dX}{dV kV doc pm aJ ct oc:ai}{an od:Option af}{osl:Array (Option ai)}{N ps:List Str}{sp:Sp} (lk:K.lookup f=aa ⟨oc,od,.func (hU name qual params body scope dV kV doc pm an aJ ct),osl⟩) (bU:sW K aJ qual=ah) (S:b_ N ps scope)(len:∀vs H Q E,sp vs H Q E->vs.length=ps.length)(gJ:∀(A:aO) (outer:List Env) (s:am) (H:Hp) (vs:List V) (Q:VK),jr k (A.deeper (iA qual scope s.heap.objs.size f aJ))->sp vs H Q E0 -> n0 (sL P w K mg base N qual scope f aJ A outer s H) body {nx:=λ_ H'=>Q .non H',rt:=Q} (L2.start N vs) H):xF P w K mg base (k+1) f (hU name qual params body scope dV kV doc pm an aJ ct) ps sp:=by
 refine⟨len,λA outer s H args us vs Q hr e0 hb r gi=>?_⟩;have hl:=len _ _ _ _ gi;have KX:K.In s.heap:=e0.mod.kin.keeps λb o e=>(e0.bs b o e).1;have lim:s.heap.NoLimit:=e0.mod.nolimit.keeps λb o e=>(e0.bs b o e).1;have AE:∀y∈ps.zip us,scope.names.lookup y.1=aa .local\/(scope.names.lookup y.1=aa .cell/\((eU (s.heap.objs.size+1) scope.names []).lookup y.1).isSome=ah):=λ⟨n,v⟩ hy=>(S.par n (wt hy).1).imp id λq=>⟨q,ED _ _ _ (.inl q)⟩
 refine codeAny_call_function (by have:=hr.dp;lia) (KX _ _ lk) rfl S.co S.gen rfl (PySem.W.codeRec_of KX bU) (hb _ _ _ _ ?_);refine wpAny_newFunctionEnv_cells S.kind AE λenv he s1 x=>?_;subst he;refine⟨lim.keeps x.toInCall.keep,codeAny_func ?_⟩;have e1:pK P w K mg base {A with handled:=ae} outer s H:=⟨e0.frames,e0.mod,e0.bs,e0.bsz,e0.funs,e0.frf,e0.hok,e0.bare,e0.tab⟩
 have I0:Inv (im xW P w K mg base N qual scope f aJ {A with handled:=ae} outer s H E0) [] (L2.start N vs) H s1:=Cr S rfl e1 hl r x;have I:Inv (sL P w K mg base N qual scope f aJ A outer s H) [] (L2.start N vs) H s1 :=
  ⟨⟨I0.ok.mod,I0.ok.kind,I0.ok.glob,I0.ok.blt,I0.ok.above,I0.ok.inj,I0.ok.has,I0.ok.cab,(λz=>by cases z),Around.frames_deeper e0.frames,I0.ok.stk,I0.ok.exf,I0.ok.bs,I0.ok.bsz,I0.ok.noex,I0.ok.exfs,I0.ok.funs,I0.ok.frf,I0.ok.tab⟩,I0.os,I0.bare,I0.base,I0.loc,I0.cell,I0.free,I0.freeC,I0.pin,I0.hok,I0.len⟩
 refine dY ((gJ A outer s H vs Q (hr.deeper _) gi).run [] s1 I) (λfl s' hs=>?_) λe s' hs=>hs.elim;have fin:∀{σ':St}{H':Hp}{v:V}{u:ai},Inv (sL P w K mg base N qual scope f aJ A outer s H) [] σ' H' s'->RelV v u->Q v H'->CE outer P w H s Q u s':=λ{σ' H' v u} J rv q=>⟨v,H',J.os,J.bare,J.base,J.hok,rv,q⟩
 cases fl with
 |ret u=>obtain⟨v,σ',H',J,rv,q⟩:=hs;exact fin J rv q
 |next=>obtain⟨σ',H',J,q⟩:=hs;exact fin (v:=V.non) (u:=Value.none) J rfl q
 |brk=>obtain⟨_,_,_,q⟩:=hs;exact ge q
 |cont=>obtain⟨_,_,_,q⟩:=hs;exact ge q
theorem Fw{P:aM}{w:aF}{K:ax}{mg:Str->Option ai}{base:aA}{x:Str}{st:aZ}{N ps:List Str}{k n:Nat}{g:ak->R Slot}{d:ak->R aS}{pin:List Nat}(D:cq K mg x st)(Sc:b_ N ps (aW st))(hn:N.length=ps.length+n)(hb:∀(kV doc pm:ai) (an:Option af) (aJ ct:ai) (us:List ai),us.length=ps.length->fC (hU x x (iZ st) (fB st) (aW st) .none kV doc pm an aJ ct) ⟨us,[]⟩=pure (ps.zip us))(bz:∀ss,g ss≠.no->ss.length=ps.length) (ji:∀ss,g ss≠.no->∀(i:Nat) po,ss[i]?=aa (.own po)->i∈pin/\fZ po=ah) (hg:∀ss,g ss≠.no->bC n d ss=g ss)(gJ:∀(f:af) (aJ:ai) (A:aO) (outer:List Env) (s:am) (H:Hp),jr k (A.deeper (iA x (aW st) s.heap.objs.size f aJ))->fW (sL P w K mg base N x (aW st) f aJ A outer s H) E0 pin (fB st) d):uY P w K mg base x (k+1) ps (bF K g):=by obtain⟨f,fd,hm,Fn⟩:=D.ex;refine⟨f,fd,hm,?_,Fn.binds hb,Fn.kp⟩;obtain⟨oc,od,kV,doc,pm,an,aJ,ct,osl,rfl,lk,bU⟩:=Fn.ex;exact Iu lk bU Sc (Bc bz) λA outer s H vs Q hr gi=>Ec hn bz (λss h i po e=>(ji ss h i po e).1) (λss rs aI h=>.inr λi po e=>(ji ss (by rw[h];exact nofun) i po e).2) hg (gJ f aJ A outer s H hr) gi
section
variable{X:Cx}{E:XK}{e:aB}{es:List aB}{dg:ak->R (List bW)}{pos:Pos}{x:Str}{k:Nat}{ps:List Str}{g:ak->R Slot}{p:Pos}
theorem K_{f:af}{fd:gc}{sp:Sp}{t:TA}(Fn:xF X.prog X.w X.K X.mg X.base k f fd ps sp)(hr:jr k X.A)(hg:Gl X x)(hm:X.mg x=aa (.ref f))(hk:oE X.K (.ref f)=ah)(hb:Binds X.K fd ps [])(ha:PA X (e::es) t) (hd:(x == ("__debug__" : Str))=aj) (he:aL (e::es) X.env=(aj,aU e X.env)::aL es X.env) (cS:(cL pos (aL es X.env)).any (·.1)=aj):PE X (.Call (.Name x p) (e::es) [] pos) (λσ H Q=>t σ H λvs H1=>sp vs H1 Q E0):=λag s σ H Q I h=>by
 refine wq (qo I hg hm ?_ hd);refine EC (h₀:=X.base) I.ok.mod.kin hk (aV (ha pos ag s σ H _ I h) λus s1 ⟨vs,H1,I1,r,q⟩=>⟨I1.kIn,?_⟩) he cS;have hl:us.length=ps.length:=by rw[←r.length];exact Fn.len _ _ _ _ q
 refine wp (oD (Fn.run X.A X.stack s1 H1 ⟨us,[]⟩ us vs Q hr I1.env0 (by have:=hb s1 us I1.kIn (by rw[hG];exact hl);rwa[hG]at this) r q) λrr s' hq=>?_);cases rr with
 |error er=>exact(show False from hq).elim
 |ok fl=>
  cases fl with
  |ret u=>exact I1.after hq
  |next=>exact ge hq
  |brk=>exact ge hq
  |cont=>exact ge hq
theorem Fv{α β:Type}{K:ax}{E E':XK}{σ:St}{F:af->Prop}{S:Nat->af->Prop}{H:Hp}{C:β->ak->(af->Prop)->(Nat->af->Prop)->Hp->Prop}{r:R α}{f:α->ak->R β}(h:Ok K E σ F S H (bN (r.bind f)) C):Ok K E σ F S H r λa ε F S H=>Ok K E' σ F S H (f a ε) C:=by
 cases r with
 |ok a ε=>
  intro F1 S1 H1 r1 g1;have h:Ok K E σ F S H (bN (f a ε)) C:=h;cases e:f a ε with
  |ok=>rw[e]at h;exact Ok.from (E:=E') h g1
  |_=>rw[e]at h;exact h.elim
 |_=>exact h.elim
theorem J7(c:uY X.prog X.w X.K X.mg X.base x k ps (bF X.K g))(hr:jr k X.A)(ha:DG X E (e::es) dg)(hg:Gl X x:=by rfl)(hd:(x == ("__debug__" : Str))=aj:=by decide) (h1:aL (e::es) X.env=(aj,aU e X.env)::aL es X.env:=by rfl) (h2:(cL pos (aL es X.env)).any (·.1)=aj:=by rfl):DR X E (.Call (.Name x p) (e::es) [] pos) (λε=>bN (aY g dg ε)):=λF S ε σ H Q rl h=>by obtain⟨f,fd,hm,Fn,hb,hk⟩:=c.ex;exact b9 (K_ Fn hr hg hm hk hb gD hd h1 h2) (ha F S ε σ H _ rl ((Fv h).imp λas ε1 F1 S1 H1 r1 g1 q vs av=>Dr r1 g1 av q))
end
structure mK(K:ax)(C:af):Prop where
 ga:oC K (.ref C) "__getattribute__" = aa (aa (.builtin "BaseException.__getattribute__"))
 gt:oC K (.ref C) "__getattr__" = aa ae
 cl:oC K (.ref C) "__class__" = aa (aa (.builtin "object.__class__"))
 gs:EA K (.builtin "object.__class__") "__get__" = aa (aa (.builtin "getset_descriptor.__get__"))
 tk:PySem.W.takesIn K (.builtin "object.__class__")=aa ah
 ob:wo K C (.type "object")=aa ah
 be:wo K C (.type "BaseException")=aa ah
 cs:(Ag K C).isSome=ah
section
variable{prog:aM}{w:aF}{A:aO}{E:ai->am->Prop}{K:ax}{h:aA}{g:Array GenState}{d:Drawn}{t:Nat}{os:OsState}{a C:af}{o:Obj}
theorem L9{M:Model}{nameV:ai}{Q:Unit->am->Prop}(X:K.In h)(k:mK K C)(I:sV h a o C ae)(hq:Q () ⟨h,g,d,t,os⟩):aq M A (ET "BaseException.__getattribute__" ⟨[.ref a,nameV],[]⟩) Q E ⟨h,g,d,t,os⟩:=by
 have hk:builtinKind "BaseException.__getattribute__" = aa .slot:=by decide +kernel
 have NV:splitId "BaseException.__getattribute__" = aa ("BaseException","__getattribute__"):=by decide +kernel
 have ha:=F.args_bexc_ga (.ref a) nameV;have L0:=I.type (M:=M);have L1:=PySem.W.looks_mroIn (M:=M) X k.be;simp only[ET,hk,NV];refine ap ?_
 ·unfold wC
  repeat (first|with_reducible refine ap (L0.at ?_)|with_reducible refine L1.at ?_|with_reducible refine ap (L1.at ?_)|wp_step)
  exact hq
theorem K0{tk:Tok}{Q:Fin->am->Prop}(X:K.In h)(k:mK K C)(I:sV h a o C ae)(hq:Q (.done (.ret (.ref C))) ⟨h,g,d,t,os⟩):aq (aw prog w) A (Builtin.«object.__getattribute__» ⟨[.ref a,.str "__class__" tk],[]⟩) Q E ⟨h,g,d,t,os⟩:=by
 have L0:=I.type (M:=aw prog w);have hf:PySem.W.findObj K C ae "__class__" = aa (.bind (.builtin "getset_descriptor.__get__") (.builtin "object.__class__")):=by obtain⟨cd,hc⟩:=zJ.mp k.cs;unfold PySem.W.findObj;rw[hc,iB,k.cl,iB];simp[k.gs,k.tk]
 have L1:=PySem.W.looks_find (M:=aw prog w) X I hf;have gg:k7 (aw prog w) A (.call (.builtin "getset_descriptor.__get__") ⟨[.builtin "object.__class__",.ref a,.ref C],[]⟩) (λr s'=>r=.ok (.ret (.ref C))/\s'=⟨h,g,d,t,os⟩) ⟨h,g,d,t,os⟩:=PySem.W.class_get (s:=⟨h,g,d,t,os⟩) X I k.ob ⟨rfl,rfl⟩;refine ap (aD (ap (aD (ap (L0.at (ap (L1.at ?_)))))));show aq _ _ (do ret (←j4 [Value.builtin "object.__class__"] (call (.builtin "getset_descriptor.__get__") [.builtin "object.__class__",.ref a,.ref C]))) _ _ _;refine ap (iz (wp (oD gg λr s' z=>?_)));obtain⟨rfl,rfl⟩:=z;exact aD hq
theorem Gm{tk:Tok}{Q:ai->am->Prop}(X:K.In h)(k:mK K C)(I:sV h a o C ae)(hq:Q (.ref C) ⟨h,g,d,t,os⟩):aq (aw prog w) A (getAttrBy (.ref a) (.str "__class__" tk) aj) Q E ⟨h,g,d,t,os⟩:=by
 have L0:=I.type (M:=aw prog w);have L1:=PySem.W.looks_findIn (M:=aw prog w) X k.ga;have L2':=PySem.W.looks_findIn (M:=aw prog w) X k.gt;have mr:(Value.builtin "BaseException.__getattribute__" == Value.builtin "object.__getattribute__")=aj:=by decide +kernel
 have nD:(onTheHeap (Value.ref C)&&Value.builtin "BaseException.__getattribute__" == Value.builtin "object.__getattribute__")=aj:=by rw[mr];rfl
 unfold getAttrBy;refine iz (ap (L0.at (ap (L1.at ?_))));dsimp only;rw[nD];rw[if_neg (by decide)];have f3:=F.attr_ValueError.ga.bind (.ref a);have hx0:(aj&&onTheHeap (Value.builtin "BaseException.__getattribute__"))=aj:=rfl
 repeat (any_goals (first|assumption|with_reducible refine L2'.at ?_|with_reducible refine ap (L2'.at ?_)|wp_step))
 refine codeAny_call_builtin F.attr_ValueError.ga.plain F.entry_bexc_ga (L9 X k I (K0 X k I ?_))
 repeat (any_goals (first|assumption|wp_step))
theorem Fy{Q:Option ai->am->Prop}(X:K.In h)(k:mK K C)(I:sV h a o C ae)(hq:Q (aa (.ref C)) ⟨h,g,d,t+1,os⟩):aq (aw prog w) A (getAttr? (.ref a) "__class__") Q E ⟨h,g,d,t,os⟩:=by
 unfold getAttr? getAttrBy?
 repeat (any_goals (first|assumption|with_reducible apply Gm X k I|wp_step))
theorem Ik(k:mK K C):PySem.W.KitX K (.ref a) (.ref C) (λh=>∃o,sV h a o C ae) where
 ty:=λ_ _ _ ⟨o,I⟩=>I.type
 it:=λ_ _ X _=>by
  obtain⟨cd,hc⟩:=zJ.mp k.cs;unfold Ag at hc;split at hc
  ·rename_i c' d' cd' sl' ho;intro A' Q' E' s' kk q;unfold isType loadHead;exact ap (wpAny_loadPart (kk _ _ (X _ _ ho)) (aD q))
  ·cases hc
 ne:=λh tp dd its n sl X htp=>by
  obtain⟨cd,hc⟩:=zJ.mp k.cs;refine wJ.mpr λq=>?_;have e:C=tp:=Value.ref.inj (beq_iff_eq.mp q);subst e;unfold Ag at hc;split at hc
  ·rename_i c' d' cd' sl' ho;have z:=(X _ _ ho).symm.trans htp;cases z
  ·cases hc
 ca:=λ{_ _ _ _ _ s} X I q=>by obtain⟨o,I⟩:=I;obtain⟨h,g,d,t,os⟩:=s;exact Fy X k I q
end
def vx:V->Option ai
 |.ref D=>aa (.ref D)
 |.ty T=>aa (.type T)
 |_=>ae
theorem GN{v:V}{u u':ai}(e:vx v=aa u)(r:RelV v u'):u'=u:=by
 cases v <;> simp[vx]at e <;> subst e <;> exact r
section
variable{X:Cx}{K:ax}
def Es(K:ax):List V->Hp->VK->Prop:=λxs H Q=>∃a C D u b,xs=[.ref a,D]/\H a=aa (lB a (.ref C))/\mK K C/\vx D=aa u/\d4 K (.ref C) u=aa b/\Q (.bl b) H
theorem Oa:et X (.builtin "isinstance") (Es X.K):=by
 intro ag s σ H xs us Q I r h;obtain⟨a,C,D,u,b,rfl,ha,k,hu,e,q⟩:=h;cases r with
 |cons r1 r2=>
  cases r2 with
  |cons r3 r4=>
   cases r4;cases r1;have e3:=GN hu r3;subst e3;obtain⟨⟨o,vs,h1,h2,h3,h4⟩,_,_⟩:=I.hok a _ ha;refine j6 (Ik (a:=a) k) I.kIn ⟨o,h1,h2,?_,?_⟩ e (by intro z;cases z) λtk=>⟨.bl b,H,I.tok _,rfl,q⟩
   ·unfold PySem.W.notCls;rw[h3]
   ·rw[h4];trivial
def iJ(tab:ai->V->Option Bool):List PV->Option PV
 |[.exc c,.raw D]=>(tab c D).map .bl
 |xs=>dU xs
def Cq(K:ax):List V->Hp->VK->Prop:=λxs H Q=>Es K xs H Q\/∃x t T b,xs=[x,.ty T]/\g9 K H x (.type t)/\d4 K (.type t) (.type T)=aa b/\Q (.bl b) H
theorem jw:et X (.builtin "isinstance") (Cq X.K):=Oa.or nK
def xS(K:ax)(tab:ai->V->Option Bool):Prop:=∀c D b,tab c D=aa b->∃C u,c=.ref C/\mK K C/\vx D=aa u/\d4 K (.ref C) u=aa b
theorem jo{tab:ai->V->Option Bool}(ht:xS K tab):PL K (Cq K) (iJ tab):=λF H xs vs Q pv rs e q=>by
 unfold iJ at e;split at e
 ·rename_i c D;cases q1:tab c D with
  |none=>rw[q1]at e;cases e
  |some b=>
   rw[q1]at e;cases e;obtain⟨C,u,rfl,k,hu,hk⟩:=ht c D b q1;obtain⟨v,r',rfl,⟨a,rfl,ha⟩,h2⟩:=rs;obtain⟨v2,rfl,h3⟩:=ik h2;rw[show v2=D from h3];exact .inl ⟨a,C,D,u,b,rfl,ha,k,hu,hk,q _ F H (Al.refl ..) rfl⟩
 ·exact .inr (n4 F H _ vs Q pv rs e q)
theorem jV{E:XK}{x:Str}{D:af}{pos:Pos}(hm:X.mg x=aa (.ref D))(hg:Gl X x:=by rfl)(hd:(x == ("__debug__" : Str))=aj:=by decide):DE X E (.Name x pos) (dC (.raw (.ref D))):=λF S ε σ H Q r q=>b9 (yB (v:=.ref D) hg hm rfl hd) (q F S H r (bp.refl ..) _ rfl)
variable{E:XK}{e:aB}{de:ak->R PV}{pos:Pos}{y:Str}
def kL(xs:List PV)(y:PV):Option PV:=(cV y).bind λv=>(gY xs).map λws=>.int (ws.countP λz=>dz z v)
def yO(xs:List PV)(y:PV):Option PV:=(cV y).bind λv=>(gY xs).bind λws=>(ws.findIdx? λz=>dz z v).map λj=>.int j
def pQ(f:List PV->PV->Option PV)(i:Nat)(de:ak->R PV):ak->R PV:=λε=>(bg (dQ ε i) ε).bind λ_ ε=>(de ε).bind λk ε1=>(bg (dQ ε1 i) ε1).bind λxs ε1=>bg (f xs k) ε1
theorem HU(i:Nat){p apos cpos:Pos}(he:DE X E e de)(hN:X.N[i]?=aa y:=by rfl)(hv:fH X.env.scope y:=by first|exact Or.inl rfl|exact Or.inr (Or.inl rfl)|exact Or.inr (Or.inr rfl))(hd:(y == ("__debug__" : Str))=aj:=by decide)(bU:(y == ("__classdict__" : Str))=aj:=by decide) (h1:k8 (.Name y p) "count" X.env (aU (.Name y p) X.env)=aU (.Name y p) X.env:=by rfl)(h2:((cL cpos (aL [e] X.env)).all (λx=>!x.1)&&(qz cpos (qA [] X.env)).all (λx=>x.1.isSome)&&decide ([e].length+([]:List jf).length+(if([]:List jf).isEmpty then 0 else 1)<30))=ah:=by rfl)(h3:(apos.endLine == cpos.line)=ah:=by rfl) (h4:aL [e] X.env=(aj,aU e X.env)::aL [] X.env:=by rfl) (h5:(cL cpos (aL [] X.env)).any (·.1)=aj:=by rfl):DE X E (.Call (.Attribute (.Name y p) "count" apos) [e] [] cpos) (pQ kL i de):=λF S ε σ H Q rl h=>by
 unfold pQ at h;cases e0:dQ ε i with
 |none=>rw[e0]at h;exact h.elim
 |some xs0=>
  rw[e0]at h;simp only[eK,R.bind_ok]at h;obtain⟨a,vs0,ea,ha,_,_,_⟩:=rl.lstAt (iq e0);refine b9 (vQ Ac PySem.F.slot_list_count PySem.F.type_list_count Ic (gU hN hv hd bU) (io bL jt h4) h1 h2 h3 h4 h5) ⟨.ref a,ea,.inl ⟨rfl,_,cc.of ha⟩,?_⟩;refine he F S ε σ H _ rl ((Ok.bind h).imp λk ε1 F1 S1 H1 r1 g1 q v rv=>?_);cases e1:dQ ε1 i with
  |none=>rw[e1]at q;exact q.elim
  |some xs=>
   rw[e1]at q;simp only[eK,R.bind_ok]at q;obtain⟨a',vs,ea',mo,ra,_,_⟩:=r1.lstAt (iq e1);rw[ea]at ea';cases ea';unfold kL at q;cases q1:cV k with
   |none=>rw[q1]at q;exact q.elim
   |some w=>
    cases q2:gY xs with
    |none=>rw[q1,q2]at q;exact q.elim
    |some ws=>rw[q1,q2]at q;obtain⟨rfl,hf⟩:=rO ra q2;rw[iH rv q1];exact⟨a,vs,w,rfl,rfl,mo,pc q1,hf,q F1 S1 H1 r1 (bp.refl ..) _ rfl⟩
theorem GG(i:Nat){p apos cpos:Pos}(he:DE X E e de)(hN:X.N[i]?=aa y:=by rfl)(hv:fH X.env.scope y:=by first|exact Or.inl rfl|exact Or.inr (Or.inl rfl)|exact Or.inr (Or.inr rfl))(hd:(y == ("__debug__" : Str))=aj:=by decide)(bU:(y == ("__classdict__" : Str))=aj:=by decide) (h1:k8 (.Name y p) "index" X.env (aU (.Name y p) X.env)=aU (.Name y p) X.env:=by rfl)(h2:((cL cpos (aL [e] X.env)).all (λx=>!x.1)&&(qz cpos (qA [] X.env)).all (λx=>x.1.isSome)&&decide ([e].length+([]:List jf).length+(if([]:List jf).isEmpty then 0 else 1)<30))=ah:=by rfl)(h3:(apos.endLine == cpos.line)=ah:=by rfl) (h4:aL [e] X.env=(aj,aU e X.env)::aL [] X.env:=by rfl) (h5:(cL cpos (aL [] X.env)).any (·.1)=aj:=by rfl):DE X E (.Call (.Attribute (.Name y p) "index" apos) [e] [] cpos) (pQ yO i de):=λF S ε σ H Q rl h=>by
 unfold pQ at h;cases e0:dQ ε i with
 |none=>rw[e0]at h;exact h.elim
 |some xs0=>
  rw[e0]at h;simp only[eK,R.bind_ok]at h;obtain⟨a,vs0,ea,ha,_,_,_⟩:=rl.lstAt (iq e0);refine b9 (vQ Ac PySem.F.slot_list_index PySem.F.type_list_index KN (gU hN hv hd bU) (io bL jt h4) h1 h2 h3 h4 h5) ⟨.ref a,ea,.inl ⟨rfl,_,cc.of ha⟩,?_⟩;refine he F S ε σ H _ rl ((Ok.bind h).imp λk ε1 F1 S1 H1 r1 g1 q v rv=>?_);cases e1:dQ ε1 i with
  |none=>rw[e1]at q;exact q.elim
  |some xs=>
   rw[e1]at q;simp only[eK,R.bind_ok]at q;obtain⟨a',vs,ea',mo,ra,_,_⟩:=r1.lstAt (iq e1);rw[ea]at ea';cases ea';unfold yO at q;cases q1:cV k with
   |none=>rw[q1]at q;exact q.elim
   |some w=>
    cases q2:gY xs with
    |none=>rw[q1,q2]at q;exact q.elim
    |some ws=>
     cases q3:ws.findIdx? λz=>dz z w with
     |none=>rw[q1,q2]at q;simp only[iB]at q;rw[q3]at q;exact q.elim
     |some j=>
      rw[q1,q2]at q;simp only[iB]at q;rw[q3]at q;obtain⟨rfl,hf⟩:=rO ra q2;rw[iH rv q1];rw[NP]at q3;obtain⟨hj,h6,h7⟩:=q3;refine⟨a,vs,w,j,rfl,rfl,mo,pc q1,hf,hj,λz hz=>?_,λm z hm hz=>?_,q F1 S1 H1 r1 (bp.refl ..) _ rfl⟩
      ·rw[d7 hj]at hz;cases hz;exact h6
      ·have:=h7 m hm;rw[d7 ∅]at hz;cases hz;simpa using this
end
theorem GS(c:Nat)(x:Tx):uw [c] x=x.contains c:=by unfold uw;have:=StrLaws.found_one (tS x) c;rw[lM]at this;rw[show(tS [c])=⟨#[c]⟩from rfl,this];simp[List.contains_eq_mem]
theorem Nd:fillsNumberSlot (.type "tuple") "mul" = pure aj :=PySem.fillsNumberSlot_seq (id:="tuple.__mul__") (r:=aa (.builtin "tuple.__rmul__")) F.slot_tuple_mul.lookup (by decide +kernel) F.slot_tuple_rmul.lookup (by decide +kernel)
theorem Kz:seqRepeat? (.type "tuple")=pure (aa (.builtin "tuple.__mul__")):=by unfold seqRepeat?;rw[PySem.seqSlot_of (T:="tuple") (name:="__mul__") (id:="tuple.__mul__") F.slot_tuple_mul.lookup (by decide +kernel),PySem.seqSlot_of (T:="tuple") (name:="__rmul__") (id:="tuple.__rmul__") F.slot_tuple_rmul.lookup (by decide +kernel)];rfl
theorem NC(a:Int)(t:Tok)(l:af)(items:Array ai)(n:Nat)(dd:Option af)(sl:Array (Option ai)):Meets (Builtin.«int.__rmul__» ⟨[.int a t,.ref l],[]⟩) (λ_ R s=>s.heap.get? l=aa {cls:=.type "tuple",dict:=dd,data:=.seq items n,slots:=sl}/\R (.ok (.ret Value.notImplemented)) s) :=.of_wp λprog w A R s h=>by obtain⟨hp,g,d,tk,os⟩:=s;obtain⟨hl,h⟩:=h;wp_walk;exact⟨_,rfl,h⟩
theorem Jo(l:af)(items:Array ai)(n:Nat)(dd:Option af)(sl:Array (Option ai))(x:Int)(u:Tok)(h0:(decide (x < -(2^63))||decide (x ≥ 2^63))=aj)(h1:(items.isEmpty||x == 1)=aj)(h2:(decide (x<=0)||items.isEmpty)=aj)(h3:¬(items.size*x > (2^63-1) / 8))(h4:Builtin.Tuple.tupleTooMany (items.size*x)=aj)(h5:((bS x.toNat items).foldl (·++·) #[]).size<=a_):Meets (Builtin.«tuple.__mul__» ⟨[.ref l,.int x u],[]⟩) (λ_ R s=>s.heap.get? l=aa {cls:=.type "tuple",dict:=dd,data:=.seq items n,slots:=sl}/\R (.ok (.ret (.ref s.heap.objs.size))) {s with heap:=s.heap.push {cls:=.type "tuple",data:=.seq ((bS x.toNat items).foldl (·++·) #[])}}) :=
 .of_wp λprog w A R s h=>by
  obtain⟨hp,g,d,tk,os⟩:=s;obtain⟨hl,h⟩:=h
  wp_walk
  refine wpAny_ite_false (decide_eq_false (by rw[h0];exact eT)) ?_
  wp_walk
  refine wpAny_ite_false (decide_eq_false h3) ?_
  wp_walk
  exact⟨_,rfl,h⟩
section
variable{X:Cx}{K:ax}
def Dj(K:ax):R2:=λx y H Q=>∃a k xs,x=.ref a/\y=.int k/\cD K H a xs/\xs≠[]/\2<=k/\k<=1000/\xs.length<=1000/\∀p,H p=ae->Q (.ref p) (upd H p (.tup (bS k.toNat xs).flatten))
theorem ND:bV X (iQ .Mult) (Dj X.K):=by
 intro ag s σ H x y v u Q I rx ry h;obtain⟨l,k,xs,rfl,rfl,hH,dq,h1,h2,hz,q⟩:=h;cases rx;obtain⟨t,rfl⟩:=ry;obtain⟨its,r,p1,_⟩:=I.tuple hH;obtain⟨⟨cls,dd,data,sl⟩,ho,hc,n,hd⟩:=id p1;simp only at hc hd;subst hc hd;have hl:=r.length;have hne':its≠[]:=λz=>dq (r.nil_iff.mp z);have f0:List.foldl (λx1 x2=>x1++x2) #[] (bS k.toNat its.toArray)=(bS k.toNat its).flatten.toArray:=by have:=foldl_rep its k.toNat [];rw[iC]at this;exact this
 have he:its.toArray.isEmpty=aj:=by cases its with|nil=>exact absurd rfl hne'|cons=>rfl
 have e1:(k == 1)=aj:=by rw[beq_eq_false_iff_ne];lia
 have Fo:its.toArray.size*k<=1000000:=by
  rw[ce];have ha:(its.length:Int)<=1000:=∅
  have:=Int.mul_le_mul ha h2 ∅ ∅;lia
 refine wpAny_binaryOp_repeat_ref (T:="tuple") (U:="int") (by decide) ⟨_,ho,rfl⟩ (λs'=>typeIs_int s' k t) Nd F.fills_int_mul F.slot_int_rmul Kz F.slot_int_index.lookup
  (qD F.slot_int_rmul (typeIs_int s k t) F.entry_int_rmul (F.args_int_rmul_2 _ _) (NC k t l its.toArray n dd sl) ⟨ho,rfl,⟨_,ho,rfl⟩,qD F.slot_tuple_mul ⟨_,ho,rfl⟩ F.entry_tuple_mul (F.args_tuple_mul_2 _ _) (Jo l its.toArray n dd sl k t ?_ ?_ ?_ ?_ ?_ ?_) ⟨ho,?_⟩⟩)
 ·rw[decide_eq_false ∅,decide_eq_false ∅];rfl
 ·rw[he,e1];rfl
 ·rw[he,decide_eq_false ∅];rfl
 ·lia
 ·unfold Builtin.Tuple.tupleTooMany;exact decide_eq_false (by rw[oB];lia)
 ·rw[f0,ce,yj,oB];have:=zX (show k.toNat<=1000 by lia) (show its.length<=1000 by lia);lia
 ·rw[f0];refine⟨.ref s.heap.objs.size,_,I.laid (t':=s.toks) (o:=.tup (bS k.toNat xs).flatten) (λb ob q=>bH _ q) (a9 _) ?_,rfl,q _ (I.hok.fresh (a9 _))⟩;refine⟨?_,_,r.rep k.toNat,Et.new _ _⟩;rw[yj,oB];have:=zX (show k.toNat<=1000 by lia) hz;lia
theorem _root_.Pu.Reps.rep{H:Hp}{F:af->Prop}{xs:List PV}{vs:List V}(r:Reps K H F xs vs):∀n:Nat,Reps K H F (bS n xs).flatten (bS n vs).flatten
 |0=>rfl
 |n+1=>by rw[m8,m8,qB,qB];exact r.app (r.rep n)
def uX:PV->PV->Option PV
 |.tup xs,.int k=>if xs≠[]/\2<=k/\k<=1000/\xs.length<=1000 then aa (.tup (bS k.toNat xs).flatten)else ae
 |_,_=>ae
theorem Ng:P2 K (Dj K) uX:=λF H x y v u Q pv rx ry e q=>by
 unfold uX at e;split at e
 ·split at e
  ·rename_i xs k h;cases e;obtain⟨a,us,rfl,ha,ra⟩:=rx;have hl:=ra.len;exact⟨a,k,us,rfl,ry,cD.of ha,(λz=>h.1 (by rw[z]at hl;exact qH hl.symm)),h.2.1,h.2.2.1,∅,λp hp=>q _ F _ (Al.new0 hp) ⟨p,_,rfl,cE,(Al.new0 hp).reps (ra.rep _)⟩⟩
  ·cases e
 ·cases e
end
section
variable{X:Cx}{E:XK}{scope:dX}{x:Str}{N':List Str}{cap:List Nat}
variable{pin:List Nat}
theorem GX{F:af->Prop}{S:Nat->af->Prop}{ε:ak}{σ:St}{H:Hp}{D:jU}{i:Nat}{dn:ak->R PO}(hp:i∉pin)(rl:aP X.K F S ε σ H)(h:ix X.K E pin σ F S H (cN i (dF dn) ε) D):Ok X.K E σ F S H (dn ε) (λpo _ F' S' H'=>∀a Sa,eR X.K H' F' po a Sa->(∀b,Sa b->H b=ae/\¬F' b/\¬U S' b/\∃o,H' b=aa o/\dR o)->D.nx (σ.set i (aa (.ref a))) H'):=by
 unfold cN dF at h;cases e0:dn ε with
 |no=>rw[e0]at h;exact h.elim
 |er c ε'=>rw[e0]at h;exact λx F' S' H' r' g'=>h x F' S' σ H' r' g' (ie.refl _ _)
 |ok po ε1=>
  rw[e0]at h;intro F1 S1 H1 r1 g1 a Sa ow fr;cases po with
  |dK kvs=>exact h.elim
  |lls iT=>exact h.elim
  |ins C fs=>exact h.elim
  |dT kvs=>exact h.elim
  |inl C fs y xs=>exact h.elim
  |lst xs=>
   have hN:∀b,Sa b->¬U S1 b/\∃o,H1 b=aa o:=λb z=>let ⟨_,_,x3,o,x4,_⟩:=fr b z;⟨x3,o,x4⟩
   obtain⟨⟨vs,ha,hr⟩,hS⟩:=ow;have g2:bp (U S) (U S1) F (λb=>F1 b\/Sa b) H H1:=⟨λb z=>.inl (g1.fro b z),g1.keep,g1.there,λb z=>z.elim (g1.fnew b) λw=>.inr (.inl (fr b w).1),g1.onew⟩
   have rv:aT X.K H1 (λb=>F1 b\/Sa b) (.lst xs) (.ref a):=⟨a,vs,rfl,.inl ha,.inr ((hS a).mpr rfl),Reps.mono (λ_ z=>.inl z) (λ_ _ _ z=>z) (λ_ _ z _=>z) _ _ hr⟩
   exact h _ _ _ H1 ((r1.more hN).set rv) (g2.trans (bp.less i)) (ie.set hp)
section
variable{elt iter:aB}{y:Str}{px py pos spos:Pos}{di:ak->R (List PV)}{dt:ak->R Bool}{de:ak->R PV}{dl:ak->R PO}{ifs:List aB}
theorem Ga(i:Nat)(hN:X.N.Nodup)(B:jS X scope x N' cap)(hc:X.calm=ah)(hi:DI X E (.Name x px) iter di)(ht:∀C s₀ H₀ ex pn,DF (cO X scope N' C s₀ H₀ ex pn) E0 ifs dt) (he:∀C s₀ H₀ ex pn,DE (cO X scope N' C s₀ H₀ ex pn) E0 elt de)(hp:i∉pin:=by decide) (hiy:X.N[i]?=aa y:=by rfl) (hx:Loc X.env.scope y:=by first|exact Or.inl rfl|exact Or.inr rfl) (hsw:kZ (.ListComp elt [⟨.Name x px,iter,ifs,0⟩] scope pos) (aa (.Name y py)) spos.line X.env=pure ah:=by rfl)(hf:X.fn y=ah\/X.env.scope.names.lookup y=aa .local:=by first|exact .inl rfl|exact .inr rfl) (hs:∀x,qu iter X.env x=pure x:=by intro _;rfl):DS X E pin (.Assign [.Name y py] (.ListComp elt [⟨.Name x px,iter,ifs,0⟩] scope pos) spos) (cN i (dF (cB cap di dt de))):=λF S ε σ H D rl h=>gX (MX (wi:=qj X (.Name x px) iter) (ts:=λσ H Q=>∀C s₀ H₀ ex pn,vn (cO X scope N' C s₀ H₀ ex pn) ifs σ H Q) (te:=λσ H Q=>∀C s₀ H₀ ex pn,iK (cO X scope N' C s₀ H₀ ex pn) elt σ H Q) B hc zu (λC s₀ H₀ ex pn ag s σ H Q I h=>(h C s₀ H₀ ex pn).run ag s I) (λC s₀ H₀ ex pn ag s σ H Q I h=>(h C s₀ H₀ ex pn).run ag s I) hN hiy hx hsw hf hs) (Cu hi ht he rl (GX hp rl h))
end
end
def eX(pin:List Nat):Nat->ak->Bool
 |_,[]=>ah
 |i,.own po::ss=>pin.contains i&&fZ po&&eX pin (i+1) ss
 |i,_::ss=>eX pin (i+1) ss
theorem pC{pin:List Nat}:∀{ss:ak}{k:Nat},eX pin k ss=ah->∀(i:Nat) po,ss[i]?=aa (.own po)->k+i∈pin/\fZ po=ah
 |[],_,_,i,po,e=>by simp at e
 |.own q::ss,k,h,0,po,e=>by simp only[List.getElem?_cons_zero,Option.some.injEq,Slot.own.injEq]at e;subst e;simp only[eX,fD]at h;exact⟨by simpa using h.1.1,h.1.2⟩
 |.own q::ss,k,h,i+1,po,e=>by simp only[eX,fD]at h;have:=pC (k:=k+1) h.2 i po (by simpa using e);rwa[tu,wK]at this
 |.val q::ss,k,h,0,po,e=>by simp at e
 |.none::ss,k,h,0,po,e=>by simp at e
 |.val q::ss,k,h,i+1,po,e=>by have:=pC (k:=k+1) (by simpa[eX]using h) i po (by simpa using e);rwa[tu,wK]at this
 |.none::ss,k,h,i+1,po,e=>by have:=pC (k:=k+1) (by simpa[eX]using h) i po (by simpa using e);rwa[tu,wK]at this
def bD(len:Nat)(pin:List Nat)(g:ak->R Slot):ak->R Slot:=λss=>if ss.length=len/\eX pin 0 ss=ah then g ss else .no
theorem c8{CX:fG}{P:aM}{w:aF}{K:ax}{mg:Str->Option ai}{base:aA}{x:Str}{st:aZ}{N ps:List Str}{k n:Nat}{d:ak->R aS}{pin:List Nat}(D:cq K mg x st)(Sc:b_ N ps (aW st))(hn:N.length=ps.length+n)(hb:∀(kV doc pm:ai) (an:Option af) (aJ ct:ai) (us:List ai),us.length=ps.length->fC (hU x x (iZ st) (fB st) (aW st) .none kV doc pm an aJ ct) ⟨us,[]⟩=pure (ps.zip us))(gJ:∀(f:af) (aJ:ai) (A:aO) (outer:List Env) (s:am) (H:Hp) (E:XK),eY k (A.deeper (iA x (aW st) s.heap.objs.size f aJ))->fW (im CX P w K mg base N x (aW st) f aJ A outer s H E) E pin (fB st) d):cC CX P w K mg base x (k+1) ps (bF K (bD ps.length pin (bC n d))):=by
 have no:∀{ss},bD ps.length pin (bC n d) ss≠.no->ss.length=ps.length/\eX pin 0 ss=ah:=λ{ss} h=>by
  unfold bD at h;by_cases z:ss.length=ps.length/\eX pin 0 ss=ah
  ·exact z
  ·rw[if_neg z]at h;exact absurd rfl h
 exact Nz D Sc hn hb (λss h=>(no h).1) (λss h i po e=>by have:=pC (no h).2 i po e;rwa[qP]at this) (λss h=>by unfold bD;rw[if_pos (no h)]) gJ
theorem Je{f:af}{fd:gc}{CX:fG}{P:aM}{w:aF}{K:ax}{mg:Str->Option ai}{base:aA}{x qual:Str}{st:aZ}{N ps:List Str}{k n:Nat}{d:ak->R aS}{pin:List Nat}(Fn:nV K x qual st f fd)(Sc:b_ N ps (aW st))(hn:N.length=ps.length+n)(hb:∀(kV doc pm:ai) (an:Option af) (aJ ct:ai) (us:List ai),us.length=ps.length->fC (hU x qual (iZ st) (fB st) (aW st) .none kV doc pm an aJ ct) ⟨us,[]⟩=pure (ps.zip us))(gJ:∀(f:af) (aJ:ai) (A:aO) (outer:List Env) (s:am) (H:Hp) (E:XK),eY k (A.deeper (iA qual (aW st) s.heap.objs.size f aJ))->fW (im CX P w K mg base N qual (aW st) f aJ A outer s H E) E pin (fB st) d):jQ P w K mg base CX (k+1) f fd ps (bF K (bD ps.length pin (bC n d))):=by
 have no:∀{ss},bD ps.length pin (bC n d) ss≠.no->ss.length=ps.length/\eX pin 0 ss=ah:=λ{ss} h=>by
  unfold bD at h;by_cases z:ss.length=ps.length/\eX pin 0 ss=ah
  ·exact z
  ·rw[if_neg z]at h;exact absurd rfl h
 exact CH Fn Sc hn hb (λss h=>(no h).1) (λss h i po e=>by have:=pC (no h).2 i po e;rwa[qP]at this) (λss h=>by unfold bD;rw[if_pos (no h)]) gJ
theorem Hu{P:aM}{w:aF}{K:ax}{mg:Str->Option ai}{base:aA}{x:Str}{st:aZ}{N ps:List Str}{k n:Nat}{d:ak->R aS}{pin:List Nat}(D:cq K mg x st)(Sc:b_ N ps (aW st))(hn:N.length=ps.length+n)(hb:∀(kV doc pm:ai) (an:Option af) (aJ ct:ai) (us:List ai),us.length=ps.length->fC (hU x x (iZ st) (fB st) (aW st) .none kV doc pm an aJ ct) ⟨us,[]⟩=pure (ps.zip us))(gJ:∀(f:af) (aJ:ai) (A:aO) (outer:List Env) (s:am) (H:Hp),jr k (A.deeper (iA x (aW st) s.heap.objs.size f aJ))->fW (sL P w K mg base N x (aW st) f aJ A outer s H) E0 pin (fB st) d):uY P w K mg base x (k+1) ps (bF K (bD ps.length pin (bC n d))):=by
 have no:∀{ss},bD ps.length pin (bC n d) ss≠.no->ss.length=ps.length/\eX pin 0 ss=ah:=λ{ss} h=>by
  unfold bD at h;by_cases z:ss.length=ps.length/\eX pin 0 ss=ah
  ·exact z
  ·rw[if_neg z]at h;exact absurd rfl h
 exact Fw D Sc hn hb (λss h=>(no h).1) (λss h i po e=>by have:=pC (no h).2 i po e;rwa[qP]at this) (λss h=>by unfold bD;rw[if_pos (no h)]) gJ
theorem DZ{P:List ai->Prop}(h:∀a,P [a])(us:List ai)(hl:us.length=1):P us:=by
 cases us with
 |nil=>cases hl
 |cons a r=>cases r with
  |nil=>exact h a
  |cons b r=>cases hl
theorem Ed{P:List ai->Prop}(h:∀a b,P [a,b])(us:List ai)(hl:us.length=2):P us:=by
 cases us with
 |nil=>cases hl
 |cons a r=>exact DZ (P:=λr=>P (a::r)) (h a) r (wL hl)
theorem BD{P:List ai->Prop}(h:∀a b c,P [a,b,c])(us:List ai)(hl:us.length=3):P us:=by
 cases us with
 |nil=>cases hl
 |cons a r=>exact Ed (P:=λr=>P (a::r)) (h a) r (wL hl)
theorem MF{P:List ai->Prop}(h:∀a b c d,P [a,b,c,d])(us:List ai)(hl:us.length=4):P us:=by
 cases us with
 |nil=>cases hl
 |cons a r=>exact BD (P:=λr=>P (a::r)) (h a) r (wL hl)
theorem Om{fd:gc}{ps:List Str}(h:∀a,fC fd ⟨[a],[]⟩=pure (ps.zip [a]))(us:List ai)(hl:us.length=1):fC fd ⟨us,[]⟩=pure (ps.zip us):=DZ (P:=λus=>fC fd ⟨us,[]⟩=pure (ps.zip us)) h us hl
theorem Ob{fd:gc}{ps:List Str}(h:∀a b,fC fd ⟨[a,b],[]⟩=pure (ps.zip [a,b]))(us:List ai)(hl:us.length=2):fC fd ⟨us,[]⟩=pure (ps.zip us):=Ed (P:=λus=>fC fd ⟨us,[]⟩=pure (ps.zip us)) h us hl
theorem Oi{fd:gc}{ps:List Str}(h:∀a b c,fC fd ⟨[a,b,c],[]⟩=pure (ps.zip [a,b,c]))(us:List ai)(hl:us.length=3):fC fd ⟨us,[]⟩=pure (ps.zip us):=BD (P:=λus=>fC fd ⟨us,[]⟩=pure (ps.zip us)) h us hl
theorem Ov{fd:gc}{ps:List Str}(h:∀a b c d,fC fd ⟨[a,b,c,d],[]⟩=pure (ps.zip [a,b,c,d]))(us:List ai)(hl:us.length=4):fC fd ⟨us,[]⟩=pure (ps.zip us):=MF (P:=λus=>fC fd ⟨us,[]⟩=pure (ps.zip us)) h us hl
theorem jz{P:aM}{w:aF}{X:Cx}:pV (cf P w) X E0:=λ_ _ _ _ _ _ _ h=>by obtain⟨a,T,c,H',_,_,_,_,_,_,_,z⟩:=h;exact z.elim
theorem gx:eA "len" = aa (.builtin "len"):=by decide +kernel
theorem zq:eA "all" = aa (.builtin "all"):=by decide +kernel
theorem KC:eA "any" = aa (.builtin "any"):=by decide +kernel
theorem pT:eA "sorted" = aa (.builtin "sorted"):=by decide +kernel
theorem f8:eA "isinstance" = aa (.builtin "isinstance"):=by decide +kernel
theorem KO:eA "int" = aa (.type "int"):=by decide +kernel
theorem KD:eA "bool" = aa (.type "bool"):=by decide +kernel
theorem Cn:eA "str" = aa (.type "str"):=by decide +kernel
theorem BA:eA "list" = aa (.type "list"):=by decide +kernel
theorem rW:eA "tuple" = aa (.type "tuple"):=by decide +kernel
theorem Cg:eA "set" = aa (.type "set"):=by decide +kernel
theorem LM:eA "ValueError" = aa (.type "ValueError"):=by decide +kernel
def kQ:aB->Bool
 |.Starred _ _=>ah
 |_=>aj
theorem iW{e:aB}{es:List aB}{env:Env}(h:kQ e=aj):aL (e::es) env=(aj,aU e env)::aL es env:=by
 cases e <;> first|rfl|cases h
section
variable{X:Cx}{E:XK}{e:aB}{es:List aB}{d:ak->R PV}{ds:ak->R (List PV)}{dg:ak->R (List bW)}
theorem ay(ha:DE X E e d)(hr:DA X E es ds)(h:kQ e=aj:=by rfl):DA X E (e::es) (ar d ds):=JG ha hr (iW h)
theorem aQ(ha:DE X E e d)(hr:DG X E es dg)(h:kQ e=aj:=by rfl):DG X E (e::es) (gV d dg):=Hb ha hr (iW h)
end
def si:List ai:=[.type "ValueError",.type "Exception",.type "BaseException",.type "object"]
theorem za{K:ax}{h:aA}{C:af}{B:List ai}{nw:String}(X:K.In h)(q:ni K C B nw=ah):∃bm N nm qn bs hd sn sub ab col dd k0 k1 k2 k3 k5 mN,h.get? C=aa (Af nm qn C N bs bm hd sn sub ab col dd k0 k1 k2 k3 k5 nw)/\h.Ns N mN/\mN "__init__" = ae/\OwnTail h B bm:=by
 unfold ni at q;split at q
 case h_2=>cases q
 case h_1 d0 cdata slots look=>
  split at q
  case h_2=>cases q
  case h_1 C2 tl s0 s1 s2 s3 nn s5 em es=>
   rw[fD,fD,fD,fD,fD]at q;obtain⟨⟨⟨⟨⟨q1,q2⟩,q3⟩,q4⟩,q5⟩,q6⟩:=q;have r1:=beq_iff_eq.mp q1;have r2:=beq_iff_eq.mp q2;have r6:=beq_iff_eq.mp q6;subst r1 r2;cases cdata;dsimp only at em q3 q5 r6;subst em;have r3:=E3 _ |>.mp q3
   subst r3;have r7:slots=#[s0,s1,s2,s3,aa (.builtin nn),s5]:=by cases slots;exact congrArg Array.mk es
   subst r7;exact⟨tl,_,_,_,_,_,_,_,_,_,d0,s0,s1,s2,s3,s5,_,X _ _ look,Heap.Ns.of_isNs (PySem.W.isNs_of_in X q5),PySem.W.nsMap_none_of_in X q5 r6,PySem.W.tail_of_in X q4⟩
theorem Hi{K:ax}{h:aA}{mg:Str->Option ai}{x:Str}{C:af}{B:List ai}{nw:String}(X:K.In h)(e:mg x=aa (.ref C))(q:ni K C B nw=ah):OwnCls x C B nw mg h:=⟨e,za X q⟩
theorem Mg{K:ax}{h:aA}{C:af}{nw:String}(X:K.In h)(q:ni K C si nw=ah):oj h C:=by obtain⟨bm,N,nm,qn,bs,hd,sn,sub,ab,col,dd,k0,k1,k2,k3,k5,mN,e,_,_,t⟩:=za X q;exact⟨bm,N,nm,qn,bs,hd,sn,sub,ab,col,dd,k0,k1,k2,k3,k5,nw,e,t.hasType rfl⟩
def subB(K:ax)(D C:af):Bool:=match K.lookup C with
 |some ⟨_,_,.cls cd,_⟩=>cd.mro.contains (.ref D)
 |_=>aj
theorem HQ{K:ax}{h:aA}{C D:af}{B:List ai}{nw:String}(X:K.In h)(q:ni K C B nw=ah)(s:subB K D C=ah):Under h D (.ref C):=by
 obtain⟨bm,N,nm,qn,bs,hd,sn,sub,ab,col,dd,k0,k1,k2,k3,k5,mN,e,_⟩:=za X q;refine⟨C,bm,N,nm,qn,bs,hd,sn,sub,ab,col,dd,k0,k1,k2,k3,k5,nw,rfl,e,?_⟩;unfold subB at s;split at s
 ·rename_i o1 o2 cd o3 look;have e2:=X _ _ look;rw[e]at e2;unfold Af at e2;cases e2;exact s
 ·cases s
def vh(K:ax)(C:af):Bool :=
 oC K (.ref C) "__getattribute__" == aa (aa (.builtin "BaseException.__getattribute__"))&&oC K (.ref C) "__getattr__" == aa ae&&oC K (.ref C) "__class__" == aa (aa (.builtin "object.__class__")) &&
 EA K (.builtin "object.__class__") "__get__" == aa (aa (.builtin "getset_descriptor.__get__"))&&PySem.W.takesIn K (.builtin "object.__class__") == aa ah&&wo K C (.type "object") == aa ah&&wo K C (.type "BaseException") == aa ah&&(Ag K C).isSome
theorem BI{K:ax}{C:af}(h:vh K C=ah):mK K C:=by simp only[vh,fD,beq_iff_eq]at h;obtain⟨⟨⟨⟨⟨⟨⟨h1,h2⟩,h3⟩,h4⟩,h5⟩,h6⟩,h7⟩,h8⟩:=h;exact⟨h1,h2,h3,h4,h5,h6,h7,h8⟩
def xg(K:ax):Bool:=K.all λp=>match p.2.cls with
 |.type t=>t != "list"
 |_=>ah
theorem DC{a:af}{o:Obj}:∀{K:ax},K.lookup a=aa o->(a,o)∈K
 |[],e=>by cases e
 | (b,u)::K,e=>by
  rw[jF]at e;cases q:a == b with
  |true=>rw[q]at e;cases e;rw[beq_iff_eq.mp q];exact eN ..
  |false=>rw[q]at e;exact dN _ (DC e)
theorem Cz{K:ax}{H:Hp}{F:af->Prop}:∀ns:List Int,Reps K H F (ns.map .int) (ns.map V.int)
 |[]=>rfl
 |x::ns=>⟨.int x,ns.map V.int,rfl,rfl,Cz ns⟩
theorem LW{K:ax}{H:Hp}{a:af}{xs:List V}(h:xg K=ah)(s:cc K H a xs):Rd H a (.lst xs):=by
 rcases s with s|⟨o,its,n,lk,hc,_⟩
 ·exact s
 ·have:=lf.mp h _ (DC lk);rw[hc]at this;simp at this
theorem MC{K:ax}{g:ak->R Slot}{H:Hp}{a:af}{ns:List Int}{E:XK}(hr:Rd H a (.lst (ns.map V.int)))(h:g [.val (.lst (ns.map .int))]=.ok (.val (.bl ah)) [.val (.lst (ns.map .int))]):bF K g [.ref a] H (λv _=>v=.bl ah) E:=by
 refine⟨λb=>b=a,λ_ _=>False,[.val (.lst (ns.map .int))],⟨rfl,λb e=>?_,λi pv e=>?_,λi po e=>?_,λi b z=>z.elim,λi j b z=>z.elim⟩,?_⟩
 ·subst e;rcases hr with hr|⟨o,hr⟩ <;> exact⟨_,hr⟩
 ·cases i with
  |zero=>cases e;exact⟨_,rfl,a,_,rfl,hr,rfl,Cz ns⟩
  |succ i=>simp at e
 ·cases i with
  |zero=>cases e
  |succ i=>simp at e
 ·rw[h];exact λv F' S' H' Sr _ _ rv _ _=>rv.1
theorem Os{K:ax}{x:Str}{i:Int}{t:Tok}(e:cF K bR x=aa (aa (.int i t))):∃t,cF K bR x=aa (aa (.int i t)):=⟨t,e⟩
theorem On{K:ax}{x:Str}{l:Tx}{t:Tok}(e:cF K bR x=aa (aa (.str (tS l) t))):∃t,cF K bR x=aa (aa (.str (tS l) t)):=⟨t,e⟩
def cK(K:ax)(x:Str)(st:aZ):Prop:=∃f oc od kV dc pm an cd ct sl,cF K bR x=aa (aa (.ref f))/\K.lookup f=aa ⟨oc,od,.func (hU x x (iZ st) (fB st) (aW st) .none kV dc pm an cd ct),sl⟩/\sW K cd x=ah/\oE K (.ref f)=ah
theorem N_{K:ax}{x:Str}{st:aZ}{f:af}{oc kV dc pm cd ct:ai}{od an:Option af}{sl:Array (Option ai)}(a:cF K bR x=aa (aa (.ref f)))(l:K.lookup f=aa ⟨oc,od,.func (hU x x (iZ st) (fB st) (aW st) .none kV dc pm an cd ct),sl⟩)(c:sW K cd x=ah) (k:oE K (.ref f)=ah):cK K x st:=⟨f,oc,od,kV,dc,pm,an,cd,ct,sl,a,l,c,k⟩
theorem cK.at{K:ax}{h:aA}{mg:Str->Option ai}{x:Str}{st:aZ}(d:cK K x st)(X:K.In h)(G:h.Ns bR mg):cq K mg x st:=by obtain⟨f,oc,od,kV,dc,pm,an,cd,ct,sl,a,l,c,k⟩:=d;exact⟨f,_,wM X G a,Dv l c k⟩
def lA(kvs:List (aN×PV))(k:aN):Option PV:=(kvs.find? λkv=>decide (kv.1=k)).map (·.2)
def pB(kvs:List (aN×PV))(k:aN)(v:PV):List (aN×PV):=if(kvs.any λkv=>decide (kv.1=k))=ah then kvs.map (λkv=>if kv.1=k then(kv.1,v)else kv)else kvs++[(k,v)]
def jR:PV->Option aN
 |.int i=>aa (.inl i)
 |.str x=>aa (.inr (tS x))
 |_=>ae
section
variable{K:ax}{F:af->Prop}{S:Nat->af->Prop}{ε:ak}{σ:St}{H:Hp}{i:Nat}{kvs:List (aN×PV)}{ws:List (aN×V)}{a:af}
theorem y4{x:PV}{v:V}{k:aN}(r:aT K H F x v)(e:jR x=aa k):v=kV k:=by
 cases x <;> simp[jR]at e
 ·subst e;exact r
 ·subst e;exact r.1
theorem g8.len(h:g8 K H F kvs ws):ws.length=kvs.length:=by
 unfold g8 at h
 induction h with
 |nil=>rfl
 |cons _ _ ih=>simp[ih]
theorem g8.val(h:g8 K H F kvs ws)(k:aN):(∃x v,lA kvs k=aa x/\i5 ws k=aa v/\aT K H F x v)\/(lA kvs k=ae/\i5 ws k=ae):=by
 unfold g8 at h
 induction h with
 |nil=>exact .inr ⟨rfl,rfl⟩
 |@cons p q ps qs r _ ih=>
  by_cases e:p.1=k
  ·refine .inl ⟨p.2,q.2,by simp[lA,jE,e],?_,r.2⟩;rw[vC (by rw[←r.1];exact e)]
  ·have e2:¬q.1=k:=by rw[←r.1];exact e
   rw[u_ e2];have:lA (p::ps) k=lA ps k:=by simp[lA,jE,e]
   rw[this];exact ih
theorem g8.any(h:g8 K H F kvs ws)(k:aN):(kvs.any λkv=>decide (kv.1=k))=ws.any λkv=>decide (kv.1=k):=by
 unfold g8 at h
 induction h with
 |nil=>rfl
 |cons r _ ih=>rw[oH,oH,ih,r.1]
theorem g8.put(h:g8 K H F kvs ws)(k:aN){x:PV}{v:V}(r:aT K H F x v):g8 K H F (pB kvs k x) (iO ws k v):=by
 unfold pB iO;rw[h.any k];split
 ·rename_i hA;clear hA;unfold g8 at h ⊢
  induction h with
  |nil=>exact .nil
  |@cons p q ps qs r1 _ ih=>
   refine .cons ?_ ih;dsimp only;by_cases e:p.1=k
   ·rw[if_pos e,if_pos (by rw[←r1.1];exact e)];exact⟨r1.1,r⟩
   ·rw[if_neg e,if_neg (by rw[←r1.1];exact e)];exact r1
 ·exact Paired.snoc h ⟨rfl,r⟩
theorem aP.dkAt(r:aP K F S ε σ H)(e:ε[i]?=aa (.own (.dK kvs))):∃a ws,σ[i]?=aa (aa (.ref a))/\H a=aa (.dK ws)/\g8 K H F kvs ws/\S i a/\∀b,S i b->b=a:=by obtain⟨a,e1,⟨vs,h1,h2⟩,h3⟩:=r.own i _ e;exact⟨a,vs,e1,h1,h2,(h3 a).mpr rfl,λb h=>(h3 b).mp h⟩
theorem aP.updO{po po':PO}{o':HO}(r:aP K F S ε σ H)(e:ε[i]?=aa (.own po))(hf:fZ po=ah)(ea:σ[i]?=aa (aa (.ref a)))(hn:dR o')(h:∀H',(∀x v,aT K H F x v->aT K H' F x v)->(∀x v,Reps K H F x v->Reps K H' F x v)->H' a=aa o'->∀Sa:af->Prop,(∀b,Sa b↔b=a)->eR K H' F po' a Sa):aP K F S (ε.set i (.own po')) σ (L2.upd H a o')/\bp (U S) (U S) F F H (L2.upd H a o'):=by
 obtain⟨a',e1,ow⟩:=r.own i po e;rw[ea]at e1;cases e1;have h34:=BO ow hf;have h3:S i a:=(h34 a).mpr rfl;have h4:∀b,S i b->b=a:=λb z=>(h34 b).mp z;have hi:i<ε.length:=(df.mp e).1;have g:bp (U S) (U S) F F H (L2.upd H a o'):=⟨λ_ z=>z,λb o q n=>by rw[b7 (by rintro rfl;exact n ⟨i,h3⟩)];exact q,λb o q=>by
  by_cases hb:b=a
  ·subst hb;exact⟨_,cE⟩
  ·exact⟨o,by rw[b7 hb];exact q⟩,λ_ z=>.inl z,λ_ z=>.inl z⟩
 refine⟨⟨by rw[fE];exact r.len,λb z=>let ⟨o,q⟩:=r.ex b z;g.there b o q,λj pv q=>?_,λj po q=>?_,λj b z=>?_,r.dist⟩,g⟩
 ·have hj:i≠j:=by rintro rfl;rw[ff hi]at q;cases q
  rw[dO hj]at q;obtain⟨v,q1,q2⟩:=r.val j pv q;exact⟨v,q1,q2.grow g r.fit⟩
 ·by_cases hj:i=j
  ·subst hj;rw[ff hi]at q;cases q;exact⟨a,ea,h _ (λ_ _ z=>z.grow g r.fit) (λ_ _ z=>z.grow g r.fit) cE _ h34⟩
  ·rw[dO hj]at q;obtain⟨c,q1,q2⟩:=r.own j po q;refine⟨c,q1,q2.mono (λ_ _ z=>z.grow g r.fit) (λ_ _ z=>z.grow g r.fit) λb o z w=>?_⟩;rw[b7 (by rintro rfl;exact hj (r.dist i j b h3 z))];exact w
 ·obtain⟨⟨po,q1⟩,q2,o,q3,q4⟩:=r.foot j b z;by_cases hj:i=j
  ·subst hj;rw[h4 b z];exact⟨⟨_,ff hi⟩,by rw[←h4 b z];exact q2,_,cE,hn⟩
  ·exact⟨⟨po,by rw[dO hj];exact q1⟩,q2,o,by rw[b7 (by rintro rfl;exact hj (r.dist i j b h3 z))];exact q3,q4⟩
end
def fc(ε:ak)(i:Nat):Option (List (aN×PV)):=match ε[i]? with
 |some (.own (.dK kvs))=>aa kvs
 |_=>ae
theorem mP{ε:ak}{i:Nat}{kvs:List (aN×PV)}(h:fc ε i=aa kvs):ε[i]?=aa (.own (.dK kvs)):=by
 unfold fc at h;split at h
 ·cases h;assumption
 ·cases h
section
variable{X:Cx}{E:XK}{pin:List Nat}{e b c:aB}{de db dc:ak->R PV}{pos:Pos}
def xZ:ak->R PO:=λε=>.ok (.dK []) ε
theorem Hk:DN X E (.Dict [] [] pos) xZ:=λF S ε σ H Q rl h=>b9 Ib λp hp=>by
 have al:Al F F H (upd H p (.dK [])):=Al.new0 hp;refine h F S _ (rl.al al) al.grow p (λb=>b=p) ⟨⟨[],cE,.nil⟩,λb=>Iff.rfl⟩ λb z=>?_;subst z;refine⟨hp,λz=>?_,λ⟨j,z⟩=>?_,_,cE,trivial⟩
 ·obtain⟨o,q⟩:=rl.ex b z;rw[hp]at q;cases q
 ·obtain⟨_,_,o,q,_⟩:=rl.foot j b z;rw[hp]at q;cases q
def ol(i:Nat)(db:ak->R PV):ak->R PV:=λε=>(bg (fc ε i) ε).bind λ_ ε=>(db ε).bind λk ε1=>(bg (fc ε1 i) ε1).bind λkvs ε1=>bg ((jR k).bind λk=>lA kvs k) ε1
theorem B8(i:Nat){y:Str}{yp:Pos}(hu:X.A.units+64<cLine)(hb:DE X E b db)(hN:X.N[i]?=aa y:=by rfl)(km:fH X.env.scope y:=by first|exact Or.inl rfl|exact Or.inr (Or.inl rfl)|exact Or.inr (Or.inr rfl))(hd:(y == ("__debug__" : Str))=aj:=by decide) (bU:(y == ("__classdict__" : Str))=aj:=by decide) (hs:yn b:=by exact λ_ _=>rfl):DE X E (.Subscript (.Name y yp) b pos) (ol i db):=λF S ε σ H Q rl h=>by
 unfold ol at h;cases e0:fc ε i with
 |none=>rw[e0]at h;exact h.elim
 |some kvs0=>
  rw[e0]at h;simp only[eK,R.bind_ok]at h;obtain⟨a,ws0,ea,_⟩:=rl.dkAt (mP e0);refine b9 (FH ∅ (gU hN km hd bU) bL hs) ⟨.ref a,ea,hb F S ε σ H _ rl ((Ok.bind h).imp λk ε1 F1 S1 H1 r1 g1 q u ru=>?_)⟩;cases e1:fc ε1 i with
  |none=>rw[e1]at q;exact q.elim
  |some kvs=>
   rw[e1]at q;simp only[eK,R.bind_ok]at q;obtain⟨a',ws,ea',ha,hk,_⟩:=r1.dkAt (mP e1);rw[ea]at ea';cases ea';cases e2:jR k with
   |none=>rw[e2]at q;exact q.elim
   |some ky=>
    rw[e2,iB]at q;rw[y4 ru e2];rcases hk.val ky with⟨x,v,h1,h2,h3⟩|⟨h1,h2⟩
    ·rw[h1]at q;exact⟨a,v,rfl,by rw[←h2];exact pG.k ha,q F1 S1 H1 r1 (bp.refl ..) v h3⟩
    ·rw[h1]at q;exact q.elim
def lN(i:Nat)(db dc:ak->R PV):ak->R PV:=λε=>(bg (fc ε i) ε).bind λ_ ε=>(db ε).bind λk ε1=>(dc ε1).bind λz ε2=>(bg (fc ε2 i) ε2).bind λkvs ε2=>bg ((jR k).map λk=>(lA kvs k).getD z) ε2
theorem Dp(i:Nat){y:Str}{yp apos:Pos}(hu:X.A.units+64<cLine)(hb:DE X E b db)(hc:DE X E c dc)(hN:X.N[i]?=aa y:=by rfl)(km:fH X.env.scope y:=by first|exact Or.inl rfl|exact Or.inr (Or.inl rfl)|exact Or.inr (Or.inr rfl))(hd:(y == ("__debug__" : Str))=aj:=by decide) (bU:(y == ("__classdict__" : Str))=aj:=by decide)(h1:k8 (.Name y yp) "get" X.env (aU (.Name y yp) X.env)=aU (.Name y yp) X.env:=by rfl) (h3:(apos.endLine == pos.line)=ah:=by rfl) (s1:kQ b=aj:=by rfl) (s2:kQ c=aj:=by rfl):DE X E (.Call (.Attribute (.Name y yp) "get" apos) [b,c] [] pos) (lN i db dc):=λF S ε σ H Q rl h=>by
 have st:aL [b,c] X.env=[(aj,aU b X.env),(aj,aU c X.env)]:=by rw[iW s1,iW s2];rfl
 have m:M2 X (.Name y yp) "get" apos b c pos:=⟨h1,by rw[st];rfl,h3,by rw[st];rfl⟩
 unfold lN at h;cases e0:fc ε i with
 |none=>rw[e0]at h;exact h.elim
 |some kvs0=>
  rw[e0]at h;simp only[eK,R.bind_ok]at h;obtain⟨a,ws0,ea,ha0,_⟩:=rl.dkAt (mP e0);refine b9 (Ij ∅ (gU hN km hd bU) bL bL m) ⟨.ref a,ea,a,rfl,.inl ⟨_,.inl ha0⟩,hb F S ε σ H _ rl ((Ok.bind h).imp λk ε1 F1 S1 H1 r1 g1 q u ru=>?_)⟩;refine hc F1 S1 ε1 σ H1 _ r1 ((Ok.bind q).imp λz ε2 F2 S2 H2 r2 g2 q w rw'=>?_);cases e1:fc ε2 i with
  |none=>rw[e1]at q;exact q.elim
  |some kvs=>
   rw[e1]at q;simp only[eK,R.bind_ok]at q;obtain⟨a',ws,ea',ha,hk,_⟩:=r2.dkAt (mP e1);rw[ea]at ea';cases ea';cases e2:jR k with
   |none=>rw[e2]at q;exact q.elim
   |some ky=>
    rw[e2,wE]at q;rw[y4 ru e2];rcases hk.val ky with⟨x,v,h1,h2,h3⟩|⟨h1,h2⟩
    ·rw[h1]at q;exact⟨aa v,by rw[←h2];exact pG.k ha,q F2 S2 H2 r2 (bp.refl ..) v h3⟩
    ·rw[h1]at q;exact⟨ae,by rw[←h2];exact pG.k ha,q F2 S2 H2 r2 (bp.refl ..) w rw'⟩
def lw(i:Nat)(db de:ak->R PV):ak->R aS:=λε=>(de ε).bind λy ε1=>(bg (fc ε1 i) ε1).bind λ_ ε1=>(db ε1).bind λk ε2=>(bg (fc ε2 i) ε2).bind λkvs ε2=>(bg (jR k) ε2).bind λk ε2=>if kvs.length<cx then .ok .next (ε2.set i (.own (.dK (pB kvs k y))))else .no
theorem zm(i:Nat){y:Str}{yp tpos:Pos}(hu:X.A.units+64<cLine)(hb:DE X E b db)(he:DE X E e de)(hN:X.N[i]?=aa y:=by rfl)(km:fH X.env.scope y:=by first|exact Or.inl rfl|exact Or.inr (Or.inl rfl)|exact Or.inr (Or.inr rfl))(hd:(y == ("__debug__" : Str))=aj:=by decide) (bU:(y == ("__classdict__" : Str))=aj:=by decide) (hs:kZ e (aa (.Subscript (.Name y yp) b tpos)) pos.line X.env=pure aj:=by rfl):DS X E pin (.Assign [.Subscript (.Name y yp) b tpos] e pos) (lw i db de):=λF S ε σ H D rl h=>by
 refine gX (G7 ∅ (gU hN km hd bU) bL bL hs) (he F S ε σ H _ rl (h.bindE.imp λy ε1 F1 S1 H1 r1 g1 q v rv=>?_));cases e0:fc ε1 i with
 |none=>rw[e0]at q;exact q.elim
 |some kvs0=>
  rw[e0]at q;simp only[eK,R.bind_ok]at q;obtain⟨a,ws0,ea,ha0,_⟩:=r1.dkAt (mP e0);refine⟨.ref a,ea,hb F1 S1 ε1 σ H1 _ r1 (q.bindE.imp λk ε2 F2 S2 H2 r2 g2 q2 u ru=>?_)⟩;cases e1:fc ε2 i with
  |none=>rw[e1]at q2;exact q2.elim
  |some kvs=>
   rw[e1]at q2;simp only[eK,R.bind_ok]at q2;obtain⟨a',ws,ea',ha,hk,_⟩:=r2.dkAt (mP e1);rw[ea]at ea';cases ea';cases e2:jR k with
   |none=>rw[e2]at q2;exact q2.elim
   |some ky=>
    rw[e2]at q2;simp only[eK,R.bind_ok]at q2;split at q2
    ·rename_i hl;rw[y4 ru e2];have fF:=hk.put ky (rv.grow g2 r1.fit);obtain⟨r3,g3⟩:=r2.updO (po':=.dK (pB kvs ky y)) (o':=.dK (iO ws ky v)) (mP e1) rfl ea trivial λH' m1 m2 hH' Sa hSa=>⟨⟨_,hH',fF.mono m1⟩,hSa⟩
     exact⟨a,_,rfl,zz.k ha (by rw[hk.len];exact fN hl lE),q2 F2 S2 σ _ r3 g3 (ie.refl _ _)⟩
    ·exact q2.elim
end
section
variable{X:Cx}
def sq(a d:af):HO:=.ext λh=>h.IsValuesView a d
theorem J5:wl X "dict.values" (λx xs H Q=>∃d kvs,x=.ref d/\xs=[]/\H d=aa (.dK kvs)/\∀a,H a=ae->Q (.ref a) (upd H a (sq a d))):=by
 intro ag s σ H x xs v us Q I rx rs h;obtain⟨d,kvs,rfl,rfl,hd,q⟩:=h;cases rx;cases rs.zero;obtain⟨z,hs,vs,rel,dd⟩:=yE I.hok hd;refine call_meetsIn PySem.F.slot_dict_values dd.typeIs PySem.F.entry_dict_values (PySem.F.args_dict_values_1 _) (meets_dict_values (gW X.prog X.w) d hs) ⟨⟨vs,dd⟩,?_⟩;refine⟨.ref s.heap.objs.size,_,I.laid (a:=s.heap.objs.size) (o:=sq s.heap.objs.size d) (t':=s.toks) (λ_ _ q=>bH _ q) (a9 _) ?_,rfl,q _ I.fresh⟩;exact⟨⟨_,cZ _ rfl,rfl,rfl⟩,⟨_,cZ _ rfl⟩,λh1 h2 ⟨o,q1,q2⟩ k=>⟨o,k o q1,q2⟩⟩
theorem KV.at{kvs:List (aN×V)}{vs:List (aN×ai)}(r:KV kvs vs){i:Nat}{k:aN}{u:ai}(h:vs[i]?=aa (k,u)):∃v,kvs[i]?=aa (k,v)/\RelV v u:=by
 unfold KV at r
 induction r generalizing i with
 |nil=>simp at h
 |@cons p q ps qs r1 _ ih=>
  cases i with
  |zero=>simp at h;subst h;exact⟨p.2,by simp[show k=p.1 from r1.1.symm],r1.2⟩
  |succ i=>exact ih (by simpa using h)
def jx(kvs:List (aN×V)):Option Bool:=match kvs with
 |[]=>aa aj
 | (_,.int i)::r=>(jx r).map λb=>(decide (i≠0))||b
 |_=>ae
theorem Cj:∀{kvs:List (aN×V)}{b:Bool},jx kvs=aa b->(∀(i:Nat) k v,kvs[i]?=aa (k,v)->∃n,v=.int n)/\b=(bX kvs.length).any λi=>match kvs[i]? with|aa (_,.int n)=>decide (n≠0)|_=>aj
 |[],b,h=>by simp[jx]at h;subst h;exact⟨by simp,rfl⟩
 | (k,.int n)::r,b,h=>by
  simp only[jx,zR]at h;obtain⟨b',h1,h2⟩:=h;obtain⟨i1,i2⟩:=Cj h1;refine⟨λi k' v e=>?_,?_⟩
  ·cases i with
   |zero=>simp at e;exact⟨n,e.2.symm⟩
   |succ i=>exact i1 i k' v (by simpa using e)
  ·rw[fg,zV,oH,List.any_map,←h2,i2];rfl
 | (_,.non)::_,_,h=>by simp[jx]at h
 | (_,.bl _)::_,_,h=>by simp[jx]at h
 | (_,.str _)::_,_,h=>by simp[jx]at h
 | (_,.ref _)::_,_,h=>by simp[jx]at h
 | (_,.ty _)::_,_,h=>by simp[jx]at h
theorem Hj(hc:X.calm=ah):et X (.builtin "any") (λxs H Q=>∃(p d:af) (kvs:List (aN×V)) (b:Bool),xs=[.ref p]/\H p=aa (sq p d)/\H d=aa (.dK kvs)/\jx kvs=aa b/\Q (.bl b) H):=by
 intro ag s σ H xs us Q I r h;obtain⟨p,d,kvs,b,rfl,hp,hd,ha,q⟩:=h;obtain⟨u,rfl,ru⟩:=vals1 r;cases ru;obtain⟨hv,_,_⟩:=(show cH X.prog X.w H s.heap p (sq p d)from I.hok p _ hp)
 obtain⟨z,hs,vs,rel,dd⟩:=yE I.hok hd;obtain⟨ep,hat⟩:=dd.dictAt;obtain⟨i1,i2⟩:=Cj ha;refine call_any_walk (wpAny_pyIter_values hv hat ?_);refine⟨s.heap.objs.size,_,_,_,_,_,λi=>match kvs[i]? with|aa (_,.int n)=>decide (n≠0)|_=>aj,rfl,Walks.dictValues (uz (I.ok.hd hc)) _ d (cQ hat.lt_size) vs ep,⟨⟨_,cZ _ rfl,rfl,rfl⟩,hat.push _⟩,λi v s' Q' E' hv hQ=>?_,λh' tk k=>?_⟩
 ·obtain⟨ky,hx⟩:=hv;obtain⟨w,e1,e2⟩:=KV.at rel hx;obtain⟨n,rfl⟩:=i1 i ky w e1;obtain⟨t,rfl⟩:=e2;dsimp only at hQ;rw[e1]at hQ;exact PyProof.Rows.truthy_int (by rw[show(n != 0)=decide (n≠0) by by_cases z:n=0 <;> simp[z]];exact hQ)
 ·have I1:Inv X ag σ H {s with heap:=s.heap.push {cls:=.type "dict_valueiterator",data:=.fields #[.ref d,.int 0 0,.int vs.length 0,.int ep 0]},toks:=s.toks}:=I.kept (t':=s.toks) λb o e=>bH _ e;have e5:(bX vs.length).any (λi=>match kvs[i]? with|aa (_,.int n)=>decide (n≠0)|_=>aj)=b:=by rw[←rel.length];exact i2.symm
  rw[e5];exact⟨.bl _,H,Inv.turned (t':=tk) I1 (it:=s.heap.objs.size) (λb o hb e=>k b o (by simpa using hb) e) I.fresh (qt I.lt) (.inr I.sz) (λx c e z=>by obtain⟨v,qq⟩:=I.cell x c e;exact absurd qq.lt (by rw[z];exact fe _)) (λpp hp z=>absurd (bu (I.pin pp hp).1) (by rw[z];exact fe _)),rfl,q⟩
end
section
variable{X:Cx}{E:XK}{pin:List Nat}{e b c:aB}{de db dc:ak->R PV}{pos:Pos}
def oh:List (aN×PV)->Option Bool
 |[]=>aa aj
 | (_,.int i)::r=>(oh r).map λb=>(decide (i≠0))||b
 |_=>ae
theorem K4{K:ax}{H:Hp}{F:af->Prop}{kvs:List (aN×PV)}{ws:List (aN×V)}{k:Bool}(h:g8 K H F kvs ws)(e:oh kvs=aa k):jx ws=aa k:=by
 unfold g8 at h
 induction h generalizing k with
 |nil=>exact e
 |@cons p q ps qs r _ ih=>
  obtain⟨pk,pv⟩:=p;obtain⟨qk,qv⟩:=q;cases pv <;> simp only[oh,zR]at e <;> try cases e
  obtain⟨r1,r2⟩:=r;obtain rfl:qv=V.int _:=r2;rename_i h;simp only[jx,ih h.1,wE];rw[←h.2]
def se(i:Nat):ak->R PV:=λε=>(bg (fc ε i) ε).bind λkvs ε=>bg ((oh kvs).map .bl) ε
theorem Kb(i:Nat){y:Str}{yp p apos cpos:Pos}(hc:X.calm=ah)(hm:X.mg "any" = ae)(hN:X.N[i]?=aa y:=by rfl)(km:fH X.env.scope y:=by first|exact Or.inl rfl|exact Or.inr (Or.inl rfl)|exact Or.inr (Or.inr rfl))(hd:(y == ("__debug__" : Str))=aj:=by decide) (bU:(y == ("__classdict__" : Str))=aj:=by decide) (hg:Gl X "any":=by rfl)(mi:k8 (.Name y yp) "values" X.env (aU (.Name y yp) X.env)=aU (.Name y yp) X.env:=by rfl) (mj:(apos.endLine == cpos.line)=ah:=by rfl)(he:aL [.Call (.Attribute (.Name y yp) "values" apos) [] [] cpos] X.env=(aj,aU (.Call (.Attribute (.Name y yp) "values" apos) [] [] cpos) X.env)::aL [] X.env:=by rfl) (cS:(cL pos (aL [] X.env)).any (·.1)=aj:=by rfl):DE X E (.Call (.Name "any" p) [.Call (.Attribute (.Name y yp) "values" apos) [] [] cpos] [] pos) (se i):=λF S ε σ H Q rl h=>by
 unfold se at h;cases e0:fc ε i with
 |none=>rw[e0]at h;exact h.elim
 |some kvs=>
  rw[e0]at h;simp only[eK,R.bind_ok]at h;obtain⟨a,ws,ea,ha,hk,ia,_⟩:=rl.dkAt (mP e0);cases e1:oh kvs with
  |none=>rw[e1]at h;exact h.elim
  |some k=>
   rw[e1,wE]at h;refine b9 (oq (Hj hc) hg hm KC (io (HM PySem.F.plainAttrs_dict PySem.F.slot_dict_values PySem.F.type_dict_values J5 (gU hN km hd bU) mi mj) jt he) (by decide) (by decide) he cS) ⟨.ref a,ea,.inr (.inr (.inl ⟨rfl,.inl ⟨_,ha⟩⟩)),a,ws,rfl,rfl,ha,λq hq=>?_⟩;have al:Al F F H (L2.upd H q (sq q a)):=Al.new0 hq;have dq:a≠q:=by rintro rfl;rw[ha]at hq;cases hq
   exact⟨q,a,ws,k,rfl,cE,by rw[b7 dq];exact ha,K4 hk e1,h F S _ (rl.al al) al.grow _ rfl⟩
def u6(X:Cx)(E:XK)(es:List aB)(d:ak->R (PO×List bW)):Prop :=
 ∀F S ε σ H Q,aP X.K F S ε σ H->Ok X.K E σ F S H (d ε) (λp _ F' S' H'=>∀a Sa vs,eR X.K H' F' p.1 a Sa->(∀b,Sa b->H b=ae/\¬F' b/\¬U S' b/\∃o,H' b=aa o/\dR o)->h_ X.K (σ++[aa (.ref a)]) F' H' p.2 vs->Q vs H')->nJ X es σ H Q
theorem h_.app{K:ax}{σ:St}{F:af->Prop}{H:Hp}(τ:St):∀{as:List bW}{vs:List V},h_ K σ F H as vs->h_ K (σ++τ) F H as vs
 |[],_,h=>h
 |.inl _::_,_,⟨v,r,e,h1,h2⟩=>⟨v,r,e,h1,h2.app τ⟩
 |.inr i::_,_,⟨v,r,e,h1,h2⟩=>⟨v,r,e,by rw[gF (df.mp h1).1];exact h1,h2.app τ⟩
theorem eR.stay{K:ax}{O O' F F':af->Prop}{H H':Hp}{po:PO}{a:af}{Sa:af->Prop}(ow:eR K H F po a Sa)(g:bp O O' F F' H H')(fit:mF O F H)(lo:∀b,Sa b->¬F b/\¬O b/\∃o,H b=aa o/\dR o):eR K H' F' po a Sa/\∀b,Sa b->¬F' b/\¬O' b/\∃o,H' b=aa o/\dR o:=by refine⟨ow.mono (λ_ _ z=>z.grow g fit) (λ_ _ z=>z.grow g fit) λb o z w=>(g.stay w (lo b z).2.1 (lo b z).1).1,λb z=>?_⟩;obtain⟨l1,l2,o,l3,l4⟩:=lo b z;obtain⟨s1,s2,s3⟩:=g.stay l3 l2 l1;exact⟨s2,s3,o,s1,l4⟩
variable{es:List aB}{dn:ak->R PO}{dg:ak->R (List bW)}{dh:ak->R (PO×List bW)}
def gN(dn:ak->R PO)(dg:ak->R (List bW)):ak->R (PO×List bW):=λε=>(dn ε).bind λpo ε1=>(dg ε1).bind λas ε2=>.ok (po,.inr ε2.length::as) ε2
theorem Ii(ha:DN X E e dn)(hr:DG X E es dg)(hs:kQ e=aj:=by rfl):u6 X E (e::es) (gN dn dg):=λF S ε σ H Q rl h=>by refine nU (io bL gD (iW hs)) (ha F S ε σ H _ rl ((Ok.bind h).imp λpo ε1 F1 S1 H1 r1 g1 h1 a Sa ow lo=>?_));refine hr F1 S1 ε1 σ H1 _ r1 ((Ok.bind h1).imp λas ε2 F2 S2 H2 r2 g2 h2 vs av=>?_);obtain⟨ow2,lo2⟩:=ow.stay g2 r1.fit λb z=>(lo b z).2;refine h2 F2 S2 H2 r2 (bp.refl ..) a Sa (.ref a::vs) ow2 (λb z=>⟨(lo b z).1,lo2 b z⟩) ⟨.ref a,vs,rfl,?_,av.app _⟩;rw[r2.len,mV (a9 _),Ah];rfl
def pP(d:ak->R PV)(dh:ak->R (PO×List bW)):ak->R (PO×List bW):=λε=>(d ε).bind λx ε1=>(dh ε1).bind λp ε2=>.ok (p.1,.inl x::p.2) ε2
theorem A8(ha:DE X E e de)(hr:u6 X E es dh)(hs:kQ e=aj:=by rfl):u6 X E (e::es) (pP de dh):=λF S ε σ H Q rl h=>by refine nU (io bL gD (iW hs)) (ha F S ε σ H _ rl ((Ok.bind h).imp λx ε1 F1 S1 H1 r1 g1 h1 v rv=>?_));refine hr F1 S1 ε1 σ H1 _ r1 ((Ok.bind h1).imp λp ε2 F2 S2 H2 r2 g2 h2 a Sa vs ow lo av=>?_);exact h2 F2 S2 H2 r2 (bp.refl ..) a Sa _ ow (λb z=>⟨mE g1 (lo b z).1,(lo b z).2⟩) ⟨v,vs,rfl,rv.grow g2 r1.fit,av⟩
theorem aP.push{K:ax}{F:af->Prop}{S:Nat->af->Prop}{ε:ak}{σ:St}{H:Hp}{po:PO}{a:af}{Sa:af->Prop}(r:aP K F S ε σ H)(ow:eR K H F po a Sa)(lo:∀b,Sa b->¬F b/\¬U S b/\∃o,H b=aa o/\dR o):aP K F (λj b=>S j b\/(j=ε.length/\Sa b)) (ε++[.own po]) (σ++[aa (.ref a)]) H:=by
 have lt:∀j b,S j b->j<ε.length:=λj b z=>by obtain⟨⟨p,q⟩,_⟩:=r.foot j b z;exact(df.mp q).1
 refine⟨by simp[r.len],r.ex,λj pv q=>?_,λj p q=>?_,λj b z=>?_,λj k b z1 z2=>?_⟩
 ·by_cases hj:j<ε.length
  ·rw[gF hj]at q;obtain⟨v,q1,q2⟩:=r.val j pv q;exact⟨v,by rw[gF (by rw[←r.len];exact hj)];exact q1,q2⟩
  ·rw[mV ∅]at q;cases hk:j-ε.length with
   |zero=>rw[hk]at q;simp at q
   |succ n=>rw[hk]at q;simp at q
 ·by_cases hj:j<ε.length
  ·rw[gF hj]at q;obtain⟨v,q1,q2⟩:=r.own j p q;refine⟨v,by rw[gF (by rw[←r.len];exact hj)];exact q1,?_⟩;have:(λb=>S j b\/(j=ε.length/\Sa b))=S j:=by funext b;exact propext ⟨λz=>z.elim id λz=>absurd z.1 (cQ hj),.inl⟩
   rw[this];exact q2
  ·rw[mV ∅]at q;cases hk:j-ε.length with
   |zero=>
    rw[hk]at q;simp at q;subst q;have ej:j=ε.length:=∅
    subst ej;refine⟨a,by rw[r.len,mV (a9 _),Ah];rfl,?_⟩;have:(λb=>S ε.length b\/(ε.length=ε.length/\Sa b))=Sa:=by funext b;exact propext ⟨λz=>z.elim (λz=>absurd (lt _ _ z) (fe _)) (·.2),λz=>.inr ⟨rfl,z⟩⟩
    rw[this];exact ow
   |succ n=>rw[hk]at q;simp at q
 ·rcases z with z|⟨rfl,z⟩
  ·obtain⟨⟨p,q⟩,q2⟩:=r.foot j b z;exact⟨⟨p,by rw[gF (lt j b z)];exact q⟩,q2⟩
  ·obtain⟨l1,l2,l3⟩:=lo b z;exact⟨⟨po,by rw[mV (a9 _),Ah];rfl⟩,l1,l3⟩
 ·rcases z1 with z1|⟨rfl,z1⟩ <;> rcases z2 with z2|⟨rfl,z2⟩
  ·exact r.dist j k b z1 z2
  ·exact absurd ⟨j,z1⟩ (lo b z2).2.1
  ·exact absurd ⟨k,z2⟩ (lo b z1).2.1
  ·rfl
theorem aP.pop{K:ax}{F:af->Prop}{S:Nat->af->Prop}{ε:ak}{sl:Slot}{σ:St}{u:Option V}{H:Hp}(r:aP K F S (ε++[sl]) (σ++[u]) H):aP K F (λj b=>S j b/\j<ε.length) ε σ H:=by
 have len:ε.length=σ.length:=by have:=r.len;simpa using this
 refine⟨len,r.ex,λj pv q=>?_,λj p q=>?_,λj b z=>?_,λj k b z1 z2=>r.dist j k b z1.1 z2.1⟩
 ·have hj:=(df.mp q).1;obtain⟨v,q1,q2⟩:=r.val j pv (by rw[gF hj];exact q);exact⟨v,by rw[gF (by rw[←len];exact hj)]at q1;exact q1,q2⟩
 ·have hj:=(df.mp q).1;obtain⟨v,q1,q2⟩:=r.own j p (by rw[gF hj];exact q);refine⟨v,by rw[gF (by rw[←len];exact hj)]at q1;exact q1,?_⟩;have:(λb=>S j b/\j<ε.length)=S j:=by funext b;simp[hj]
  rw[this];exact q2
 ·obtain⟨⟨p,q⟩,q2⟩:=r.foot j b z.1;exact⟨⟨p,by rw[gF z.2]at q;exact q⟩,q2⟩
def B_{α:Type}:R α->R α
 |.ok s ε=>.ok s ε.dropLast
 |.er c ε=>.er c ε.dropLast
 |.no=>.no
def rK(g:ak->R Slot)(dh:ak->R (PO×List bW)):ak->R Slot:=λε=>(dh ε).bind λp ε1=>(bg (if(cz p.2).Nodup then eM (ε1++[.own p.1]) p.2 else ae) ε1).bind λss ε1=>B_ (fV (ε1++[.own p.1]) p.2 (g ss))
theorem AZ{ε:ak}{n:Nat}(h:ε.length=n+1):∃l x,ε=l++[x]/\l.length=n:=by
 refine⟨ε.dropLast,ε.getLast (by intro z;rw[z]at h;cases h),(List.dropLast_concat_getLast _).symm,by rw[Ai,h];rfl⟩
theorem bp.pushed{K:ax}{F F':af->Prop}{S S2:Nat->af->Prop}{H0 H H':Hp}{n:Nat}{Sa:af->Prop}(g:bp (U λj b=>S j b\/(j=n/\Sa b)) (U S2) F F' H H'){F0:af->Prop}{S0:Nat->af->Prop}(g0:bp (U S0) (U S) F0 F H0 H)(fr:∀b,Sa b->H0 b=ae):bp (U S0) (U λj b=>S2 j b/\j<n) F0 F' H0 H' where
 fro:=λb z=>g.fro b (g0.fro b z)
 keep:=λb o q no=>g.keep b o (g0.keep b o q no) λ⟨j,z⟩=>by
  rcases z with z|⟨_,z⟩
  ·rcases g0.onew b ⟨j,z⟩with w|w
   ·exact no w
   ·rw[w]at q;cases q
  ·rw[fr b z]at q;cases q
 there:=λb o q=>let ⟨o',q'⟩:=g0.there b o q;g.there b o' q'
 fnew:=λb z=>by
  rcases g.fnew b z with w|w|⟨j,w|⟨_,w⟩⟩
  ·exact g0.fnew b w
  ·exact .inr (.inl (mE g0 w))
  ·exact .inr ((g0.onew b ⟨j,w⟩).symm)
  ·exact .inr (.inl (fr b w))
 onew:=λb ⟨j,z,_⟩=>by
  rcases g.onew b ⟨j,z⟩with⟨k,w|⟨_,w⟩⟩|w
  ·exact g0.onew b ⟨k,w⟩
  ·exact .inr (fr b w)
  ·exact .inr (mE g0 w)
variable{CX:fG}{x:Str}{k:Nat}{ps:List Str}{g:ak->R Slot}{p:Pos}
theorem LO(c:cC CX X.prog X.w X.K X.mg X.base x k ps (bF X.K g))(hr:eY k X.A)(hx:pV CX X E)(ha:u6 X E (e::es) dh)(hg:Gl X x:=by rfl)(hd:(x == ("__debug__" : Str))=aj:=by decide) (h1:aL (e::es) X.env=(aj,aU e X.env)::aL es X.env:=by rfl) (h2:(cL pos (aL es X.env)).any (·.1)=aj:=by rfl):DR X E (.Call (.Name x p) (e::es) [] pos) (rK g dh):=λF S ε σ H Q rl h=>by
 obtain⟨f,fd,hm,Fn,hb,hk⟩:=c.ex;refine b9 (BB Fn hr hg hm hk hb .nil hx gD hd h1 h2) (ha F S ε σ H _ rl ?_);unfold rK at h;cases ed:dh ε with
 |no=>rw[ed]at h;exact h.elim
 |er cv ε1=>rw[ed]at h;exact h
 |ok pa ε1=>
  obtain⟨po,as⟩:=pa;rw[ed]at h;simp only[R.bind_ok]at h;intro F1 S1 H1 r1 g1 a Sa vs ow lo av;dsimp only at h av ow;have rp:=r1.push ow λb z=>(lo b z).2;by_cases nd:(cz as).Nodup
  ·rw[if_pos nd]at h;cases es:eM (ε1++[.own po]) as with
   |none=>rw[es]at h;exact h.elim
   |some ss=>
    rw[es]at h;simp only[eK,R.bind_ok]at h;rw[hG];refine⟨F1,kN as _,ss,rp.cal av es nd,?_⟩;have len:∀aI,(gn (ε1++[.own po]) as aI).length=ε1.length+1:=λaI=>by rw[uQ];simp
    cases eg:g ss with
    |no=>rw[eg]at h;exact h.elim
    |er cv aI=>
     rw[eg]at h;intro y F' S' H' r' g';unfold fV at h;dsimp only at h;by_cases kp:f_ as aI=ah
     ·rw[if_pos kp]at h;obtain⟨S2,r2,g2,_⟩:=rp.called av es nd r' g' (λ_ z=>z) (lG kp);obtain⟨l,sl,el,ll⟩:=AZ (len aI);rw[el]at r2;have h:Ok X.K E σ F S H (R.er cv (gn (ε1++[.own po]) as aI).dropLast:R Slot) _:=h;rw[el,List.dropLast_concat]at h;have gp:=bp.pushed (K:=X.K) g2 g1 λb z=>(lo b z).1;rw[←ll]at gp;exact h y F' _ H' r2.pop gp
     ·rw[if_neg kp]at h;exact h.elim
    |ok s aI=>
     rw[eg]at h;intro v F' S' H' Sr r' g' rv lo' fr;unfold fV at h;dsimp only at h;by_cases kp:f_ as aI=ah
     ·rw[if_pos kp]at h;obtain⟨S2,r2,g2,u2⟩:=rp.called av es nd r' g' (λ_ z=>.inl z) (lG kp);obtain⟨l,sl,el,ll⟩:=AZ (len aI);rw[el]at r2;have h:Ok X.K E σ F S H (R.ok s (gn (ε1++[.own po]) as aI).dropLast:R Slot) _:=h;rw[el,List.dropLast_concat]at h;have gp:=bp.pushed (K:=X.K) g2 g1 λb z=>(lo b z).1;rw[←ll]at gp;refine h F' _ H' r2.pop gp v Sr rv λb z=>⟨mE g1 (fr b z),(lo' b z).1,λ⟨j,w,_⟩=>?_,(lo' b z).2.2⟩
      rcases u2 b ⟨j,w⟩with w|⟨i,w⟩
      ·exact(lo' b z).2.1 w
      ·obtain⟨_,_,o,y1,_⟩:=rp.foot i b w;rw[fr b z]at y1;cases y1
     ·rw[if_neg kp]at h;exact h.elim
  ·rw[if_neg nd]at h;exact h.elim
end
section
variable{X:Cx}{E:XK}{pin:List Nat}{e b c o:aB}{de db dc d:ak->R PV}{ds:ak->R (List PV)}{pos p q pos':Pos}
def K9(X:Cx)(r:List V->Hp->VK->Prop):List V->Hp->VK->Prop:=λxs H Q=>∃(p:af) (ls:List Tx),xs=[.ref p]/\cc X.K H p (dD ls)/\(fu ls).length<4000/\∀a,H a=ae->r [.ref a] (upd H a (nL X a (fu ls))) Q
def yv(i j:Nat)(d:ak->R PV):ak->R aS:=λε=>(d ε).bind λx ε1=>match x with
 |.tup [a,b]=>.ok .next ((ε1.set i (.val a)).set j (.val b))
 |_=>.no
theorem Na(i j:Nat){x y:Str}{k:Nat}{tp px py:Pos}(hc:X.calm=ah)(hN:X.N.Nodup)(he:DE X E e de)(hp:i∉pin:=by decide)(d8:j∉pin:=by decide)(hi:X.N[i]?=aa x:=by rfl)(hj:X.N[j]?=aa y:=by rfl)(hx:Loc X.env.scope x:=by first|exact Or.inl rfl|exact Or.inr rfl) (hy:Loc X.env.scope y:=by first|exact Or.inl rfl|exact Or.inr rfl)(hf:X.fn x=ah\/X.env.scope.names.lookup x=aa .local:=by first|exact .inl rfl|exact .inr rfl) (hf2:X.fn y=ah\/X.env.scope.names.lookup y=aa .local:=by first|exact .inl rfl|exact .inr rfl)(hs:swapsWithSole [.Tuple [.Name x px,.Name y py] k tp] e pos.line X.env=pure aj:=by rfl) (hw:swappedStores [.Tuple [.Name x px,.Name y py] k tp] e X.env=pure ae:=by rfl):DS X E pin (.Assign [.Tuple [.Name x px,.Name y py] k tp] e pos) (yv i j de):=λF S ε σ H D rl h=>by
 refine gX (Ce bL (Lx hc (Eg (zx hN hi hx hf) (Eg (zx hN hj hy hf2) Lo))) hs hw rfl) (he F S ε σ H _ rl (h.bindE.imp λz ε1 F1 S1 H1 r1 g1 h1 v rv=>?_));split at h1
 ·rename_i a b;obtain⟨p,us,rfl,c7,ru⟩:=rv;obtain⟨va,ra,rfl,r2,vb,rb,rfl,r3,rfl⟩:=ru;refine⟨p,_,rfl,cD.of c7,rfl,va,_,rfl,vb,_,rfl,rfl,?_⟩;exact h1 F1 _ _ H1 ((r1.set r2).set r3) ((bp.less i).trans (bp.less j)) ((ie.set hp).trans (ie.set d8))
 ·exact h1.elim
def IK(K:ax)(r:V->List V->Hp->VK->Prop)(to:TE)(t:TA):TE:=λσ H Q=>to σ H λx H1=>(∃p xs,x=.ref p/\H1 p=aa (.tup xs))/\t σ H1 λxs H2=>r x xs H2 Q
theorem Gd{name:Str}{id:String}{r:V->List V->Hp->VK->Prop}{to:TE}{t:TA}{apos cpos:Pos}{es:List aB}(slot:PySem.Slot "tuple" name id)(nv:typeOf (.builtin id)=pure (.type "method_descriptor"))(hm:wl X id r)(ho:PE X o to)(ha:PA X (e::es) t)(mi:k8 o name X.env (aU o X.env)=aU o X.env:=by rfl)(AI:((cL cpos (aL (e::es) X.env)).all (λx=>!x.1)&&(qz cpos (qA [] X.env)).all (λx=>x.1.isSome)&&decide ((e::es).length+([]:List jf).length+(if([]:List jf).isEmpty then 0 else 1)<30))=ah:=by rfl)(mj:(apos.endLine == cpos.line)=ah:=by rfl) (hs:aL (e::es) X.env=(aj,aU e X.env)::aL es X.env:=by rfl) (AD:(cL cpos (aL es X.env)).any (·.1)=aj:=by rfl):PE X (.Call (.Attribute o name apos) (e::es) [] cpos) (IK X.K r to t):=by
 intro ag s σ H Q I h;refine wpAny_Call_method_late mi AI mj rfl (aV (ho ag s σ H _ I h) λv s1 h'=>?_);obtain⟨x,H1,I1,r1,⟨p,xs,rfl,hp⟩,q1⟩:=h';cases r1;obtain⟨_,its,_,⟨ob,e1,e2,_⟩,o2,e3,e4⟩:=(show cH X.prog X.w H1 s1.heap p (.tup xs)from I1.hok p _ hp)
 refine⟨"tuple",id,PySem.F.plainAttrs_tuple,slot,nv,⟨ob,e1,e2⟩,λa z=>?_,?_⟩
 ·cases z;exact⟨o2,e3,e4⟩
 have hA:=ha cpos ag s1 σ H1 _ I1 q1;rw[hs]at hA ⊢;refine zP (by show(aj||(cL cpos (aL es X.env)).any (·.1))=aj;rw[AD] <;> rfl) (zQ ?_);exact aV hA λus s2 h2=>by obtain⟨vs,H2,I2,r2,q2⟩:=h2;exact hm ag s2 σ H2 (.ref p) vs (.ref p) us Q I2 rfl r2 q2
def pF(f:List PV->PV->Option PV)(d de:ak->R PV):ak->R PV:=λε=>(d ε).bind λx ε1=>match x with
 |.tup xs=>(de ε1).bind λk ε2=>bg (f xs k) ε2
 |_=>.no
theorem CQ{apos cpos:Pos}(ho:DE X E o d)(he:DE X E e de)(mi:k8 o "count" X.env (aU o X.env)=aU o X.env:=by rfl)(mj:(apos.endLine == cpos.line)=ah:=by rfl) (dG:kQ e=aj:=by rfl):DE X E (.Call (.Attribute o "count" apos) [e] [] cpos) (pF kL d de):=λF S ε σ H Q rl h=>by
 have hs:=iW (es:=[]) (env:=X.env) dG;refine b9 (Gd PySem.F.slot_tuple_count PySem.F.type_tuple_count FE bL (io bL jt hs) mi (by rw[hs];rfl) mj hs rfl) (ho F S ε σ H _ rl ((Ok.bind h).imp λx ε1 F1 S1 H1 r1 g1 h1 v rv=>?_));split at h1
 ·rename_i xs;obtain⟨p,us,rfl,hp,ru⟩:=rv;refine⟨⟨p,us,rfl,hp⟩,he F1 S1 ε1 σ H1 _ r1 ((Ok.bind h1).imp λk ε2 F2 S2 H2 r2 g2 q w rw'=>?_)⟩;unfold kL at q;cases q1:cV k with
  |none=>rw[q1]at q;exact q.elim
  |some z=>
   cases q2:gY xs with
   |none=>rw[q1,q2]at q;exact q.elim
   |some ws=>rw[q1,q2]at q;obtain⟨rfl,hf⟩:=rO (ru.grow g2 r1.fit) q2;rw[iH rw' q1];exact⟨p,us,z,rfl,rfl,cD.of (g2.imm r1.fit hp id),pc q1,hf,q F2 S2 H2 r2 (bp.refl ..) _ rfl⟩
 ·exact h1.elim
end
end Pu
namespace L2
def vi:Bool->Keyed->Array Keyed->Nat->Nat->Nat->StateT br Sem (Option Nat):=sortPriv% PySem.Builtin.gallop
def Dl:Array Keyed->Array Keyed->StateT br Sem (Array Keyed):=sortPriv% PySem.Builtin.mergeLo
def Dm:Array Keyed->Array Keyed->StateT br Sem (Array Keyed):=sortPriv% PySem.Builtin.mergeHi
def kO(κ:KeyKind)(p:Keyed):κ.α:=(κ.keyOf p.1).getD κ.dflt
def fX(κ:KeyKind)(p:Keyed):Prop:=∃a,κ.keyOf p.1=aa a
theorem fX.k{κ:KeyKind}{p:Keyed}(h:fX κ p):κ.keyOf p.1=aa (kO κ p):=by obtain⟨a,e⟩:=h;unfold kO;rw[e];rfl
def g7(κ:KeyKind)(kz:gH)(prog:aM)(w:aF)(A:aO)(s:am):Prop :=
 ∀(E:ai->am->Prop) (x y:ai) (a b:κ.α) {Q:Bool->am->Prop},κ.keyOf x=aa a->κ.keyOf y=aa b->Q (κ.blt a b) s->aq (aw prog w) A (keyLt' kz x y) Q E s
theorem OneLt.ok{κ:KeyKind}(hO:κ.OneLt){prog:aM}{w:aF}{A:aO}{s:am}:g7 κ oneType' prog w A s:=λE x y a b _ ha hb h=>by rw[keyLt'_oneType];exact hO prog w A E s x y a b ha hb h
structure SB(kz:gH)(st:br):Prop where
 kind:kindOf st=kz
 failed:failedOf st=ae
section
variable{prog:aM}{w:aF}{A:aO}{E:ai->am->Prop}{s:am}{κ:KeyKind}{kz:gH}
theorem sQ(hO:g7 κ kz prog w A s){st:br}{x y:Keyed}{Q:Option Bool->br->Prop}(hk:SB kz st)(hx:fX κ x)(hy:fX κ y)(h:Q (aa (κ.blt (kO κ x) (kO κ y))) st):wpS (aw prog w) A E s (lt' x y) Q st:=by rw[lt'_eq];refine aE (kb ?_);rw[hk.kind];exact aE (qQ (wpAny_attempt (hO _ x.1 y.1 _ _ hx.k hy.k ⟨rfl,aK h⟩)))
theorem eG{st:br}{arr:Array Keyed}{i:Nat}(hi:i<arr.size){Q:Keyed->br->Prop}(h:Q arr[i] st):wpS (aw prog w) A E s (elem' arr i) Q st:=by rw[elem'_eq,getElem?_pos arr i hi];exact aK h
def AV(left:Bool)(key:Keyed)(arr:Array Keyed)(base i:Nat):StateT br Sem (Option Bool) :=elem' arr (base+i) >>= λx=>if left=ah then lt' x key else lt' key x >>= λb=>pure (b.map (!·))
def kH(κ:KeyKind)(left:Bool)(key x:Keyed):Bool:=if left=ah then κ.blt (kO κ x) (kO κ key)else !κ.blt (kO κ key) (kO κ x)
theorem Jb(hO:g7 κ kz prog w A s){st:br}{left:Bool}{key:Keyed}{arr:Array Keyed}{base i:Nat}{Q:Option Bool->br->Prop}(hk:SB kz st)(hx:fX κ key)(hi:base+i<arr.size)(hy:fX κ arr[base+i])(h:Q (aa (kH κ left key arr[base+i])) st):wpS (aw prog w) A E s (AV left key arr base i) Q st:=by
 refine aE (eG hi ?_);cases left
 ·rw[if_neg (by simp)];exact aE (sQ hO hk hx hy (aK h))
 ·rw[if_pos rfl];exact sQ hO hk hy hx h
theorem Dt(hO:g7 κ kz prog w A s){st:br}(hk:SB kz st){left:Bool}{key:Keyed}{arr:Array Keyed}{base n hint:Nat}{Q:Option Nat->br->Prop}(jH:fX κ key)(hn:base+n<=arr.size)(hA:∀i (hi:i<arr.size),fX κ arr[i]) (B:Nat->Bool) (hB:∀i (hi:i<n),B i=kH κ left key (arr[base+i]'∅))(mono:∀i j,i<=j->j<n->B j=ah->B i=ah) (hh:hint<n)(h:∀r,r<=n->(∀i,i<r->B i=ah)->(∀i,r<=i->i<n->B i=aj)->Q (aa r) st):wpS (aw prog w) A E s (vi left key arr base n hint) Q st:=by
 have hb:∀{i:Nat}{Q:Option Bool->br->Prop},i<n->Q (aa (B i)) st->wpS (aw prog w) A E s (AV left key arr base i) Q st:=λ{i Q} hi q=>Jb hO hk jH ∅ (hA _ _) (by rw[←hB i hi];exact q);have dn:∀{i j:Nat},i<=j->j<n->B i=aj->B j=aj:=λ{i j} bt hj hf=>by
  cases e:B j with
  |false=>rfl
  |true=>rw[mono i j bt hj e]at hf;cases hf
 unfold vi;refine aE (hb hh ?_);cases hr:B hint with
 |true=>
  dsimp only;rw[if_pos rfl];refine aE (fP (fQ (I:=λx c az=>az=st/\∃l o,c=(ae,l,o)/\l<o/\x<o/\l<n-hint/\B (hint+l)=ah) (Q:=λc az=>az=st/\∃l o,c=(ae,l,o)/\l<o/\l<n-hint/\B (hint+l)=ah/\(n-hint<=o\/(o<n-hint/\B (hint+o)=aj))) ?_ ?_ ?_) ?_)
  ·rintro x c az _ hx ⟨rfl,l,o,rfl,h1,h2,h3,h4⟩;dsimp only;by_cases iF:o ≥ n-hint
   ·rw[if_pos iF];exact aK ⟨rfl,l,o,rfl,h1,h3,h4,.inl iF⟩
   ·rw[if_neg iF];refine aE (hb ∅ ?_);cases e:B (hint+o)with
    |true=>exact aK ⟨rfl,o,2*o+1,rfl,∅,∅,∅,e⟩
    |false=>exact aK ⟨rfl,l,o,rfl,h1,h3,h4,.inr ⟨∅,e⟩⟩
  ·rintro c az ⟨rfl,l,o,rfl,h1,h2,h3,h4⟩;exact⟨rfl,l,o,rfl,h1,h3,h4,.inl ∅⟩
  ·exact⟨rfl,0,1,rfl,∅,∅,∅,hr⟩
  rintro c az ⟨rfl,l,o,rfl,h1,h3,h4,h5⟩;dsimp only;have g1:hint+l+1<=hint+min o (n-hint):=∅
  have g2:hint+min o (n-hint)<=n:=∅
  have g3:∀i,i<hint+l+1->B i=ah:=λi hi=>mono i (hint+l) ∅ ∅ h4;have g4:∀i,hint+min o (n-hint)<=i->i<n->B i=aj:=by
   intro i hi iE;rcases h5 with h5|⟨h5,h6⟩
   ·lia
   ·exact dn (i:=hint+o) ∅ iE h6
  clear h5;generalize hint+l+1=lo at *;generalize hint+min o (n-hint)=hi at *;refine aE (fP (fQ (I:=λx c cb=>cb=az/\∃l r,c=(ae,l,r)/\l<=r/\r<=n/\r-l<=n-x/\(∀i,i<l->B i=ah)/\(∀i,r<=i->i<n->B i=aj)) (Q:=λc cb=>cb=az/\∃l r,c=(ae,l,r)/\r<=n/\(∀i,i<r->B i=ah)/\(∀i,r<=i->i<n->B i=aj)) ?_ ?_ ?_) ?_)
  ·rintro x c cb _ hx ⟨rfl,l,r,rfl,a1,a2,a3,a4,a5⟩;dsimp only;by_cases iF:l ≥ r
   ·rw[if_pos iF];have:l=r:=∅
    subst this;exact aK ⟨rfl,l,l,rfl,a2,a4,a5⟩
   ·rw[if_neg iF];refine aE (hb ∅ ?_);cases e:B (l+(r-l) / 2)with
    |true=>exact aK ⟨rfl,_,r,rfl,∅,a2,∅,λi hi=>mono _ _ ∅ ∅ e,a5⟩
    |false=>exact aK ⟨rfl,l,_,rfl,∅,∅,∅,a4,λi hi iE=>dn (i:=l+(r-l) / 2) hi iE e⟩
  ·rintro c cb ⟨rfl,l,r,rfl,a1,a2,a3,a4,a5⟩;have:l=r:=∅
   subst this;exact⟨rfl,l,l,rfl,a2,a4,a5⟩
  ·exact⟨rfl,lo,hi,rfl,g1,g2,∅,g3,g4⟩
  ·rintro c cb ⟨rfl,l,r,rfl,a2,a4,a5⟩;exact aK (h r a2 a4 a5)
 |false=>
  dsimp only;rw[if_neg (by simp)];refine aE (fP (fQ (I:=λx c az=>az=st/\∃l o,c=(ae,l,o)/\l<o/\x<o/\l<=hint/\B (hint-l)=aj) (Q:=λc az=>az=st/\∃l o,c=(ae,l,o)/\l<o/\l<=hint/\B (hint-l)=aj/\(hint+1<=o\/(o<=hint/\B (hint-o)=ah))) ?_ ?_ ?_) ?_)
  ·rintro x c az _ hx ⟨rfl,l,o,rfl,h1,h2,h3,h4⟩;dsimp only;by_cases iF:o ≥ hint+1
   ·rw[if_pos iF];exact aK ⟨rfl,l,o,rfl,h1,h3,h4,.inl iF⟩
   ·rw[if_neg iF];refine aE (hb ∅ ?_);cases e:B (hint-o)with
    |false=>exact aK ⟨rfl,o,2*o+1,rfl,∅,∅,∅,e⟩
    |true=>exact aK ⟨rfl,l,o,rfl,h1,h3,h4,.inr ⟨∅,e⟩⟩
  ·rintro c az ⟨rfl,l,o,rfl,h1,h2,h3,h4⟩;exact⟨rfl,l,o,rfl,h1,h3,h4,.inl ∅⟩
  ·exact⟨rfl,0,1,rfl,∅,∅,∅,hr⟩
  rintro c az ⟨rfl,l,o,rfl,h1,h3,h4,h5⟩;dsimp only;have g1:hint+1-min o (hint+1)<=hint-l:=∅
  have g2:hint-l<=n:=∅
  have g3:∀i,i<hint+1-min o (hint+1)->B i=ah:=by
   intro i hi;rcases h5 with h5|⟨h5,h6⟩
   ·lia
   ·exact mono i (hint-o) ∅ ∅ h6
  have g4:∀i,hint-l<=i->i<n->B i=aj:=λi hi iE=>dn (i:=hint-l) ∅ iE h4;clear h5 h4;generalize hint+1-min o (hint+1)=lo at *;generalize hint-l=hi at *;refine aE (fP (fQ (I:=λx c cb=>cb=az/\∃l r,c=(ae,l,r)/\l<=r/\r<=n/\r-l<=n-x/\(∀i,i<l->B i=ah)/\(∀i,r<=i->i<n->B i=aj)) (Q:=λc cb=>cb=az/\∃l r,c=(ae,l,r)/\r<=n/\(∀i,i<r->B i=ah)/\(∀i,r<=i->i<n->B i=aj)) ?_ ?_ ?_) ?_)
  ·rintro x c cb _ hx ⟨rfl,l,r,rfl,a1,a2,a3,a4,a5⟩;dsimp only;by_cases iF:l ≥ r
   ·rw[if_pos iF];have:l=r:=∅
    subst this;exact aK ⟨rfl,l,l,rfl,a2,a4,a5⟩
   ·rw[if_neg iF];refine aE (hb ∅ ?_);cases e:B (l+(r-l) / 2)with
    |true=>exact aK ⟨rfl,_,r,rfl,∅,a2,∅,λi hi=>mono _ _ ∅ ∅ e,a5⟩
    |false=>exact aK ⟨rfl,l,_,rfl,∅,∅,∅,a4,λi hi iE=>dn (i:=l+(r-l) / 2) hi iE e⟩
  ·rintro c cb ⟨rfl,l,r,rfl,a1,a2,a3,a4,a5⟩;have:l=r:=∅
   subst this;exact⟨rfl,l,l,rfl,a2,a4,a5⟩
  ·exact⟨rfl,lo,hi,rfl,g1,g2,∅,g3,g4⟩
  ·rintro c cb ⟨rfl,l,r,rfl,a2,a4,a5⟩;exact aK (h r a2 a4 a5)
end
section
variable{κ:KeyKind}{kz:gH}
def bw(κ:KeyKind)(x y:Keyed):Prop:=κ.kle (kO κ x) (kO κ y)
theorem bw.trans{x y z:Keyed}(h1:bw κ x y)(h2:bw κ y z):bw κ x z:=qR h1 h2
structure MS(κ:KeyKind)(T o ra rb:List Keyed):Prop where
 perm:(o++(ra++rb)).Perm T
 so:o.Pairwise (bw κ)
 sa:ra.Pairwise (bw κ)
 sb:rb.Pairwise (bw κ)
 oa:∀x∈o,∀y∈ra,bw κ x y
 ob:∀x∈o,∀y∈rb,bw κ x y
theorem MS.stepA{T o x ra rb:List Keyed}(h:MS κ T o (x++ra) rb)(hx:∀u∈x,∀v∈rb,bw κ u v):MS κ T (o++x) ra rb:=by
 obtain⟨h1,h2,h3,h4,h5,h6⟩:=h;rw[Aj]at h3;refine⟨by simpa[qC]using h1,?_,h3.2.1,h4,?_,?_⟩
 ·rw[Aj];exact⟨h2,h3.1,λu hu v hv=>h5 u hu v (zF _ hv)⟩
 ·intro u hu v hv;rcases gb.mp hu with hu|hu
  ·exact h5 u hu v (k6 _ hv)
  ·exact h3.2.2 u hu v hv
 ·intro u hu v hv;rcases gb.mp hu with hu|hu
  ·exact h6 u hu v hv
  ·exact hx u hu v hv
theorem MS.swap{T o ra rb:List Keyed}(h:MS κ T o ra rb):MS κ T o rb ra :=⟨(EU _ List.perm_append_comm).trans h.perm,h.so,h.sb,h.sa,h.ob,h.oa⟩
theorem MS.stepB{T o x ra rb:List Keyed}(h:MS κ T o ra (x++rb))(hx:∀u∈x,∀v∈ra,bw κ u v):MS κ T (o++x) ra rb :=(h.swap.stepA hx).swap
def fL(κ:KeyKind)(T:List Keyed)(r:Array Keyed):Prop:=r.toList.Perm T/\r.toList.Pairwise (bw κ)
theorem MS.endA{T o ra:List Keyed}{r:Array Keyed}(h:MS κ T o ra [])(e:r.toList=o++ra):fL κ T r:=by obtain⟨h1,h2,h3,h4,h5,h6⟩:=h;refine⟨by rw[e];simpa using h1,?_⟩;rw[e,Aj];exact⟨h2,h3,h5⟩
theorem MS.last{T o ra rb:List Keyed}{r:Array Keyed}(h:MS κ T o ra rb)(hx:∀u∈rb,∀v∈ra,bw κ u v)(e:r.toList=o++(rb++ra)):fL κ T r:=by
 have h':MS κ T o ra (rb++[]):=by simpa using h
 exact(h'.stepB hx).endA (by rw[e];simp)
theorem jY(a:Array Keyed)(i j:Nat):(a.extract i j).toList=(a.toList.drop i).take (j-i):=by simp[Array.toList_extract,List.extract_eq_take_drop]
theorem pU(a:Array Keyed)(i:Nat):(a.extract i a.size).toList=a.toList.drop i:=by rw[jY,wx];simp
theorem Cp{a:Array Keyed}{i:Nat}(h:i<a.size):a.toList.drop i=a[i]::a.toList.drop (i+1):=by rw[wH (by simpa using h)];simp
theorem Ei(a:Array Keyed)(i k:Nat):a.toList.drop i=(a.extract i (i+k)).toList++a.toList.drop (i+k):=by rw[jY,show i+k-i=k by lia,←List.drop_drop,nj]
theorem pf{a:Array Keyed}{i:Nat}{x:Keyed}(h:x∈a.toList.drop i):∃j,∃hj:j<a.size,i<=j/\a[j]=x:=by
 obtain⟨k,hk,e⟩:=l_ h;rw[wN]at e;have mn:i+k<a.size:=by simp at hk;lia
 exact⟨i+k,mn,∅,by simpa using e⟩
theorem Ck{a:Array Keyed}{i k:Nat}{x:Keyed}(h:x∈(a.extract i (i+k)).toList):∃j,∃hj:j<a.size,i<=j/\j<i+k/\a[j]=x:=by
 rw[jY]at h;obtain⟨m,hm,e⟩:=l_ h;rw[Ak,wN]at e;refine⟨i+m,?_,∅,?_,by simpa using e⟩
 all_goals simp at hm;lia
def sh(κ:KeyKind)(a:Array Keyed):Prop:=∀i j (hj:j<a.size) (bt:i<=j),bw κ (a[i]'∅) a[j]
theorem sh.pw{a:Array Keyed}(h:sh κ a):a.toList.Pairwise (bw κ):=by rw[qS];intro i j hi hj bt;have:=h i j (by simpa using hj) ∅;simpa using this
structure eW(κ:KeyKind)(a b out:Array Keyed)(ia ib:Nat):Prop where
 ms:MS κ (a.toList++b.toList) out.toList (a.toList.drop ia) (b.toList.drop ib)
 la:ia<=a.size
 lb:ib<=b.size
variable{a b out:Array Keyed}{ia ib:Nat}
theorem eW.pushA(h:eW κ a b out ia ib)(hi:ia<a.size)(hx:∀j (hj:j<b.size),ib<=j->bw κ a[ia] b[j]):eW κ a b (out.push a[ia]) (ia+1) ib:=by refine⟨?_,hi,h.lb⟩;rw[qK];refine MS.stepA (by rw[Am,←Cp hi];exact h.ms) λu hu v hv=>?_;obtain⟨j,hj,fj,rfl⟩:=pf hv;rw[hV.mp hu];exact hx j hj fj
theorem eW.pushB(h:eW κ a b out ia ib)(hi:ib<b.size)(hx:∀j (hj:j<a.size),ia<=j->bw κ b[ib] a[j]):eW κ a b (out.push b[ib]) ia (ib+1):=by refine⟨?_,h.la,hi⟩;rw[qK];refine MS.stepB (by rw[Am,←Cp hi];exact h.ms) λu hu v hv=>?_;obtain⟨j,hj,fj,rfl⟩:=pf hv;rw[hV.mp hu];exact hx j hj fj
theorem eW.extA{k:Nat}(h:eW κ a b out ia ib)(hk:ia+k<=a.size)(hx:∀i (hi:i<a.size),ia<=i->i<ia+k->∀j (hj:j<b.size),ib<=j->bw κ a[i] b[j]):eW κ a b (out++a.extract ia (ia+k)) (ia+k) ib:=by refine⟨?_,hk,h.lb⟩;rw[hZ];refine MS.stepA (by rw[←Ei];exact h.ms) λu hu v hv=>?_;obtain⟨j,hj,fj,rfl⟩:=pf hv;obtain⟨i,hi,h1,h2,rfl⟩:=Ck hu;exact hx i hi h1 h2 j hj fj
theorem eW.extB{k:Nat}(h:eW κ a b out ia ib)(hk:ib+k<=b.size)(hx:∀i (hi:i<b.size),ib<=i->i<ib+k->∀j (hj:j<a.size),ia<=j->bw κ b[i] a[j]):eW κ a b (out++b.extract ib (ib+k)) ia (ib+k):=by refine⟨?_,h.la,hk⟩;rw[hZ];refine MS.stepB (by rw[←Ei];exact h.ms) λu hu v hv=>?_;obtain⟨j,hj,fj,rfl⟩:=pf hv;obtain⟨i,hi,h1,h2,rfl⟩:=Ck hu;exact hx i hi h1 h2 j hj fj
theorem eW.doneA(h:eW κ a b out ia ib)(e:ib=b.size):fL κ (a.toList++b.toList) (out++a.extract ia a.size++b.extract ib b.size):=by have:=h.ms;rw[show b.toList.drop ib=[] by rw[An];simp[e]]at this;refine this.endA ?_;rw[hZ,hZ,pU,pU,show b.toList.drop ib=[] by rw[An];simp[e],hG]
theorem eW.doneB(h:eW κ a b out ia ib)(e:ia=a.size):fL κ (a.toList++b.toList) (out++a.extract ia a.size++b.extract ib b.size):=by have:=h.ms;rw[show a.toList.drop ia=[] by rw[An];simp[e]]at this;refine this.swap.endA ?_;rw[hZ,hZ,pU,pU,show a.toList.drop ia=[] by rw[An];simp[e],hG]
theorem eW.last(h:eW κ a b out ia ib)(e:ia+1=a.size)(hl:∀j (hj:j<b.size),bw κ b[j] (a[ia]'∅)):fL κ (a.toList++b.toList) (out++b.extract ib b.size++a.extract ia a.size):=by
 refine h.ms.last (λu hu v hv=>?_) (by rw[hZ,hZ,pU,pU,qC]);obtain⟨j,hj,h1,rfl⟩:=pf hu;obtain⟨i,hi,h2,rfl⟩:=pf hv;have:i=ia:=∅
 subst this;exact hl j hj
end
section
variable{prog:aM}{w:aF}{A:aO}{E:ai->am->Prop}{s:am}{κ:KeyKind}{kz:gH}
theorem yQ(hO:g7 κ kz prog w A s){st:br}(hk:SB kz st){key:Keyed}{arr:Array Keyed}{base n hint:Nat}{Q:Option Nat->br->Prop}(jH:fX κ key)(hn:base+n<=arr.size)(hA:∀i (hi:i<arr.size),fX κ arr[i]) (hs:∀i j (bt:i<=j) (hj:j<base+n),base<=i->bw κ (arr[i]'∅) (arr[j]'∅)) (hh:hint<n)(h:∀r,r<=n->(∀i (hi:i<arr.size),base<=i->i<base+r->bw κ arr[i] key)->(∀i (hi:i<arr.size),base+r<=i->i<base+n->κ.klt (kO κ key) (kO κ arr[i]))->Q (aa r) st):wpS (aw prog w) A E s (vi aj key arr base n hint) Q st:=by
 refine Dt hO hk jH hn hA (λi=>if hi:i<n then kH κ aj key (arr[base+i]'∅)else aj) (λi hi=>by rw[dif_pos hi]) ?_ hh ?_
 ·intro i j bt hj e;rw[dif_pos hj]at e;rw[dif_pos ∅];simp only[kH,eB,if_false,E3]at e ⊢;exact qR (hs (base+i) (base+j) ∅ ∅ ∅) e
 ·intro r hr h1 h2;refine h r hr (λi hi hb ba=>?_) (λi hi hb ba=>?_)
  ·have:=h1 (i-base) ∅;rw[dif_pos ∅]at this;simp only[kH,eB,if_false,E3,show base+(i-base)=i by lia]at this;exact this
  ·have:=h2 (i-base) ∅ ∅;rw[dif_pos ∅]at this;simp only[kH,eB,if_false,Bool.not_eq_false',show base+(i-base)=i by lia]at this;exact this
theorem yo(hO:g7 κ kz prog w A s){st:br}(hk:SB kz st){key:Keyed}{arr:Array Keyed}{base n hint:Nat}{Q:Option Nat->br->Prop}(jH:fX κ key)(hn:base+n<=arr.size)(hA:∀i (hi:i<arr.size),fX κ arr[i]) (hs:∀i j (bt:i<=j) (hj:j<base+n),base<=i->bw κ (arr[i]'∅) (arr[j]'∅)) (hh:hint<n)(h:∀r,r<=n->(∀i (hi:i<arr.size),base<=i->i<base+r->κ.klt (kO κ arr[i]) (kO κ key))->(∀i (hi:i<arr.size),base+r<=i->i<base+n->bw κ key arr[i])->Q (aa r) st):wpS (aw prog w) A E s (vi ah key arr base n hint) Q st:=by
 refine Dt hO hk jH hn hA (λi=>if hi:i<n then kH κ ah key (arr[base+i]'∅)else aj) (λi hi=>by rw[dif_pos hi]) ?_ hh ?_
 ·intro i j bt hj e;rw[dif_pos hj]at e;rw[dif_pos ∅];simp only[kH,if_true]at e ⊢;exact KeyOrd.klt_of_kle_of_klt (hs (base+i) (base+j) ∅ ∅ ∅) e
 ·intro r hr h1 h2;refine h r hr (λi hi hb ba=>?_) (λi hi hb ba=>?_)
  ·have:=h1 (i-base) ∅;rw[dif_pos ∅]at this;simp only[kH,if_true,show base+(i-base)=i by lia]at this;exact this
  ·have:=h2 (i-base) ∅ ∅;rw[dif_pos ∅]at this;simp only[kH,if_true,show base+(i-base)=i by lia]at this;exact this
end
structure fK(st az:br):Prop where
 kind:kindOf az=kindOf st
 arr:arrOf az=arrOf st
 pend:bf az=bf st
 failed:failedOf az=failedOf st
theorem fK.rfl{st:br}:fK st st:=⟨_root_.rfl,_root_.rfl,_root_.rfl,_root_.rfl⟩
theorem fK.sb{kz:gH}{st az:br}(h:fK st az)(k:SB kz st):SB kz az:=⟨h.kind.trans k.kind,h.failed.trans k.failed⟩
section
variable{prog:aM}{w:aF}{A:aO}{E:ai->am->Prop}{s:am}{κ:KeyKind}{kz:gH}
theorem cm{σ α:Type}{M:Model}{c:Prop}[Decidable c]{t e:StateT σ Sem α}{Q:α->σ->Prop}{st:σ}(h1:c->wpS M A E s t Q st)(h2:¬c->wpS M A E s e Q st):wpS M A E s (if c then t else e) Q st:=by
 split
 ·exact h1 ‹_›
 ·exact h2 ‹_›
def Kl:Nat->StateT br Sem Unit:=sortPriv% PySem.Builtin.setMinGallop
theorem fK.trans{a b c:br}(h1:fK a b)(h2:fK b c):fK a c:=⟨h2.kind.trans h1.kind,h2.arr.trans h1.arr,h2.pend.trans h1.pend,h2.failed.trans h1.failed⟩
theorem xT{st iU:br}{g:Nat}{Q:Unit->br->Prop}(hS:fK iU st)(h:∀az,fK iU az->Q () az):wpS (aw prog w) A E s (Kl g) Q st :=ma (h _ (hS.trans ⟨rfl,rfl,rfl,rfl⟩))
theorem Lp(hO:g7 κ kz prog w A s){st:br}(hk:SB kz st){a b:Array Keyed}{Q:Array Keyed->br->Prop}(ha:0<a.size)(hb:0<b.size)(hA:∀i (hi:i<a.size),fX κ a[i]) (hB:∀i (hi:i<b.size),fX κ b[i]) (sa:sh κ a) (sb:sh κ b)(h0:bw κ b[0] a[0]) (hl:∀j (hj:j<b.size),bw κ b[j] a[a.size-1])(h:∀r az,fK st az->fL κ (a.toList++b.toList) r->Q r az):wpS (aw prog w) A E s (Dl a b) Q st:=by
 have gP:∀{i:Nat} (hi:i<a.size),i+1=a.size->∀j (hj:j<b.size),bw κ b[j] a[i]:=λ{i} hi e j hj=>by
  have:i=a.size-1:=∅
  subst this;exact hl j hj
 have I0:eW κ a b #[b[0]] 0 1:=by
  have h1:eW κ a b #[] 0 0:=⟨⟨by simp,by simp,by simpa using sa.pw,by simpa using sb.pw,by simp,by simp⟩,∅,∅⟩
  exact h1.pushB hb λj hj _=>h0.trans (sa 0 j hj ∅)
 unfold Dl;refine aE (qQ (lZ ⟨rfl,?_⟩));refine aE (eG hb ?_);by_cases e1:1=b.size
 ·rw[if_pos (by simp[←e1])];exact aK (h _ _ .rfl (I0.doneA e1))
 rw[if_neg (by simpa using e1)];by_cases e2:0+1=a.size
 ·rw[if_pos (by simp[←e2])];exact aK (h _ _ .rfl (I0.last e2 (gP ∅ ∅)))
 rw[if_neg (by simpa using e2)];refine aE (kb ?_);refine aE (fP (fQ (I:=λx c az=>fK st az/\∃out ia ib mg,c=(ae,out,ia,ib,mg)/\eW κ a b out ia ib/\ia+1<a.size/\ib<b.size/\x+1<=ia+ib) (Q:=λc az=>fK st az/\∃r,c.1=aa r/\fL κ (a.toList++b.toList) r) ?_ ?_ ?_) ?_);rotate_left
 ·rintro c az ⟨_,out,ia,ib,mg,rfl,hI,h1,h2,h3⟩;lia
 ·exact⟨.rfl,_,0,1,_,rfl,I0,∅,∅,∅⟩
 ·rintro⟨c1,c⟩ az ⟨hS,r,rfl,hD⟩;exact aK (h r az hS hD)
 rintro x c az _ hx ⟨hS,out,ia,ib,mg,rfl,hI,h1,h2,h3⟩;refine aE (fP (fQ (I:=λy c cb=>cb=az/\∃out ia ib ac bc,c=(ae,out,ia,ib,ac,bc)/\eW κ a b out ia ib/\ia+1<a.size/\ib<b.size/\x+1+y<=ia+ib) (Q:=λc cb=>cb=az/\((∃r c',c=(aa r,c')/\fL κ (a.toList++b.toList) r)\/∃out ia ib ac bc,c=(ae,out,ia,ib,ac,bc)/\eW κ a b out ia ib/\ia+1<a.size/\ib<b.size/\x+1+1<=ia+ib)) ?_ ?_ ?_) ?_)
 ·rintro y c cb _ hy ⟨rfl,out,ia,ib,ac,bc,rfl,hI,h1,h2,h3⟩;dsimp only;refine aE (eG h2 (aE (eG ∅ (aE (sQ hO (hS.sb hk) (hB ib h2) (hA ia ∅) ?_)))));cases e:κ.blt (kO κ b[ib]) (kO κ (a[ia]'∅))with
  |true=>
   dsimp only;rw[if_pos rfl];refine aE (eG h2 ?_);have kn:=hI.pushB h2 λj hj fj=>bw.trans (kc e) (sa ia j hj fj);by_cases e3:ib+1=b.size
   ·rw[if_pos (by simp[e3])];exact aK ⟨rfl,.inl ⟨_,_,rfl,kn.doneA e3⟩⟩
   rw[if_neg (by simpa using e3)];split
   ·exact aK ⟨rfl,.inr ⟨_,_,_,_,_,rfl,kn,∅,∅,∅⟩⟩
   ·exact aK ⟨rfl,_,_,_,_,_,rfl,kn,∅,∅,∅⟩
  |false=>
   dsimp only;rw[if_neg (by simp)];refine aE (eG ∅ ?_);have kn:=hI.pushA ∅ λj hj fj=>bw.trans (show bw κ (a[ia]'∅) b[ib] from e) (sb ib j hj fj);by_cases e3:ia+1+1=a.size
   ·rw[if_pos (by simp[e3])];exact aK ⟨rfl,.inl ⟨_,_,rfl,kn.last e3 (gP ∅ ∅)⟩⟩
   rw[if_neg (by simpa using e3)];split
   ·exact aK ⟨rfl,.inr ⟨_,_,_,_,_,rfl,kn,∅,∅,∅⟩⟩
   ·exact aK ⟨rfl,_,_,_,_,_,rfl,kn,∅,∅,∅⟩
 ·rintro c cb ⟨rfl,out,ia,ib,ac,bc,rfl,hI,h1,h2,h3⟩;lia
 ·exact⟨rfl,_,_,_,_,_,rfl,hI,h1,h2,∅⟩
 rintro c cb ⟨rfl,⟨r,c',rfl,hD⟩|⟨out,ia,ib,ac,bc,rfl,hI,h1,h2,h3⟩⟩
 ·exact aK ⟨hS,r,rfl,hD⟩
 refine aE (qQ (lZ ⟨rfl,?_⟩));refine aE (fP (fQ (I:=λy c cb=>fK st cb/\∃out ia ib mg ac bc,c=(ae,out,ia,ib,mg,ac,bc)/\eW κ a b out ia ib/\ia+1<a.size/\ib<b.size/\x+2+y<=ia+ib) (Q:=λc cb=>fK st cb/\((∃r c',c=(aa r,c')/\fL κ (a.toList++b.toList) r)\/∃out ia ib mg ac bc,c=(ae,out,ia,ib,mg,ac,bc)/\eW κ a b out ia ib/\ia+1<a.size/\ib<b.size/\x+1+1<=ia+ib)) ?_ ?_ ?_) ?_);rotate_left
 ·rintro c cb ⟨_,out,ia,ib,mg,ac,bc,rfl,hI,h1,h2,h3⟩;lia
 ·exact⟨hS,_,_,_,_,_,_,rfl,hI,h1,h2,∅⟩
 ·rintro c cb ⟨hS,⟨r,c',rfl,hD⟩|⟨out,ia,ib,mg,ac,bc,rfl,hI,h1,h2,h3⟩⟩
  ·exact aK ⟨hS,r,rfl,hD⟩
  ·dsimp only;refine aE (ma (aK ⟨⟨hS.kind,hS.arr,hS.pend,hS.failed⟩,_,_,_,_,rfl,hI,h1,h2,∅⟩))
 clear h1 h2 h3 hI hS I0 e1 e2;rintro y c cb _ hy ⟨hS,out,ia,ib,mg,ac,bc,rfl,hI,h1,h2,h3⟩;clear hx hy;have iS:∀{i j:Nat} (bt:i<=j) (hj:j<b.size),bw κ (b[i]'∅) b[j]:=λ{i j} bt hj=>sb i j hj bt;have oY:∀{i j:Nat} (bt:i<=j) (hj:j<a.size),bw κ (a[i]'∅) a[j]:=λ{i j} bt hj=>sa i j hj bt;refine(?_:wpS (aw prog w) A E s _ ?Q _);extract_lets -merge x1 x2 x3 x4 x5 x6 x7 x8 x9 xa xb xc jp;have hj:∀g bq,fK st bq->wpS (aw prog w) A E s (jp () g) ?Q bq:=by
  intro g bq fk;dsimp -zeta only[jp,x1,x2,x3,x4,x5,x6,x7,x8,x9,xa,xb,xc];refine aE (xT fk λbq fk=>?_);refine aE (eG h2 ?_);refine aE (yQ hO (fk.sb hk) (base:=ia) (n:=a.size-ia) (hint:=0) (hB ib h2) ∅ hA (λi j bt hj _=>oY bt ∅) ∅ λk jJ fF fo=>?_);dsimp -zeta only;extract_lets -merge y1 jp2;have t8:∀o n,eW κ a b o n ib->ia+k<=n->n+1<a.size->wpS (aw prog w) A E s (jp2 () o n) ?Q bq:=by
   intro o n t9 nE e4;dsimp -zeta only[jp2,y1];refine aE (eG h2 ?_);have hI3:=t9.pushB h2 λj hj g=>kc (fo j hj ∅ ∅);refine cm (λe5=>?_) λe5=>?_
   ·exact aK ⟨fk,.inl ⟨_,_,rfl,hI3.doneA (by simpa using e5)⟩⟩
   have e5':ib+1≠b.size:=by simpa using e5
   refine aE (eG ∅ ?_);refine aE (yo hO (fk.sb hk) (base:=ib+1) (n:=b.size-(ib+1)) (hint:=0) (hA _ _) ∅ hB (λi j bt hj _=>iS bt ∅) ∅ λk' m1 m2 m3=>?_);dsimp -zeta only;extract_lets -merge z1 z2 jp3;have t_:∀o m,eW κ a b o n m->ib+1+k'<=m->m<b.size->wpS (aw prog w) A E s (jp3 () o m) ?Q bq:=by
    intro o m ua e6 e7;dsimp -zeta only[jp3,z1,z2];refine aE (eG ∅ ?_);have ub:=ua.pushA ∅ (λj hj g=>m3 j hj ∅ ∅);refine cm (λe7=>?_) λe7=>?_
    ·have e7':n+1+1=a.size:=by simpa using e7
     exact aK ⟨fk,.inl ⟨_,_,rfl,ub.last e7' (gP ∅ e7')⟩⟩
    have e7':n+1+1≠a.size:=by simpa using e7
    refine cm (λe8=>?_) λe8=>?_
    ·exact aK ⟨fk,.inr ⟨_,_,_,_,_,_,rfl,ub,∅,∅,∅⟩⟩
    ·exact aK ⟨fk,_,_,_,_,_,_,rfl,ub,∅,∅,∅⟩
   clear_value jp3;refine cm (λAM=>?_) (λAM=>?_)
   ·have ua:=hI3.extB (k:=k') ∅ (λi hi g1 g2 j hj g3=>bw.trans (kc (m2 i hi g1 g2)) (oY g3 hj));refine cm (λe6=>?_) λe6=>?_
    ·exact aK ⟨fk,.inl ⟨_,_,rfl,ua.doneA (by simpa using e6)⟩⟩
    have e6':ib+1+k'≠b.size:=by simpa using e6
    exact t_ _ _ ua ∅ ∅
   ·exact t_ _ _ hI3 ∅ ∅
  clear_value jp2;refine cm (λhk0=>?_) (λhk0=>?_)
  ·have t9:eW κ a b (out++a.extract ia (ia+k)) (ia+k) ib:=hI.extA ∅ λi hi g1 g2 j hj g3=>(fF i hi g1 g2).trans (iS g3 hj);refine cm (λe3=>?_) λe3=>?_
   ·have nE:ia+k+1=a.size:=by simpa using e3
    exact aK ⟨fk,.inl ⟨_,_,rfl,t9.last nE (gP ∅ nE)⟩⟩
   have nE:ia+k+1≠a.size:=by simpa using e3
   refine cm (λe4=>?_) λe4=>?_
   ·exact aK ⟨fk,.inl ⟨_,_,rfl,t9.doneB (by simpa using e4)⟩⟩
   have e4':ia+k≠a.size:=by simpa using e4
   exact t8 _ _ t9 ∅ ∅
  ·exact t8 _ _ hI ∅ ∅
 exact cm (λ_=>hj _ _ hS) λ_=>hj _ _ hS
end
def yP(κ:KeyKind):KeyKind where
 α:=κ.α
 blt:=λa b=>κ.blt b a
 irrefl:=κ.irrefl
 trans:=λa b c h1 h2=>κ.trans c b a h2 h1
 negTrans:=λa b c h=>(κ.negTrans c b a h).symm
 total:=λa b h1 h2=>κ.total a b h2 h1
 keyOf:=κ.keyOf
 dflt:=κ.dflt
section
variable{κ:KeyKind}{kz:gH}
theorem rL{x y:Keyed}(h:bw κ y x):bw (yP κ) x y:=h
theorem AW{a:Array Keyed}{n:Nat}(h:0<n)(hn:n<=a.size):(a.toList.take n).reverse=(a[n-1]'∅)::(a.toList.take (n-1)).reverse:=by
 obtain⟨m,rfl⟩:∃m,n=m+1:=⟨n-1,∅⟩
 rw[wO (by simp;lia),E4];simp
theorem DJ(a:Array Keyed)(p n:Nat)(hp:p<=n):a.toList.take n=a.toList.take p++(a.extract p n).toList:=by
 rw[jY]
 conv=>lhs;rw[show n=p+(n-p) by lia]
 rw[List.take_add]
theorem pJ{a:Array Keyed}{n:Nat}(hn:n<=a.size){x:Keyed}(h:x∈a.toList.take n):∃j,∃hj:j<a.size,j<n/\a[j]=x:=by
 obtain⟨m,hm,e⟩:=l_ h;rw[Ak]at e;have h1:m<n:=by simp at hm;lia
 exact⟨m,∅,h1,by simpa using e⟩
theorem yt{a:Array Keyed}{p n:Nat}(hn:n<=a.size){x:Keyed}(h:x∈(a.extract p n).toList):∃j,∃hj:j<a.size,p<=j/\j<n/\a[j]=x:=by
 rw[jY]at h;obtain⟨m,hm,e⟩:=l_ h;rw[Ak,wN]at e;have h1:p+m<n:=by simp at hm;lia
 exact⟨p+m,∅,∅,h1,by simpa using e⟩
theorem nZ(a:Array Keyed)(n:Nat):(a.extract 0 n).toList=a.toList.take n:=by rw[jY];simp
structure eZ(κ:KeyKind)(a b out:Array Keyed)(na nb:Nat):Prop where
 ms:MS (yP κ) (a.toList++b.toList) out.toList (a.toList.take na).reverse (b.toList.take nb).reverse
 la:na<=a.size
 lb:nb<=b.size
variable{a b out:Array Keyed}{na nb:Nat}
theorem eZ.pushA(h:eZ κ a b out na nb)(hn:0<na)(hla:na-1<a.size)(hx:∀j (hj:j<b.size),j<nb->bw κ b[j] a[na-1]):eZ κ a b (out.push a[na-1]) (na-1) nb:=by refine⟨?_,∅,h.lb⟩;rw[qK];refine MS.stepA (by rw[Am,←AW hn h.la];exact h.ms) λu hu v hv=>?_;obtain⟨j,hj,fj,rfl⟩:=pJ h.lb (oN.mp hv);rw[hV.mp hu];exact rL (hx j hj fj)
theorem eZ.pushB(h:eZ κ a b out na nb)(hn:0<nb)(hlb:nb-1<b.size)(hx:∀j (hj:j<a.size),j<na->bw κ a[j] b[nb-1]):eZ κ a b (out.push b[nb-1]) na (nb-1):=by refine⟨?_,h.la,∅⟩;rw[qK];refine MS.stepB (by rw[Am,←AW hn h.lb];exact h.ms) λu hu v hv=>?_;obtain⟨j,hj,fj,rfl⟩:=pJ h.la (oN.mp hv);rw[hV.mp hu];exact rL (hx j hj fj)
theorem eZ.extA{p:Nat}(h:eZ κ a b out na nb)(hp:p<=na)(hx:∀i (hi:i<a.size),p<=i->i<na->∀j (hj:j<b.size),j<nb->bw κ b[j] a[i]):eZ κ a b (out++(a.extract p na).reverse) p nb:=by refine⟨?_,cR hp h.la,h.lb⟩;rw[hZ,Array.toList_reverse];refine MS.stepA (by rw[←E4,←DJ _ _ _ hp];exact h.ms) λu hu v hv=>?_;obtain⟨j,hj,fj,rfl⟩:=pJ h.lb (oN.mp hv);obtain⟨i,hi,h1,h2,rfl⟩:=yt h.la (oN.mp hu);exact rL (hx i hi h1 h2 j hj fj)
theorem eZ.extB{p:Nat}(h:eZ κ a b out na nb)(hp:p<=nb)(hx:∀i (hi:i<b.size),p<=i->i<nb->∀j (hj:j<a.size),j<na->bw κ a[j] b[i]):eZ κ a b (out++(b.extract p nb).reverse) na p:=by refine⟨?_,h.la,cR hp h.lb⟩;rw[hZ,Array.toList_reverse];refine MS.stepB (by rw[←E4,←DJ _ _ _ hp];exact h.ms) λu hu v hv=>?_;obtain⟨j,hj,fj,rfl⟩:=pJ h.la (oN.mp hv);obtain⟨i,hi,h1,h2,rfl⟩:=yt h.lb (oN.mp hu);exact rL (hx i hi h1 h2 j hj fj)
theorem xn{T:List Keyed}{r q:Array Keyed}(h:fL (yP κ) T q)(e:r.toList=q.toList.reverse):fL κ T r:=by refine⟨by rw[e];exact(E5 _).trans h.1,?_⟩;rw[e,E6];exact h.2
theorem eZ.doneA(h:eZ κ a b out na nb)(e:na=0):fL κ (a.toList++b.toList) (a.extract 0 na++b.extract 0 nb++out.reverse):=by have:=h.ms;rw[e,Ab,List.reverse_nil]at this;refine xn (q:=(out.toList++(b.toList.take nb).reverse).toArray) (this.swap.endA (by simp)) ?_;rw[hZ,hZ,nZ,nZ,e];simp
theorem eZ.doneB(h:eZ κ a b out na nb)(e:nb=0):fL κ (a.toList++b.toList) (a.extract 0 na++b.extract 0 nb++out.reverse):=by have:=h.ms;rw[e,Ab,List.reverse_nil]at this;refine xn (q:=(out.toList++(a.toList.take na).reverse).toArray) (this.endA (by simp)) ?_;rw[hZ,hZ,nZ,nZ,e];simp
theorem eZ.first(h:eZ κ a b out na nb)(e:nb=1)(hf:∀j (hj:j<a.size),bw κ (b[0]'(by have:=h.lb;lia)) a[j]):fL κ (a.toList++b.toList) (b.extract 0 nb++a.extract 0 na++out.reverse):=by
 refine xn (q:=(out.toList++((a.toList.take na).reverse++(b.toList.take nb).reverse)).toArray) (h.ms.swap.last (λu hu v hv=>?_) (by simp)) ?_
 ·obtain⟨i,hi,h1,rfl⟩:=pJ h.la (oN.mp hu);obtain⟨j,hj,h2,rfl⟩:=pJ h.lb (oN.mp hv);have:j=0:=∅
  subst this;exact rL (hf i hi)
 ·rw[hZ,hZ,nZ,nZ];simp
end
section
variable{prog:aM}{w:aF}{A:aO}{E:ai->am->Prop}{s:am}{κ:KeyKind}{kz:gH}
theorem Iy(hO:g7 κ kz prog w A s){st:br}(hk:SB kz st){a b:Array Keyed}{Q:Array Keyed->br->Prop}(ha:0<a.size)(hb:0<b.size)(hA:∀i (hi:i<a.size),fX κ a[i]) (hB:∀i (hi:i<b.size),fX κ b[i]) (sa:sh κ a) (sb:sh κ b)(h0:bw κ b[0] a[0]) (hl:∀j (hj:j<b.size),bw κ b[j] a[a.size-1])(h:∀r az,fK st az->fL κ (a.toList++b.toList) r->Q r az):wpS (aw prog w) A E s (Dm a b) Q st:=by
 have iS:∀{i j:Nat} (bt:i<=j) (hj:j<b.size),bw κ (b[i]'∅) b[j]:=λ{i j} bt hj=>sb i j hj bt;have oY:∀{i j:Nat} (bt:i<=j) (hj:j<a.size),bw κ (a[i]'∅) a[j]:=λ{i j} bt hj=>sa i j hj bt;have hf:∀j (hj:j<a.size),bw κ b[0] a[j]:=λj hj=>h0.trans (oY ∅ hj);have I0:eZ κ a b #[a[a.size-1]] (a.size-1) b.size:=by
  have h1:eZ κ a b #[] a.size b.size:=by
   refine⟨⟨?_,by simp,?_,?_,by simp,by simp⟩,∅,∅⟩
   ·simp only[←g_,tw,iC];exact List.Perm.append (E5 _) (E5 _)
   ·simp only[←g_,tw,E6];exact sa.pw
   ·simp only[←g_,tw,E6];exact sb.pw
  exact h1.pushA ha ∅ λj hj _=>hl j hj
 unfold Dm;refine aE (qQ (lZ ⟨rfl,?_⟩));refine aE (eG ∅ ?_);refine cm (λe1=>aK (h _ _ .rfl (I0.doneA (by simpa using e1)))) λe1=>?_;have rk:a.size-1≠0:=by simpa using e1
 refine cm (λe2=>?_) λe2=>?_
 ·have kh:b.size=1:=by simpa using e2
  exact aK (h _ _ .rfl (I0.first kh hf))
 have kh:b.size≠1:=by simpa using e2
 refine aE (kb ?_);refine aE (fP (fQ (I:=λx c az=>fK st az/\∃out na nb mg,c=(ae,na,nb,out,mg)/\eZ κ a b out na nb/\0<na/\na<=a.size/\1<nb/\nb<=b.size/\x+1+na+nb<=a.size+b.size) (Q:=λc az=>fK st az/\∃r,c.1=aa r/\fL κ (a.toList++b.toList) r) ?_ ?_ ?_) ?_);rotate_left
 ·rintro c az ⟨_,out,na,nb,mg,rfl,hI,h1,eD,h2,cT,h3⟩;lia
 ·exact⟨.rfl,_,_,_,_,rfl,I0,∅,∅,∅,∅,∅⟩
 ·rintro⟨c1,c⟩ az ⟨hS,r,rfl,hD⟩;exact aK (h r az hS hD)
 rintro x c az _ hx ⟨hS,out,na,nb,mg,rfl,hI,h1,eD,h2,cT,h3⟩;refine aE (fP (fQ (I:=λy c cb=>cb=az/\∃out na nb ac bc,c=(ae,na,nb,out,ac,bc)/\eZ κ a b out na nb/\0<na/\na<=a.size/\1<nb/\nb<=b.size/\x+1+y+na+nb<=a.size+b.size) (Q:=λc cb=>cb=az/\((∃r c',c=(aa r,c')/\fL κ (a.toList++b.toList) r)\/∃out na nb ac bc,c=(ae,na,nb,out,ac,bc)/\eZ κ a b out na nb/\0<na/\na<=a.size/\1<nb/\nb<=b.size/\x+1+1+na+nb<=a.size+b.size)) ?_ ?_ ?_) ?_)
 ·rintro y c cb _ hy ⟨rfl,out,na,nb,ac,bc,rfl,hI,h1,eD,h2,cT,h3⟩;dsimp only;refine aE (eG ∅ (aE (eG ∅ (aE (sQ hO (hS.sb hk) (hB (nb-1) ∅) (hA (na-1) ∅) ?_)))));cases e:κ.blt (kO κ (b[nb-1]'∅)) (kO κ (a[na-1]'∅))with
  |true=>
   dsimp only;rw[if_pos rfl];refine aE (eG ∅ ?_);have kn:=hI.pushA h1 ∅ λj hj fj=>bw.trans (iS (show j<=nb-1 by lia) ∅) (kc e);refine cm (λe3=>?_) λe3=>?_
   ·exact aK ⟨rfl,.inl ⟨_,_,rfl,kn.doneA (by simpa using e3)⟩⟩
   have nE:na-1≠0:=by simpa using e3
   refine cm (λe4=>?_) λe4=>?_
   ·exact aK ⟨rfl,.inr ⟨_,_,_,_,_,rfl,kn,∅,∅,∅,∅,∅⟩⟩
   ·exact aK ⟨rfl,_,_,_,_,_,rfl,kn,∅,∅,∅,∅,∅⟩
  |false=>
   dsimp only;rw[if_neg (by simp)];refine aE (eG ∅ ?_);have kn:=hI.pushB ∅ ∅ λj hj fj=>bw.trans (oY (show j<=na-1 by lia) ∅) (show bw κ (a[na-1]'∅) (b[nb-1]'∅)from e);refine cm (λe3=>?_) λe3=>?_
   ·exact aK ⟨rfl,.inl ⟨_,_,rfl,kn.first (by simpa using e3) hf⟩⟩
   have nE:nb-1≠1:=by simpa using e3
   refine cm (λe4=>?_) λe4=>?_
   ·exact aK ⟨rfl,.inr ⟨_,_,_,_,_,rfl,kn,∅,∅,∅,∅,∅⟩⟩
   ·exact aK ⟨rfl,_,_,_,_,_,rfl,kn,∅,∅,∅,∅,∅⟩
 ·rintro c cb ⟨rfl,out,na,nb,ac,bc,rfl,hI,h1,eD,h2,cT,h3⟩;lia
 ·exact⟨rfl,_,_,_,_,_,rfl,hI,h1,eD,h2,cT,∅⟩
 rintro c cb ⟨rfl,⟨r,c',rfl,hD⟩|⟨out,na,nb,ac,bc,rfl,hI,h1,eD,h2,cT,h3⟩⟩
 ·exact aK ⟨hS,r,rfl,hD⟩
 refine aE (qQ (lZ ⟨rfl,?_⟩));refine aE (fP (fQ (I:=λy c cb=>fK st cb/\∃out na nb mg ac bc,c=(ae,na,nb,out,mg,ac,bc)/\eZ κ a b out na nb/\0<na/\na<=a.size/\1<nb/\nb<=b.size/\x+2+y+na+nb<=a.size+b.size) (Q:=λc cb=>fK st cb/\((∃r c',c=(aa r,c')/\fL κ (a.toList++b.toList) r)\/∃out na nb mg ac bc,c=(ae,na,nb,out,mg,ac,bc)/\eZ κ a b out na nb/\0<na/\na<=a.size/\1<nb/\nb<=b.size/\x+1+1+na+nb<=a.size+b.size)) ?_ ?_ ?_) ?_);rotate_left
 ·rintro c cb ⟨_,out,na,nb,mg,ac,bc,rfl,hI,h1,eD,h2,cT,h3⟩;lia
 ·exact⟨hS,_,_,_,_,_,_,rfl,hI,h1,eD,h2,cT,∅⟩
 ·rintro c cb ⟨hS,⟨r,c',rfl,hD⟩|⟨out,na,nb,mg,ac,bc,rfl,hI,h1,eD,h2,cT,h3⟩⟩
  ·exact aK ⟨hS,r,rfl,hD⟩
  ·dsimp only;exact aE (xT hS λbq fk=>aK ⟨fk,_,_,_,_,rfl,hI,h1,eD,h2,cT,∅⟩)
 clear h1 eD h2 cT h3 hI hS I0 e1 e2;rintro y c cb _ hy ⟨hS,out,na,nb,mg,ac,bc,rfl,hI,h1,eD,h2,cT,h3⟩;clear hx hy;refine(?_:wpS (aw prog w) A E s _ ?Q _);extract_lets -merge x1 x2 x3 x4 x5 x6 x7 x8 x9 xa xb xc jp;have hj:∀g bq,fK st bq->wpS (aw prog w) A E s (jp () g) ?Q bq:=by
  intro g bq fk;dsimp -zeta only[jp,x1,x2,x3,x4,x5,x6,x7,x8,x9,xa,xb,xc];refine aE (xT fk λbq fk=>?_);refine aE (eG ∅ ?_);refine aE (yQ hO (fk.sb hk) (base:=0) (n:=na) (hint:=na-1) (hB (nb-1) ∅) ∅ hA (λi j bt hj _=>oY bt ∅) ∅ λp jJ fF fo=>?_);dsimp -zeta only;extract_lets -merge y1 y2 jp2;have t8:∀n o,eZ κ a b o n nb->0<n->n<=p->wpS (aw prog w) A E s (jp2 () n o) ?Q bq:=by
   intro n o t9 nE e4;dsimp -zeta only[jp2,y1,y2];refine aE (eG ∅ ?_);have hI3:=t9.pushB ∅ ∅ λj hj g=>fF j hj ∅ ∅;refine cm (λe5=>?_) λe5=>?_
   ·exact aK ⟨fk,.inl ⟨_,_,rfl,hI3.first (by simpa using e5) hf⟩⟩
   have e5':nb-1≠1:=by simpa using e5
   refine aE (eG ∅ ?_);refine aE (yo hO (fk.sb hk) (base:=0) (n:=nb-1) (hint:=nb-1-1) (hA _ _) ∅ hB (λi j bt hj _=>iS bt ∅) ∅ λp' m1 m2 m3=>?_);dsimp -zeta only;extract_lets -merge z1 z2 z3 jp3;have t_:∀m o,eZ κ a b o n m->1<m->m<=p'->wpS (aw prog w) A E s (jp3 () m o) ?Q bq:=by
    intro m o ua e6 e7;dsimp -zeta only[jp3,z1,z2,z3];refine aE (eG ∅ ?_);have ub:=ua.pushA ∅ ∅ (λj hj g=>kc (m2 j hj ∅ ∅));refine cm (λe7=>?_) λe7=>?_
    ·exact aK ⟨fk,.inl ⟨_,_,rfl,ub.doneA (by simpa using e7)⟩⟩
    have e7':n-1≠0:=by simpa using e7
    refine cm (λe8=>?_) λe8=>?_
    ·exact aK ⟨fk,.inr ⟨_,_,_,_,_,_,rfl,ub,∅,∅,∅,∅,∅⟩⟩
    ·exact aK ⟨fk,_,_,_,_,_,_,rfl,ub,∅,∅,∅,∅,∅⟩
   clear_value jp3;refine cm (λAM=>?_) (λAM=>?_)
   ·have ua:=hI3.extB (p:=p') ∅ (λi hi g1 g2 j hj g3=>bw.trans (oY (show j<=n-1 by lia) ∅) (m3 i hi ∅ ∅));refine cm (λe6=>?_) λe6=>?_
    ·exact aK ⟨fk,.inl ⟨_,_,rfl,ua.first (by simpa using e6) hf⟩⟩
    refine cm (λe9=>?_) λe9=>?_
    ·exact aK ⟨fk,.inl ⟨_,_,rfl,ua.doneB (by simpa using e9)⟩⟩
    have e6':p'≠1:=by simpa using e6
    have e9':p'≠0:=by simpa using e9
    exact t_ _ _ ua ∅ ∅
   ·exact t_ _ _ hI3 ∅ ∅
  clear_value jp2;refine cm (λhk0=>?_) (λhk0=>?_)
  ·have t9:eZ κ a b (out++(a.extract p na).reverse) p nb:=hI.extA ∅ λi hi g1 g2 j hj g3=>bw.trans (iS (show j<=nb-1 by lia) ∅) (kc (fo i hi ∅ ∅));refine cm (λe3=>?_) λe3=>?_
   ·exact aK ⟨fk,.inl ⟨_,_,rfl,t9.doneA (by simpa using e3)⟩⟩
   have nE:p≠0:=by simpa using e3
   exact t8 _ _ t9 ∅ ∅
  ·exact t8 _ _ hI ∅ ∅
 exact cm (λ_=>hj _ _ hS) λ_=>hj _ _ hS
end
def putL(a:Array Keyed)(lo:Nat)(l:List Keyed):Array Keyed:=l.zipIdx.foldl (λa (pj:Keyed×Nat)=>a.setIfInBounds (lo+pj.2) pj.1) a
theorem xB:∀(l:List Keyed) (n lo:Nat) (a:Array Keyed),lo+n+l.length<=a.size -> ((l.zipIdx n).foldl (λa (pj:Keyed×Nat)=>a.setIfInBounds (lo+pj.2) pj.1) a).size=a.size /\ ∀k,((l.zipIdx n).foldl (λa (pj:Keyed×Nat)=>a.setIfInBounds (lo+pj.2) pj.1) a)[k]?=if lo+n<=k/\k<lo+n+l.length then l[k-(lo+n)]? else a[k]?
 |[],n,lo,a,_=>⟨rfl,λk=>by rw[if_neg (by simp)];rfl⟩
 |x::l,n,lo,a,h=>by
  have h':lo+(n+1)+l.length<=(a.setIfInBounds (lo+n) x).size:=by simp at h ⊢;lia
  obtain⟨e1,e2⟩:=xB l (n+1) lo (a.setIfInBounds (lo+n) x) h';rw[List.zipIdx_cons,k9];refine⟨by rw[e1];simp,λk=>?_⟩;rw[e2];by_cases h1:lo+n=k
  ·subst h1;rw[if_neg ∅,if_pos (by simp)];rw[Array.getElem?_setIfInBounds_self_of_lt (by simp at h;lia)];simp
  ·by_cases h2:lo+(n+1)<=k/\k<lo+(n+1)+l.length
   ·rw[if_pos h2,if_pos (by simp;lia)];rw[show k-(lo+n)=k-(lo+(n+1))+1 by lia,List.getElem?_cons_succ]
   ·rw[if_neg h2,if_neg (by simp;lia),Array.getElem?_setIfInBounds_ne h1]
theorem Hs{a:Array Keyed}{lo:Nat}{l:List Keyed}(h:lo+l.length<=a.size):(putL a lo l).size=a.size:=(xB l 0 lo a ∅).1
theorem yA{a:Array Keyed}{lo:Nat}{l:List Keyed}(h:lo+l.length<=a.size)(k:Nat):(putL a lo l)[k]?=if lo<=k/\k<lo+l.length then l[k-lo]? else a[k]? :=(xB l 0 lo a ∅).2 k
theorem Lq{a:Array Keyed}{lo n:Nat}{l:List Keyed}(h:lo+n<=a.size)(hp:l.Perm ((a.toList.drop lo).take n)):(putL a lo l).toList.Perm a.toList:=by
 have hl:l.length=n:=by rw[hp.length_eq,mU,j8];simp;lia
 have e:(putL a lo l).toList=a.toList.take lo++(l++a.toList.drop (lo+n)):=by
  apply tq;intro k;rw[wG,yA ∅,List.getElem?_append,List.getElem?_append,mU,E7,EY,hl];simp only[g_,wG];rw[show min lo a.size=lo by lia];by_cases h1:k<lo
  ·rw[if_neg ∅,if_pos h1,if_pos h1]
  ·rw[if_neg h1];by_cases h2:k<lo+n
   ·rw[if_pos ∅,if_pos ∅]
   ·rw[if_neg ∅,if_neg ∅];congr 1;lia
 rw[e];have e2:a.toList=a.toList.take lo++((a.toList.drop lo).take n++a.toList.drop (lo+n)):=by rw[←List.drop_drop,nj,nj]
 conv=>rhs;rw[e2]
 exact EU _ (List.Perm.append_right _ hp)
section
variable{κ:KeyKind}{kz:gH}
def Run(κ:KeyKind)(a:Array Keyed)(lo n:Nat):Prop:=∀i j x y,lo<=i->i<=j->j<lo+n->a[i]?=aa x->a[j]?=aa y->bw κ x y
theorem bw.refl(x:Keyed):bw κ x x:=lg _
structure Wr(a a':Array Keyed)(lo n:Nat):Prop where
 perm:a'.toList.Perm a.toList
 size:a'.size=a.size
 out:∀k,k<lo\/lo+n<=k->a'[k]?=a[k]?
theorem Run.keep{a a':Array Keyed}{lo n lo' n':Nat}(h:Run κ a lo n)(w:Wr a a' lo' n')(d:lo+n<=lo'\/lo'+n'<=lo):Run κ a' lo n:=by intro i j x y h1 h2 h3 hx hy;rw[w.out i ∅]at hx;rw[w.out j ∅]at hy;exact h i j x y h1 h2 h3 hx hy
end
section
variable{prog:aM}{w:aF}{A:aO}{E:ai->am->Prop}{s:am}{κ:KeyKind}{kz:gH}
theorem Mc{σ:Type}{M:Model}{Q:PUnit->σ->Prop}{st az:σ}(h:Q ⟨⟩ az):wpS M A E s (set az:StateT σ Sem PUnit) Q st:=by unfold wpS;rw[StateT.run_set];exact aD ⟨rfl,h⟩
theorem NM(a:Array Keyed){p q t:Nat}(h1:p<=q)(h2:q<=t):(a.extract p q).toList++(a.extract q t).toList=(a.extract p t).toList:=by rw[jY,jY,jY,show t-p=(q-p)+(t-q) by lia,List.take_add,List.drop_drop,show p+(q-p)=q by lia]
theorem MZ{arr:Array Keyed}{sa na nb k nb':Nat}(hsz:sa+na+nb<=arr.size)(hk:k<na)(h0:0<nb')(hnb:nb'<=nb)(r1:Run κ arr sa na)(r2:Run κ arr (sa+na) nb)(a1:∀i (hi:i<arr.size),sa<=i->i<sa+k->bw κ arr[i] (arr[sa+na]'∅)) (b2:∀i (hi:i<arr.size),sa+na+nb'<=i->i<sa+na+nb->bw κ (arr[sa+na-1]'∅) arr[i]){r:Array Keyed} (hD:fL κ ((arr.extract (sa+k) (sa+na)).toList++(arr.extract (sa+na) (sa+na+nb')).toList) r):Wr arr (putL arr (sa+k) r.toList) sa (na+nb)/\Run κ (putL arr (sa+k) r.toList) sa (na+nb):=by
 rw[NM _ ∅ ∅]at hD;have bz:r.toList.length=na-k+nb':=by rw[hD.1.length_eq,jY,mU,j8,g_];lia
 have hb:sa+k+r.toList.length<=arr.size:=∅
 have hm:∀m∈r.toList,∃t,∃ht:t<arr.size,sa+k<=t/\t<sa+na+nb'/\arr[t]=m:=λm hm=>yt ∅ (hD.1.mem_iff.mp hm);have g1:∀{i j:Nat} (bt:i<=j) (hj:j<sa+na),sa<=i->bw κ (arr[i]'∅) (arr[j]'∅):=λ{i j} bt hj hi=>r1 i j _ _ hi bt hj (getElem?_pos _ _ _) (getElem?_pos _ _ _);have g2:∀{i j:Nat} (bt:i<=j) (hj:j<sa+na+nb),sa+na<=i->bw κ (arr[i]'∅) (arr[j]'∅):=λ{i j} bt hj hi=>r2 i j _ _ hi bt hj (getElem?_pos _ _ _) (getElem?_pos _ _ _);have pS:∀i (hi:i<arr.size) j (hj:j<arr.size),sa<=i->i<sa+k->sa+na<=j->j<sa+na+nb->bw κ arr[i] arr[j]:=λi hi j hj c1 c2 c3 c4=>(a1 i hi c1 c2).trans (g2 c3 c4 (a9 _));refine⟨⟨?_,Hs hb,λq hq=>?_⟩,?_⟩
 ·refine Lq (n:=na-k+nb') ∅ ?_;have:=hD.1;rwa[jY,show sa+na+nb'-(sa+k)=na-k+nb' by lia]at this
 ·rw[yA hb,if_neg ∅]
 ·intro i j x y h1 h2 h3 hx hy;rw[yA hb]at hx hy;by_cases ci:sa+k<=i/\i<sa+k+r.toList.length
  ·rw[if_pos ci]at hx;obtain⟨t,ht,t1,t2,rfl⟩:=hm x (mW hx);by_cases cj:sa+k<=j/\j<sa+k+r.toList.length
   ·rw[if_pos cj]at hy;by_cases eij:i=j
    ·subst eij;rw[hx]at hy;cases hy;exact bw.refl _
    ·obtain⟨u1,u2⟩:=df.mp hx;obtain⟨v1,v2⟩:=df.mp hy;have:=qS.mp hD.2 (i-(sa+k)) (j-(sa+k)) u1 v1 ∅;rw[u2,v2]at this;exact this
   ·rw[if_neg cj]at hy;obtain⟨hj,rfl⟩:=lc.mp hy;by_cases ct:t<sa+na
    ·exact(g1 (show t<=sa+na-1 by lia) ∅ ∅).trans (b2 j hj ∅ ∅)
    ·exact g2 ∅ ∅ ∅
  ·rw[if_neg ci]at hx;obtain⟨hi,rfl⟩:=lc.mp hx;by_cases cj:sa+k<=j/\j<sa+k+r.toList.length
   ·rw[if_pos cj]at hy;obtain⟨t,ht,t1,t2,rfl⟩:=hm y (mW hy);by_cases ct:t<sa+na
    ·exact g1 ∅ ct ∅
    ·exact pS i hi t ht ∅ ∅ ∅ ∅
   ·rw[if_neg cj]at hy;obtain⟨hj,rfl⟩:=lc.mp hy;by_cases c2:i<sa+k
    ·by_cases c3:j<sa+k
     ·exact g1 h2 ∅ h1
     ·exact pS i hi j hj ∅ c2 ∅ ∅
    ·exact g2 h2 ∅ ∅
theorem A7{arr:Array Keyed}{sa na nb:Nat}(hsz:sa+na+nb<=arr.size)(hna:0<na)(hnb:0<nb)(r1:Run κ arr sa na)(r2:Run κ arr (sa+na) nb)(hj:bw κ (arr[sa+na-1]'∅) (arr[sa+na]'∅)):Run κ arr sa (na+nb):=by
 intro i j x y h1 h2 h3 hx hy;by_cases c1:j<sa+na
 ·exact r1 i j x y h1 h2 c1 hx hy
 ·by_cases c2:i<sa+na
  ·exact((r1 i (sa+na-1) x _ h1 ∅ ∅ hx (getElem?_pos _ _ _)).trans hj).trans (r2 (sa+na) j _ y ∅ ∅ ∅ (getElem?_pos _ _ _) hy)
  ·exact r2 i j x y ∅ h2 ∅ hx hy
theorem Wr.same{a:Array Keyed}{lo n:Nat}:Wr a a lo n:=⟨qI _,rfl,λ_ _=>rfl⟩
theorem Lm(hO:g7 κ kz prog w A s){st:br}(hk:SB kz st)(hA:∀i (hi:i<(arrOf st).size),fX κ (arrOf st)[i]){i sa na pw nb pw':Nat}(p1:(bf st)[i]?=aa (sa,na,pw)) (p2:(bf st)[i+1]?=aa (sa+na,nb,pw')) (hna:0<na) (hnb:0<nb) (hsz:sa+na+nb<=(arrOf st).size)(r1:Run κ (arrOf st) sa na) (r2:Run κ (arrOf st) (sa+na) nb) {Q:Bool->br->Prop}(h:∀az,SB kz az->bf az=((bf st).setIfInBounds i (sa,na+nb,pw)).eraseIdxIfInBounds (i+1)->Wr (arrOf st) (arrOf az) sa (na+nb)->Run κ (arrOf az) sa (na+nb)->Q ah az):wpS (aw prog w) A E s (mergeAt' i) Q st:=by
 obtain⟨kd,arr,pd,mg,fl⟩:=st;have hkd:kz=kd:=hk.kind.symm;have lu:fl=ae:=hk.failed;subst lu;subst hkd;replace hA:∀i (hi:i<arr.size),fX κ arr[i]:=hA;replace hsz:sa+na+nb<=arr.size:=hsz;replace r1:Run κ arr sa na:=r1;replace r2:Run κ arr (sa+na) nb:=r2;replace p1:pd[i]?=aa (sa,na,pw):=p1;replace p2:pd[i+1]?=aa (sa+na,nb,pw'):=p2;replace h:∀az,SB kz az->bf az=(pd.setIfInBounds i (sa,na+nb,pw)).eraseIdxIfInBounds (i+1)->Wr arr (arrOf az) sa (na+nb)->Run κ (arrOf az) sa (na+nb)->Q ah az:=h;have g1:∀{i j:Nat} (bt:i<=j) (hj:j<sa+na),sa<=i->bw κ (arr[i]'∅) (arr[j]'∅):=λ{i j} bt hj hi=>r1 i j _ _ hi bt hj (getElem?_pos _ _ _) (getElem?_pos _ _ _);have g2:∀{i j:Nat} (bt:i<=j) (hj:j<sa+na+nb),sa+na<=i->bw κ (arr[i]'∅) (arr[j]'∅):=λ{i j} bt hj hi=>r2 i j _ _ hi bt hj (getElem?_pos _ _ _) (getElem?_pos _ _ _);unfold mergeAt';refine aE (kb ?_);dsimp only;rw[p1,p2];dsimp only;refine aE (Mc ?_);generalize (pd.setIfInBounds i (sa,na+nb,pw)).eraseIdxIfInBounds (i+1)=pend at *;refine aE (eG ∅ ?_);refine aE (yQ hO ⟨rfl,rfl⟩ (base:=sa) (n:=na) (hint:=0) (hA _ _) ∅ hA (λi j bt hj hi=>g1 bt hj hi) hna λk m1 m2 m3=>?_);dsimp only;refine cm (λe1=>?_) λe1=>?_
 ·have rk:na<=k:=by have:na-k=0:=(by simpa using e1);lia
  refine aK (h _ ⟨rfl,rfl⟩ rfl Wr.same (A7 hsz hna hnb r1 r2 (m2 _ _ ∅ ∅)))
 have rk:k<na:=by have:na-k≠0:=(by simpa using e1);lia
 refine aE (eG ∅ ?_);refine aE (yo hO ⟨rfl,rfl⟩ (base:=sa+na) (n:=nb) (hint:=nb-1) (hA _ _) ∅ hA (λi j bt hj hi=>g2 bt hj hi) ∅ λnb' n1 n2 n3=>?_);dsimp only;have hidx:sa+k+(na-k)-1=sa+na-1:=∅
 simp only[hidx]at n2 n3;refine cm (λe2=>?_) λe2=>?_
 ·have kh:nb'=0:=by simpa using e2
  refine aK (h _ ⟨rfl,rfl⟩ rfl Wr.same (A7 hsz hna hnb r1 r2 (n3 _ _ ∅ ∅)))
 have kh:nb'≠0:=by simpa using e2
 have xs:(arr.extract (sa+k) (sa+na)).size=na-k:=by simp;lia
 have ys:(arr.extract (sa+na) (sa+na+nb')).size=nb':=by simp;lia
 refine cm (λ_=>?_) λ_=>?_
 all_goals
  first
   |refine aE (Lp hO ⟨rfl,rfl⟩ ∅ ∅ ?_ ?_ ?_ ?_ ?_ ?_ ?_)
   |refine aE (Iy hO ⟨rfl,rfl⟩ ∅ ∅ ?_ ?_ ?_ ?_ ?_ ?_ ?_)
  ·intro j hj;rw[me];exact hA _ _
  ·intro j hj;rw[me];exact hA _ _
  ·intro i j hj bt;rw[me,me];exact g1 ∅ ∅ ∅
  ·intro i j hj bt;rw[me,me];exact g2 ∅ ∅ ∅
  ·rw[me,me];exact kc (m3 _ _ ∅ ∅)
  ·intro j hj;rw[me,me];have:=n2 (sa+na+j) ∅ ∅ ∅;have e:sa+k+((arr.extract (sa+k) (sa+na)).size-1)=sa+na-1:=∅
   simp only[e];exact kc this
  ·rintro r ⟨kd',arr',pd',mg',fl'⟩ ⟨c1,c2,c3,c4⟩ hD;change kd'=kz at c1;change arr'=arr at c2;change pd'=pend at c3;change fl'=ae at c4;subst c1 c2 c3 c4;refine aE (ma ?_);refine aE (kb ?_);obtain⟨w1,w2⟩:=MZ hsz rk ∅ n1 r1 r2 (λi hi c1 c2=>m2 i hi c1 c2) (λi hi c1 c2=>n3 i hi c1 c2) hD;exact aK (h _ ⟨rfl,rfl⟩ rfl w1 w2)
end
section
variable{κ:KeyKind}{kz:gH}
theorem xO{a:Array Keyed}{i:Nat}{x:Keyed}(h:a[i]?=aa x):KK κ a i=kO κ x:=by unfold KK kO;rw[h]
theorem qd{a:Array Keyed}{i:Nat}(h:i<a.size):KK κ a i=kO κ a[i]:=xO (getElem?_pos _ _ _)
def gm(κ:KeyKind)(a:Array Keyed)(lo n:Nat):Prop:=∀i j,lo<=i->i<=j->j<lo+n->κ.kle (KK κ a i) (KK κ a j)
def my(κ:KeyKind)(a:Array Keyed)(lo n:Nat):Prop:=∀i j,lo<=i->i<=j->j<lo+n->κ.kle (KK κ a j) (KK κ a i)
theorem gm.run{a:Array Keyed}{lo n:Nat}(h:gm κ a lo n):Run κ a lo n:=by intro i j x y h1 h2 h3 hx hy;have:=h i j h1 h2 h3;rw[xO hx,xO hy]at this;exact this
theorem Wr.trans{a b c:Array Keyed}{lo n:Nat}(h1:Wr a b lo n)(h2:Wr b c lo n):Wr a c lo n :=⟨h2.perm.trans h1.perm,h2.size.trans h1.size,λk hk=>(h2.out k hk).trans (h1.out k hk)⟩
theorem Wr.mono{a b:Array Keyed}{lo n lo' n':Nat}(h:Wr a b lo n)(h1:lo'<=lo)(h2:lo+n<=lo'+n'):Wr a b lo' n' :=⟨h.perm,h.size,λk hk=>h.out k ∅⟩
theorem FL{a:Array Keyed}{i j:Nat}(hj:j<=a.size)(bt:i<=j):Wr a (mirror a i j ((j-i) / 2)) i (j-i) :=⟨Ao.mp (mirror_perm _ _ _ _),mirror_size _ _ _ _,λk hk=>by rw[getElem?_mirror_all hj,if_neg ∅]⟩
theorem JM{a:Array Keyed}{src d:Nat}(hs:src<a.size)(hd:d<=src):Wr a (bubble a src d) (src-d) (d+1) :=⟨Ao.mp (bubble_perm _ _ _),bubble_size _ _ _,λk hk=>by rw[getElem?_bubble hs d hd,if_neg ∅,if_neg ∅]⟩
def AllK(κ:KeyKind)(a:Array Keyed):Prop:=∀i (hi:i<a.size),fX κ a[i]
theorem AllK.of{a b:Array Keyed}(h:AllK κ a)(p:b.toList.Perm a.toList):AllK κ b:=by intro i hi;have hm:b[i]∈a.toList:=p.mem_iff.mp (by simp);obtain⟨j,hj,e⟩:=l_ hm;rw[←e];simpa using h j (by simpa using hj)
end
section
variable{prog:aM}{w:aF}{A:aO}{E:ai->am->Prop}{s:am}{κ:KeyKind}{kz:gH}
theorem nQ(hO:g7 κ kz prog w A s){st:br}(hk:SB kz st)(hA:AllK κ (arrOf st)){i j:Nat}{Q:Option Bool->br->Prop}(hi:i<(arrOf st).size)(hj:j<(arrOf st).size)(h:Q (aa (κ.blt (KK κ (arrOf st) i) (KK κ (arrOf st) j))) st):wpS (aw prog w) A E s (ltAt' i j) Q st:=by rw[qd hi,qd hj]at h;rw[ltAt'_eq];refine aE (kb ?_);exact aE (eG hi (aE (eG hj (sQ hO hk (hA i hi) (hA j hj) h))))
theorem sj{iU st:br}{lo n i j:Nat}{Q:Unit->br->Prop}(hk:SB kz st)(hp:bf st=bf iU)(hw:Wr (arrOf iU) (arrOf st) lo n)(bt:i<=j)(hj:j<=(arrOf iU).size)(c1:lo<=i)(c2:j<=lo+n)(h:∀aX,SB kz aX->bf aX=bf iU->Wr (arrOf iU) (arrOf aX) lo n->(∀k,KK κ (arrOf aX) k=if i<=k/\k<j then KK κ (arrOf st) (i+j-1-k)else KK κ (arrOf st) k)->Q () aX):wpS (aw prog w) A E s (reverseSlice' i j) Q st:=by
 have gk:j<=(arrOf st).size:=by rw[hw.size];exact hj
 exact wpS_reverse (h _ ⟨hk.kind,hk.failed⟩ hp (hw.trans ((FL gk bt).mono c1 ∅)) λk=>KK_mirror gk k)
theorem NF{α:Type}{c:Prop}[Decidable c]{p1 p2:StateT br Sem α}{Q:α->br->Prop}{st:br}{J:br->Prop}(h2:¬c->J st)(key:∀aX,J aX->wpS (aw prog w) A E s p2 Q aX)(h1:c->(∀aX,J aX->wpS (aw prog w) A E s p2 Q aX)->wpS (aw prog w) A E s p1 Q st):wpS (aw prog w) A E s (if c then p1 else p2) Q st :=cm (λe=>h1 e key) λe=>key st (h2 e)
theorem yr{a:Array Keyed}{lo x:Nat}(hr:gm κ a lo x)(h:1<=x)(e:κ.kle (KK κ a (lo+x-1)) (KK κ a (lo+x))):gm κ a lo (x+1):=λi j a1 a2 a3=>by
 by_cases hj:j<lo+x
 ·exact hr i j a1 a2 hj
 ·have gk:j=lo+x:=∅
  subst gk;by_cases hi:i=lo+x
  ·subst hi;exact lg _
  ·exact qR (hr i (lo+x-1) a1 ∅ ∅) e
theorem AY{a:Array Keyed}{lo x:Nat}(hr:my κ a lo x)(h:1<=x)(e:κ.kle (KK κ a (lo+x)) (KK κ a (lo+x-1))):my κ a lo (x+1):=λi j a1 a2 a3=>by
 by_cases hj:j<lo+x
 ·exact hr i j a1 a2 hj
 ·have gk:j=lo+x:=∅
  subst gk;by_cases hi:i=lo+x
  ·subst hi;exact lg _
  ·exact qR e (hr i (lo+x-1) a1 ∅ ∅)
theorem Jg{a:Array Keyed}{lo x neq:Nat}(he:∀i,lo+x-(neq+1)<=i->i<lo+x->KK κ a i=KK κ a (lo+x-1))(ex:KK κ a (lo+x)=KK κ a (lo+x-1)):∀i,lo+(x+1)-(neq+1+1)<=i->i<lo+(x+1)->KK κ a i=KK κ a (lo+(x+1)-1):=λi a1 a2=>by
 rw[show lo+(x+1)-1=lo+x by lia];by_cases hi:i=lo+x
 ·rw[hi]
 ·rw[he i ∅ ∅,ex]
theorem Bq{a b:Array Keyed}{i j n:Nat}(mv:∀k,KK κ b k=if i<=k/\k<j then KK κ a (i+j-1-k)else KK κ a k)(he:∀k,i<=k->k<j->KK κ a k=KK κ a n):∀k,KK κ b k=KK κ a k:=λk=>by
 rw[mv];split
 ·rw[he _ ∅ ∅,he k ∅ ∅]
 ·rfl
theorem GT(hO:g7 κ kz prog w A s){st:br}(hk:SB kz st)(hA:AllK κ (arrOf st)){lo cG:Nat}(h1:1<=cG)(hsz:lo+cG<=(arrOf st).size){Q:Option Nat->br->Prop}(h:∀n az,SB kz az->bf az=bf st->Wr (arrOf st) (arrOf az) lo cG->1<=n->n<=cG->gm κ (arrOf az) lo n->Q (aa n) az):wpS (aw prog w) A E s (countRun' lo cG) Q st:=by
 have one:gm κ (arrOf st) lo 1:=λi j a1 a2 a3=>by
  have:i=j:=∅
  subst this;exact lg _
 have go:∀{bY:br},Wr (arrOf st) (arrOf bY) lo cG->(arrOf bY).size=(arrOf st).size:=λw=>w.size;unfold countRun';refine aE (fP (fQ (I:=λx c dP=>dP=st/\c=(ae,x)/\gm κ (arrOf st) lo x) (Q:=λc dP=>dP=st/\∃n,c=(ae,n)/\1<=n/\n<=cG/\gm κ (arrOf st) lo n/\(n=cG\/κ.klt (KK κ (arrOf st) (lo+n)) (KK κ (arrOf st) (lo+n-1)))) ?_ ?_ ?_) ?_)
 ·rintro x c dP nD mr ⟨rfl,rfl,hr⟩;dsimp only;refine aE (nQ hO hk hA ∅ ∅ ?_);cases e:κ.blt (KK κ (arrOf dP) (lo+x)) (KK κ (arrOf dP) (lo+x-1))with
  |true=>exact aK ⟨rfl,x,rfl,∅,∅,hr,.inr e⟩
  |false=>exact aK ⟨rfl,rfl,yr hr ∅ e⟩
 ·rintro c dP ⟨rfl,rfl,hr⟩;rw[show max 1 cG=cG by lia]at hr ⊢;exact⟨rfl,cG,rfl,∅,∅,hr,.inl rfl⟩
 ·exact⟨rfl,rfl,one⟩
 rintro c az ⟨rfl,n,rfl,n1,n2,hr,hn⟩;dsimp only;refine cm (λe1=>aK (h n az hk rfl Wr.same n1 n2 hr)) λe1=>?_;have rk:n≠cG:=by simpa using e1
 replace hn:κ.klt (KK κ (arrOf az) (lo+n)) (KK κ (arrOf az) (lo+n-1)):=hn.resolve_left rk;refine NF (J:=λaX=>SB kz aX/\bf aX=bf az/\Wr (arrOf az) (arrOf aX) lo cG/\my κ (arrOf aX) lo (n+1)) (λen=>⟨hk,rfl,Wr.same,λi j a1 a2 a3=>?_⟩) (λaX ⟨fF,d8,rm,hD⟩=>?_) λen key=>?_
 ·have en':n=1:=∅
  by_cases hi:i=j
  ·subst hi;exact lg _
  ·have e1:i=lo+n-1:=∅
   have e2:j=lo+n:=∅
   rw[e1,e2];exact kc hn
 ·refine aE (qQ (lZ ⟨rfl,?_⟩));refine aE (fP (fQ (I:=λx c bq=>∃neq,c=(ae,x,neq)/\SB kz bq/\bf bq=bf az/\Wr (arrOf az) (arrOf bq) lo cG/\my κ (arrOf bq) lo x/\neq+1<=x/\(∀i,lo+x-(neq+1)<=i->i<lo+x->KK κ (arrOf bq) i=KK κ (arrOf bq) (lo+x-1))) (Q:=λc bq=>∃m neq,c=(ae,m,neq)/\SB kz bq/\bf bq=bf az/\Wr (arrOf az) (arrOf bq) lo cG/\1<=m/\m<=cG/\my κ (arrOf bq) lo m/\neq+1<=m/\(∀i,lo+m-(neq+1)<=i->i<lo+m->KK κ (arrOf bq) i=KK κ (arrOf bq) (lo+m-1))) ?_ ?_ ?_) ?_)
  ·rintro x c bq nD mr ⟨neq,rfl,fo,fi,iV,hd,hq,he⟩;have sz3:=iV.size;dsimp only;refine aE (nQ hO fo (hA.of iV.perm) ∅ ∅ ?_);cases e3:κ.blt (KK κ (arrOf bq) (lo+x)) (KK κ (arrOf bq) (lo+x-1))with
   |true=>
    have q_:my κ (arrOf bq) lo (x+1):=AY hd ∅ (kc e3);dsimp only;rw[if_pos rfl];refine cm (λAN=>?_) λAN=>?_
    ·refine aE (sj (κ:=κ) (lo:=lo) (n:=cG) fo fi iV ∅ ∅ ∅ ∅ λbI jk gQ uc AO=>?_);have tQ:=Bq AO he;exact aK ⟨0,rfl,jk,gQ,uc,λi j a1 a2 a3=>by rw[tQ,tQ];exact q_ i j a1 a2 a3,∅,λi a1 a2=>by congr 1;lia⟩
    ·exact aK ⟨0,rfl,fo,fi,iV,q_,∅,λi a1 a2=>by congr 1;lia⟩
   |false=>
    dsimp only;rw[if_neg (by simp)];refine aE (nQ hO fo (hA.of iV.perm) ∅ ∅ ?_);cases e4:κ.blt (KK κ (arrOf bq) (lo+x-1)) (KK κ (arrOf bq) (lo+x))with
    |true=>exact aK ⟨x,neq,rfl,fo,fi,iV,∅,∅,hd,hq,he⟩
    |false=>have ex:KK κ (arrOf bq) (lo+x)=KK κ (arrOf bq) (lo+x-1):=KeyOrd.kle_antisymm e4 e3;exact aK ⟨neq+1,rfl,fo,fi,iV,AY hd ∅ (by rw[ex];exact lg _),∅,Jg he ex⟩
  ·rintro c bq ⟨neq,rfl,fo,fi,iV,hd,hq,he⟩;rw[show max (n+1) cG=cG by lia]at hd hq he ⊢;exact⟨cG,neq,rfl,fo,fi,iV,∅,∅,hd,hq,he⟩
  ·exact⟨0,rfl,fF,d8,rm,hD,∅,λi a1 a2=>by congr 1;lia⟩
  rintro c bq ⟨m,neq,rfl,fo,fi,iV,m1,m2,hd,hq,he⟩;dsimp only;refine cm (λAN=>?_) λAN=>?_
  ·refine aE (sj (κ:=κ) (lo:=lo) (n:=cG) fo fi iV ∅ ∅ ∅ ∅ λbI jk gQ uc AO=>?_);have tQ:=Bq AO he;have hd4:my κ (arrOf bI) lo m:=λi j a1 a2 a3=>by rw[tQ,tQ];exact hd i j a1 a2 a3
   refine aE (sj (κ:=κ) (lo:=lo) (n:=cG) jk gQ uc ∅ ∅ ∅ ∅ λbY mw hp5 oZ tR=>?_);have hr5:gm κ (arrOf bY) lo m:=λi j a1 a2 a3=>by rw[tR,tR,if_pos ⟨a1,∅⟩,if_pos ⟨∅,a3⟩];exact hd4 _ _ ∅ ∅ ∅
   have sz5:=oZ.size;refine aE (fP (fQ (I:=λx c dP=>dP=bY/\c=(ae,x)/\gm κ (arrOf bY) lo x) (Q:=λc dP=>dP=bY/\∃n,c=(ae,n)/\1<=n/\n<=cG/\gm κ (arrOf bY) lo n/\(n=cG\/κ.klt (KK κ (arrOf bY) (lo+n)) (KK κ (arrOf bY) (lo+n-1)))) ?_ ?_ ?_) ?_)
   ·rintro x c dP nD mr ⟨rfl,rfl,hr⟩;dsimp only;refine aE (nQ hO mw (hA.of oZ.perm) ∅ ∅ ?_);cases e:κ.blt (KK κ (arrOf dP) (lo+x)) (KK κ (arrOf dP) (lo+x-1))with
    |true=>exact aK ⟨rfl,x,rfl,∅,∅,hr,.inr e⟩
    |false=>exact aK ⟨rfl,rfl,yr hr ∅ e⟩
   ·rintro c dP ⟨rfl,rfl,hr⟩;rw[show max m cG=cG by lia]at hr ⊢;exact⟨rfl,cG,rfl,∅,∅,hr,.inl rfl⟩
   ·exact⟨rfl,rfl,hr5⟩
   rintro c dP ⟨rfl,q,rfl,q1,q2,hrq,_⟩;exact aK (h q dP mw hp5 oZ q1 q2 hrq)
  ·have jk:=fo;have gQ:=fi;have uc:=iV;have hd4:=hd;refine aE (sj (κ:=κ) (lo:=lo) (n:=cG) jk gQ uc ∅ ∅ ∅ ∅ λbY mw hp5 oZ tR=>?_);have hr5:gm κ (arrOf bY) lo m:=λi j a1 a2 a3=>by rw[tR,tR,if_pos ⟨a1,∅⟩,if_pos ⟨∅,a3⟩];exact hd4 _ _ ∅ ∅ ∅
   have sz5:=oZ.size;refine aE (fP (fQ (I:=λx c dP=>dP=bY/\c=(ae,x)/\gm κ (arrOf bY) lo x) (Q:=λc dP=>dP=bY/\∃n,c=(ae,n)/\1<=n/\n<=cG/\gm κ (arrOf bY) lo n/\(n=cG\/κ.klt (KK κ (arrOf bY) (lo+n)) (KK κ (arrOf bY) (lo+n-1)))) ?_ ?_ ?_) ?_)
   ·rintro x c dP nD mr ⟨rfl,rfl,hr⟩;dsimp only;refine aE (nQ hO mw (hA.of oZ.perm) ∅ ∅ ?_);cases e:κ.blt (KK κ (arrOf dP) (lo+x)) (KK κ (arrOf dP) (lo+x-1))with
    |true=>exact aK ⟨rfl,x,rfl,∅,∅,hr,.inr e⟩
    |false=>exact aK ⟨rfl,rfl,yr hr ∅ e⟩
   ·rintro c dP ⟨rfl,rfl,hr⟩;rw[show max m cG=cG by lia]at hr ⊢;exact⟨rfl,cG,rfl,∅,∅,hr,.inl rfl⟩
   ·exact⟨rfl,rfl,hr5⟩
   rintro c dP ⟨rfl,q,rfl,q1,q2,hrq,_⟩;exact aK (h q dP mw hp5 oZ q1 q2 hrq)
 ·refine aE (nQ hO hk hA ∅ ∅ ?_);cases e2:κ.blt (KK κ (arrOf az) lo) (KK κ (arrOf az) (lo+n-1))with
  |true=>exact aK (h n az hk rfl Wr.same n1 n2 hr)
  |false=>
   dsimp only;rw[if_neg (by simp)];have fh:∀i,lo<=i->i<lo+n->KK κ (arrOf az) i=KK κ (arrOf az) lo:=λi a1 a2=>KeyOrd.kle_antisymm (qR (hr i (lo+n-1) a1 ∅ ∅) e2) (hr lo i (a9 _) a1 a2);refine aE (sj (κ:=κ) (lo:=lo) (n:=cG) hk rfl Wr.same ∅ ∅ ∅ ∅ λaX fF d8 rm mv=>?_);have hD:my κ (arrOf aX) lo (n+1):=by
    have hv:∀i,lo<=i->i<lo+n->KK κ (arrOf aX) i=KK κ (arrOf az) lo:=λi a1 a2=>by rw[mv,if_pos ⟨a1,a2⟩];exact fh _ ∅ ∅
    have hl:κ.klt (KK κ (arrOf aX) (lo+n)) (KK κ (arrOf az) lo):=by rw[mv,if_neg ∅,←fh (lo+n-1) ∅ ∅];exact hn
    intro i j a1 a2 a3;by_cases hj:j<lo+n
    ·rw[hv i a1 ∅,hv j ∅ hj];exact lg _
    ·have gk:j=lo+n:=∅
     subst gk;by_cases hi:i=lo+n
     ·subst hi;exact lg _
     ·rw[hv i a1 ∅];exact kc hl
   exact key aX ⟨fF,d8,rm,hD⟩
theorem KR{iU st:br}{lo n src dst:Nat}{Q:Unit->br->Prop}(hk:SB kz st)(hp:bf st=bf iU)(hw:Wr (arrOf iU) (arrOf st) lo n)(bt:dst<=src)(hj:src<(arrOf iU).size)(c1:lo<=dst)(c2:src<lo+n)(h:∀aX,SB kz aX->bf aX=bf iU->Wr (arrOf iU) (arrOf aX) lo n->(∀k,KK κ (arrOf aX) k=if k=dst then KK κ (arrOf st) src else if dst<k/\k<=src then KK κ (arrOf st) (k-1)else KK κ (arrOf st) k)->Q () aX):wpS (aw prog w) A E s (moveDown' src dst) Q st:=by
 have gk:src<(arrOf st).size:=by rw[hw.size];exact hj
 rw[moveDown'_eq];refine ma (h _ ⟨hk.kind,hk.failed⟩ hp (hw.trans ((JM gk (show src-dst<=src by lia)).mono ∅ ∅)) λk=>?_);have:=KK_bubble (κ:=κ) gk (show src-dst<=src by lia) k;rw[show src-(src-dst)=dst by lia]at this;exact this
theorem FZ(hO:g7 κ kz prog w A s){st:br}(hk:SB kz st)(hA:AllK κ (arrOf st)){lo n ok:Nat}(hok:ok<=n)(hsz:lo+n<=(arrOf st).size)(hr:gm κ (arrOf st) lo ok){Q:Bool->br->Prop}(h:∀az,SB kz az->bf az=bf st->Wr (arrOf st) (arrOf az) lo n->gm κ (arrOf az) lo n->Q ah az):wpS (aw prog w) A E s (binarySort' lo n ok) Q st:=by
 unfold binarySort';refine aE (fP (fQ (I:=λk c b8=>c=(ae,())/\SB kz b8/\bf b8=bf st/\Wr (arrOf st) (arrOf b8) lo n/\gm κ (arrOf b8) lo (min k n)) (Q:=λc b8=>c=(ae,())/\SB kz b8/\bf b8=bf st/\Wr (arrOf st) (arrOf b8) lo n/\gm κ (arrOf b8) lo n) ?_ ?_ ?_) ?_)
 ·rintro k c b8 jJ fF ⟨rfl,rn,fU,ud,fq⟩;have sz:=ud.size;rw[show min k n=k by lia]at fq;refine aE (fP (fQ (I:=λx c aX=>aX=b8/\∃l r,c=(ae,l,r)/\l<=r/\r<=k/\r-l<=k-x /\ (∀i,i<l->κ.kle (KK κ (arrOf b8) (lo+i)) (KK κ (arrOf b8) (lo+k)))/\(∀i,r<=i->i<k->κ.klt (KK κ (arrOf b8) (lo+k)) (KK κ (arrOf b8) (lo+i)))) (Q:=λc aX=>aX=b8/\∃l r,c=(ae,l,r)/\l<=k /\ (∀i,i<l->κ.kle (KK κ (arrOf b8) (lo+i)) (KK κ (arrOf b8) (lo+k)))/\(∀i,l<=i->i<k->κ.klt (KK κ (arrOf b8) (lo+k)) (KK κ (arrOf b8) (lo+i)))) ?_ ?_ ?_) ?_)
  ·rintro x c aX _ hx ⟨rfl,l,r,rfl,a1,a2,a3,a4,a5⟩;dsimp only;refine cm (λiF=>?_) λiF=>?_
   ·have:l=r:=∅
    subst this;exact aK ⟨rfl,l,l,rfl,a2,a4,a5⟩
   ·refine aE (nQ hO rn (hA.of ud.perm) ∅ ∅ ?_);cases e:κ.blt (KK κ (arrOf aX) (lo+k)) (KK κ (arrOf aX) (lo+(l+r) / 2))with
    |true=>exact aK ⟨rfl,l,(l+r) / 2,rfl,∅,∅,∅,a4,λi h1 h2=>KeyOrd.klt_of_klt_of_kle e (fq _ _ ∅ ∅ ∅)⟩
    |false=>exact aK ⟨rfl,(l+r) / 2+1,r,rfl,∅,∅,∅,λi h1=>qR (fq (lo+i) (lo+(l+r) / 2) ∅ ∅ ∅) e,a5⟩
  ·rintro c aX ⟨rfl,l,r,rfl,a1,a2,a3,a4,a5⟩;have:l=r:=∅
   subst this;exact⟨rfl,l,l,rfl,a2,a4,a5⟩
  ·exact⟨rfl,0,k,rfl,∅,∅,∅,λi hi=>∅,λi h1 h2=>∅⟩
  ·rintro c aX ⟨rfl,l,r,rfl,a2,a4,a5⟩;dsimp only;refine aE (KR (κ:=κ) (lo:=lo) (n:=n) rn fU ud ∅ ∅ ∅ ∅ λbq hb3 fi iV mv=>aK ⟨rfl,hb3,fi,iV,?_⟩);rw[show min (k+1) n=k+1 by lia];intro i j c1 c2 c3;rw[mv,mv]
   repeat' split
   all_goals first
    | (exfalso;lia)
    |exact lg _
    | (have:=a4 (i-lo) ∅;rw[show lo+(i-lo)=i by lia]at this;exact this)
    | (have:=a5 (j-1-lo) ∅ ∅;rw[show lo+(j-1-lo)=j-1 by lia]at this;exact kc this)
    |exact fq _ _ ∅ ∅ ∅
 ·rintro c b8 ⟨rfl,rn,fU,ud,fq⟩;rw[show min (max (max ok 1) n) n=n by lia]at fq;exact⟨rfl,rn,fU,ud,fq⟩
 ·refine⟨rfl,hk,rfl,Wr.same,λi j c1 c2 c3=>?_⟩;by_cases h1:ok=0
  ·have:i=j:=∅
   subst this;exact lg _
  ·exact hr i j c1 c2 ∅
 ·rintro c b8 ⟨rfl,rn,fU,ud,fq⟩;exact aK (h b8 rn fU ud fq)
end
theorem KJ{c:Prop}[Decidable c]{a b n:Nat}(h1:a+1<n)(h2:b+1<n):(if c then a else b)+1<n:=by split <;> assumption
def jy:Nat->List (Nat×Nat)->Nat->Prop
 |f,[],t=>f=t
 |f,(a,n)::l,t=>a=f/\0<n/\jy (f+n) l t
theorem jy.app:∀{l1:List (Nat×Nat)}{f t:Nat}{l2:List (Nat×Nat)},jy f (l1++l2) t↔∃m,jy f l1 m/\jy m l2 t
 |[],f,t,l2=>by simp[jy]
 | (a,n)::l1,f,t,l2=>by
  simp only[Ap,jy,jy.app (l1:=l1)];constructor
  ·rintro⟨h1,h2,m,h3,h4⟩;exact⟨m,⟨h1,h2,h3⟩,h4⟩
  ·rintro⟨m,⟨h1,h2,h3⟩,h4⟩;exact⟨h1,h2,m,h3,h4⟩
theorem jy.le:∀{l:List (Nat×Nat)}{f t:Nat},jy f l t->f+l.length<=t/\∀e∈l,f<=e.1/\e.1+e.2<=t
 |[],f,t,h=>⟨by cases h;simp,by simp⟩
 | (a,n)::l,f,t,⟨h1,h2,h3⟩=>by
  obtain⟨i1,i2⟩:=jy.le h3;refine⟨by simp;lia,λe he=>?_⟩;rcases bG.mp he with rfl|he
  ·subst h1;exact⟨a9 _,by simp;lia⟩
  ·have:=i2 e he;exact⟨∅,this.2⟩
def PL(pd:Array (Nat×Nat×Nat)):List (Nat×Nat):=pd.toList.map λe=>(e.1,e.2.1)
structure gZ(κ:KeyKind)(arr:Array Keyed)(pd:Array (Nat×Nat×Nat))(lo:Nat):Prop where
 ch:jy 0 (PL pd) lo
 run:∀e∈PL pd,Run κ arr e.1 e.2
theorem vt(pd:Array (Nat×Nat×Nat)):(PL pd).length=pd.size:=by simp[PL]
theorem mC(pd:Array (Nat×Nat×Nat))(e:Nat×Nat×Nat):PL (pd.push e)=PL pd++[(e.1,e.2.1)]:=by simp[PL]
theorem u8(pd:Array (Nat×Nat×Nat))(k pw:Nat):PL (pd.modify k λx=>(x.1,x.2.1,pw))=PL pd:=by
 apply tq;intro i;simp only[PL,jD,wG,Array.getElem?_modify];split
 ·cases pd[i]? <;> rfl
 ·rfl
theorem JQ{pd:Array (Nat×Nat×Nat)}{i:Nat}(h:i+1<pd.size):∃l1 l2 sa na pa sb nb pb,pd[i]?=aa (sa,na,pa)/\pd[i+1]?=aa (sb,nb,pb)/\PL pd=l1++(sa,na)::(sb,nb)::l2 /\ PL ((pd.setIfInBounds i (sa,na+nb,pa)).eraseIdxIfInBounds (i+1))=l1++(sa,na+nb)::l2:=by
 obtain⟨l⟩:=pd;simp only[ce]at h;have e:l=l.take i++l[i]::l[i+1]::l.drop (i+2):=by rw[←wH,←wH,nj]
 obtain⟨l1,x,y,l2,hl,e2⟩:∃l1 x y l2,l1.length=i/\l=l1++x::y::l2:=⟨l.take i,l[i],l[i+1],l.drop (i+2),by simp;lia,e⟩
 subst hl e2;obtain⟨sa,na,pa⟩:=x;obtain⟨sb,nb,pb⟩:=y;refine⟨l1.map λe=>(e.1,e.2.1),l2.map λe=>(e.1,e.2.1),sa,na,pa,sb,nb,pb,by simp,by simp[mV],by simp[PL],?_⟩;have e3:((l1++(sa,na,pa)::(sb,nb,pb)::l2).toArray.setIfInBounds l1.length (sa,na+nb,pa)).eraseIdxIfInBounds (l1.length+1)=(l1++(sa,na+nb,pa)::l2).toArray:=by rw[List.setIfInBounds_toArray,List.set_append_right _ _ (a9 _),List.eraseIdxIfInBounds_toArray];congr 1;rw[List.eraseIdx_append_of_length_le ∅];simp
 rw[e3];simp[PL]
section
variable{prog:aM}{w:aF}{A:aO}{E:ai->am->Prop}{s:am}{κ:KeyKind}{kz:gH}
theorem gZ.keep{a a':Array Keyed}{pd:Array (Nat×Nat×Nat)}{lo n:Nat}(h:gZ κ a pd lo)(w:Wr a a' lo n):gZ κ a' pd lo :=⟨h.ch,λe he=>(h.run e he).keep w (.inl (h.ch.le.2 e he).2)⟩
theorem yD(hO:g7 κ kz prog w A s){st:br}(hk:SB kz st)(hA:AllK κ (arrOf st)){i lo:Nat}(hP:gZ κ (arrOf st) (bf st) lo)(hlo:lo<=(arrOf st).size)(hi:i+1<(bf st).size){Q:Bool->br->Prop}(h:∀az,SB kz az->Wr (arrOf st) (arrOf az) 0 lo->gZ κ (arrOf az) (bf az) lo->(bf az).size+1=(bf st).size->Q ah az):wpS (aw prog w) A E s (mergeAt' i) Q st:=by
 obtain⟨l1,l2,sa,na,pa,sb,nb,pb,e1,e2,e3,e4⟩:=JQ hi;have hc:=hP.ch;rw[e3]at hc;obtain⟨m,c1,c2,c3,c4,c5,c6⟩:=jy.app.mp hc;subst c2 c4;have b1:=c1.le;have b2:=c6.le;have r1:Run κ (arrOf st) sa na:=hP.run (sa,na) (by rw[e3];simp);have r2:Run κ (arrOf st) (sa+na) nb:=hP.run (sa+na,nb) (by rw[e3];simp);refine Lm hO hk hA e1 e2 c3 c5 ∅ r1 r2 λaz mn c7 hw hr=>h az mn (hw.mono ∅ ∅) ⟨?_,?_⟩ ?_
 ·rw[c7,e4];exact jy.app.mpr ⟨sa,c1,rfl,∅,by rw[←wK];exact c6⟩
 ·rw[c7,e4];intro e he;rcases gb.mp he with he|he
  ·exact(hP.run e (by rw[e3];exact zF _ he)).keep hw (.inl (b1.2 e he).2)
  ·rcases bG.mp he with rfl|he
   ·exact hr
   ·exact(hP.run e (by rw[e3];simp[he])).keep hw (.inr (by have:=(b2.2 e he).1;lia))
 ·have q1:=vt (bf az);have q2:=vt (bf st);rw[c7,e4]at q1;rw[e3]at q2;rw[c7,←q1,←q2];simp;lia
theorem G3(hO:g7 κ kz prog w A s){st:br}(hk:SB kz st)(hA:AllK κ (arrOf st))(hp:bf st=#[]){Q:Unit->br->Prop}(h:∀az,SB kz az->(arrOf az).toList.Perm (arrOf st).toList->Run κ (arrOf az) 0 (arrOf st).size->Q () az):wpS (aw prog w) A E s sortRuns' Q st:=by
 unfold sortRuns';refine aE (kb ?_);dsimp only;obtain⟨size,N5⟩:∃size,size=(arrOf st).size:=⟨_,rfl⟩
 have NW:((sortPriv% PySem.Builtin.SortState.a) st).size=size:=N5.symm;simp only[NW];refine aE (fP (fQ (I:=λx c b8=>∃lo,c=(ae,lo)/\x<=lo/\lo<=size/\SB kz b8/\(arrOf b8).toList.Perm (arrOf st).toList/\(arrOf b8).size=size/\gZ κ (arrOf b8) (bf b8) lo) (Q:=λc b8=>c=(ae,size)/\SB kz b8/\(arrOf b8).toList.Perm (arrOf st).toList/\(arrOf b8).size=size/\gZ κ (arrOf b8) (bf b8) size) ?_ ?_ ?_) ?_);rotate_left
 ·rintro c b8 ⟨lo,rfl,b1,b2,jJ,fU,o0,hP⟩;have:lo=size:=∅
  subst this;exact⟨rfl,jJ,fU,o0,hP⟩
 ·exact⟨0,rfl,∅,∅,hk,qI _,N5.symm,by rw[hp];exact⟨rfl,by simp[PL]⟩⟩
 ·rintro c b8 ⟨rfl,jJ,fU,o0,hP⟩;dsimp only;refine aE (fP (fQ (I:=λx c aX=>c=(ae,())/\SB kz aX/\(arrOf aX).toList.Perm (arrOf st).toList/\(arrOf aX).size=size/\gZ κ (arrOf aX) (bf aX) size/\(bf aX).size+x<=size+1) (Q:=λc aX=>c=(ae,())/\SB kz aX/\(arrOf aX).toList.Perm (arrOf st).toList/\(arrOf aX).size=size/\gZ κ (arrOf aX) (bf aX) size/\(bf aX).size<=1) ?_ ?_ ?_) ?_)
  ·rintro x c aX _ hx ⟨rfl,fF,d8,ue,uf,hb⟩;refine aE (kb ?_);refine cm (λe1=>aK ⟨rfl,fF,d8,ue,uf,e1⟩) λe1=>?_;have rk:1<(bf aX).size:=Nat.lt_of_not_le e1;refine aE (yD hO fF (hA.of d8) uf ∅ ?_ λbq fo iV ug hq=>?_)
   ·exact KJ (show(bf aX).size-2-1+1<(bf aX).size by lia) (show(bf aX).size-2+1<(bf aX).size by lia)
   ·exact aK ⟨rfl,fo,iV.perm.trans d8,iV.size.trans ue,ug,∅⟩
  ·rintro c aX ⟨rfl,fF,d8,ue,uf,hb⟩;exact⟨rfl,fF,d8,ue,uf,∅⟩
  ·have:=hP.ch.le.1;rw[vt]at this;exact⟨rfl,jJ,fU,o0,hP,∅⟩
  ·rintro c aX ⟨rfl,fF,d8,ue,uf,hb⟩;refine aK (h aX fF d8 ?_);rw[←N5];have hc:=uf.ch;have hr:=uf.run;have hl:=vt (bf aX)
   match hq:PL (bf aX),hc,hr,hl with
   |[],hc,hr,hl=>
    cases hc;intro i j x y a1 a2 a3;lia
   |[(a,n)],hc,hr,hl=>
    obtain⟨d1,d2,d3⟩:=hc;cases d1;have d3':0+n=size:=d3;have:=hr (0,n) (by simp);rw[show size=n by lia];exact this
   |_::_::_,hc,hr,hl=>simp at hl;lia
 rintro x c b8 _ hx ⟨lo,rfl,b1,b2,jJ,fU,o0,hP⟩;dsimp only;refine cm (λe1=>?_) λe1=>?_
 ·have:lo=size:=∅
  subst this;exact aK ⟨rfl,jJ,fU,o0,hP⟩
 refine aE (GT hO jJ (hA.of fU) ∅ ∅ λcM aX fF uh rm f1 f2 rh=>?_);dsimp only;refine cm (λe2=>?_) λe2=>?_
 ·refine aE (qQ (lZ ⟨rfl,?_⟩));refine aE (FZ hO fF ((hA.of fU).of rm.perm) ∅ (by rw[rm.size];lia) rh λbq fo hq3 iV hr3=>?_);rw[if_neg (by simp)];have hw:Wr (arrOf b8) (arrOf bq) lo (size-lo):=rm.trans (iV.mono ∅ ∅);have ui:bf bq=bf b8:=hq3.trans uh;generalize hn:min (size-lo) _=n at *;have n1:0<n:=∅
  have n2:lo+n<=size:=∅
  clear fF rm rh uh iV hq3;have ug:gZ κ (arrOf bq) (bf bq) lo:=by rw[ui];exact hP.keep hw
  have fi:(arrOf bq).toList.Perm (arrOf st).toList:=hw.perm.trans fU;have nz:(arrOf bq).size=size:=hw.size.trans o0;have hR:Run κ (arrOf bq) lo n:=hr3.run;clear hw ui;refine aE (kb ?_);obtain⟨kd,arr,pd,mg,fl⟩:=bq;dsimp only;cases hbk:pd.back? with
  |none=>
   dsimp only;refine aE (ma (aK ⟨lo+n,rfl,∅,n2,⟨fo.kind,fo.failed⟩,fi,nz,?_⟩));refine⟨?_,?_⟩
   ·show jy 0 (PL (pd.push (lo,n,0))) _;rw[mC];exact jy.app.mpr ⟨lo,ug.ch,rfl,n1,rfl⟩
   ·show ∀e∈PL (pd.push (lo,n,0)),_;rw[mC];intro e he;rcases gb.mp he with he|he
    ·exact ug.run e he
    ·rw[hV.mp he];exact hR
  |some bk=>
   obtain⟨s1,m1,q1⟩:=bk;dsimp only;refine aE (fP (fQ (I:=λx c bI=>c=(ae,())/\SB kz bI/\(arrOf bI).toList.Perm (arrOf st).toList/\(arrOf bI).size=size/\gZ κ (arrOf bI) (bf bI) lo/\Run κ (arrOf bI) lo n) (Q:=λc bI=>c=(ae,())/\SB kz bI/\(arrOf bI).toList.Perm (arrOf st).toList/\(arrOf bI).size=size/\gZ κ (arrOf bI) (bf bI) lo/\Run κ (arrOf bI) lo n) ?_ (λ_ _ hh=>hh) ?_) ?_)
   ·rintro y c bI _ hy ⟨rfl,jk,gQ,mx,o4,o5⟩;refine aE (kb ?_);have tP:∀{bY:br},bY=bI->((ae,()):Option Unit×Unit)=(ae,())/\SB kz bY/\(arrOf bY).toList.Perm (arrOf st).toList/\(arrOf bY).size=size/\gZ κ (arrOf bY) (bf bY) lo/\Run κ (arrOf bY) lo n:=λe=>by subst e;exact⟨rfl,jk,gQ,mx,o4,o5⟩
    by_cases hg:1<(bf bI).size
    ·obtain⟨kd4,arr4,pd4,mg4,fl4⟩:=bI;have ki:pd4.size > 1:=hg;dsimp only;rw[if_pos ki,getElem?_pos pd4 (pd4.size-2) ∅];obtain⟨u1,u2,u3⟩:=pd4[pd4.size-2];dsimp only;refine cm (λ_=>aK (tP rfl)) λ_=>?_;refine aE (yD hO jk (hA.of gQ) o4 ∅ (show pd4.size-2+1<pd4.size by lia) λbY mw oZ hP5 _=>?_);exact aK ⟨rfl,mw,oZ.perm.trans gQ,oZ.size.trans mx,hP5,o5.keep oZ (.inr ∅)⟩
    ·obtain⟨kd4,arr4,pd4,mg4,fl4⟩:=bI;have ki:¬pd4.size > 1:=hg;dsimp only;rw[if_neg ki];exact aK (tP rfl)
   ·exact⟨rfl,fo,fi,nz,ug,hR⟩
   rintro c bI ⟨rfl,jk,gQ,mx,o4,o5⟩;obtain⟨kd4,arr4,pd4,mg4,fl4⟩:=bI;dsimp only;refine aE (ma (aE (ma (aK ⟨lo+n,rfl,∅,n2,⟨jk.kind,jk.failed⟩,gQ,mx,?_⟩))));refine⟨?_,?_⟩
   ·show jy 0 (PL ((pd4.modify (pd4.size-1) λx=>(x.1,x.2.1,_)).push (lo,n,0))) _;rw[mC,u8];exact jy.app.mpr ⟨lo,o4.ch,rfl,n1,rfl⟩
   ·show ∀e∈PL ((pd4.modify (pd4.size-1) λx=>(x.1,x.2.1,_)).push (lo,n,0)),_;rw[mC,u8];intro e he;rcases gb.mp he with he|he
    ·exact o4.run e he
    ·rw[hV.mp he];exact o5
 ·have fo:=fF;have hr3:=rh;have hw:Wr (arrOf b8) (arrOf aX) lo (size-lo):=rm;have ui:bf aX=bf b8:=uh;have n1:0<cM:=∅
  have n2:lo+cM<=size:=∅
  have ug:gZ κ (arrOf aX) (bf aX) lo:=by rw[ui];exact hP.keep hw
  have fi:(arrOf aX).toList.Perm (arrOf st).toList:=hw.perm.trans fU;have nz:(arrOf aX).size=size:=hw.size.trans o0;have hR:Run κ (arrOf aX) lo cM:=hr3.run;clear hw ui;refine aE (kb ?_);obtain⟨kd,arr,pd,mg,fl⟩:=aX;dsimp only;cases hbk:pd.back? with
  |none=>
   dsimp only;refine aE (ma (aK ⟨lo+cM,rfl,∅,n2,⟨fo.kind,fo.failed⟩,fi,nz,?_⟩));refine⟨?_,?_⟩
   ·show jy 0 (PL (pd.push (lo,cM,0))) _;rw[mC];exact jy.app.mpr ⟨lo,ug.ch,rfl,n1,rfl⟩
   ·show ∀e∈PL (pd.push (lo,cM,0)),_;rw[mC];intro e he;rcases gb.mp he with he|he
    ·exact ug.run e he
    ·rw[hV.mp he];exact hR
  |some bk=>
   obtain⟨s1,m1,q1⟩:=bk;dsimp only;refine aE (fP (fQ (I:=λx c bI=>c=(ae,())/\SB kz bI/\(arrOf bI).toList.Perm (arrOf st).toList/\(arrOf bI).size=size/\gZ κ (arrOf bI) (bf bI) lo/\Run κ (arrOf bI) lo cM) (Q:=λc bI=>c=(ae,())/\SB kz bI/\(arrOf bI).toList.Perm (arrOf st).toList/\(arrOf bI).size=size/\gZ κ (arrOf bI) (bf bI) lo/\Run κ (arrOf bI) lo cM) ?_ (λ_ _ hh=>hh) ?_) ?_)
   ·rintro y c bI _ hy ⟨rfl,jk,gQ,mx,o4,o5⟩;refine aE (kb ?_);have tP:∀{bY:br},bY=bI->((ae,()):Option Unit×Unit)=(ae,())/\SB kz bY/\(arrOf bY).toList.Perm (arrOf st).toList/\(arrOf bY).size=size/\gZ κ (arrOf bY) (bf bY) lo/\Run κ (arrOf bY) lo cM:=λe=>by subst e;exact⟨rfl,jk,gQ,mx,o4,o5⟩
    by_cases hg:1<(bf bI).size
    ·obtain⟨kd4,arr4,pd4,mg4,fl4⟩:=bI;have ki:pd4.size > 1:=hg;dsimp only;rw[if_pos ki,getElem?_pos pd4 (pd4.size-2) ∅];obtain⟨u1,u2,u3⟩:=pd4[pd4.size-2];dsimp only;refine cm (λ_=>aK (tP rfl)) λ_=>?_;refine aE (yD hO jk (hA.of gQ) o4 ∅ (show pd4.size-2+1<pd4.size by lia) λbY mw oZ hP5 _=>?_);exact aK ⟨rfl,mw,oZ.perm.trans gQ,oZ.size.trans mx,hP5,o5.keep oZ (.inr ∅)⟩
    ·obtain⟨kd4,arr4,pd4,mg4,fl4⟩:=bI;have ki:¬pd4.size > 1:=hg;dsimp only;rw[if_neg ki];exact aK (tP rfl)
   ·exact⟨rfl,fo,fi,nz,ug,hR⟩
   rintro c bI ⟨rfl,jk,gQ,mx,o4,o5⟩;obtain⟨kd4,arr4,pd4,mg4,fl4⟩:=bI;dsimp only;refine aE (ma (aE (ma (aK ⟨lo+cM,rfl,∅,n2,⟨jk.kind,jk.failed⟩,gQ,mx,?_⟩))));refine⟨?_,?_⟩
   ·show jy 0 (PL ((pd4.modify (pd4.size-1) λx=>(x.1,x.2.1,_)).push (lo,cM,0))) _;rw[mC,u8];exact jy.app.mpr ⟨lo,o4.ch,rfl,n1,rfl⟩
   ·show ∀e∈PL ((pd4.modify (pd4.size-1) λx=>(x.1,x.2.1,_)).push (lo,cM,0)),_;rw[mC,u8];intro e he;rcases gb.mp he with he|he
    ·exact o4.run e he
    ·rw[hV.mp he];exact o5
end
theorem vc{n:Nat}(h:n<=1000000):n<a_:=oI h (by decide)
theorem Run.sortedTo{κ:KeyKind}{a:Array Keyed}{n:Nat}(h:Run κ a 0 n)(hn:n<=a.size):SortedToK κ a n:=by intro i j bt hj;have:=h i j _ _ (k_ _) bt ∅ (getElem?_pos a i ∅) (getElem?_pos a j ∅);rw[qd (show i<a.size by lia),qd (show j<a.size by lia)];exact this
theorem KeysOf.all{κ:KeyKind}{a:Array Keyed}(h:KeysOf κ a):AllK κ a:=λi hi=>h _ (by simp)
section
variable{P:aM}{w:aF}{A:aO}{E:ai->am->Prop}{s:am}
theorem Bl{κ:KeyKind}{kz:gH}{a:af}{vs:List ai}{n:Nat}{F:Fin->am->Prop}(ho:s.heap.get? a=aa (fR "list" vs.toArray n))(h0:KeysOf κ (jG vs))(hz:vs.length<=1000000)(hk:∀h':aA,(∀b o,b≠a->s.heap.get? b=aa o->h'.get? b=aa o)->2<=vs.length->g7 κ kz P w A {s with heap:=h'}/\∀{E:ai->am->Prop}{Q:gH->am->Prop},Q kz {s with heap:=h'}->aq (aw P w) A (keyKind' vs.toArray) Q E {s with heap:=h'})(h:∀az:br,(arrOf az).Perm (jG vs)->SortedToK κ (arrOf az) (jG vs).size->F (.done (.ret .none)) {s with heap:=sortedHeap s.heap a vs ((arrOf az).map (·.2))}):aq (aw P w) A (Builtin.«list.sort» ⟨[.ref a],[]⟩) F E s:=by
 rw[list_sort_plain];have ha:a<s.heap.objs.size:=bu ho;have hl:vs.length<=a_:=j3 (vc hz);refine ap (listItems_at ho rfl ?_);refine ap (z_ ho rfl ?_);obtain⟨e1,t5⟩:∃e1,(s.heap.update a (je λ_=>#[])).get? a=aa (fR "list" #[] e1):=⟨_,get?_update_seq ho (λ_=>#[])⟩
 refine ap (seqEpoch_at t5 rfl ?_);refine ap (wpAny_newTuple ?_ (hsz:=by rw[wz];exact hl));refine ap (wpAny_newList ?_);refine iz ?_;have ho6:(((s.heap.update a (je λ_=>#[])).push (fR "tuple" vs.toArray 0)).push (fR "list" #[] 0)).get? a=aa (fR "list" #[] e1):=by rw[Heap.get?_push_ne _ _ _ (by rw[iR,EZ];exact cQ (ka ha)),Heap.get?_push_ne _ _ _ (by rw[EZ];exact cQ ha)];exact t5
 have keep:∀b o,b≠a->s.heap.get? b=aa o->(((s.heap.update a (je λ_=>#[])).push (fR "tuple" vs.toArray 0)).push (fR "list" #[] 0)).get? b=aa o:=λb o hb e=>bH _ (bH _ (by rw[EX _ _ _ _ hb];exact e));show aq (aw P w) A _ F E {s with heap:=((s.heap.update a (je λ_=>#[])).push (fR "tuple" vs.toArray 0)).push (fR "list" #[] 0)};dsimp only;have done:∀az:br,failedOf az=ae->(arrOf az).Perm (jG vs)->SortedToK κ (arrOf az) (jG vs).size ->
   aq (aw P w) A (do
    let touched:=(←seqEpoch a) != e1
    Builtin.List.listUpdate (.ref a) λ_=>(arrOf az).map (·.2)
    if let aa e:=failedOf az then rule "list.sort.comparison-raised";throw e
    if touched then rule "list.sort.modified";raiseError "ValueError" "list modified during sort"
    ret .none) F E {s with heap:=((s.heap.update a (je λ_=>#[])).push (fR "tuple" vs.toArray 0)).push (fR "list" #[] 0)}:=λaz hb hp hs=>by
  refine ap (seqEpoch_at ho6 rfl ?_);refine ap (z_ ho6 rfl ?_ (hsz2:=by refine cR (lX ((Array.size_map ..).trans (hp.size_eq.trans (pairsOf_size _)))) (Nat.le_succ_of_le hl)));rw[hb];simp only[bne_self_eq_false,eB,if_false];exact aD (h az hp hs)
 by_cases h2:vs.toArray.size<2
 ·rw[if_pos h2,if_pos h2];refine ap (aD ?_);refine ap (aD ?_);refine done (SortSt.mk' general' (vs.toArray.zip vs.toArray) #[] 7 ae) rfl (Array.Perm.refl _) λi j bt hj=>?_;have:i=j:=by rw[pairsOf_size]at hj;rw[ce]at h2;lia
  subst this;exact lg _
 ·rw[if_neg h2,if_neg h2];obtain⟨hO,hK⟩:=hk _ keep (by rw[ce]at h2;lia);refine ap (hK ?_);refine ap (dY (G3 (κ:=κ) (kz:=kz) hO (st:=SortSt.mk' kz (vs.toArray.zip vs.toArray) #[] 7 ae) (Q:=λ_ az=>SB kz az/\(arrOf az).toList.Perm (jG vs).toList/\Run κ (arrOf az) 0 (jG vs).size) ⟨rfl,rfl⟩ (KeysOf.all h0) rfl λaz a1 a2 a3=>⟨a1,a2,a3⟩) ?_ λ_ _ e=>e);rintro⟨⟨⟩,az⟩ s' ⟨rfl,hb,hp,hs⟩;have c7:(arrOf az).Perm (jG vs):=Ao.mpr hp;exact done az hb.failed c7 (hs.sortedTo (by rw[c7.size_eq];exact a9 _))
theorem Mv{κ:KeyKind}(hO:κ.OneLt){a:af}{vs:List ai}{n:Nat}{F:Fin->am->Prop}(ho:s.heap.get? a=aa (fR "list" vs.toArray n))(h0:KeysOf κ (jG vs)) (mv:∀v₁ v₂ rest,vs=v₁::v₂::rest->keyKind' (v₁::v₂::rest).toArray=pure oneType') (hz:vs.length<=1000000)(h:∀az:br,(arrOf az).Perm (jG vs)->SortedToK κ (arrOf az) (jG vs).size->F (.done (.ret .none)) {s with heap:=sortedHeap s.heap a vs ((arrOf az).map (·.2))}):aq (aw P w) A (Builtin.«list.sort» ⟨[.ref a],[]⟩) F E s :=
 Bl ho h0 hz (λh' _ h2=>⟨OneLt.ok hO,λq=>by
  obtain⟨v₁,v₂,rest,rfl⟩:∃v₁ v₂ rest,vs=v₁::v₂::rest:=by
   match vs,h2 with
   |[],h2=>simp at h2
   |[_],h2=>simp at h2
   |v₁::v₂::rest,_=>exact⟨v₁,v₂,rest,rfl⟩
  rw[mv _ _ _ rfl];exact aD q⟩) h
theorem Cs{v:ai}{Q:ai->am->Prop}(hc:aq (aw P w) A.in1 (collect v) (λvs s1=>∃ss:List Str,dj vs ss/\vs.length<=1000000/\∀(h':aA) (out:Array ai) (aI:List Str) (e:Nat),(∀b o,s1.heap.get? b=aa o->h'.get? b=aa o) -> h'.get? s1.heap.objs.size=aa (fR "list" out e)->dj out.toList aI->aI.Perm ss->sortedS aI=ah->Q (.ref s1.heap.objs.size) {s1 with heap:=h'}) E s):aq (aw P w) A (call (.builtin "sorted") [v]) Q E s:=by refine Calls.call_function_entry kind_sorted plain_sorted entry_sorted (args_sorted1 _) ?_;unfold Builtin.«sorted»;refine ap (m:=checkCount "sorted" 1 1 _) (aD ?_);refine ap (aV hc λvs s1 ⟨ss,hS,ko,fin⟩=>?_);refine ap (wpAny_newList ?_);have ln:(s1.heap.push (fR "list" vs.toArray 0)).get? s1.heap.objs.size=aa (fR "list" vs.toArray 0):=cZ _ rfl;refine ap (iz (qw slot_list_sort ⟨_,ln,rfl⟩ entry_list_sort (Mv strKind_oneLt ln hS.keysOf (λa b c e=>keyKind_strs (by rw[←e];exact hS)) ko λaz hp hs=>⟨_,rfl,?_⟩) (args_list_sort _)));obtain⟨aI,a1,a2,a3⟩:=sorted_out_str hS hp hs;obtain⟨e,he⟩:=sortedHeap_at (out:=(arrOf az).map (·.2)) ln;refine aD ⟨_,rfl,fin _ _ aI e (λb o hb=>?_) he a1 a2 a3⟩;have ba:b<s1.heap.objs.size:=bu hb;rw[sortedHeap_old (cQ ba) (by rw[iR];exact ka ba)];exact bH _ hb
end
section
variable{X:Cx}
theorem Inv.sorted2{ag:List (af×Obj)}{σ:St}{H:Hp}{s1:am}{ls:List Tx}{ss aI:List Str}{h':aA}{out:Array ai}{e:Nat}(I:Inv X ag σ H s1)(hl:ss=ls.map tS)(ko:ls.length<=1000000)(k:∀b o,s1.heap.get? b=aa o->h'.get? b=aa o) (ho:h'.get? s1.heap.objs.size=aa (fR "list" out e)) (a1:dj out.toList aI) (a2:aI.Perm ss) (a3:sortedS aI=ah):Inv X ag σ (upd H s1.heap.objs.size (.lst (dD (a8 ls)))) {s1 with heap:=h'}:=by
 have e1:aI.map (λz=>z.cps.toList)=a8 ls:=by
  refine vI ?_ (M_ a3);have:=a2.map λz=>z.cps.toList;rw[hl,c0]at this;have e2:(ls.map ((λz:Str=>z.cps.toList) ∘ tS))=ls:=by simp[tz,lM]
  rw[e2]at this;exact this
 have hv:bj (dD (a8 ls)) out.toList:=by rw[←e1];exact C5 a1
 refine I.laid (t':=s1.toks) k (a9 _) ⟨?_,out.toList,e,hv,?_⟩
 ·rw[yW,vE];exact j3 (vc ∅)
 ·rw[Array.toArray_toList];exact ho
theorem uO:et X (.builtin "sorted") (λxs H Q=>∃(p:af) (ls:List Tx),xs=[.ref p]/\(cc X.K H p (dD ls)\/cD X.K H p (dD ls))/\ls.length<=1000000/\∀l,H l=ae->Q (.ref l) (upd H l (.lst (dD (a8 ls))))):=by
 intro ag s σ H xs us Q I r h;obtain⟨p,ls,rfl,hq,ko,q⟩:=h;obtain⟨u,rfl,ru⟩:=vals1 r;cases ru;have core:∀(T:String) (o:Obj) (its:List ai) (n:Nat),(T = "list"\/T = "tuple")->s.heap.get? p=aa o->o.cls=.type T->o.data=.seq its.toArray n->bj (dD ls) its ->
   aq (aw X.prog X.w) X.A (call (.builtin "sorted") [Value.ref p]) (EP X ag σ Q) X.xe s:=λT o its n hT ho hc hd rv=>by
  have hl:=rv.length;rw[yW]at hl;have h1000:=vc (n:=its.length) ∅;refine Cs (wpAny_collect_seq p hT ho hc hd (λh1 k1=>?_) (by rw[ce];lia));have I1:=I.kept (t':=s.toks) k1;refine⟨_,uy rv,by rw[wz];lia,λh' out aI e k ho a1 a2 a3=>?_⟩;exact⟨.ref _,_,Inv.sorted2 I1 rfl ko k ho a1 a2 a3,rfl,q _ I1.fresh⟩
 rcases hq with hq|hq
 ·obtain⟨its,rv,pl,hz⟩:=I.list hq;obtain⟨o,e,hc,n,hd⟩:=pl.isList;exact core "list" o its n (.inl rfl) e hc hd rv
 ·obtain⟨its,rv,⟨o,e,hc,n,hd⟩,hz⟩:=I.tuple hq;exact core "tuple" o its n (.inr rfl) e hc hd rv
end
end L2
namespace Pu
open L2
section
variable{X:Cx}{K:ax}
def lH:List PV->Option PO
 |[.lst xs]=>(ir xs).bind λls=>if ls.length<=1000000 then aa (.lst (ao (a8 ls)))else ae
 |[.tup xs]=>(ir xs).bind λls=>if ls.length<=1000000 then aa (.lst (ao (a8 ls)))else ae
 |_=>ae
theorem v7:kG K (λxs H Q=>∃(p:af) (ls:List Tx),xs=[.ref p]/\(cc K H p (dD ls)\/cD K H p (dD ls))/\ls.length<=1000000/\∀l,H l=ae->Q (.ref l) (upd H l (.lst (dD (a8 ls))))) lH:=λF H xs vs Q po hF rs e q=>by
 have fin:∀{ys:List PV}{us:List V}{a:af},((ir ys).bind λls=>if ls.length<=1000000 then aa (PO.lst (ao (a8 ls)))else ae)=aa po->Reps K H F ys us->(cc K H a us\/cD K H a us) ->
   ∃(p:af) (ls:List Tx),[V.ref a]=[.ref p]/\(cc K H p (dD ls)\/cD K H p (dD ls))/\ls.length<=1000000/\∀l,H l=ae->Q (.ref l) (upd H l (.lst (dD (a8 ls)))):=λ{ys us a} e ra hs=>by
  cases q1:ir ys with
  |none=>rw[q1]at e;cases e
  |some ls=>
   rw[q1]at e;simp only[iB]at e;split at e
   ·rename_i ko;cases e;rw[uD q1]at ra;obtain⟨rfl,hm⟩:=Oe.mp ra;refine⟨a,ls,rfl,hs,ko,λl hl=>q l F _ _ (Al.new0 hl) (u0 hl (Oe.mpr ⟨rfl,λx hx=>hm x ((jM ls).mem_iff.mp hx)⟩)) (vg hl hF trivial)⟩
   ·cases e
 unfold lH at e;split at e
 ·obtain⟨v,rfl,a,us,rfl,ha,_,ra⟩:=ik rs;exact fin e ra (.inl (.inl ha))
 ·obtain⟨v,rfl,a,us,rfl,ha,ra⟩:=ik rs;exact fin e ra (.inr (cD.of ha))
 ·cases e
end
end Pu
namespace L2
section
variable{X:Cx}
theorem JH(hc:X.calm=ah):et X (.builtin "sorted") (λxs H Q=>∃(p:af) (ls:List Tx),xs=[.ref p]/\H p=aa (nL X p ls)/\ls.length<4000/\∀l,H l=ae->Q (.ref l) (upd H l (.lst (dD (a8 ls))))):=by
 intro ag s σ H xs us Q I r h;obtain⟨p,ls,rfl,hq,ko,q⟩:=h;obtain⟨u,rfl,ru⟩:=vals1 r;cases ru;obtain⟨S,_,_⟩:=(show cH X.prog X.w H s.heap p (nL X p ls)from I.hok p _ hq)
 refine Cs (JJ (uz (I.ok.hd hc)) S λs' vs ss a1 a2 a3 k eg eo=>?_);obtain⟨h',g',d',t',o'⟩:=s';obtain rfl:g'=s.gens:=eg;obtain rfl:o'=s.os:=eo;have I1:Inv X ag σ H {s with heap:=h',drawn:=d',toks:=t'}:=by have:=Inv.call (ch:=[]) I (g':=s.gens) (d':=d') (t':=t') (Un.kept (fs:=eF X.stack) (ex:=[]) k) (I.hok.kept k) I.bare (λb hb=>absurd hb (by simp));exact this
 refine⟨ss,a1,∅,λh2 out aI e k2 ho b1 b2 b3=>?_⟩;exact⟨.ref _,_,Inv.sorted2 (s1:={s with heap:=h',drawn:=d',toks:=t'}) (ss:=ls.map tS) I1 rfl ∅ k2 ho b1 (b2.trans a2) b3,rfl,q _ I1.fresh⟩
end
end L2
namespace Pu
open L2
section
variable{X:Cx}{E:XK}{pin:List Nat}{e e2:aB}{ds ds2:ak->R (List PV)}{pos p q pos' p4 q2 pos2:Pos}
def sF:List PV->Option PO
 |[.lst xs]=>(ir xs).bind λls=>if(fu ls).length<4000 then aa (.lst (ao (a8 (fu ls))))else ae
 |_=>ae
def Hh(X:Cx):List V->Hp->VK->Prop:=λxs H Q=>∃(p:af) (ls:List Tx),xs=[.ref p]/\H p=aa (nL X p ls)/\ls.length<4000/\∀l,H l=ae->Q (.ref l) (upd H l (.lst (dD (a8 ls))))
theorem Ha:kG X.K (K9 X (Hh X)) sF:=λF H xs vs Q po hF rs e q=>by
 unfold sF at e;split at e
 ·obtain⟨v,rfl,a,us,rfl,ha,_,ru⟩:=ik rs;obtain⟨ls,e1,e2⟩:=wP.mp e;rw[uD e1]at ru;obtain⟨rfl,hl⟩:=Oe.mp ru;split at e2
  ·rename_i hh;cases e2;refine⟨a,ls,rfl,.inl ha,hh,λb hb=>⟨b,fu ls,rfl,cE,hh,λl gP=>?_⟩⟩;have hlb:l≠b:=by rintro rfl;rw[cE]at gP;cases gP
   have uj:H l=ae:=by rw[b7 hlb]at gP;exact gP
   have al:Al F F H (upd (upd H b (nL X b (fu ls))) l (.lst (dD (a8 (fu ls))))):=(Al.new0 hb).trans (Al.new0 gP);refine q l F _ (λc=>c=l) al ⟨⟨_,cE,Oe.mpr ⟨rfl,λx hx=>hl x ((vd _ _).mp ((jM _).mem_iff.mp hx))⟩⟩,λc=>Iff.rfl⟩ λc z=>?_;subst z;exact⟨uj,λz=>Exists.elim (hF _ z) (λo w=>by rw[uj]at w;cases w),_,cE,trivial⟩
  ·cases e2
 ·cases e
theorem Im(hc:X.calm=ah)(ha:DA X E [e] ds)(hm:X.mg "sorted" = ae)(hm2:X.mg "set" = ae)(hg:Gl X "sorted":=by rfl)(hg2:Gl X "set":=by rfl)(h:kQ e=aj:=by rfl):DN X E (.Call (.Name "sorted" p) [.Call (.Name "set" q) [e] [] pos'] [] pos) (dL sF ds):=λF S ε σ H Q rl h'=>b9 (oq (JH hc) hg hm pT (io (vH (IQ hc) hg2 hm2 Cg gD (by decide) (by decide) (iW h) rfl) jt (iW rfl)) (by decide) (by decide) (iW rfl) rfl) (sf Ha ha rl h')
end
end Pu
namespace Mx
theorem GQ(p:Nat):∃o,5^(2^p)=1+2^(p+2)*(2*o+1):=by
 induction p with
 |zero=>exact⟨0,by decide⟩
 |succ p ih=>
  obtain⟨o,h⟩:=ih;refine⟨o+2^p*(2*o+1)*(2*o+1),?_⟩;rw[show 2^(p+1)=2^p*2 from tD ..,Nat.pow_mul,h];rw[show(2:Nat)^(p+1+2)=8*2^p from by rw[Nat.pow_add,tD];lia,show(2:Nat)^(p+2)=4*2^p from by rw[Nat.pow_add];lia];generalize 2^p=q
  grind
def F5:Nat->Nat->Nat
 |0,x=>x
 |n+1,x=>F5 n (5*x+1)
theorem Gv(m n x:Nat):F5 (m+n) x=F5 n (F5 m x):=by
 induction m generalizing x with
 |zero=>simp[F5]
 |succ m ih=>rw[tu];exact ih _
theorem GR(n x:Nat):4*F5 n x+1=5^n*(4*x+1):=by
 induction n generalizing x with
 |zero=>simp[F5]
 |succ n ih=>show 4*F5 n (5*x+1)+1=_;rw[ih,tD];grind
theorem MA(p x:Nat):∃o,F5 (2^p) x=x+2^p*(2*o+1):=by
 obtain⟨o,h⟩:=GQ p;have c:=GR (2^p) x;rw[h,show(2:Nat)^(p+2)=4*2^p from by rw[Nat.pow_add];lia]at c;refine⟨o*(4*x+1)+2*x,?_⟩;generalize 2^p=q at c;generalize F5 q x=y at c
 grind
theorem D4(p:Nat):∀x y,y<2^p->∃n,n<2^p/\F5 n x % 2^p=y:=by
 induction p with
 |zero=>intro x y h;exact⟨0,by decide,by simp at h;subst h;simp[Nat.mod_one]⟩
 |succ p ih=>
  intro x y hy;obtain⟨n,hn,e⟩:=ih x (y % 2^p) (l7 _ (Nat.two_pow_pos p));have hp:(2:Nat)^(p+1)=2*2^p:=by rw[tD];lia
  obtain⟨o,j⟩:=MA p (F5 n x);have pos:=Nat.two_pow_pos p;by_cases q:F5 n x % 2^(p+1)=y
  ·exact⟨n,∅,q⟩
  ·refine⟨n+2^p,∅,?_⟩;rw[Gv,j];rw[hp]at q hy ⊢;generalize 2^p=N at *;generalize F5 n x=z at *;have h1:z % (2*N) % N=z % N:=Nat.mod_mod_of_dvd _ ⟨2,∅⟩;have h2:(z+N*(2*o+1)) % (2*N)=(z+N) % (2*N):=by rw[show z+N*(2*o+1)=(z+N)+(2*N)*o by grind,Nat.add_mul_mod_self_left]
   rw[h2];have hz:=l7 z (show 2*N > 0 by lia);have h3:(z+N) % (2*N)=(z % (2*N)+N) % (2*N):=by rw[Aq];simp[Aq,wQ (show N<2*N by lia)]
   rw[h3];generalize z % (2*N)=u at *;rw[←h1]at e;have a1:=Nat.div_add_mod u N;have a2:=Nat.div_add_mod y N;have b1:u / N<2:=Nat.div_lt_of_lt_mul (by rw[Ar];exact hz);have b2:y / N<2:=Nat.div_lt_of_lt_mul (by rw[Ar];exact hy);rw[e]at a1;generalize u / N=uq at a1 b1;generalize y / N=yq at a2 b2;have m1:=l7 y pos;rcases(show uq=0\/uq=1 by lia)with c1|c1 <;> rcases(show yq=0\/yq=1 by lia)with c2|c2 <;> subst c1 <;> subst c2 <;> simp only[Nat.mul_zero,Nat.mul_one,qP]at a1 a2
   ·exact absurd (a1.symm.trans a2) q
   ·rw[wQ ∅];lia
   ·rw[show u+N=y+2*N by lia,Nat.add_mod_right,wQ ∅]
   ·exact absurd (a1.symm.trans a2) q
end Mx
namespace L2
open Mx
def dS(mask:Nat):Nat->Nat->Nat->Nat×Nat
 |0,i,p=>(i,p)
 |n+1,i,p=>dS mask n (lh mask i p).1 (lh mask i p).2
theorem xH(mask:Nat):∀(m n i p:Nat),dS mask (m+n) i p=dS mask n (dS mask m i p).1 (dS mask m i p).2
 |0,n,i,p=>by rw[qP];rfl
 |m+1,n,i,p=>by rw[tu];exact xH mask m n _ _
theorem yC(mask:Nat):∀(m i p:Nat),(dS mask m i p).2=p / 32^m
 |0,i,p=>by simp[dS]
 |m+1,i,p=>by show(dS mask m _ _).2=_;rw[yC mask m];show p / 32 / 32^m=_;rw[Nat.div_div_eq_div_mul,tD,Ar]
theorem yx(mask:Nat):∀(n i:Nat),(dS mask n i 0).1 % (mask+1)=F5 n i % (mask+1)
 |0,i=>rfl
 |n+1,i=>by show(dS mask n ((i*5+1+0 / 32) % (mask+1)) (0 / 32)).1 % _=F5 n (5*i+1) % _;rw[show 0 / 32=0 from rfl,yx mask n,Nat.add_zero,Ar i 5];exact F5_mod n (mask+1) (5*i+1)
where
 F5_mod:∀(n N x:Nat),F5 n (x % N) % N=F5 n x % N
  |0,N,x=>by simp[F5]
  |n+1,N,x=>by show F5 n (5*(x % N)+1) % N=F5 n (5*x+1) % N;rw[←F5_mod n N (5*(x % N)+1),←F5_mod n N (5*x+1)];congr 2;rw[Aq,Nat.mul_mod,Nat.mod_mod,←Nat.mul_mod,←Aq]
theorem zf(mask:Nat):∀(n i p:Nat),(dS mask (n+1) i p).1<mask+1
 |0,i,p=>l7 _ (qT _)
 |n+1,i,p=>zf mask n _ _
theorem Bk{mask:Nat}{owner:Array (Option Nat)}:∀(bO i p:Nat),(∃t,t<bO/\(owner.getD (dS mask t i p).1 (aa 0)).isNone=ah)->∃j,nk mask owner bO i p=aa j/\(owner.getD j (aa 0)).isNone=ah
 |0,i,p,⟨t,h,_⟩=>absurd h (l8 _)
 |bO+1,i,p,⟨t,h,e⟩=>by
  unfold nk;cases q:(bX (eO mask i+1-i)).find? (λk=>(owner.getD (i+k) (aa 0)).isNone)with
  |some k=>exact⟨i+k,rfl,by have:=List.find?_some q;exact this⟩
  |none=>
   cases t with
   |zero=>have:=As.mp q 0 (by rw[kX];unfold eO;split <;> lia);exact absurd (show(owner.getD (i+0) (aa 0)).isNone=ah from e) this
   |succ t=>exact Bk bO _ _ ⟨t,∅,e⟩
theorem GC{mask q:Nat}{owner:Array (Option Nat)}(hm:mask+1=2^q)(hs:owner.size=mask+1){y:Nat}(hy:y<owner.size)(he:owner[y]?=aa ae)(i p:Nat)(hp:p<2^64):∃j,nk mask owner (oO mask) i p=aa j/\owner[j]?=aa ae:=by
 obtain⟨n,hn,e⟩:=D4 q (dS mask 13 i p).1 y (by rw[←hm,←hs];exact hy);have h0:(dS mask 13 i p).2=0:=by rw[yC];exact Nat.div_eq_of_lt (fN hp (by decide))
 have ba:(dS mask (13+n) i p).1<mask+1:=by rw[show 13+n=(12+n)+1 by lia];exact zf mask _ _ _
 have e1:(dS mask (13+n) i p).1=y:=by
  have e2:(dS mask (13+n) i p).1 % (mask+1)=y:=by rw[xH,h0,yx,hm];exact e
  rwa[wQ ba]at e2
 obtain⟨j,f1,f2⟩:=Bk (mask:=mask) (owner:=owner) (oO mask) i p ⟨13+n,by unfold oO;lia,by rw[e1,tE,he];rfl⟩;refine⟨j,f1,?_⟩;rw[tE]at f2;cases hj:owner[j]? with
 |none=>rw[hj]at f2;cases f2
 |some o=>
  rw[hj]at f2;cases o with
  |none=>rfl
  |some v=>cases f2
theorem D5:∀(l:List (Option Nat)) (j k:Nat),l[j]?=aa ae->((l.set j (aa k)).filterMap id).Perm (k::l.filterMap id)
 |[],j,k,h=>by simp at h
 |x::l,0,k,h=>by simp at h;subst h;simp
 |x::l,j+1,k,h=>by
  have ih:=D5 l j k (by simpa using h);cases x with
  |none=>simpa using ih
  |some v=>simp only[List.set_cons_succ,kY,id];exact(ih.cons v).trans (List.Perm.swap ..)
theorem Db:∀(l:List (Option Nat)),(∀y,y<l.length->l[y]?≠aa ae)->(l.filterMap id).length=l.length
 |[],_=>rfl
 |x::l,h=>by
  have ih:=Db l λy hy e=>h (y+1) (by simp;lia) (by simpa using e);cases x with
  |none=>exact absurd rfl (h 0 (by simp))
  |some v=>simp[ih]
def Laid(mask:Nat)(owner:Array (Option Nat))(k:Nat):Prop:=owner.size=mask+1/\(owner.toList.filterMap id).Perm (bX k)
theorem M7{mask q k:Nat}{owner:Array (Option Nat)}(hm:mask+1=2^q)(L:Laid mask owner k)(hk:k<mask+1)(h:Int):∃j,nk mask owner (oO mask) (dE h % (mask+1)) (dE h)=aa j/\Laid mask (owner.setIfInBounds j (aa k)) (k+1):=by
 obtain⟨hs,hp⟩:=L;have:∃y,y<owner.toList.length/\owner.toList[y]?=aa ae:=by
  by_cases z:∃y,y<owner.toList.length/\owner.toList[y]?=aa ae
  ·exact z
  ·have:=Db owner.toList λy hy e=>z ⟨y,hy,e⟩;have:=hp.length_eq;simp at this;simp at *;lia
 obtain⟨y,hy,he⟩:=this;have hb:dE h<2^64:=by unfold dE;have:=wR h (show(0:Int)<2^64 by decide);have:=wS h (show(2^64:Int)≠0 by decide);lia
 obtain⟨j,f1,f2⟩:=GC hm hs (by simpa using hy) (by simpa using he) (dE h % (mask+1)) _ hb;refine⟨j,f1,by simpa using hs,?_⟩;rw[Array.toList_setIfInBounds,oJ];exact(D5 owner.toList j k (by simpa using f2)).trans ((hp.cons k).trans (List.perm_append_singleton ..).symm)
theorem below_go{xs:Array Nat}{j:Nat}(hx:xs.toList.Pairwise (· < ·)):∀(bO lo hi:Nat),hi-lo<=bO->lo<=hi->hi<=xs.size -> (∀i (h:i<xs.size),i<lo->xs[i]<j)->(∀i (h:i<xs.size),hi<=i->j<=xs[i]) -> qO xs j bO lo hi<=xs.size/\(∀i (h:i<xs.size),i<qO xs j bO lo hi->xs[i]<j)/\∀i (h:i<xs.size),qO xs j bO lo hi<=i->j<=xs[i]
 |0,lo,hi,h,hl,hs,h1,h2=>by
  have:lo=hi:=∅
  subst this;exact⟨hs,h1,h2⟩
 |bO+1,lo,hi,h,hl,hs,h1,h2=>by
  unfold qO;split
  ·rename_i ba;have hm:(lo+hi) / 2<xs.size:=∅
   have mono:∀a b (ha:a<xs.size) (hb:b<xs.size),a<b->xs[a]<xs[b]:=λa b ha hb iD=>by have:=qS.mp hx a b (by simpa using ha) (by simpa using hb) iD;simpa using this
   have hg:xs.getD ((lo+hi) / 2) j=xs[(lo+hi) / 2]:=by simp[Array.getD,hm]
   dsimp only;rw[hg];split
   ·rename_i hc;refine below_go hx bO _ _ ∅ ∅ hs (λi gL hlo=>?_) h2;by_cases e:i=(lo+hi) / 2
    ·subst e;exact hc
    ·have:=mono i _ gL hm ∅;lia
   ·rename_i hc;refine below_go hx bO _ _ ∅ ∅ ∅ h1 (λi gL hlo=>?_);by_cases e:i=(lo+hi) / 2
    ·subst e;lia
    ·have:=mono _ i hm gL ∅;lia
  ·have:lo=hi:=∅
   subst this;exact⟨hs,h1,h2⟩
theorem below_ok{xs:Array Nat}(hx:xs.toList.Pairwise (· < ·))(j:Nat):gG xs j<=xs.size/\(∀i (h:i<xs.size),i<gG xs j->xs[i]<j)/\∀i (h:i<xs.size),gG xs j<=i->j<=xs[i] :=below_go hx xs.size 0 xs.size ∅ ∅ (a9 _) (λi _ h=>absurd h (l8 _)) λi h h'=>absurd h ∅
structure TOk(t:bT):Prop where
 dm:t.dummies=#[]
 ris:t.place.toList.Pairwise (· < ·)
 le:∀j∈t.place.toList,j<=t.mask
 sz:t.mask∈[7,31,127,511,2047,8191]
 roomy:t.place.size*5<t.mask*3
theorem TOk.pow{t:bT}(h:TOk t):∃q,t.mask+1=2^q:=by
 have:=h.sz;simp only[bG,gf,or_false]at this;rcases this with e|e|e|e|e|e <;> rw[e]
 ·exact⟨3,rfl⟩
 ·exact⟨5,rfl⟩
 ·exact⟨7,rfl⟩
 ·exact⟨9,rfl⟩
 ·exact⟨11,rfl⟩
 ·exact⟨13,rfl⟩
theorem TOk.most{t:bT}(h:TOk t):t.mask<=8191/\7<=t.mask/\t.mask % 2=1:=by have:=h.sz;simp only[bG,gf,or_false]at this;lia
theorem slot_of{t:bT}(dm:t.dummies=#[])(ris:t.place.toList.Pairwise (· < ·))(j:Nat):(j∉t.place.toList/\t.slot j=.empty)\/∃i,t.place[i]?=aa j/\t.slot j=.live i:=by
 obtain⟨b0,b1,b2⟩:=below_ok ris j;unfold SetTable.slot;dsimp only;by_cases hc:t.place[gG t.place j]?=aa j
 ·exact .inr ⟨_,hc,by rw[hc];simp⟩
 ·refine .inl ⟨λhm=>?_,?_⟩
  ·obtain⟨i,hi,e⟩:=l_ hm;have gL:i<t.place.size:=by simpa using hi
   have e':t.place[i]=j:=by simpa using e
   have h1:¬i<gG t.place j:=λz=>by have:=b1 i gL z;lia
   have hb:gG t.place j<t.place.size:=∅
   have h2:=b2 _ hb (a9 _);have:gG t.place j=i:=by
    by_cases q:gG t.place j=i
    ·exact q
    ·have:=qS.mp ris _ i (by simpa using hb) (by simpa using gL) ∅;simp at this;lia
   exact hc (by rw[this,jg gL,e'])
  ·rw[if_neg (by simpa using hc),dm];simp[SetTable.has]
def stp(mask i p:Nat):jh:={j:=i,more:=eO mask i-i,i:=i,perturb:=p,dummy:=ae}
def pth(t:bT):Nat->jh->jh
 |0,p=>p
 |n+1,p=>pth t n (t.advance p)
theorem pth_add(t:bT):∀(m n:Nat) (p:jh),pth t (m+n) p=pth t n (pth t m p)
 |0,n,p=>by rw[qP];rfl
 |m+1,n,p=>by rw[tu];exact pth_add t m n _
theorem pth_succ(t:bT)(n:Nat)(p:jh):pth t (n+1) p=t.advance (pth t n p):=pth_add t n 1 p
theorem adv_dummy(t:bT)(p:jh):(t.advance p).dummy=p.dummy:=by unfold At;split <;> rfl
theorem pth_dummy(t:bT):∀(n:Nat) (p:jh),(pth t n p).dummy=p.dummy
 |0,p=>rfl
 |n+1,p=>(pth_dummy t n _).trans (adv_dummy t p)
theorem pth_mask{t t':bT}(h:t.mask=t'.mask):∀(n:Nat) (p:jh),pth t n p=pth t' n p
 |0,p=>rfl
 |n+1,p=>by
  have:t.advance p=t'.advance p:=by unfold At;rw[h]
  show pth t n (t.advance p)=pth t' n (t'.advance p);rw[this,pth_mask h n]
theorem pth_run(t:bT):∀(k:Nat) (p:jh),k<=p.more->pth t k p={p with j:=p.j+k,more:=p.more-k}
 |0,p,_=>rfl
 |k+1,p,h=>by
  show pth t k (t.advance p)=_;have:t.advance p={p with j:=p.j+1,more:=p.more-1}:=by unfold At;rw[if_pos ∅]
  rw[this,pth_run t k _ (by dsimp only;lia)];dsimp only;rw[show p.j+1+k=p.j+(k+1) by lia,show p.more-1-k=p.more-(k+1) by lia]
theorem run_le(mask i:Nat):eO mask i-i<=9:=by unfold eO;split <;> lia
theorem pth_leap(t:bT)(i p:Nat):pth t (eO t.mask i-i+1) (stp t.mask i p)=stp t.mask (lh t.mask i p).1 (lh t.mask i p).2:=by rw[pth_succ,pth_run t (eO t.mask i-i) (stp t.mask i p) (a9 _)];exact(if_neg (show ¬(eO t.mask i-i-(eO t.mask i-i) > 0) by lia)).trans rfl
theorem pth_orb(t:bT):∀(m i p:Nat),∃n,n<=10*m/\pth t n (stp t.mask i p)=stp t.mask (dS t.mask m i p).1 (dS t.mask m i p).2
 |0,i,p=>⟨0,a9 _,rfl⟩
 |m+1,i,p=>by obtain⟨n,h1,h2⟩:=pth_orb t m (lh t.mask i p).1 (lh t.mask i p).2;refine⟨eO t.mask i-i+1+n,by have:=run_le t.mask i;lia,?_⟩;rw[pth_add,pth_leap];exact h2
theorem nat_len_sub:∀{l m:List Nat},l.Nodup->(∀x∈l,x∈m)->l.length<=m.length
 |[],m,_,_=>k_ _
 |x::l,m,nd,h=>by
  have hx:x∈m:=h x (eN ..);have nd':=jd.mp nd;have:=nat_len_sub (l:=l) (m:=m.erase x) nd'.2 λy hy=>by have:y≠x:=λe=>nd'.1 (e ▸ hy);exact(List.mem_erase_of_ne this).mpr (h y (dN _ hy))
  rw[Au hx]at this;have:0<m.length:=List.length_pos_of_mem hx;simp;lia
theorem bits_lt(h:Int):dE h<2^64:=by unfold dE;have:=wR h (show(0:Int)<2^64 by decide);have:=wS h (show(2^64:Int)≠0 by decide);lia
theorem pth_empty{t:bT}(ok:TOk t)(h:Int):∃n,n<=10*(t.mask+14)/\(pth t n (t.probeStart h)).j∉t.place.toList:=by
 obtain⟨q,hm⟩:=ok.pow;have:∃y,y<t.mask+1/\y∉t.place.toList:=by
  by_cases z:∃y,y<t.mask+1/\y∉t.place.toList
  ·exact z
  ·have:=nat_len_sub (l:=bX (t.mask+1)) (m:=t.place.toList) List.nodup_range λx hx=>by
    by_cases hc:x∈t.place.toList
    ·exact hc
    ·exact absurd ⟨x,kX.mp hx,hc⟩ z
   have:=ok.roomy;simp at *;lia
 obtain⟨y,hy,he⟩:=this;obtain⟨n,hn,e⟩:=D4 q (dS t.mask 13 (dE h % (t.mask+1)) (dE h)).1 y ∅;have h0:(dS t.mask 13 (dE h % (t.mask+1)) (dE h)).2=0:=by rw[yC];exact Nat.div_eq_of_lt (fN (bits_lt h) (by decide))
 have ba:(dS t.mask (13+n) (dE h % (t.mask+1)) (dE h)).1<t.mask+1:=by rw[show 13+n=(12+n)+1 by lia];exact zf t.mask _ _ _
 have e1:(dS t.mask (13+n) (dE h % (t.mask+1)) (dE h)).1=y:=by
  have e2:(dS t.mask (13+n) (dE h % (t.mask+1)) (dE h)).1 % (t.mask+1)=y:=by rw[xH,h0,yx];generalize (dS t.mask 13 (dE h % (t.mask+1)) (dE h)).1=z at e ⊢;rw[hm];exact e
  rwa[wQ ba]at e2
 obtain⟨k,hk,ek⟩:=pth_orb t (13+n) (dE h % (t.mask+1)) (dE h);refine⟨k,∅,?_⟩;show(pth t k (stp t.mask (dE h % (t.mask+1)) (dE h))).j∉_;rw[ek];show(dS t.mask (13+n) _ _).1∉_;rw[e1];exact he
theorem least{p:Nat->Prop}:∀(n:Nat),p n->∃m,m<=n/\p m/\∀k,k<m->¬p k
 |0,h=>⟨0,a9 _,h,λk hk=>absurd hk (l8 _)⟩
 |n+1,h=>by
  by_cases z:∃m,m<=n/\p m/\∀k,k<m->¬p k
  ·obtain⟨m,a,b,c⟩:=z;exact⟨m,∅,b,c⟩
  ·refine⟨n+1,a9 _,h,λk hk hp=>z ?_⟩;obtain⟨m,a,b,c⟩:=least k hp;exact⟨m,∅,b,c⟩
theorem go_met{t:bT}(dm:t.dummies=#[])(ris:t.place.toList.Pairwise (· < ·))(oP:Nat->Int)(h:Int):∀(bO n:Nat) (p:jh),n<bO->p.dummy=ae->(pth t n p).j∉t.place.toList->(∀k,k<n->(pth t k p).j∈t.place.toList) -> ((tF t oP h bO p=aa (.empty (pth t n p).j ae)/\∀k i,k<n->t.place[i]?=aa (pth t k p).j->t.slot (pth t k p).j=.live i->oP i≠h) \/ ∃m i,m<n/\t.place[i]?=aa (pth t m p).j/\t.slot (pth t m p).j=.live i/\oP i=h/\tF t oP h bO p=aa (.candidate (pth t m p).j i (pth t (m+1) p))/\∀k i,k<m->t.slot (pth t k p).j=.live i->oP i≠h)
 |0,n,p,hf,_,_,_=>absurd hf (l8 _)
 |bO+1,0,p,hf,hd,he,_=>by
  left;refine⟨?_,λk i hk=>absurd hk (l8 _)⟩;rcases slot_of dm ris p.j with⟨_,e⟩|⟨i,e,_⟩
  ·unfold tF;rw[e,hd];rfl
  ·exact absurd (mW (show t.place.toList[i]?=aa p.j by simpa using e)) he
 |bO+1,n+1,p,hf,hd,he,hb=>by
  rcases slot_of dm ris p.j with⟨e,_⟩|⟨i,e1,e2⟩
  ·exact absurd (hb 0 (qT _)) e
  ·unfold tF;rw[e2];dsimp only;by_cases hc:oP i=h
   ·right;refine⟨0,i,qT _,e1,e2,hc,?_,λk i hk=>absurd hk (l8 _)⟩;rw[if_pos (by simpa using hc)];rfl
   ·rw[if_neg (by simpa using hc)];rcases go_met dm ris oP h bO n (t.advance p) ∅ ((adv_dummy t p).trans hd) he (λk hk=>hb (k+1) ∅)with⟨g1,g2⟩|⟨m,i',g1,g2,g3,g4,g5,g6⟩
    ·refine .inl ⟨g1,λk i' hk h1 h2=>?_⟩;cases k with
     |zero=>
      have:i'=i:=by have cT:t.slot p.j=.live i':=h2;rw[e2]at cT;injection cT with z;exact z.symm
      subst this;exact hc
     |succ k=>exact g2 k i' ∅ h1 h2
    ·refine .inr ⟨m+1,i',∅,g2,g3,g4,g5,λk i' hk h2=>?_⟩;cases k with
     |zero=>
      have:i'=i:=by have cT:t.slot p.j=.live i':=h2;rw[e2]at cT;injection cT with z;exact z.symm
      subst this;exact hc
     |succ k=>exact g6 k i' ∅ h2
theorem ins_list{α:Type}(xs:Array α)(p:Nat)(x:α):(oK xs p x).toList=xs.toList.take p++x::xs.toList.drop p:=by unfold oK;simp[hZ,qK,Array.toList_extract,List.extract,qC];exact wx (by simp)
theorem zip_ins{α β:Type}{a:List α}{b:List β}(h:a.length=b.length)(p:Nat)(x:α)(y:β)(q:α×β):q∈(a.take p++x::a.drop p).zip (b.take p++y::b.drop p)↔q=(x,y)\/q∈a.zip b:=by
 rw[List.zip_append (by simp[h]),gb,Av,bG];have:a.zip b=(a.take p).zip (b.take p)++(a.drop p).zip (b.drop p):=by rw[←List.zip_append (by simp[h]),nj,nj]
 rw[this,gb];constructor
 ·rintro(h|h|h)
  ·exact .inr (.inl h)
  ·exact .inl h
  ·exact .inr (.inr h)
 ·rintro(h|h|h)
  ·exact .inr (.inl h)
  ·exact .inl h
  ·exact .inr (.inr h)
def Rch(t:bT)(pl:List Nat)(j:Nat)(h:Int):Prop:=∃n,(pth t n (t.probeStart h)).j=j/\∀k,k<n->(pth t k (t.probeStart h)).j∈pl
structure TPl(t:bT)(hs:List Int):Prop where
 ok:TOk t
 len:t.place.size=hs.length
 rch:∀q∈t.place.toList.zip hs,Rch t t.place.toList q.1 q.2
theorem put_ris{pl:Array Nat}(ris:pl.toList.Pairwise (· < ·)){j:Nat}(hj:j∉pl.toList):(oK pl (gG pl j) j).toList.Pairwise (· < ·):=by
 obtain⟨b0,b1,b2⟩:=below_ok ris j;rw[ins_list];have up:∀y∈pl.toList.drop (gG pl j),j<y:=λy hy=>by
  obtain⟨k,hk,e⟩:=l_ hy;rw[wN]at e;rw[j8,g_]at hk;have h1:=b2 (gG pl j+k) ∅ ∅;have e':pl[gG pl j+k]'∅=y:=by simpa using e
  rw[e']at h1;have:y∈pl.toList:=List.mem_of_mem_drop hy;have:j≠y:=λz=>hj (z ▸ this);lia
 have dn:∀x∈pl.toList.take (gG pl j),x<j:=λx hx=>by
  obtain⟨k,hk,e⟩:=l_ hx;rw[Ak]at e;rw[mU,g_]at hk;have h1:=b1 k ∅ ∅;have e':pl[k]'∅=x:=by simpa using e
  lia
 refine Aj.mpr ⟨ris.sublist (List.take_sublist _ _),List.pairwise_cons.mpr ⟨up,ris.sublist (List.drop_sublist _ _)⟩,λx hx y hy=>?_⟩;rcases bG.mp hy with rfl|hy
 ·exact dn x hx
 ·exact qF (dn x hx) (up y hy)
theorem Rch.up{t t':bT}{pl pl':List Nat}{j:Nat}{h:Int}(hm:t.mask=t'.mask)(hs:∀x∈pl,x∈pl')(r:Rch t pl j h):Rch t' pl' j h:=by
 obtain⟨n,e,f⟩:=r;have es:t'.probeStart h=t.probeStart h:=by unfold SetTable.probeStart;rw[hm]
 exact⟨n,by rw[es,←pth_mask hm];exact e,λk hk=>by rw[es,←pth_mask hm];exact hs _ (f k hk)⟩
theorem put_tp{t:bT}{hs:List Int}(T:TPl t hs)(h:Int){n:Nat}(he:(pth t n (t.probeStart h)).j∉t.place.toList)(hb:∀k,k<n->(pth t k (t.probeStart h)).j∈t.place.toList)(hl:(pth t n (t.probeStart h)).j<=t.mask):let t':=(t.put (pth t n (t.probeStart h)).j).1
  let nA:=hs.take (t.put (pth t n (t.probeStart h)).j).2++h::hs.drop (t.put (pth t n (t.probeStart h)).j).2
  t'.dummies=#[]/\t'.place.toList.Pairwise (· < ·)/\(∀j∈t'.place.toList,j<=t'.mask)/\t'.mask=t.mask/\t'.place.size=t.place.size+1/\nA.length=hs.length+1 /\
   ∀q∈t'.place.toList.zip nA,Rch t' t'.place.toList q.1 q.2:=by
 intro t' nA;have e1:t'.place.toList=t.place.toList.take (gG t.place (pth t n (t.probeStart h)).j)++(pth t n (t.probeStart h)).j::t.place.toList.drop (gG t.place (pth t n (t.probeStart h)).j):=ins_list _ _ _;have mem:∀x,x∈t'.place.toList↔x=(pth t n (t.probeStart h)).j\/x∈t.place.toList:=λx=>by
  rw[e1,gb,bG];have:=congrArg (x∈·) (nj (gG t.place (pth t n (t.probeStart h)).j) t.place.toList);simp only[gb,eq_iff_iff]at this;rw[←this];constructor
  ·rintro(h|h|h)
   ·exact .inr (.inl h)
   ·exact .inl h
   ·exact .inr (.inr h)
  ·rintro(h|h|h)
   ·exact .inr (.inl h)
   ·exact .inl h
   ·exact .inr (.inr h)
 have Fj:t'.mask=t.mask:=rfl;have bz:t.place.toList.length=hs.length:=by have:=T.len;simpa using this
 refine⟨?_,put_ris T.ok.ris he,λj hj=>?_,rfl,?_,?_,λq hq=>?_⟩
 ·show(if SetTable.has t.dummies _ then _ else t.dummies)=#[];rw[T.ok.dm];simp[SetTable.has]
 ·rcases(mem j).mp hj with rfl|hj
  ·exact hl
  ·exact T.ok.le j hj
 ·rw[←g_,e1];simp;lia
 ·show(hs.take _++h::hs.drop _).length=_;simp;lia
 ·rw[e1]at hq;rcases(zip_ins bz _ _ _ q).mp hq with rfl|hq
  ·exact⟨n,by rw[pth_mask Fj];rfl,λk hk=>by rw[pth_mask Fj];exact(mem _).mpr (.inr (hb k hk))⟩
  ·exact(T.rch q hq).up Fj.symm λx hx=>(mem x).mpr (.inr hx)
theorem adv_le{t:bT}{p:jh}(h:p.j+p.more<=t.mask):(t.advance p).j+(t.advance p).more<=t.mask:=by
 unfold At;split
 ·dsimp only;lia
 ·show(lh t.mask p.i p.perturb).1+(eO t.mask (lh t.mask p.i p.perturb).1-(lh t.mask p.i p.perturb).1)<=t.mask;have:(lh t.mask p.i p.perturb).1<t.mask+1:=l7 _ (qT _);generalize (lh t.mask p.i p.perturb).1=i at *;unfold eO;split <;> lia
theorem pth_le{t:bT}:∀(n:Nat) {p:jh},p.j+p.more<=t.mask->(pth t n p).j+(pth t n p).more<=t.mask
 |0,p,h=>h
 |n+1,p,h=>pth_le n (adv_le h)
theorem stp_le{mask i p:Nat}(h:i<mask+1):(stp mask i p).j+(stp mask i p).more<=mask:=by show i+(eO mask i-i)<=mask;unfold eO;split <;> lia
theorem start_le(t:bT)(h:Int)(n:Nat):(pth t n (t.probeStart h)).j<=t.mask:=by have:=pth_le (t:=t) n (p:=t.probeStart h) (stp_le (p:=dE h) (l7 (dE h) (qT t.mask)));lia
def Occ(owner:Array (Option Nat))(j:Nat):Prop:=∃k,owner[j]?=aa (aa k)
theorem free_path(t:bT){owner:Array (Option Nat)}(hs:owner.size=t.mask+1):∀(bO i p j:Nat),i<t.mask+1->nk t.mask owner bO i p=aa j -> ∃n,(pth t n (stp t.mask i p)).j=j/\∀k,k<n->Occ owner (pth t k (stp t.mask i p)).j
 |0,i,p,j,_,h=>by unfold nk at h;cases h
 |bO+1,i,p,j,hi,h=>by
  have occ:∀k,k<=eO t.mask i-i->(owner.getD (i+k) (aa 0)).isNone=aj->Occ owner (i+k):=λk hk e=>by
   have ba:i+k<owner.size:=by have:=stp_le (p:=p) hi;have:i+(eO t.mask i-i)<=t.mask:=this;lia
   rw[tE,jg ba]at e;unfold Occ;rw[jg ba];cases q:owner[i+k]with
   |none=>rw[q]at e;cases e
   |some v=>exact⟨v,rfl⟩
  have at_:∀k,k<=eO t.mask i-i->(pth t k (stp t.mask i p)).j=i+k:=λk hk=>by rw[pth_run t k (stp t.mask i p) hk];rfl
  unfold nk at h;cases q:(bX (eO t.mask i+1-i)).find? (λk=>(owner.getD (i+k) (aa 0)).isNone)with
  |some k=>
   rw[q]at h;cases h;obtain⟨_,as,bs,e1,e2⟩:=List.find?_eq_some_iff_append.mp q;have hk:k<eO t.mask i+1-i:=kX.mp (List.mem_of_find?_eq_some q);refine⟨k,at_ k ∅,λm hm=>?_⟩;rw[at_ m ∅];refine occ m ∅ ?_;have:m∈as:=by
    have hl:as.length=k:=by have:=congrArg (λl=>l[as.length]?) e1;simp only[mV (a9 _),Ah,List.getElem?_cons_zero]at this;rw[df]at this;obtain⟨hh,e⟩:=this;rw[List.getElem_range]at e;exact e
    have:=congrArg (λl=>l[m]?) e1;rw[gF ∅,wu ∅]at this;exact mW this.symm
   have:=e2 m this;cases q2:(owner.getD (i+m) (aa 0)).isNone with
   |false=>rfl
   |true=>rw[q2]at this;cases this
  |none=>
   rw[q]at h;obtain⟨n,f1,f2⟩:=free_path t hs bO _ _ j (l7 _ (qT _)) h;refine⟨eO t.mask i-i+1+n,by rw[pth_add,pth_leap];exact f1,λk hk=>?_⟩;by_cases hc:k<eO t.mask i-i+1
   ·rw[at_ k ∅];refine occ k ∅ ?_;have:=As.mp q k (kX.mpr (by unfold eO at hc ⊢;split at hc <;> split <;> lia));exact wJ.mpr this
   ·have e:k=eO t.mask i-i+1+(k-(eO t.mask i-i+1)):=∅
    rw[e,pth_add,pth_leap];exact f2 _ ∅
def LaidR(t:bT)(owner:Array (Option Nat))(hs:List Int):Prop:=∀(j k:Nat),owner[j]?=aa (aa k)->∃h,hs[k]?=aa h/\∃n,(pth t n (t.probeStart h)).j=j/\∀m,m<n->Occ owner (pth t m (t.probeStart h)).j
theorem layClean_ok2(t:bT){q:Nat}(hm:t.mask+1=2^q)(NX:Array Int)(hn:NX.size<=t.mask):∃owner,zZ t.mask NX=aa owner/\Laid t.mask owner NX.size/\LaidR t owner NX.toList:=by
 unfold zZ;have gen:∀(l pre:List Int) (owner:Array (Option Nat)),Laid t.mask owner pre.length->LaidR t owner pre->pre.length+l.length<=t.mask+1->∃owner',l.foldl (λaH h=>do
   let (owner,k) ←aH
   let j ←nk t.mask owner (oO t.mask) (dE h % (t.mask+1)) (dE h)
   pure (owner.setIfInBounds j (aa k),k+1)) (aa (owner,pre.length))=aa (owner',(pre++l).length)/\Laid t.mask owner' (pre++l).length/\LaidR t owner' (pre++l):=by
  intro l
  induction l with
  |nil=>intro pre owner L R _;rw[hG];exact⟨owner,rfl,L,R⟩
  |cons h l ih=>
   intro pre owner L R hk;simp only[fg]at hk;obtain⟨j,f1,L2⟩:=M7 hm L ∅ h;obtain⟨n,p1,p2⟩:=free_path t L.1 _ _ _ _ (l7 _ (qT _)) f1;have hjl:j<owner.size:=by rw[L.1,←p1];exact Nat.lt_succ_of_le (start_le t h n)
   have grow:∀x,Occ owner x->Occ (owner.setIfInBounds j (aa pre.length)) x:=λx ⟨k,e⟩=>by
    unfold Occ;rw[Array.getElem?_setIfInBounds];by_cases hx:j=x
    ·rw[if_pos hx,if_pos ∅];exact⟨_,rfl⟩
    ·rw[if_neg hx];exact⟨k,e⟩
   have R2:LaidR t (owner.setIfInBounds j (aa pre.length)) (pre++[h]):=λx k e=>by
    rw[Array.getElem?_setIfInBounds]at e;by_cases hx:j=x
    ·subst hx;rw[if_pos rfl,if_pos ∅]at e;cases e;exact⟨h,by simp,n,p1,λm uk=>grow _ (p2 m uk)⟩
    ·rw[if_neg hx]at e;obtain⟨h',e1,n',e2,e3⟩:=R x k e;have mn:k<pre.length:=(df.mp e1).1;exact⟨h',by rw[gF mn];exact e1,n',e2,λm uk=>grow _ (e3 m uk)⟩
   have L2':Laid t.mask (owner.setIfInBounds j (aa pre.length)) (pre++[h]).length:=by rw[ef];exact L2
   obtain⟨owner',e,L3,R3⟩:=ih (pre++[h]) _ L2' R2 (by simp;lia);refine⟨owner',?_,by simpa using L3,by simpa using R3⟩;rw[k9];show l.foldl _ ((nk t.mask owner (oO t.mask) (dE h % (t.mask+1)) (dE h)).bind λj=>aa (owner.setIfInBounds j (aa pre.length),pre.length+1))=_;rw[f1];have e':=e;rw[qC]at e';rw[ef]at e';exact e'
 obtain⟨owner',e,L,R⟩:=gen NX.toList [] (Array.replicate (t.mask+1) ae) ⟨by simp,by simp⟩ (λj k e=>by
  rw[Array.getElem?_replicate]at e;split at e <;> cases e) (by simp;lia)
 refine⟨owner',?_,by simpa using L,by simpa using R⟩;rw[←Array.foldl_toList];have e':=congrArg (Option.map (·.1)) e;exact e'
theorem laid_tp{mask:Nat}(finger moves:Nat)(led plain:Bool){q:Nat}(hm:mask+1=2^q)(hz:mask∈[7,31,127,511,2047,8191])(es:Array (Int×ai))(hn:es.size*5<mask*3):∃t order,zY mask finger moves led plain (es.map (·.1))=aa (t,order)/\t.led=led/\t.plain=plain/\t.mask=mask/\t.moves=moves/\(order.filterMap (es[·]?)).toList.Perm es.toList/\TPl t ((order.filterMap (es[·]?)).toList.map (·.1)):=by
 let t0:bT:={mask:=mask,place:=#[],dummies:=#[],finger:=finger,led:=led,moves:=moves,plain:=plain}
 obtain⟨owner,e,L,R⟩:=layClean_ok2 t0 (q:=q) hm (es.map (·.1)) (by show(es.map _).size<=mask;simp;lia)
 let live:=(bX (mask+1)).filterMap λj=>(owner.getD j ae).map (j,·)
 let t:bT:={mask:=mask,place:=(live.map (·.1)).toArray,dummies:=#[],finger:=finger,led:=led,moves:=moves,plain:=plain}
 have eL:zY mask finger moves led plain (es.map (·.1))=aa (t,(live.map (·.2)).toArray):=by unfold zY;have e':zZ mask (es.map (·.1))=aa owner:=e;rw[e'];rfl
 have memL:∀x:Nat×Nat,x∈live↔x.1<mask+1/\owner[x.1]?=aa (aa x.2):=λx=>by
  show x∈(bX (mask+1)).filterMap _↔_;rw[Ex];constructor
  ·rintro⟨j,hj,e⟩;have gk:j<owner.size:=by rw[L.1];exact kX.mp hj
   rw[tE,jg gk]at e;simp only[wT,zR]at e;obtain⟨k,e1,rfl⟩:=e;exact⟨kX.mp hj,by rw[jg gk,e1]⟩
  ·rintro⟨h1,h2⟩;exact⟨x.1,kX.mpr h1,by rw[tE,h2];rfl⟩
 have e2:live.map (·.2)=owner.toList.filterMap id:=by
  show((bX (mask+1)).filterMap _).map _=_;rw[EW];have:owner.toList=(bX (mask+1)).map λj=>owner.getD j ae:=by
   refine tq λi=>?_;rw[jD];by_cases hi:i<mask+1
   ·rw[wu hi];simp[tE,show i<owner.size by rw[L.1];exact hi]
   ·rw[nh (by rw[g_,L.1];show mask+1<=i;lia),nh (by simpa using hi)];rfl
  rw[this,List.filterMap_map];refine fm_congr' λj _=>?_;show Option.map (λx=>x.snd) (Option.map (λx=>(j,x)) (owner.getD j ae))=owner.getD j ae;cases owner.getD j ae <;> rfl
 have pOrd:(live.map (·.2)).Perm (bX es.size):=by rw[e2];have:=L.2;simpa using this
 have ba:∀k∈live.map (·.2),k<es.size:=λk hk=>kX.mp (pOrd.mem_iff.mp hk);have fmE:∀l:List (Nat×Nat),(∀x∈l,x.2<es.size)->((l.map (·.2)).filterMap (es[·]?)).map (·.1)=l.map λx=>((es[x.2]?).map (·.1)).getD 0:=by
  intro l
  induction l with
  |nil=>intro _;rfl
  |cons x r ih=>intro h;have hx:=h x (eN ..);rw[eh,kY,jg hx];dsimp only;rw[eh,eh,ih λy hy=>h y (dN _ hy),jg hx];rfl
 have Fp:∀x∈live,x.2<es.size:=λx hx=>ba _ (bP.mpr ⟨x,hx,rfl⟩);have toL:(((live.map (·.2)).toArray).filterMap (es[·]?)).toList=(live.map (·.2)).filterMap (es[·]?):=by simp
 have pE:((live.map (·.2)).filterMap (es[·]?)).Perm es.toList:=by have:=pOrd.filterMap (es[·]?);rwa[filterMap_getElem?_range]at this
 have plen:live.length=es.size:=by have:=pOrd.length_eq;simpa using this
 have mpl:∀x,Occ owner x->x∈t.place.toList:=λx ⟨k,hk⟩=>by
  show x∈(live.map (·.1)).toArray.toList;have hx:x<mask+1:=by have:=(lc.mp hk).1;rw[L.1]at this;exact this
  exact bP.mpr ⟨(x,k),(memL _).mpr ⟨hx,hk⟩,rfl⟩
 refine⟨t,_,eL,rfl,rfl,rfl,rfl,by rw[toL];exact pE,⟨⟨rfl,?_,λj hj=>?_,hz,?_⟩,?_,λx hx=>?_⟩⟩
 ·show(live.map (·.1)).Pairwise (· < ·);have sub:(live.map (·.1)).Sublist (bX (mask+1)):=by
   show(((bX (mask+1)).filterMap _).map _).Sublist _;rw[EW];refine fm_sub _ λj k e=>?_;rw[Option.map_map]at e;cases q:owner.getD j ae with
   |none=>rw[q]at e;cases e
   |some v=>rw[q]at e;exact(dW e).symm
  exact List.pairwise_lt_range.sublist sub
 ·have gk:j∈live.map (·.1):=hj;obtain⟨x,hx,rfl⟩:=bP.mp gk;exact Nat.le_of_lt_succ ((memL x).mp hx).1
 ·show(live.map (·.1)).toArray.size*5<mask*3;simp[plen];exact hn
 ·rw[toL];show(live.map (·.1)).toArray.size=_;rw[fmE live Fp];simp
 ·rw[toL,fmE live Fp]at hx;have rg:x∈(live.map (·.1)).zip (live.map λx=>((es[x.2]?).map (·.1)).getD 0):=hx;rw[List.zip_map']at rg;obtain⟨y,hy,rfl⟩:=bP.mp rg;obtain⟨h1,h2⟩:=(memL y).mp hy;obtain⟨h,g1,n,g2,g3⟩:=R _ _ h2;have g1':((es[y.2]?).map (·.1))=aa h:=by have:(es.map (·.1)).toList[y.2]?=aa h:=g1;simpa using this
  show Rch t t.place.toList y.1 (((es[y.2]?).map (·.1)).getD 0);rw[g1'];have tZ:t0.mask=t.mask:=rfl;refine Rch.up (t:=t0) tZ (λx hx=>hx) ⟨n,g2,λm uk=>mpl _ (g3 m uk)⟩
where
 fm_congr' {α β:Type}{f g:α->Option β}:∀{l:List α},(∀k∈l,f k=g k)->l.filterMap f=l.filterMap g
  |[],_=>rfl
  |x::l,h=>by rw[kY,kY,h x (eN ..),fm_congr' λk hk=>h k (dN _ hk)]
 fm_sub {f:Nat->Option Nat}:∀(l:List Nat),(∀j k,f j=aa k->k=j)->(l.filterMap f).Sublist l
  |[],_=>.slnil
  |x::l,h=>by
   rw[kY];cases q:f x with
   |none=>exact(fm_sub l h).cons _
   |some k=>rw[h x k q];exact(fm_sub l h).cons₂ _
section
variable{P:aM}{w:aF}{A:aO}{E:ai->am->Prop}{s:am}
structure Keyd(P:aM)(w:aF)(K:Type)[DecidableEq K] where
 is:aA->K->ai->Prop
 hash:K->Int
 room:aO->Prop
 keep:∀{h h':aA}{k:K}{v:ai},is h k v->(∀b o,h.get? b=aa o->o.cls=.type "tuple"->h'.get? b=aa o)->is h' k v
 ref:∀{h:aA}{k:K}{v:ai},is h k v->∃a o,v=.ref a/\h.get? a=aa o
 eqBool:∀{A:aO}{E:ai->am->Prop}{s:am}{x y:K}{u v:ai}{Q:Bool->am->Prop},room A->is s.heap x u->is s.heap y v->Q (decide (x=y)) s->aq (aw P w) A (PySem.eqBool u v) Q E s
 quiet:∀{A:aO}{E:ai->am->Prop}{s:am}{k:K}{v:ai}{Q:Bool->am->Prop},is s.heap k v->Q ah s->aq (aw P w) A (tG 8 v) Q E s
 cls:∀{A:aO}{E:ai->am->Prop}{s:am}{k:K}{v:ai}{Q:Bool->am->Prop},is s.heap k v->Q aj s->aq (aw P w) A (tI 8 v) Q E s
 hbv:∀{A:aO}{E:ai->am->Prop}{s:am}{k:K}{v:ai}{Q:Bool->am->Prop},is s.heap k v->Q aj s->aq (aw P w) A (qU 8 v) Q E s
variable{K:Type}[DecidableEq K]{kd:Keyd P w K}
def Els(kd:Keyd P w K)(h:aA)(es:List (Int×ai))(ks:List K):Prop:=es.length=ks.length/\∀q∈es.zip ks,q.1.1=kd.hash q.2/\kd.is h q.2 q.1.2
theorem seen_not{x:ai}{k:K}(hx:kd.is s.heap k x):∀(ys:List ai),(∀y∈ys,∃k,kd.is s.heap k y)->∀{Q:Bool->am->Prop},Q aj s->aq (aw P w) A (E8 x ys) Q E s:=by
 intro ys hy Q q;unfold E8;refine ap ?_;refine tJ _ (λrest r s'=>r.1=ae/\s'=s/\∀y∈rest,∃k,kd.is s.heap k y) _ ?_ ?_ _ _ ⟨rfl,rfl,hy⟩
 ·rintro y rest r s' ⟨hr,rfl,fh⟩;obtain⟨k',hy'⟩:=fh y eN;have next:∀z,z=(ForInStep.yield ((ae:Option Bool),()):ForInStep (Option Bool×Unit))->(∃b',z=ForInStep.yield b'/\b'.1=ae):=λz e=>⟨_,e,rfl⟩
  obtain⟨a,o,rfl,ho⟩:=kd.ref hx;obtain⟨b,o',rfl,gh⟩:=kd.ref hy';dsimp only;split
  ·exact aD ⟨rfl,rfl,λz hz=>fh z (dN _ hz)⟩
  ·refine ap (kd.quiet hx ?_);simp only[ke,eB,if_false];refine ap (kd.quiet hy' ?_);simp only[ke,eB,if_false];refine ap (kd.cls hx ?_);simp only[eB,if_false];refine ap (kd.cls hy' ?_);simp only[eB,if_false];exact aD ⟨rfl,rfl,λz hz=>fh z (dN _ hz)⟩
 ·rintro⟨r1,r2⟩ s' ⟨hr,rfl,_⟩;simp only at hr;subst hr;exact aD q
theorem search_eq(a:af)(x:ai)(h:Int)(adding:Bool)(bO:Nat)(stand:Option jh):qV a x h adding (bO+1) stand=(do
  let (es,_,t) ←setState a
  if t.gaveWay then j_ "set:on-a-table-that-gave-way"
  let aa met:=t.probe (λi=>(es[i]?.map (·.1)).getD 0) h (stand.getD (t.probeStart h))|j_ "internal:set-table-without-an-empty-slot"
  match met with
  |.empty j dummy=>
   match dummy with
   |none=>return .free j aj
   |some d=>
    if adding&&t.slot d != .dummy then rule "set.search.the-dummy-was-taken";return ←qV a x h adding bO ae
    return .free d ah
  |.candidate j i next=>
   if !t.led then
    if ←E8 x ((es.filter (·.1 == h)).toList.map (·.2))then j_ "set:the-search-would-show-the-table"
   let aa (_,y):=es[i]?|j_ "internal:set-entry"
   let equal ←j4 [y] (eqBool y x)
   let (es',_,t') ←setState a
   if adding&&equal then return .there ae
   let aa same:=t'.sameMemory t.moves t.mask|j_ "set.changed-during-lookup:is-the-new-block-at-the-old-address"
   let still ←match (if same then t'.slot j else .empty)with
    |.live i'=>match es'[i']? with
     |some (_,y')=>do pure (if ←isSame y' y then aa i' else ae)
     |none=>pure ae
    |_=>pure ae
   match still with
   |none=>rule "set.search.anew";qV a x h adding bO ae
   |some i'=>if equal then return .there (aa i')else qV a x h adding bO (aa next)):=rfl
theorem same_self{a:af}{o:Obj}{Q:Bool->am->Prop}(h:s.heap.get? a=aa o)(q:Q ah s):aq (aw P w) A (isSame (.ref a) (.ref a)) Q E s:=by unfold isSame;dsimp only;rw[if_pos (by simp)];exact aD q
theorem live_at{t:bT}(ok:TOk t){i:Nat}(hi:i<t.place.size):t.slot t.place[i]=.live i:=by
 rcases slot_of ok.dm ok.ris t.place[i]with⟨e,_⟩|⟨i',e1,e2⟩
 ·exact absurd (by simp) e
 ·rw[e2];obtain⟨h1,h2⟩:=lc.mp e1;have:i'=i:=by
   rcases Nat.lt_trichotomy i' i with z|z|z
   ·have:=qS.mp ok.ris i' i (by simpa using h1) (by simpa using hi) z;simp at this;lia
   ·exact z
   ·have:=qS.mp ok.ris i i' (by simpa using hi) (by simpa using h1) z;simp at this;lia
  rw[this]
theorem searchV{a:af}{es:Array (Int×ai)}{ep:Nat}{t:bT}{ks:List K}{k:K}{x:ai}(hr:kd.room A)(ho:s.heap.get? a=aa {cls:=.type "set",dict:=ae,data:=.set es ep t})(hf:t.fits es.size=ah)(T:TPl t (es.toList.map (·.1))) (els:Els kd s.heap es.toList ks) (hx:kd.is s.heap k x) {N:Nat} (he:(pth t N (t.probeStart (kd.hash k))).j∉t.place.toList) (hb:∀m,m<N->(pth t m (t.probeStart (kd.hash k))).j∈t.place.toList) (hN:N<10*(t.mask+15)){Q:SetFound->am->Prop} (q1:k∈ks->Q (.there ae) s) (q2:k∉ks->Q (.free (pth t N (t.probeStart (kd.hash k))).j aj) s):∀(bO m:Nat) (stand:Option jh),N-m<bO->m<=N->stand.getD (t.probeStart (kd.hash k))=pth t m (t.probeStart (kd.hash k)) -> (∀j i k',j<m->t.slot (pth t j (t.probeStart (kd.hash k))).j=.live i->ks[i]?=aa k'->k'≠k)->aq (aw P w) A (qV a x (kd.hash k) ah bO stand) Q E s
 |0,m,stand,h,_,_,_=>absurd h (l8 _)
 |bO+1,m,stand,h1,h2,h3,h4=>by
  rw[search_eq];refine ap (j9 ho rfl hf ?_);dsimp only;have hg:t.gaveWay=aj:=by unfold SetTable.gaveWay;have:=T.ok.most.2.2;simp[this]
  rw[hg];simp only[eB,if_false];have dG:∀i j,t.place[i]?=aa j->∃(hv:Int×ai) (k':K),es[i]?=aa hv/\ks[i]?=aa k'/\hv.1=kd.hash k'/\kd.is s.heap k' hv.2:=λi j hi=>by
   have ba:i<es.size:=by have:=(lc.mp hi).1;have:=T.len;simp at this;lia
   have hlk:i<ks.length:=by have:=els.1;simp at this;lia
   refine⟨es[i],ks[i],jg ba,d7 hlk,?_⟩;exact els.2 (es[i],ks[i]) (mW (i:=i) (by rw[Aa];exact⟨by simp[ba],by simp[hlk]⟩))
  rcases go_met T.ok.dm T.ok.ris (λi=>((es[i]?).map (·.1)).getD 0) (kd.hash k) (10*oO t.mask) (N-m) (pth t m (t.probeStart (kd.hash k))) (by unfold oO;lia) (pth_dummy t m _)
    (by rw[←pth_add,show m+(N-m)=N by lia];exact he) (λj hj=>by rw[←pth_add];exact hb _ ∅)with⟨g1,g2⟩|⟨n,i,g1,g2,g3,g4,g5,g6⟩
  ·have e1:t.probe (λi=>((es[i]?).map (·.1)).getD 0) (kd.hash k) (stand.getD (t.probeStart (kd.hash k)))=aa (.empty (pth t N (t.probeStart (kd.hash k))).j ae):=by
    rw[h3];show tF t _ _ _ _=_;rw[g1,←pth_add,show m+(N-m)=N by lia]
   rw[e1];refine aD (q2 λhk=>?_);obtain⟨i,hi,ek⟩:=l_ hk;have hip:i<t.place.size:=by have:=T.len;have:=els.1;simp at *;lia
   obtain⟨hv,k',e2,e3,e4,e5⟩:=dG i _ (jg hip);have ek':k'=k:=by rw[d7 hi,ek]at e3;exact(dW e3).symm
   subst ek';obtain⟨n,r1,r2⟩:=T.rch (t.place[i],hv.1) (mW (i:=i) (by rw[Aa];exact⟨by simp[hip],by rw[jD,wG,e2];rfl⟩));rw[e4]at r1 r2;have iE:t.place[i]∈t.place.toList:=by simp
   have hnN:n<N:=by
    rcases Nat.lt_trichotomy n N with z|z|z
    ·exact z
    ·subst z;rw[r1]at he;exact absurd iE he
    ·exact absurd (r2 N z) he
   have hsl:t.slot (pth t n (t.probeStart (kd.hash k'))).j=.live i:=by rw[r1];exact live_at T.ok hip
   by_cases hc:n<m
   ·exact h4 n i k' hc hsl e3 rfl
   ·have:=g2 (n-m) i ∅ (by rw[←pth_add,show m+(n-m)=n by lia,r1];exact jg hip) (by rw[←pth_add,show m+(n-m)=n by lia];exact hsl);exact this (by rw[e2];exact e4)
  ·rw[←pth_add]at g2 g3;have e1:t.probe (λi=>((es[i]?).map (·.1)).getD 0) (kd.hash k) (stand.getD (t.probeStart (kd.hash k)))=aa (.candidate (pth t (m+n) (t.probeStart (kd.hash k))).j i (pth t (m+n+1) (t.probeStart (kd.hash k)))):=by rw[h3];show tF t _ _ _ _=_;rw[g5,←pth_add,←pth_add,wK]
   rw[e1];dsimp only;obtain⟨hv,k',e2,e3,e4,e5⟩:=dG i _ g2;have rest:aq (aw P w) A (do
     let aa (_,y):=es[i]?|j_ "internal:set-entry"
     let equal ←j4 [y] (PySem.eqBool y x)
     let (es',_,t') ←setState a
     if ah&&equal then return .there ae
     let aa same:=t'.sameMemory t.moves t.mask|j_ "set.changed-during-lookup:is-the-new-block-at-the-old-address"
     let still ←match (if same then t'.slot (pth t (m+n) (t.probeStart (kd.hash k))).j else .empty)with
      |.live i'=>match es'[i']? with
       |some (_,y')=>do pure (if ←isSame y' y then aa i' else ae)
       |none=>pure ae
      |_=>pure ae
     match still with
     |none=>rule "set.search.anew";qV a x (kd.hash k) ah bO ae
     |some i'=>if equal then return .there (aa i')else qV a x (kd.hash k) ah bO (aa (pth t (m+n+1) (t.probeStart (kd.hash k))))) Q E s:=by
    rw[e2];dsimp only;refine ap (iz (kd.eqBool hr e5 hx ?_));refine ap (j9 ho rfl hf ?_);dsimp only;by_cases hc:k'=k
    ·rw[decide_eq_true hc];simp only[Bool.and_self,if_true];exact aD (q1 (by subst hc;exact mW e3))
    ·rw[decide_eq_false hc];simp only[wy,eB,if_false];have hsm:t.sameMemory t.moves t.mask=aa ah:=by unfold SetTable.sameMemory;simp
     rw[hsm];dsimp only;rw[if_pos rfl,g3];dsimp only;rw[e2];dsimp only;obtain⟨b,ob,eb,hob⟩:=kd.ref e5;rw[eb];refine ap (same_self hob ?_);rw[if_pos rfl];refine ap (aD ?_);dsimp only;refine searchV hr ho hf T els hx he hb hN q1 q2 bO (m+n+1) _ ∅ ∅ rfl λj i' k'' hj hs hk=>?_;by_cases c1:j<m
     ·exact h4 j i' k'' c1 hs hk
     ·by_cases c2:j=m+n
      ·subst c2;rw[g3]at hs;injection hs with z;subst z;rw[e3]at hk;cases hk;exact hc
      ·intro z;subst z;have nA:t.slot (pth t (j-m) (pth t m (t.probeStart (kd.hash k'')))).j=.live i':=by rw[←pth_add,show m+(j-m)=j by lia];exact hs
       have:=g6 (j-m) i' ∅ nA;rcases slot_of T.ok.dm T.ok.ris (pth t j (t.probeStart (kd.hash k''))).j with⟨_,y⟩|⟨i2,y1,y2⟩
       ·rw[hs]at y;cases y
       ·rw[hs]at y2;injection y2 with z2;subst z2;obtain⟨ul,k2,f2,f3,f4,f5⟩:=dG i' _ y1;rw[hk]at f3;cases f3;exact this (by rw[f2];exact f4)
   cases hl:t.led with
   |true=>simp only[ke,eB,if_false];exact rest
   |false=>
    simp only[qW,if_true];refine ap (seen_not (kd:=kd) hx _ (λy hy=>?_) ?_)
    ·obtain⟨e,he',rfl⟩:=bP.mp hy;have he2:e∈es.toList:=by rw[Array.toList_filter]at he';exact(lR.mp he').1
     obtain⟨i3,hi3,e6⟩:=l_ he2;have hik:i3<ks.length:=by rw[←els.1];exact hi3
     exact⟨ks[i3],by have:=(els.2 (es.toList[i3],ks[i3]) (mW (i:=i3) (by rw[Aa];exact⟨d7 hi3,d7 hik⟩))).2;rw[e6]at this;exact this⟩
    ·simp only[eB,if_false];exact rest
end
section
variable{P:aM}{w:aF}{A:aO}{E:ai->am->Prop}{s:am}{K:Type}[DecidableEq K]
def elV(kd:Keyd P w K)(p:K×ai):Int×ai:=(kd.hash p.1,p.2)
structure SetV(kd:Keyd P w K)(h:aA)(a:af)(ps:List (K×ai)):Prop where
 ex:∃(es:Array (Int×ai)) (ep:Nat) (t:bT) (qs:List (K×ai)),h.get? a=aa {cls:=.type "set",dict:=ae,data:=.set es ep t}/\qs.Perm ps/\es.toList=qs.map (elV kd)/\es.size<4090/\TPl t (es.toList.map (·.1))/\t.led=(!dw w)/\(ps≠[]->t.plain=aj)
variable{kd:Keyd P w K}
theorem SetV.at{h h':aA}{a:af}{ps:List (K×ai)}(S:SetV kd h a ps)(k:∀o,h.get? a=aa o->h'.get? a=aa o):SetV kd h' a ps:=by obtain⟨es,ep,t,qs,e,r⟩:=S.ex;exact⟨es,ep,t,qs,k _ e,r⟩
theorem TPl.fits{t:bT}{hs:List Int}(T:TPl t hs){n:Nat}(hn:n=hs.length):t.fits n=ah:=by unfold SetTable.fits SetTable.fill;have:=T.len;have:=T.ok.roomy;rw[T.ok.dm];simp;lia
def addV(ps:List (K×ai))(p:K×ai):List (K×ai):=if p.1∈ps.map (·.1)then ps else ps++[p]
theorem relay_eq(a:af)(wanted:Nat):setRelay a wanted=(do
  let (es,_,t) ←setState a
  if EO wanted > a_ then j_ "set:memory"
  let (es,t) ←(do
   let aa (t,order):=t.relaid (es.map (·.1)) wanted|j_ "internal:set-table-without-room"
   let es':=order.filterMap (es[·]?)
   if es'.size != es.size then j_ "internal:set-table-lost-an-element"
   pure (es',t))
  storeSet a es t):=rfl
theorem grow_ok{mask n:Nat}(hm:mask∈[7,31,127,511,2047,8191])(h0:(n-1)*5<mask*3)(h1:mask*3<=n*5)(h2:n<4090):∃m' q,EO (l0 n)=m'+1/\m'+1=2^q/\m'∈[7,31,127,511,2047,8191]/\n*5<m' * 3/\m'+1<=a_:=by
 simp only[bG,gf,or_false]at hm;rcases hm with e|e|e|e|e|e <;> subst e
 ·obtain rfl:n=5:=∅
  exact⟨31,5,by decide,rfl,by decide,by decide,by decide⟩
 ·obtain rfl:n=19:=∅
  exact⟨127,7,by decide,rfl,by decide,by decide,by decide⟩
 ·obtain rfl:n=77:=∅
  exact⟨511,9,by decide,rfl,by decide,by decide,by decide⟩
 ·obtain rfl:n=307:=∅
  exact⟨2047,11,by decide,rfl,by decide,by decide,by decide⟩
 ·obtain rfl:n=1229:=∅
  exact⟨8191,13,by decide,rfl,by decide,by decide,by decide⟩
 ·lia
theorem els_of{h:aA}{es:List (Int×ai)}{qs:List (K×ai)}(e:es=qs.map (elV kd))(hk:∀p∈qs,kd.is h p.1 p.2):Els kd h es (qs.map (·.1)):=by subst e;refine⟨by simp,λq hq=>?_⟩;rw[List.zip_map']at hq;obtain⟨p,hp,rfl⟩:=bP.mp hq;exact⟨rfl,hk p hp⟩
theorem set_addV{a:af}{ps:List (K×ai)}{k:K}{x:ai}{Q:Bool->am->Prop}(hr:kd.room A)(S:SetV kd s.heap a ps)(hk:∀p∈ps,kd.is s.heap p.1 p.2)(hx:kd.is s.heap k x)(hn:ps.length<4000)(h:∀h' b,jC a s.heap h'->SetV kd h' a (addV ps (k,x))->Q b {s with heap:=h'}):aq (aw P w) A (z5 a x (kd.hash k)) Q E s:=by
 obtain⟨es,ep,t,qs,ho,hp,rq,hsz,T,kf,cS⟩:=S.ex;have hqk:∀p∈qs,kd.is s.heap p.1 p.2:=λp hq=>hk p (hp.mem_iff.mp hq);have els:=els_of rq hqk;have bz:es.size=ps.length:=by have e1:=congrArg lU rq;have e2:=hp.length_eq;simp at e1;lia
 have hf:t.fits es.size=ah:=T.fits (by simp);have memk:k∈qs.map (·.1)↔k∈ps.map (·.1):=(hp.map (·.1)).mem_iff;obtain⟨bx,ox,rfl,hox⟩:=kd.ref hx;unfold z5 setAddHashedIn;refine iz (ap (j9 ho rfl hf ?_));dsimp only;have hbs:byScan (.ref bx) es=aj:=by unfold byScan;simp[Value.scannable]
 rw[hbs];simp only[eB,if_false];obtain⟨N0,hN0,hE0⟩:=pth_empty T.ok (kd.hash k);obtain⟨N,hN,hE,hB⟩:=least (p:=λn=>(pth t n (t.probeStart (kd.hash k))).j∉t.place.toList) N0 hE0;have hB':∀m,m<N->(pth t m (t.probeStart (kd.hash k))).j∈t.place.toList:=λm hm=>Classical.not_not.mp (hB m hm);have h8:=T.ok.most.1;unfold setSearch;refine ap (searchV hr ho hf T els hx hE hB' ∅ (λiE=>?_) (λFq=>?_) 100000 0 ae ∅ (k_ _) rfl λj i k' hj=>absurd hj (l8 _))
 ·refine aD (h s.heap _ (EQ a s.heap) ?_);unfold addV;rw[if_pos (memk.mp iE)];exact S
 ·dsimp only;refine ap (j9 ho rfl hf ?_);dsimp only;have ba:=start_le t (kd.hash k) N;obtain⟨p1,p2,p3,p4,p5,p6,p7⟩:=put_tp T (kd.hash k) hE hB' ba;have pl4:(t.put (pth t N (t.probeStart (kd.hash k))).j).1.led=t.led:=rfl;have hpp:(t.put (pth t N (t.probeStart (kd.hash k))).j).2<=es.size:=by
   have:=(below_ok T.ok.ris (pth t N (t.probeStart (kd.hash k))).j).1;have e:t.place.size=es.size:=by have:=T.len;simpa using this
   rw[←e];exact this
  generalize hPut:t.put (pth t N (t.probeStart (kd.hash k))).j=TP at p1 p2 p3 p4 p5 p6 p7 pl4 hpp ⊢;obtain⟨t1,pp⟩:=TP;dsimp only at p1 p2 p3 p4 p5 p6 p7 pl4 hpp ⊢;have AQ:(oK es pp (kd.hash k,.ref bx)).toList=(qs.take pp++(k,.ref bx)::qs.drop pp).map (elV kd):=by rw[ins_list,rq,nc,eh,List.map_take,List.map_drop];rfl
  have hhs:(oK es pp (kd.hash k,.ref bx)).toList.map (·.1)=(es.toList.map (·.1)).take pp++kd.hash k::(es.toList.map (·.1)).drop pp:=by rw[ins_list,nc,eh,List.map_take,List.map_drop]
  have o6:(qs.take pp++(k,Value.ref bx)::qs.drop pp).Perm (addV ps (k,.ref bx)):=by unfold addV;rw[if_neg (λz=>Fq (memk.mpr z))];refine List.perm_middle.trans ?_;rw[nj];exact(hp.cons _).trans (List.perm_append_singleton _ _).symm
  have AK:(oK es pp (kd.hash k,.ref bx)).size=es.size+1:=by rw[←g_,ins_list];simp;lia
  have dq:addV ps (k,Value.ref bx)≠[]:=by unfold addV;rw[if_neg (λz=>Fq (memk.mpr z))];simp
  rw[←hhs]at p6 p7;generalize hes2:oK es pp (kd.hash k,Value.ref bx)=es1 at AQ hhs AK p6 p7 ⊢;have tail:∀t2:bT,t2={t1 with plain:=aj}->aq (aw P w) A (do
    storeSet a es1 t2
    if(!aj&&t2.tooFull)=ah then do
      setRelay a (l0 (es.size+1))
      pure ah
     else pure ah) (λr s'=>∃h',r=ah/\s'={s with heap:=h'}/\jC a s.heap h'/\SetV kd h' a (addV ps (k,.ref bx))) E s:=by
   intro t2 e2;have jI:t2.led=(!dw w):=by rw[e2];exact pl4.trans kf
   have d8:t2.plain=aj:=by rw[e2]
   have d1:t2.dummies=#[]:=by rw[e2];exact p1
   have d2:t2.place=t1.place:=by rw[e2]
   have d3:t2.mask=t1.mask:=by rw[e2]
   have rch2:∀q∈t2.place.toList.zip (es1.toList.map (·.1)),Rch t2 t2.place.toList q.1 q.2:=λq hq=>by rw[d2]at hq ⊢;exact(p7 q hq).up d3.symm λx hx=>hx
   have AG:t2.fill=es.size+1:=by unfold SetTable.fill;rw[d1,d2,p5];have:=T.len;simp at this ⊢;lia
   have Fk:t2.mask∈[7,31,127,511,2047,8191]:=by rw[d3,p4];exact T.ok.sz
   have N6:t2.fits es1.size=ah:=by unfold SetTable.fits;rw[AG,AK,d2,p5];have h1:=T.len;have h2:=T.ok.roomy;have h3:=T.ok.most.2.1;simp at h1 ⊢;rw[d3,p4];lia
   refine ap (z6 ho rfl ?_ (z7 (qF (show es1.size<4090 by lia) (by decide))));have o1:=jA.put (es':=es1) (t':=t2) ho;have gM:=qL s.heap a (Obj.putSet es1 t2);by_cases nq:t2.tooFull=ah
   ·rw[nq];simp only[qW,Bool.and_self,if_true];have NY:t2.mask*3<=(es.size+1)*5:=by unfold SetTable.tooFull at nq;rw[AG]at nq;simpa using nq
    have hro:(es.size+1-1)*5<t2.mask*3:=by have h1:=T.len;have h2:=T.ok.roomy;simp at h1;rw[d3,p4];lia
    obtain⟨m',q,g1,g2,g3,g4,g5⟩:=grow_ok Fk hro NY ∅;rw[relay_eq];refine ap (ap (j9 o1 rfl N6 ?_));dsimp only;rw[g1,if_neg ∅];obtain⟨t3,order,f1,f2,f3,f4,f5,f6,f7⟩:=laid_tp (mask:=m') t2.finger (t2.movedTo m') t2.led t2.plain g2 g3 es1 ∅;have er:t2.relaid (es1.map (·.1)) (l0 (es.size+1))=aa (t3,order):=by unfold SetTable.relaid;rw[g1];exact f1
    rw[er];dsimp only;have xf:(order.filterMap (es1[·]?)).size=es1.size:=by have:=f6.length_eq;rwa[g_,g_]at this
    refine ap ?_;rw[if_neg (by rw[xf];simp)];refine aD ?_;dsimp only;obtain⟨qs3,r1,r2⟩:∃qs3:List (K×ai),(order.filterMap (es1[·]?)).toList=qs3.map (elV kd)/\qs3.Perm (qs.take pp++(k,Value.ref bx)::qs.drop pp):=by rw[AQ]at f6;exact perm_map_ex f6
    refine z6 o1 rfl ?_ (z7 (qF (show(order.filterMap (es1[·]?)).size<4090 by lia) (by decide)));refine aD ⟨_,rfl,rfl,gM.trans (qL _ a _),⟨_,_,t3,qs3,jA.put o1,r2.trans o6,r1,∅,f7,f2.trans jI,λ_=>f3.trans d8⟩⟩
   ·rw[wJ.mpr nq];simp only[wy,eB,if_false];have hro:t2.place.size*5<t2.mask*3:=by unfold SetTable.tooFull at nq;rw[AG]at nq;have h1:=T.len;simp at nq h1;rw[d2,p5];lia
    refine aD ⟨_,rfl,rfl,gM,⟨es1,_,t2,_,o1,o6,AQ,∅,⟨⟨d1,by rw[d2];exact p2,by rw[d2,d3];exact p3,Fk,hro⟩,?_,rch2⟩,jI,λ_=>d8⟩⟩;rw[d2,p5,p6];have:=T.len;lia
  split
  ·refine ap (kd.hbv hx ?_);simp only[eB,if_false];refine aV (tail _ rfl) λr s' ⟨h',e1,e2,e3,e4⟩=>?_;subst e1 e2;exact h h' _ e3 e4
  ·rename_i AL;refine ap (aD ?_);simp only[if_true];refine aV (tail t1 (by
    have:t1.plain=aj:=by simpa using AL
    rw[←this])) λr s' ⟨h',e1,e2,e3,e4⟩=>?_
   subst e1 e2;exact h h' _ e3 e4
where
 perm_map_ex {α β:Type}{f:α->β}{l:List β}{m:List α} (h:l.Perm (m.map f)):∃m':List α,l=m'.map f/\m'.Perm m:=by
  generalize hm:m.map f=mm at h
  induction h generalizing m with
  |nil=>
   cases m with
   |nil=>exact⟨[],rfl,.nil⟩
   |cons=>cases hm
  |cons x _ ih=>
   cases m with
   |nil=>cases hm
   |cons y r=>rw[eh]at hm;injection hm with h1 h2;obtain⟨m',e,p⟩:=ih h2;exact⟨y::m',by rw[eh,←e,h1],p.cons y⟩
  |swap x y l=>
   match m,hm with
   |a::b::r,hm=>simp only[eh,qX]at hm;obtain⟨h1,h2,h3⟩:=hm;exact⟨b::a::r,by simp[h1,h2,h3],.swap ..⟩
  |trans _ _ ih1 ih2=>obtain⟨m2,e2,p2⟩:=ih2 hm;obtain⟨m1,e1,p1⟩:=ih1 e2.symm;exact⟨m1,e1,p1.trans p2⟩
end
section
variable{P:aM}{w:aF}{A:aO}{E:ai->am->Prop}{s:am}
theorem tupTy{a:af}{items:Array ai}(h:IsTup s.heap a items):s.TypeIs (.ref a) "tuple":=let ⟨o,ho,hc,_⟩:=h;⟨o,ho,hc⟩
def HsAt(P:aM)(w:aF)(A:aO)(s:am)(v:ai)(x:Int):Prop :=
 ∀(tk:Nat) (E:ai->am->Prop) (Q:Int->am->Prop),(∀tk',tk<=tk'->Q x {s with toks:=tk'})->aq (aw P w) A (pyHash v) Q E {s with toks:=tk}
theorem hash_tup{a:af}{items:Array ai}{hs:List (ai×Int)}(hu:A.units<cLine)(hT:IsTup s.heap a items)(hi:items.toList=hs.map (·.1))(hh:∀p∈hs,HsAt P w A.in1 s p.1 p.2):HsAt P w A s (.ref a) (tK (mf (hs.map (·.2)))):=λtk E Q h=>by
 have kq:Shared.TypeIs {s with toks:=tk} (.ref a) "tuple":=tupTy hT;obtain⟨o,ho,_,n,hd⟩:=hT;unfold pyHash
 first|unfold pyHashByItsType|skip
 first|refine ap (wpAny_cRoomFor_or (.inr hu) ?_)|skip
 refine ap (sZ kq F.slot_tuple_hash.lookup ?_);show aq _ _ (if(aa (Value.builtin "tuple.__hash__") == aa Value.none)=ah then _ else _) Q E _;rw[if_neg (by rw[beq_builtin_none];exact eT)];refine ap (sZ kq F.slot_tuple_hash.lookup ?_);show aq _ _ (callSpecialIfBoundUnlessNone? (.ref a) "__hash__" _ >>= _) Q E _;refine ap (wpAny_callSpecialIfBoundUnlessNone?_slot kq NR (qw NR kq F.entry_tuple_hash ?_ (F.args_tuple_hash_1 _)));show aq _ _ (Builtin.Tuple.tupleItemsOf (.ref a) >>= _) _ _ _;refine ap (wpAny_tupleItemsOf (s:={s with toks:=tk}) ho hd ?_);refine ap ?_;rw[←Aw,hi];refine tJ _
  (λrest (b:Array Int) s'=>∃done left tk',hs=done++left/\rest=left.map (·.1)/\b.toList=done.map (·.2)/\tk<=tk'/\s'={s with toks:=tk'})
  _ ?_ ?_ _ _ ⟨[],hs,tk,rfl,rfl,rfl,a9 _,rfl⟩
 ·rintro x rest b s' ⟨done,left,tk',rfl,hl,hb,ht,rfl⟩;cases left with
  |nil=>cases hl
  |cons p left=>
   rw[eh]at hl;injection hl with h1 h2;subst h1 h2;refine ap (hh p (by simp) tk' _ _ λtk2 h2=>?_)
   first
    |exact aD ⟨done++[p],left,tk2,by simp,rfl,by simp[hb],∅,rfl⟩
    |exact ap (aD (aD ⟨done++[p],left,tk2,by simp,rfl,by simp[hb],∅,rfl⟩))
 ·rintro b s' ⟨done,left,tk',rfl,hl,hb,ht,rfl⟩;have:left=[]:=by cases left with|nil=>rfl|cons=>cases hl
  subst this;rw[hG]at h;show aq _ _ (retInt (mf b.toList)) _ _ _;rw[hb];refine wpAny_ret_mkInt ?_;show aq _ _ (if(decide (-(2:Int)^63<=mf (done.map (·.2)))&&decide (mf (done.map (·.2))<2^63))=ah then _ else _) Q E _;unfold tK at h;by_cases hr:(decide (-(2:Int)^63<=mf (done.map (·.2)))&&decide (mf (done.map (·.2))<2^63))=ah
  ·rw[if_pos hr];rw[if_pos hr]at h;exact aD (h _ (by simp;lia))
  ·rw[if_neg hr];rw[if_neg hr]at h;exact ap (lZ (aD (h _ (by simp;lia))))
theorem hash_str(z:Str)(t:Tok):HsAt P w A s (.str z t) ((eV P w).hash z):=λtk E Q h=>(eV P w).pyHash (s:={s with toks:=tk}) (k:=z) (by show ou z (.str z t)=ah;simp[ou]) (h _ (s_ _))
theorem hash_int(z:Int)(t:Tok):HsAt P w A s (.int z t) ((Ax P w).hash z):=λtk E Q h=>(Ax P w).pyHash (s:={s with toks:=tk}) (k:=z) (by show zD z (.int z t)=ah;simp[zD]) (h _ (s_ _))
theorem quiet_tup{n:Nat}{a:af}{items:Array ai}{Q:Bool->am->Prop}(hT:IsTup s.heap a items)(hi:∀v∈items.toList,∀(E:ai->am->Prop) (Q:Bool->am->Prop),Q ah s->aq (aw P w) A (tG n v) Q E s)(h:Q ah s):aq (aw P w) A (tG (n+1) (.ref a)) Q E s:=by
 have kq:=tupTy hT;obtain⟨o,ho,_,m,hd⟩:=hT;unfold tG;refine ap (sZ kq F.slot_tuple_eq.lookup ?_);show aq _ _ (wC (.ref a) (.type "tuple") >>= _) _ _ s;refine ap (EV kq isSubtype_tuple_tuple ?_);simp only[ke,eB,if_false];refine ap (z9 ho hd ?_);refine ap ?_;show aq _ _ (forIn items _ _) _ _ s;rw[←Aw];refine tJ _ (λrest r s'=>r.1=ae/\s'=s/\∀v∈rest,v∈items.toList) _ ?_ ?_ _ _ ⟨rfl,rfl,λv hv=>hv⟩
 ·rintro v rest r s' ⟨hr,rfl,fh⟩;refine ap (hi v (fh v eN) _ _ ?_);simp only[ke,eB,if_false];exact aD ⟨rfl,rfl,λu um=>fh u (dN _ um)⟩
 ·rintro⟨r1,r2⟩ s' ⟨hr,rfl,_⟩;simp only at hr;subst hr;exact aD h
theorem cls_tup{n:Nat}{a:af}{items:Array ai}{Q:Bool->am->Prop}(hT:IsTup s.heap a items)(hi:∀v∈items.toList,∀(E:ai->am->Prop) (Q:Bool->am->Prop),Q aj s->aq (aw P w) A (tI n v) Q E s)(h:Q aj s):aq (aw P w) A (tI (n+1) (.ref a)) Q E s:=by
 have kq:=tupTy hT;obtain⟨o,ho,_,m,hd⟩:=hT;unfold tI;refine ap (zM kq ?_);dsimp only;rw[if_pos (by decide)];refine ap (aD ?_);simp only[ke,eB,if_false];refine ap (z9 ho hd ?_);dsimp only;refine ap ?_;rw[←Aw];refine tJ _ (λrest r s'=>r.1=ae/\s'=s/\∀v∈rest,v∈items.toList) _ ?_ ?_ _ _ ⟨rfl,rfl,λv hv=>hv⟩
 ·rintro v rest r s' ⟨hr,rfl,fh⟩;refine ap (hi v (fh v eN) _ _ ?_);simp only[eB,if_false];exact aD ⟨rfl,rfl,λu um=>fh u (dN _ um)⟩
 ·rintro⟨r1,r2⟩ s' ⟨hr,rfl,_⟩;simp only at hr;subst hr;exact aD h
theorem hbv_tup{n:Nat}{a:af}{items:Array ai}{Q:Bool->am->Prop}{pre post:List ai}{x:ai}(hT:IsTup s.heap a items)(e:items.toList=pre++x::post)(hp:∀v∈pre,∀(E:ai->am->Prop) (Q:Bool->am->Prop),Q ah s->aq (aw P w) A (qU n v) Q E s)(hx:∀(E:ai->am->Prop) (Q:Bool->am->Prop),Q aj s->aq (aw P w) A (qU n x) Q E s) (h:Q aj s):aq (aw P w) A (qU (n+1) (.ref a)) Q E s:=by
 have kq:=tupTy hT;obtain⟨o,ho,_,m,hd⟩:=hT;unfold qU;refine ap (sZ kq F.slot_tuple_hash.lookup ?_);show aq _ _ (seqItems? (.ref a) >>= _) _ _ s;refine ap (z9 ho hd ?_);refine ap ?_;show aq _ _ (forIn items _ _) _ _ s;rw[←Aw,e];refine tJ _ (λrest r s'=>r.1=ae/\s'=s/\∃p,rest=p++x::post/\∀v∈p,v∈pre) _ ?_ ?_ _ _ ⟨rfl,rfl,pre,rfl,λv hv=>hv⟩
 ·rintro v rest r s' ⟨hr,rfl,p,c7,fh⟩;cases p with
  |nil=>rw[iC]at c7;injection c7 with h1 h2;subst h1;refine ap (hx _ _ ?_);simp only[qW,if_true];exact aD (aD h)
  |cons y p=>rw[Ap]at c7;injection c7 with h1 h2;subst h1;refine ap (hp v (fh v eN) _ _ ?_);simp only[ke,eB,if_false];exact aD ⟨rfl,rfl,p,h2,λu um=>fh u (dN _ um)⟩
 ·rintro⟨r1,r2⟩ s' ⟨hr,rfl,p,c7,_⟩;cases p <;> cases c7
theorem tup_uniq{h:aA}{a:af}{x y:Array ai}(hx:IsTup h a x)(hy:IsTup h a y):x=y:=by
 obtain⟨o,e,_,n,d⟩:=hx;obtain⟨o',e',_,n',d'⟩:=hy;rw[e]at e';cases e';rw[d]at d';cases d';rfl
theorem strs_uniq:∀{vs:List ai}{x y:List Str},dj vs x->dj vs y->x=y
 |_,_,_,.nil,.nil=>rfl
 |_,_,_,.cons z t h,.cons _ _ h'=>by rw[strs_uniq h h']
theorem all_getD{ws vs:List Str}:((bX (min ws.length vs.length)).all (λj=>ws.getD j jc == vs.getD j jc)&&ws.length == vs.length)=decide (ws=vs):=by
 rw[j5,fD,lf,decide_eq_true_iff,beq_iff_eq];constructor
 ·rintro⟨h1,h2⟩;refine List.ext_getElem h2 λi hi gL=>?_;have:=h1 i (kX.mpr ∅);rw[beq_iff_eq]at this;simpa[hi,gL]using this
 ·rintro rfl;exact⟨λx _=>by simp,rfl⟩
theorem strs_len{vs:List ai}{ss:List Str}(h:dj vs ss):vs.length=ss.length:=h.length
theorem eq_strs{b b':af}{its its':Array ai}{ws ws':List Str}(hu:A.units<cLine)(h1:IsTup s.heap b its)(h2:dj its.toList ws)(eD:IsTup s.heap b' its')(cT:dj its'.toList ws'):sX A s (.ref b) (.ref b') (decide (ws=ws')):=by
 by_cases hb:b=b'
 ·subst hb;obtain rfl:=tup_uniq h1 eD;obtain rfl:=strs_uniq h2 cT;rw[decide_eq_true rfl];exact .same _
 ·have l1:=strs_len h2;have l2:=strs_len cT;rw[g_]at l1 l2;rw[←all_getD,←l1,←l2];refine .of_refs hb (.tuples h1 eD hu λj j1 j2=>?_);obtain⟨t,e⟩:=vq j its[j] h2 (by simp[j1]);obtain⟨t',e'⟩:=vq j its'[j] cT (by simp[j2]);rw[e,e'];exact SeqAt.EqAt.str_str _ _ _ _
def PrIs(h:aA)(k:Int×List Str)(v:ai):Prop:=k.2≠[]/\∃(a b:af) (t:Tok) (its:Array ai),v=.ref a/\IsTup h a #[.int k.1 t,.ref b]/\IsTup h b its/\dj its.toList k.2
theorem PrIs.inj{h:aA}{k k':Int×List Str}{v:ai}(x:PrIs h k v)(y:PrIs h k' v):k=k':=by
 obtain⟨_,a,b,t,its,rfl,h1,h2,h3⟩:=x;obtain⟨_,a',b',t',its',e,eD,cT,rA⟩:=y;cases e;have:=tup_uniq h1 eD;have e1:k.1=k'.1/\b=b':=by have:=congrArg Array.toList this;simp at this;exact⟨this.1.1,this.2⟩
 obtain⟨e1,rfl⟩:=e1;obtain rfl:=tup_uniq h2 cT;exact Prod.ext e1 (strs_uniq h3 rA)
theorem tup_kept{h h':aA}{a:af}{x:Array ai}(hx:IsTup h a x)(k:∀b o,h.get? b=aa o->o.cls=.type "tuple"->h'.get? b=aa o):IsTup h' a x:=by obtain⟨o,e,c,r⟩:=hx;exact⟨o,k a o e c,c,r⟩
def hashPr(P:aM)(w:aF)(k:Int×List Str):Int:=tK (mf [(Ax P w).hash k.1,tK (mf (k.2.map (eV P w).hash))])
theorem strs_pairs{vs:List ai}{ss:List Str}(h:dj vs ss):vs=(vs.zip (ss.map (eV P w).hash)).map (·.1)/\(vs.zip (ss.map (eV P w).hash)).map (·.2)=ss.map (eV P w).hash/\∀p∈vs.zip (ss.map (eV P w).hash),HsAt P w A s p.1 p.2:=by
 induction h with
 |nil=>exact⟨rfl,rfl,λp hp=>by simp at hp⟩
 |cons z t _ ih=>
  obtain⟨i1,i2,i3⟩:=ih;rw[eh,Av,eh,eh];refine⟨by rw[←i1],by rw[i2],λp hp=>?_⟩;rcases bG.mp hp with rfl|hp
  ·exact hash_str z t
  ·exact i3 p hp
theorem hash_pr{k:Int×List Str}{v:ai}(hu:A.units+4<cLine)(x:PrIs s.heap k v):HsAt P w A s v (hashPr P w k):=by
 obtain⟨_,a,b,t,its,rfl,h1,h2,h3⟩:=x;obtain⟨i1,i2,i3⟩:=strs_pairs (P:=P) (w:=w) (A:=A.in1.in1) (s:=s) h3;have inner:HsAt P w A.in1 s (.ref b) (tK (mf (k.2.map (eV P w).hash))):=by have:=hash_tup (P:=P) (w:=w) (A:=A.in1) (s:=s) (show A.units+1<cLine by lia) h2 i1 i3;rw[i2]at this;exact this
 refine hash_tup (hs:=[(.int k.1 t,(Ax P w).hash k.1),(.ref b,tK (mf (k.2.map (eV P w).hash)))]) ∅ h1 rfl λp hp=>?_;simp only[bG,gf,or_false]at hp;rcases hp with rfl|rfl
 ·exact hash_int _ _
 ·exact inner
theorem strs_mem_shape{vs:List ai}{ss:List Str}(h:dj vs ss):∀v∈vs,∃z t,v=Value.str z t:=λv hv=>h.all v hv
def prKd(P:aM)(w:aF):Keyd P w (Int×List Str) where
 is:=PrIs
 hash:=hashPr P w
 room:=λA=>A.units+4<cLine
 keep:=λ⟨h0,a,b,t,its,e,h1,h2,h3⟩ k=>⟨h0,a,b,t,its,e,tup_kept h1 k,tup_kept h2 k,h3⟩
 ref:=λ⟨_,a,_,_,_,e,⟨o,h1,_⟩,_⟩=>⟨a,o,e,h1⟩
 eqBool:=λ{A E s x y u v Q} hu hx hy q=>by
  by_cases huv:u=v
  ·subst huv;obtain rfl:=hx.inj hy;rw[decide_eq_true rfl]at q;exact SeqAt.EqAt.same _ _ _ _ _ q
  ·obtain⟨_,a,b,t,its,rfl,h1,h2,h3⟩:=hx;obtain⟨_,a',b',t',its',rfl,eD,cT,rA⟩:=hy;have e0:decide (x=y)=((bX (min 2 2)).all (λj=>if j=0 then x.1 == y.1 else decide (x.2=y.2))&&2 == 2):=by obtain⟨x1,x2⟩:=x;obtain⟨y1,y2⟩:=y;rw[j5];simp[oJ]
   rw[e0]at q;refine SeqAt.EqAt.of_refs (λz=>huv (by rw[z])) (.tuples h1 eD ∅ λj j1 j2=>?_) _ _ _ _ q
   match j,j1 with
   |0,_=>exact EG _ _ _ _
   |1,_=>exact eq_strs (show A.units+1<cLine by lia) h2 h3 cT rA
 quiet:=λ⟨_,a,b,t,its,e,h1,h2,h3⟩ q=>by
  subst e;refine quiet_tup (n:=7) h1 (λv hv E Q q=>?_) q;simp only[bG,gf,or_false]at hv;rcases hv with rfl|rfl
  ·exact oM (by unfold tG;rfl) q
  ·refine quiet_tup (n:=6) h2 (λv hv E Q q=>?_) q;obtain⟨z,t,rfl⟩:=strs_mem_shape h3 v hv;exact oM (by unfold tG;rfl) q
 cls:=λ⟨_,a,b,t,its,e,h1,h2,h3⟩ q=>by
  subst e;refine cls_tup (n:=7) h1 (λv hv E Q q=>?_) q;simp only[bG,gf,or_false]at hv;rcases hv with rfl|rfl
  ·exact oM (by unfold tI;rfl) q
  ·refine cls_tup (n:=6) h2 (λv hv E Q q=>?_) q;obtain⟨z,t,rfl⟩:=strs_mem_shape h3 v hv;exact oM (by unfold tI;rfl) q
 hbv:=λ⟨h0,a,b,t,its,e,h1,h2,h3⟩ q=>by
  subst e;refine hbv_tup (n:=7) (pre:=[.int _ t]) (x:=.ref b) (post:=[]) h1 rfl (λv hv E Q q=>?_) (λE Q q=>?_) q
  ·simp only[bG,gf,or_false]at hv;subst hv;exact oM (by unfold qU;rfl) q
  ·cases h4:its.toList with
   |nil=>rw[h4]at h3;have:=strs_len h3;exact absurd (qH this.symm) h0
   |cons v rest=>refine hbv_tup (n:=6) (pre:=[]) (x:=v) (post:=rest) h2 h4 (λv hv=>by simp at hv) (λE Q q=>?_) q;obtain⟨z,t,rfl⟩:=strs_mem_shape h3 v (by rw[h4];simp);exact oM (by unfold qU;rfl) q
end
def ltL(a b:List Tx):Bool:=decide (a<b)
theorem ltL_cons(x y:Tx)(xs ys:List Tx):ltL (x::xs) (y::ys)=if x=y then ltL xs ys else decide (x<y):=by
 unfold ltL;by_cases h:x=y
 ·subst h;rw[if_pos rfl,j5,decide_eq_true_iff,decide_eq_true_iff,Ay];exact⟨λz=>z.elim (λq=>absurd q (List.lt_irrefl _)) λq=>q.2,λq=>.inr ⟨rfl,q⟩⟩
 ·rw[if_neg h,j5,decide_eq_true_iff,decide_eq_true_iff,Ay];exact⟨λz=>z.elim id λq=>absurd q.1 h,.inl⟩
def ordL:KeyOrd where
 α:=List Tx
 blt:=ltL
 irrefl:=λa=>decide_eq_false (List.lt_irrefl a)
 trans:=λa b c h1 h2=>decide_eq_true (List.lt_trans (of_decide_eq_true h1) (of_decide_eq_true h2))
 negTrans:=λa b c h=>by
  unfold ltL;by_cases iD:a<b
  ·exact .inl (decide_eq_true iD)
  ·have hba:b<=a:=List.not_lt.mp iD;exact .inr (decide_eq_true (List.lt_of_le_of_lt hba (of_decide_eq_true h)))
 total:=λa b h1 h2=>List.le_antisymm (List.not_lt.mp (of_decide_eq_false h2)) (List.not_lt.mp (of_decide_eq_false h1))
section
open PySem.SeqAt
open PySem.AutoSeq1 (wpAny_loadPart')
open PySem.MeetsSeq PySem.MeetsSeq2 PySem.MeetsSeq3
def cpsL(ss:List Str):List Tx:=ss.map λz=>z.cps.toList
theorem cps_inj{x y:Str}(h:x.cps.toList=y.cps.toList):x=y:=by rw[←yk x,←yk y,h]
theorem tuple_lt_strs(l b:af)(items items2:Array ai)(n n2:Nat)(dd dd2:Option af)(sl sl2:Array (Option ai))(ns ms:List Str)(hi:dj items.toList ns)(hj:dj items2.toList ms):Meets (Builtin.«tuple.__lt__» ⟨[.ref l,.ref b],[]⟩) (λ_ R s=>s.heap.get? l=aa {cls:=.type "tuple",dict:=dd,data:=.seq items n,slots:=sl}/\s.heap.get? b=aa {cls:=.type "tuple",dict:=dd2,data:=.seq items2 n2,slots:=sl2} /\ R (.ok (.ret (.bool (ltL (cpsL ns) (cpsL ms))))) s) :=
 .of_wp λprog w A R s h=>by
  obtain⟨hp,g,d,tk,os⟩:=s;obtain⟨hl,hb,h⟩:=h;have f2:=AutoSeq1.sub_tuple_tuple;have z1:items.size=ns.length:=by rw[←hi.length];simp
  have z2:items2.size=ms.length:=by rw[←hj.length];simp
  wp_walk using zK hl,zK hb,tJ _ (λrest b s'=>b.1=ae/\s'=⟨hp,g,d,tk,os⟩/\∃(vs ws:List ai) (ns' ms':List Str),rest=vs.zip ws /\ dj vs ns'/\dj ws ms'/\ns'.length+items2.size=ms'.length+items.size/\R (.ok (.ret (.bool (ltL (cpsL ns') (cpsL ms'))))) ⟨hp,g,d,tk,os⟩) _
  case turn=>
   rintro⟨y,x⟩ rest b s' ⟨rj,rfl,vs,ws,ns',ms',hz,hvi,o7,bz,hR⟩;cases hvi with
   |nil=>rw[List.zip_nil_left]at hz;cases hz
   |cons a t hvi'=>
    cases o7 with
    |nil=>rw[List.zip_nil_right]at hz;cases hz
    |cons c u hwi'=>
     rw[Av]at hz;injection hz with hyx N7;injection hyx with hy hx;subst hy hx;rename_i vs1 ys1 vs2 ys2;have hR':R (.ok (.ret (.bool (if a.cps.toList=c.cps.toList then ltL (cpsL ys1) (cpsL ys2)else decide (a.cps.toList<c.cps.toList))))) ⟨hp,g,d,tk,os⟩:=by rw[←ltL_cons];exact hR
     simp only[fg]at bz;refine ap (EqAt.str_str a t c u prog w _ _ ?_);by_cases e:a=c
     ·subst e;rw[if_pos rfl]at hR';rw[beq_self_eq_true]
      wp_walk
      exact⟨rfl,rfl,_,_,_,_,N7,hvi',hwi',∅,hR'⟩
     ·rw[if_neg (λz=>e (cps_inj z))]at hR';rw[beq_false_of_ne e];have hri:∀(E:ai->am->Prop) (Q:ai->am->Prop),Q (.bool (decide (a.cps.toList<c.cps.toList))) ⟨hp,g,d,tk,os⟩->aq (aw prog w) A.in1 (richCompare .Lt (.str a t) (.str c u)) Q E ⟨hp,g,d,tk,os⟩:=λE Q h=>(PyProof.Rows.lt_str h:aq (aw prog w) A.in1 (d_ .Lt (.str a t) (.str c u)) Q E _)
      wp_walk using hri
      exact⟨_,rfl,by simpa using hR'⟩
  case fin=>
   rintro⟨b1,b2⟩ s' ⟨rj,rfl,vs,ws,ns',ms',hz,hvi,o7,bz,hR⟩;simp only at rj;subst rj;have hv:ltL (cpsL ns') (cpsL ms')=decide (items.size<items2.size):=by
    cases hvi with
    |nil=>
     cases o7 with
     |nil=>simp only[m_]at bz;exact(decide_eq_false (by simp[cpsL])).trans (decide_eq_false ∅).symm
     |cons c u hw=>simp only[m_,fg]at bz;exact(decide_eq_true (by simp[cpsL])).trans (decide_eq_true ∅).symm
    |cons a t hv=>
     cases o7 with
     |nil=>simp only[m_,fg]at bz;exact(decide_eq_false (by simp[cpsL])).trans (decide_eq_false ∅).symm
     |cons c u hw=>
      rw[Av]at hz;cases hz
   rw[hv]at hR
   wp_walk
   exact⟨_,rfl,by simpa[Builtin.Tuple.tupleCompareSizes]using hR⟩
  case h=>exact⟨rfl,rfl,items.toList,items2.toList,ns,ms,rfl,hi,hj,∅,h⟩
end
section
variable{P:aM}{w:aF}{A:aO}{E:ai->am->Prop}{s:am}
theorem lt_tupStrs{l b:af}{items items2:Array ai}{ns ms:List Str}{Q:ai->am->Prop}(hl:IsTup s.heap l items)(hb:IsTup s.heap b items2)(hi:dj items.toList ns)(hj:dj items2.toList ms)(hu:A.units<cLine) (h:Q (.bool (ltL (cpsL ns) (cpsL ms))) s):aq (aw P w) A (d_ .Lt (.ref l) (.ref b)) Q E s:=by
 obtain⟨⟨cls,dd,data,sl⟩,ho,hc,n,hd⟩:=id hl;obtain⟨⟨cls2,dd2,data2,sl2⟩,jj,oV,n2,nu⟩:=id hb;simp only at hc hd oV nu;subst hc hd oV nu;exact richCompare_meets_room (op:=.Lt) ⟨_,ho,rfl⟩ ⟨_,jj,rfl⟩ PySem.F.slot_tuple_lt PySem.F.entry_tuple_lt (PySem.F.args_tuple_lt_2 _ _) (tuple_lt_strs l b items items2 n n2 dd dd2 sl sl2 ns ms hi hj)
  ⟨ho,jj,show Value.bool (ltL (cpsL ns) (cpsL ms))≠Value.notImplemented/\Q (.bool (ltL (cpsL ns) (cpsL ms))) s from⟨(λx=>nomatch x),h⟩⟩ hu
def prKey(h:aA)(n:Int):KeyKind where
 toKeyOrd:=ordL
 keyOf:=λv=>open Classical in if z:∃ss,PrIs h (n,ss) v then aa (cpsL z.choose)else ae
 dflt:=([]:List Tx)
theorem prKey_of{h:aA}{n:Int}{ss:List Str}{v:ai}(x:PrIs h (n,ss) v):(prKey h n).keyOf v=aa (cpsL ss):=by
 have z:∃ss,PrIs h (n,ss) v:=⟨ss,x⟩
 have e:z.choose=ss:=(Prod.mk.inj (z.choose_spec.inj x)).2;show(open Classical in if z:∃ss,PrIs h (n,ss) v then aa (cpsL z.choose)else ae)=_;rw[dif_pos z,e]
theorem prKey_some{h:aA}{n:Int}{k:List Tx}{v:ai}(x:(prKey h n).keyOf v=aa k):∃ss,PrIs h (n,ss) v/\cpsL ss=k:=by
 by_cases z:∃ss,PrIs h (n,ss) v
 ·obtain⟨ss,z⟩:=z;rw[prKey_of z]at x;exact⟨ss,z,dW x⟩
 ·have:(prKey h n).keyOf v=ae:=dif_neg z;rw[this]at x;cases x
theorem prLt{h:aA}{n:Int}(hu:A.units+8<cLine)(k:∀b o,h.get? b=aa o->o.cls=.type "tuple"->s.heap.get? b=aa o):g7 (prKey h n) (tuples' ah) P w A s:=λE x y a b Q ha hb hq=>by
 obtain⟨ss,hx,rfl⟩:=prKey_some ha;obtain⟨aI,hy,rfl⟩:=prKey_some hb;obtain⟨_,a1,b1,t,its,rfl,h1,h2,h3⟩:=(prKd P w).keep hx k;obtain⟨_,a2,b2,t',its',rfl,eD,cT,rA⟩:=(prKd P w).keep hy k;obtain⟨o,ho,_,m,hd⟩:=h1;obtain⟨o',gh,_,m',q_⟩:=eD;refine PySem.W.kat_lt ho hd gh q_ ?_;show PySem.W.KatLex P w A ah _ Q [(Value.int n t,Value.int n t'),(Value.ref b1,Value.ref b2)] 0 s;refine PySem.W.kat_cons (EG n t n t' _ _ _ _ ?_);rw[beq_self_eq_true];refine PySem.W.kat_yes (PySem.W.kat_cons (eq_strs ∅ h2 h3 cT rA _ _ _ _ ?_));by_cases e:ss=aI
 ·subst e;rw[decide_eq_true rfl];refine PySem.W.kat_yes (PySem.W.kat_nil ?_);have:ltL (cpsL ss) (cpsL ss)=aj:=ordL.irrefl _;have hq':Q (ltL (cpsL ss) (cpsL ss)) s:=hq;rw[this]at hq';simpa using hq'
 ·rw[decide_eq_false e];refine PySem.W.kat_no ?_;show aq _ _ (oneLt' (ah&&(1 == 0)) _ _) _ _ _;simp only[show((1:Nat) == 0)=aj from rfl,wy];refine PySem.W.kat_one _ _ (lt_tupStrs h2 cT h3 rA ∅ ?_);exact hq
theorem kat_all{h:aA}{n:Int}:∀(vs:List ai),(∀v∈vs,∃ss,PrIs h (n,ss) v)->∃fs,PySem.W.KatTups h vs fs/\fs.length=vs.length/\∀f∈fs,∃t,f=Value.int n t
 |[],_=>⟨[],PySem.W.KatTups.nil,rfl,λf hf=>by simp at hf⟩
 |v::vs,hv=>by
  obtain⟨fs,i1,i2,i3⟩:=kat_all vs λu hu=>hv u (dN _ hu);obtain⟨ss,_,a,b,t,its,rfl,⟨o,ho,hc,m,hd⟩,_⟩:=hv v eN;refine⟨.int n t::fs,PySem.W.KatTups.cons ho hc hd rfl i1,by simp[i2],λf hf=>?_⟩;rcases bG.mp hf with rfl|hf
  ·exact⟨t,rfl⟩
  ·exact i3 f hf
theorem prKind{vs:List ai}{n:Int}{Q:gH->am->Prop}(hv:∀v∈vs,∃ss,PrIs s.heap (n,ss) v)(h2:2<=vs.length)(h:Q (tuples' ah) s):aq (aw P w) A (keyKind' vs.toArray) Q E s:=by
 obtain⟨fs,i1,i2,i3⟩:=kat_all vs hv;refine PySem.W.kat_kind (T:=.type "int") i1 ∅ (λv hv=>?_) (by decide) ?_
 ·obtain⟨t,rfl⟩:=i3 v hv;exact .now
 ·have:(Value.type "int" != Value.type "tuple")=ah:=by decide
  rw[this];exact h
theorem sorted_genP{v:ai}{Q:ai->am->Prop}(hu:A.units+32<cLine)(hc:aq (aw P w) A.in1 (collect v) (λvs s1=>∃n:Int,(∀v∈vs,∃ss,PrIs s1.heap (n,ss) v)/\vs.length<=1000000/\∀(h':aA) (out:Array ai) (e:Nat),(∀b o,s1.heap.get? b=aa o->h'.get? b=aa o) -> h'.get? s1.heap.objs.size=aa (fR "list" out e)->out.toList.Perm vs->out.toList.Pairwise (λx y=>∀p q,PrIs s1.heap (n,p) x->PrIs s1.heap (n,q) y->ltL (cpsL q) (cpsL p)=aj)->Q (.ref s1.heap.objs.size) {s1 with heap:=h'}) E s):aq (aw P w) A (call (.builtin "sorted") [v]) Q E s:=by
 refine Calls.call_function_entry kind_sorted plain_sorted entry_sorted (args_sorted1 _) ?_;unfold Builtin.«sorted»;refine ap (m:=checkCount "sorted" 1 1 _) (aD ?_);refine ap (aV hc λvs s1 ⟨n,hS,ko,fin⟩=>?_);refine ap (wpAny_newList ?_);have ln:(s1.heap.push (fR "list" vs.toArray 0)).get? s1.heap.objs.size=aa (fR "list" vs.toArray 0):=cZ _ rfl;have kp:∀h':aA,(∀b o,b≠s1.heap.objs.size->(s1.heap.push (fR "list" vs.toArray 0)).get? b=aa o->h'.get? b=aa o)->∀b o,s1.heap.get? b=aa o->o.cls=.type "tuple"->h'.get? b=aa o:=λh' k b o e _=>
  k b o (cQ (bu e)) (bH _ e)
 refine ap (iz (qw slot_list_sort ⟨_,ln,rfl⟩ entry_list_sort (Bl (κ:=prKey s1.heap n) (kz:=tuples' ah) ln (λp hp=>?_) ko (λh' k h2=>⟨prLt (by simp;lia) (kp h' k),λq=>prKind (n:=n) (λv hv=>?_) h2 q⟩) λaz hp hs=>⟨_,rfl,?_⟩) (args_list_sort _)))
 ·have:p.1∈vs:=by
   have c7:p∈(vs.toArray.zip vs.toArray).toList:=hp;rw[Array.toList_zip]at c7;exact wt c7 |>.1
  obtain⟨ss,x⟩:=hS _ this;exact⟨_,prKey_of x⟩
 ·obtain⟨ss,x⟩:=hS v hv;exact⟨ss,(prKd P w).keep x (kp h' k)⟩
 ·obtain⟨e,he⟩:=sortedHeap_at (out:=(arrOf az).map (·.2)) ln;have hpp:(arrOf az).toList.Perm (vs.zip vs):=by
   have:=Ao.mp hp;have e0:(jG vs).toList=vs.zip vs:=by show(vs.toArray.zip vs.toArray).toList=_;rw[Array.toList_zip]
   rwa[e0]at this
  have same:∀p∈(arrOf az).toList,p.1=p.2:=λp hp=>by have:=hpp.mem_iff.mp hp;rw[←List.map_id vs,List.zip_map']at this;obtain⟨x,_,rfl⟩:=bP.mp this;rfl
  have e2:((arrOf az).map (·.2)).toList.Perm vs:=by rw[Array.toList_map];have:=hpp.map (·.2);rwa[List.map_snd_zip (a9 _)]at this
  refine aD ⟨_,rfl,fin _ _ e (λb o hb=>?_) he e2 ?_⟩
  ·have ba:b<s1.heap.objs.size:=bu hb;rw[sortedHeap_old (cQ ba) (by rw[iR];exact ka ba)];exact bH _ hb
  ·rw[Array.toList_map];refine wA.mpr (qS.mpr λi j hi hj bt p q hx hy=>?_);have gk:j<(jG vs).size:=by rw[←hp.size_eq];simpa using hj
   have hi1:i<(arrOf az).size:=by simpa using hi
   have hj1:j<(arrOf az).size:=by simpa using hj
   have h:=hs i j (j3 bt) gk;rw[qd hi1,qd hj1]at h;have f1:=same _ (tf hi);have f2:=same _ (tf hj);have g1:kO (prKey s1.heap n) (arrOf az)[i]=cpsL p:=by
    unfold kO;have:(arrOf az)[i].1=(arrOf az).toList[i].2:=by rw[←f1];simp
    rw[this,prKey_of hx];rfl
   have g2:kO (prKey s1.heap n) (arrOf az)[j]=cpsL q:=by
    unfold kO;have:(arrOf az)[j].1=(arrOf az).toList[j].2:=by rw[←f2];simp
    rw[this,prKey_of hy];rfl
   rw[g1,g2]at h;exact h
end
section
variable{X:Cx}
abbrev PrK:=Int×List Tx
def kS(k:PrK):Int×List Str:=(k.1,k.2.map tS)
theorem kS_inj{a b:PrK}(h:kS a=kS b):a=b:=by obtain⟨a1,a2⟩:=a;obtain⟨b1,b2⟩:=b;have h1:=congrArg Prod.fst h;have h2:=congrArg (λx=>cpsL x.2) h;simp only[kS,cpsL,c0,tz,lM,List.map_id']at h1 h2;rw[h1,h2]
def PrH(H:Hp)(k:PrK)(a:af):Prop:=k.2≠[]/\∃b,H a=aa (.tup [.int k.1,.ref b])/\H b=aa (.tup (dD k.2))
theorem PrH.is{P:aM}{w:aF}{H:Hp}{h:aA}{k:PrK}{a:af}(ok:cI P w H h)(x:PrH H k a):PrIs h (kS k) (.ref a):=by
 obtain⟨h0,b,h1,h2⟩:=x;obtain⟨_,its,r,p,_⟩:=(show cH P w H h a (.tup [.int k.1,.ref b])from ok a _ h1)
 obtain⟨_,its2,r2,p2,_⟩:=(show cH P w H h b (.tup (dD k.2))from ok b _ h2)
 obtain⟨u,v,rfl,ru,rv⟩:=vals2 r;obtain⟨t,rfl⟩:=ru;cases rv;exact⟨λz=>h0 (by simpa[kS]using z),a,b,t,its2.toArray,rfl,p,p2,by have:=uy r2;rw[wz];exact this⟩
where
 vals2 {x y:V}{us:List ai} (h:bj [x,y] us):∃u v,us=[u,v]/\RelV x u/\RelV y v:=by
  cases h with
  |cons h1 h=>cases h with
   |cons h2 h=>cases h with
    |nil=>exact⟨_,_,rfl,h1,h2⟩
def toV(q:PrK×af):(Int×List Str)×ai:=(kS q.1,.ref q.2)
def addQ(aH:List (PrK×af))(q:PrK×af):List (PrK×af):=if q.1∈aH.map (·.1)then aH else aH++[q]
def uniqQ(qs:List (PrK×af)):List (PrK×af):=qs.foldl addQ []
theorem addV_toV(aH:List (PrK×af))(q:PrK×af):addV (aH.map toV) (toV q)=(addQ aH q).map toV:=by
 unfold addV addQ;have hm:(toV q).1∈(aH.map toV).map (·.1)↔q.1∈aH.map (·.1):=by rw[c0,bP,bP];exact⟨λ⟨y,hy,e⟩=>⟨y,hy,kS_inj e⟩,λ⟨y,hy,e⟩=>⟨y,hy,by show kS y.1=kS q.1;rw[e]⟩⟩
 by_cases h:q.1∈aH.map (·.1)
 ·rw[if_pos h,if_pos (hm.mpr h)]
 ·rw[if_neg h,if_neg λz=>h (hm.mp z),nc];rfl
theorem uniqQ_take(qs:List (PrK×af))(i:Nat)(h:i<qs.length):uniqQ (qs.take (i+1))=addQ (uniqQ (qs.take i)) qs[i]:=by unfold uniqQ;rw[wO h,ER];rfl
theorem addQ_len(aH:List (PrK×af))(q:PrK×af):aH.length<=(addQ aH q).length:=by
 unfold addQ;split
 ·exact a9 _
 ·simp
theorem uniqQ_mono(l aH:List (PrK×af)):aH.length<=(l.foldl addQ aH).length:=by
 induction l generalizing aH with
 |nil=>exact a9 _
 |cons x r ih=>exact cR (addQ_len aH x) (ih _)
theorem uniqQ_le(qs:List (PrK×af))(i:Nat):(uniqQ (qs.take i)).length<=(uniqQ qs).length:=by
 have e:uniqQ qs=(qs.drop i).foldl addQ (uniqQ (qs.take i)):=by unfold uniqQ;rw[←ER,nj]
 rw[e];exact uniqQ_mono _ _
theorem uniqQ_mem(l aH:List (PrK×af)):∀x∈l.foldl addQ aH,x∈aH\/x∈l:=by
 induction l generalizing aH with
 |nil=>exact λx hx=>.inl hx
 |cons y r ih=>
  intro x hx;rcases ih _ x hx with z|z
  ·unfold addQ at z;split at z
   ·exact .inl z
   ·rcases gb.mp z with z|z
    ·exact .inl z
    ·exact .inr (by rw[hV.mp z];exact eN)
  ·exact .inr (dN _ z)
theorem uniqQ_sub{qs:List (PrK×af)}{x:PrK×af}(h:x∈uniqQ qs):x∈qs:=(uniqQ_mem qs [] x h).elim (λz=>by simp at z) id
def setPHO(X:Cx)(a:af)(qs:List (PrK×af)):HO:=.ext λh=>SetV (prKd X.prog X.w) h a (qs.map toV)
def refs(qs:List (PrK×af)):List V:=qs.map λq=>.ref q.2
theorem refs_vals:∀{qs:List (PrK×af)}{us:List ai},bj (refs qs) us->us=qs.map λq=>Value.ref q.2
 |[],_,.nil=>rfl
 |q::qs,_,.cons r h=>by cases r;rw[refs_vals h];rfl
theorem vals_refs:∀(qs:List (PrK×af)),bj (refs qs) (qs.map λq=>Value.ref q.2)
 |[]=>.nil
 |q::qs=>.cons rfl (vals_refs qs)
theorem call_setLP(hu:X.A.units+64<cLine)(hc:X.calm=ah):et X (.type "set") (λxs H Q=>∃(p:af) (qs:List (PrK×af)),xs=[.ref p]/\cc X.K H p (refs qs)/\(∀q∈qs,PrH H q.1 q.2)/\(uniqQ qs).length<4000/\∀a,H a=ae->Q (.ref a) (upd H a (setPHO X a (uniqQ qs)))):=by
 intro ag s σ H xs us Q I r h;obtain⟨p,qs,rfl,hq,hP,h4,q⟩:=h;obtain⟨u,rfl,ru⟩:=vals1 r;cases ru;obtain⟨its,rv,pl,hz⟩:=I.list hq;have oS:=refs_vals rv;have hsz:its.toArray.size=qs.length:=by rw[ce,oS,dy]
 have key:∀(h:aA),(∀b o,b<s.heap.objs.size->s.heap.get? b=aa o->h.get? b=aa o)->∀x∈qs,(prKd X.prog X.w).is h (kS x.1) (.ref x.2):=λh k x hx=>(prKd X.prog X.w).keep ((hP x hx).is I.hok) λb o e _=>k b o (bu e) e;refine El (P:=X.prog) (w:=X.w) (I.ok.hd hc) pl.isList (J:=λi h=>SetV (prKd X.prog X.w) h s.heap.objs.size ((uniqQ (qs.take i)).map toV)/\∀b o,b<s.heap.objs.size->s.heap.get? b=aa o->h.get? b=aa o)
  (λi h h' ⟨S,k⟩ g=>⟨S.at λo e=>g _ o (a9 _) e,λb o hb e=>g b o (j3 hb) (k b o hb e)⟩) ⟨⟨#[],0,_,[],cZ _ rfl,qI _,rfl,by decide,⟨⟨rfl,List.Pairwise.nil,(λj hj=>by cases hj),(by show 7∈_;decide),(by show 0*5<7*3;decide)⟩,rfl,(λq hq=>by cases hq)⟩,rfl,λh=>absurd rfl h⟩,λb o _ e=>bH _ e⟩
  (λi v s1 E Q hi hv ⟨S,k⟩ q=>?_) λh' tk ⟨S,_⟩ k=>?_
 ·have gL:i<qs.length:=∅
  obtain rfl:v=.ref qs[i].2:=by rw[oS]at hv;simp[gL]at hv;exact hv.symm
  have kx:=key s1.heap k qs[i] (tf gL);unfold setAdd;refine iz (ap (hash_pr (P:=X.prog) (w:=X.w) (s:=s1) (show X.A.units+3+4<cLine by lia) kx s1.toks _ _ λtk oU=>?_));refine set_addV (kd:=prKd X.prog X.w) (s:={s1 with toks:=tk}) (k:=kS qs[i].1) (show X.A.units+3+4<cLine by lia) S (λp hp=>?_) kx (by rw[dy];exact oI (uniqQ_le qs i) h4) λh' b iS lr=>?_
  ·obtain⟨x,hx,rfl⟩:=bP.mp hp;exact key s1.heap k x (Az (uniqQ_sub hx))
  ·refine q h' tk b oU iS ⟨?_,λb o hb e=>by rw[iS.2 b (cQ hb)];exact k b o hb e⟩;rw[uniqQ_take qs i gL,←addV_toV];exact lr
 ·have S':SetV (prKd X.prog X.w) h' s.heap.objs.size ((uniqQ qs).map toV):=by
   rw[hsz,tw]at S;exact S
  refine⟨.ref s.heap.objs.size,_,I.laid (t':=tk) (o:=setPHO X s.heap.objs.size (uniqQ qs)) (λb o e=>k b o (bu e) e) (a9 _) ?_,rfl,q _ I.fresh⟩;obtain⟨es,ep,t,ss,e,_⟩:=S'.ex;exact⟨S',⟨_,e⟩,λh1 h2 q1 q2=>q1.at q2⟩
theorem call_sortedSetP(hu:X.A.units+64<cLine)(hc:X.calm=ah):et X (.builtin "sorted") (λxs H Q=>∃(p:af) (qs:List (PrK×af)) (n:Int),xs=[.ref p]/\H p=aa (setPHO X p qs)/\(∀q∈qs,PrH H q.1 q.2/\q.1.1=n)/\qs.length<4000 /\ ∀l rs,H l=ae->NS rs qs->rs.Pairwise (λx y=>ltL y.1.2 x.1.2=aj)->Q (.ref l) (upd H l (.lst (refs rs)))):=by
 intro ag s σ H xs us Q I r h;obtain⟨p,qs,n,rfl,hq,hP,h4,q⟩:=h;obtain⟨u,rfl,ru⟩:=vals1 r;cases ru;obtain⟨S,_,_⟩:=(show cH X.prog X.w H s.heap p (setPHO X p qs)from I.hok p _ hq)
 obtain⟨es,ep,t,ps,ho,hp,rq,hsz,T,kf,cS⟩:=S.ex;have SE:pL X.w s.heap p es:=⟨ep,t,ho,hsz,T.fits (by simp),kf,λh0=>cS λz=>h0 (by have e1:=congrArg lU rq;have e2:=hp.length_eq;rw[z]at e2;simp at e1 e2;rw[e1,e2];rfl)⟩
 have pv0:(es.toList.map (·.2)).Perm (qs.map λq=>Value.ref q.2):=by rw[rq,c0];have:=hp.map (·.2);rwa[c0]at this
 refine sorted_genP ∅ (A5 (uz (I.ok.hd hc)) SE λs' vs pv k eg eo=>?_);obtain⟨h',g',d',t',o'⟩:=s';obtain rfl:g'=s.gens:=eg;obtain rfl:o'=s.os:=eo;have I1:Inv X ag σ H {s with heap:=h',drawn:=d',toks:=t'}:=by have:=Inv.call (ch:=[]) I (g':=s.gens) (d':=d') (t':=t') (Un.kept (fs:=eF X.stack) (ex:=[]) k) (I.hok.kept k) I.bare (λb hb=>absurd hb (by simp));exact this
 have pvq:=pv.trans pv0;have key:∀x∈qs,PrIs h' (n,x.1.2.map tS) (.ref x.2):=λx hx=>by have:=(hP x hx).1.is I1.hok;rw[←(hP x hx).2];exact this
 refine⟨n,λv hv=>?_,by have:=pvq.length_eq;rw[dy]at this;lia,λh2 out e k2 jj b1 b2=>?_⟩
 ·obtain⟨x,hx,rfl⟩:=bP.mp (pvq.mem_iff.mp hv);exact⟨_,key x hx⟩
 ·obtain⟨rs,e1,e2⟩:=set_addV.perm_map_ex (b1.trans pvq);refine⟨.ref _,_,I1.laid (t':=t') (o:=.lst (refs rs)) k2 (a9 _) ⟨?_,out.toList,e,by rw[e1];exact vals_refs rs,by rw[Array.toArray_toList];exact jj⟩,rfl,q _ rs I1.fresh e2 ?_⟩
  ·unfold refs;rw[dy,e2.length_eq];exact j3 (vc ∅)
  ·rw[e1]at b2;refine(wA.mp b2).imp_of_mem λ{x y} hx hy hh=>?_;have:=hh _ _ (key x (e2.mem_iff.mp hx)) (key y (e2.mem_iff.mp hy));simpa[cpsL,c0,tz,lM]using this
end
end L2
namespace Pu
open L2
section
variable{X:Cx}{E:XK}{e:aB}{ds:ak->R (List PV)}{pos p q pos':Pos}
def pr1:PV->Option PrK
 |.tup [.int n,.tup xs]=>(ir xs).bind λls=>if ls≠[] then aa (n,ls)else ae
 |_=>ae
def prs:List PV->Option (List PrK)
 |[]=>aa []
 |x::xs=>(pr1 x).bind λk=>(prs xs).bind λks=>aa (k::ks)
def prV(k:PrK):PV:=.tup [.int k.1,.tup (ao k.2)]
def uniqK(ks:List PrK):List PrK:=ks.foldl (λaH k=>if k∈aH then aH else aH++[k]) []
def leK2(a b:PrK):Bool:=!ltL b.2 a.2
def sortK(ks:List PrK):List PrK:=ks.mergeSort leK2
def sortSetVP:List PV->Option PO
 |[.lst xs]=>(prs xs).bind λks=>if(uniqK ks).length<4000/\∀k∈ks,k.1=(ks.headD (0,[])).1 then aa (.lst ((sortK (uniqK ks)).map prV))else ae
 |_=>ae
theorem pr1_eq{x:PV}{k:PrK}(h:pr1 x=aa k):x=prV k/\k.2≠[]:=by
 unfold pr1 at h;split at h
 ·obtain⟨ls,e1,e2⟩:=wP.mp h;split at e2
  ·rename_i hn;cases e2;rw[uD e1];exact⟨rfl,hn⟩
  ·cases e2
 ·cases h
theorem prs_eq:∀{xs:List PV}{ks:List PrK},prs xs=aa ks->xs=ks.map prV/\∀k∈ks,k.2≠[]
 |[],ks,h=>by cases h;exact⟨rfl,λk hk=>by cases hk⟩
 |x::xs,ks,h=>by
  obtain⟨k,e1,e2⟩:=wP.mp h;obtain⟨ks',e3,e4⟩:=wP.mp e2;cases e4;obtain⟨a1,a2⟩:=prs_eq e3;obtain⟨b1,b2⟩:=pr1_eq e1;refine⟨by rw[a1,b1];rfl,λy hy=>?_⟩;rcases bG.mp hy with rfl|hy
  ·exact b2
  ·exact a2 y hy
theorem pr_rep{K:ax}{H:Hp}{F:af->Prop}{k:PrK}{v:V}(h:aT K H F (prV k) v)(hn:k.2≠[]):∃a,v=.ref a/\PrH H k a:=by obtain⟨a,vs,rfl,h1,v1,r1,rfl,e1,v2,r2,rfl,⟨b,ws,rfl,h2,h3⟩,h4⟩:=h;rw[show r2=[] from h4,show v1=.int k.1 from e1]at h1;rw[(Oe.mp h3).1]at h2;exact⟨a,rfl,hn,b,h1,h2⟩
theorem prs_rep{K:ax}{H:Hp}{F:af->Prop}:∀{ks:List PrK}{vs:List V},Reps K H F (ks.map prV) vs->(∀k∈ks,k.2≠[])->∃qs:List (PrK×af),qs.map (·.1)=ks/\vs=refs qs/\∀q∈qs,PrH H q.1 q.2/\aT K H F (prV q.1) (.ref q.2)
 |[],_,h,_=>⟨[],rfl,h,λq hq=>by cases hq⟩
 |k::ks,_,⟨v,r,e,h1,h2⟩,hn=>by
  obtain⟨a,rfl,h3⟩:=pr_rep h1 (hn k eN);obtain⟨qs,i1,i2,i3⟩:=prs_rep h2 λy hy=>hn y (dN _ hy);refine⟨(k,a)::qs,by rw[eh,i1],by rw[e,i2];rfl,λq hq=>?_⟩;rcases bG.mp hq with rfl|hq
  ·exact⟨h3,h1⟩
  ·exact i3 q hq
theorem reps_refs{K:ax}{H:Hp}{F:af->Prop}:∀{rs:List (PrK×af)},(∀q∈rs,aT K H F (prV q.1) (.ref q.2))->Reps K H F ((rs.map (·.1)).map prV) (refs rs)
 |[],_=>rfl
 |q::rs,h=>⟨_,_,rfl,h q eN,reps_refs λx hx=>h x (dN _ hx)⟩
theorem uniqQ_keys(l aH:List (PrK×af)):(l.foldl addQ aH).map (·.1)=(l.map (·.1)).foldl (λaH k=>if k∈aH then aH else aH++[k]) (aH.map (·.1)):=by
 induction l generalizing aH with
 |nil=>rfl
 |cons x r ih=>
  rw[k9,ih,eh,k9];congr 1;unfold addQ;split
  ·rfl
  ·rw[nc];rfl
theorem sortK_uniq{ks rs:List PrK}{n:Int}(hp:rs.Perm ks)(hn:∀k∈ks,k.1=n)(hs:rs.Pairwise (λx y=>ltL y.2 x.2=aj)):rs=sortK ks:=by
 refine List.Perm.eq_of_pairwise (le:=λa b=>leK2 a b=ah) (λa b ha hb h1 h2=>?_) (hs.imp λh=>by unfold leK2;rw[h];rfl) (List.pairwise_mergeSort (λa b c=>?_) (λa b=>?_) ks) (hp.trans (EN ks leK2).symm)
 ·have e1:=hn a (hp.mem_iff.mp ha);have e2:=hn b ((EN ks leK2).mem_iff.mp hb);unfold leK2 at h1 h2;have:=ordL.total a.2 b.2 (show ltL a.2 b.2=aj by simpa using h2) (show ltL b.2 a.2=aj by simpa using h1);exact Prod.ext (e1.trans e2.symm) this
 ·unfold leK2;intro h1 h2;have:=qR (O:=ordL) (a:=a.2) (b:=b.2) (c:=c.2) (show ltL b.2 a.2=aj by simpa using h1) (show ltL c.2 b.2=aj by simpa using h2);have:ltL c.2 a.2=aj:=this;rw[this];rfl
 ·unfold leK2;cases h:ltL b.2 a.2 with
  |false=>rfl
  |true=>
   have:ltL a.2 b.2=aj:=by
    cases h':ltL a.2 b.2 with
    |false=>rfl
    |true=>exact absurd (ordL.trans _ _ _ h h') (by have:ltL b.2 b.2=aj:=ordL.irrefl _;show ¬ltL b.2 b.2=ah;rw[this];decide)
   rw[this];rfl
def rSetThenP(X:Cx)(r:List V->Hp->VK->Prop):List V->Hp->VK->Prop:=λxs H Q=>∃(p:af) (qs:List (PrK×af)),xs=[.ref p]/\cc X.K H p (refs qs)/\(∀q∈qs,PrH H q.1 q.2)/\(uniqQ qs).length<4000/\∀a,H a=ae->r [.ref a] (upd H a (setPHO X a (uniqQ qs))) Q
def rSortP(X:Cx):List V->Hp->VK->Prop:=λxs H Q=>∃(p:af) (qs:List (PrK×af)) (n:Int),xs=[.ref p]/\H p=aa (setPHO X p qs)/\(∀q∈qs,PrH H q.1 q.2/\q.1.1=n)/\qs.length<4000 /\
  ∀l rs,H l=ae->NS rs qs->rs.Pairwise (λx y=>ltL y.1.2 x.1.2=aj)->Q (.ref l) (upd H l (.lst (refs rs)))
theorem pln_sortSetV:kG X.K (rSetThenP X (rSortP X)) sortSetVP:=λF H xs vs Q po hF rs e q=>by
 unfold sortSetVP at e;split at e
 ·obtain⟨v,rfl,a,us,rfl,ha,_,ru⟩:=ik rs;obtain⟨ks,e1,e2⟩:=wP.mp e;obtain⟨rfl,dq⟩:=prs_eq e1;obtain⟨qs,i1,rfl,i3⟩:=prs_rep ru dq;split at e2
  ·rename_i hh;cases e2;have hk:(uniqQ qs).map (·.1)=uniqK ks:=by unfold uniqQ uniqK;rw[uniqQ_keys,i1];rfl
   have hl4:(uniqQ qs).length<4000:=by rw[←dy (f:=(·.1)),hk];exact hh.1
   have jJ:∀q∈qs,q.1.1=(ks.headD (0,[])).1:=λq hq=>hh.2 _ (by rw[←i1];exact bP.mpr ⟨q,hq,rfl⟩);refine⟨a,qs,rfl,.inl ha,λq hq=>(i3 q hq).1,hl4,λb hb=>⟨b,uniqQ qs,(ks.headD (0,[])).1,rfl,cE,λq hq=>⟨?_,jJ q (uniqQ_sub hq)⟩,hl4,λl zs gP hp hs=>?_⟩⟩
   ·obtain⟨h0,c,h1,h2⟩:=(i3 q (uniqQ_sub hq)).1;exact⟨h0,c,by rw[b7 (jO h1 hb)];exact h1,by rw[b7 (jO h2 hb)];exact h2⟩
   ·have hlb:l≠b:=by rintro rfl;rw[cE]at gP;cases gP
    have uj:H l=ae:=by rw[b7 hlb]at gP;exact gP
    have al:Al F F H (upd (upd H b (setPHO X b (uniqQ qs))) l (.lst (refs zs))):=(Al.new0 hb).trans (Al.new0 gP);have ez:zs.map (·.1)=sortK (uniqK ks):=by rw[←hk];refine sortK_uniq (n:=(ks.headD (0,[])).1) (hp.map _) (λk mn=>?_) (wA.mpr hs);obtain⟨y,hy,rfl⟩:=bP.mp mn;exact jJ y (uniqQ_sub hy)
    refine q l F _ (λc=>c=l) al ⟨⟨_,cE,?_⟩,λc=>Iff.rfl⟩ λc z=>?_
    ·rw[←ez];refine reps_refs λy hy=>?_;exact aT.mono (λ_ h=>h) (λ_ _ _ h=>al.same.rd h) (λc o h _=>al.same c o h) _ _ (i3 y (uniqQ_sub (hp.mem_iff.mp hy))).2
    ·subst z;exact⟨uj,λz=>Exists.elim (hF _ z) (λo w=>by rw[uj]at w;cases w),_,cE,trivial⟩
  ·cases e2
 ·cases e
theorem dn_sortSetV(hu:X.A.units+64<cLine)(hc:X.calm=ah)(ha:DA X E [e] ds)(hm:X.mg "sorted" = ae)(hm2:X.mg "set" = ae)(hg:Gl X "sorted":=by rfl)(hg2:Gl X "set":=by rfl)(h:kQ e=aj:=by rfl):DN X E (.Call (.Name "sorted" p) [.Call (.Name "set" q) [e] [] pos'] [] pos) (dL sortSetVP ds):=λF S ε σ H Q rl h'=>b9 (oq (call_sortedSetP hu hc) hg hm pT (io (vH (call_setLP hu hc) hg2 hm2 Cg gD (by decide) (by decide) (iW h) rfl) jt (iW rfl)) (by decide) (by decide) (iW rfl) rfl) (sf pln_sortSetV ha rl h')
end
end Pu
local macro_rules | `(tactic| simp! [$xs,*]) => `(tactic| simp [Pu.bb, Pu.dA, Pu.dB, Pu.d2, Pu.d1, Pu.dV, Pu.dC, Pu.dL, Pu.dF, Pu.ar, Pu.aC, Pu.cy, Pu.kB, Pu.cN, Pu.ju, Pu.aY, Pu.gV, Pu.gO, Pu.bB, Pu.fV, Pu.f_, Pu.cz, Pu.eM, Pu.gn, Pu.R.bind, Pu.bg, Pu.bD, Pu.eX, Pu.bC, Pu.back, Pu.fZ, Pu.ly, Pu.vM, Pu.uR, Pu.vV, Pu.vy, Pu.bh, Pu.mI, Pu.eQ, Pu.bo, Pu.eu, Pu.sP, Pu.jB, Pu.ze, Pu.iG, Pu.sH, Pu.xw, Pu.nH, Pu.jL, Pu.yw, Pu.kM, Pu.eP, Pu.dQ, Pu.n5, Pu.i9, Pu.nS, Pu.imm, Pu.qe, Pu.lC, bS, lU, $xs,*])
namespace Sh
open L2 Pu
set_option genInjectivity false in
structure Ad where
 SlitError:af
 NoText:af
 NoWidth:af
 NoView:af
 NoWindow:af
 Never:af
 Full:af
 Nothing:af
 Unlike:af
 NoPlace:af
 NoLetters:af
 BadText:af
 Seeker:af
 Slit:af
def f9(a:Ad):List af:=[a.NoText,a.NoWidth,a.NoView,a.NoWindow,a.Never,a.Full,a.Nothing,a.Unlike,a.NoPlace,a.NoLetters,a.BadText]
def jK(a:Ad)(c:ai):Bool:=match c with
 |.ref x=>(f9 a).contains x
 |_=>aj
def ip(a:Ad)(c:ai)(D:V):Option Bool:=match c,D with
 |.ref x,.ref d=>if(f9 a).contains x&&(f9 a).contains d then aa (x == d)else ae
 |.ref x,.ty T=>if(f9 a).contains x&&T == "ValueError" then aa ah else ae
 |_,_=>ae
def yas(a:Ad):ak->R aS:=cy (dL n9 (ar (dF (cB [1] (cg (dV 0)) (dI) (d2 (pA aj) (dV 0) (dV 1)))) (aC)))
def sK(a:Ad):ak->R Slot:=bD 2 [] (bC 0 (yas a))
def yaw(a:Ad):ak->R aS:=cy (jL (dL dU (ar (dV 0) (ar (dC (.raw (.ty "int"))) (aC)))) (sH (dL dU (ar (dV 0) (ar (dC (.raw (.ty "bool"))) (aC))))))
def lz(a:Ad):ak->R Slot:=bD 1 [] (bC 0 (yaw a))
def yax(a:Ad):ak->R aS:=cy (jL (bh (aY (lz a) (gV (dV 0) (bB)))) (kM (eP λi j=>decide (i<=j)) (eP λi j=>decide (i<=j)) (dC (.int 1)) (dV 0) (dC (.int 4))))
def kU(a:Ad):ak->R Slot:=bD 1 [] (bC 0 (yax a))
def yay(a:Ad):ak->R aS:=cy (jL (dL dU (ar (dV 0) (ar (dC (.raw (.ty "str"))) (aC)))) (jL (d2 (eqT aj) (dL bE (ar (dV 0) (aC))) (dV 1)) (bh (aY (sK a) (gV (dV 0) (gV (dV 2) (bB)))))))
def mM(a:Ad):ak->R Slot:=bD 3 [] (bC 0 (yay a))
def yan(a:Ad):ak->R aS:=bb (dA (nH (iG (dB (dL dU (ar (dV 0) (ar (dC (.raw (.ty "tuple"))) (aC)))))) (iG (dB (kM (eP λi j=>decide (i<=j)) (eP λi j=>decide (i<=j)) (dC (.int 1)) (dL bE (ar (dV 0) (aC))) (dC (.int 9)))))) (cy (dC (.bl aj))) (eu))
 (bb (dA (iG (dB (dL n9 (ar (dF (cB [1,2] (cg (dV 0)) (dI) (bh (aY (mM a) (gV (dV 0) (gV (dV 1) (gV (dV 2) (bB)))))))) (aC))))) (cy (dC (.bl aj))) (eu))
 (cy (d2 (eqT aj) (dF (dL pX (ar (dV 0) (aC)))) (dF (dL lH (ar (dV 0) (aC)))))))
def i4(a:Ad):ak->R Slot:=bD 3 [] (bC 0 (yan a))
def yav(a:Ad):ak->R aS:=bb (dA (nH (iG (dB (dL dU (ar (dV 0) (ar (dC (.raw (.ty "tuple"))) (aC)))))) (dB (d2 (eqT ah) (dL bE (ar (dV 0) (aC))) (dC (.int 2))))) (cy (dC (.bl aj))) (eu))
 (cy (jL (bh (aY (kU a) (gV (d2 cn (dV 0) (dC (.int 0))) (bB)))) (bh (aY (i4 a) (gV (d2 cn (dV 0) (dC (.int 1))) (gV (d2 cn (dV 0) (dC (.int 0))) (gV (dV 1) (bB))))))))
def gy(a:Ad):ak->R Slot:=bD 2 [] (bC 0 (yav a))
def yau(a:Ad):ak->R aS:=kB (aY (gy a) (gV (dV 0) (gV (dC (.str [97,98,99])) (bB))))
def lJ(a:Ad):ak->R Slot:=bD 1 [] (bC 0 (yau a))
def yap(a:Ad):ak->R aS:=dA (iG (dB (bh (aY (lJ a) (gV (dV 0) (bB)))))) (kE (.ref a.NoView) (λε=>bN ((dC (.str [97,32,118,105,101,119,32,105,115,32,97,32,116,117,112,108,101,32,111,102,32,97,32,119,105,100,116,104,32,97,110,100,32,97,32,114,105,115,105,110,103,32,116,117,112,108,101,32,111,102,32,49,32,116,111,32,57,32,119,105,110,100,111,119,115])) ε))) (eu)
def kJ(a:Ad):ak->R Slot:=bD 1 [] (bC 0 (yap a))
def yaQ(a:Ad):ak->R aS:=bb (dA (iG (dB (kM (eP λi j=>decide (i<=j)) (eP λi j=>decide (i<=j)) (dC (.int 1)) (dL bE (ar (dV 1) (aC))) (dC (.int 9))))) (kE (.ref a.NoView) (λε=>bN ((dC (.str [97,32,118,105,101,119,32,104,97,115,32,49,32,116,111,32,57,32,119,105,110,100,111,119,115])) ε))) (eu))
 (cy (dL bo (ar (dV 0) (ar (dL mJ (ar (dF (dL lH (ar (dV 1) (aC)))) (aC))) (aC)))))
def wc(a:Ad):ak->R Slot:=bD 2 [] (bC 0 (yaQ a))
def yar(a:Ad):ak->R aS:=bb (ju 1 (xZ))
 (bb (λε=>iM (gu 2 (cg (dV 0)) (lw 1 (dV 2) (d2 bd (lN 1 (dV 2) (dC (.int 0))) (dC (.int 1)))) ε))
 (p9 1))
def sO(a:Ad):ak->R Slot:=bD 1 [] (bC 2 (yar a))
def yam(a:Ad)(rc:ak->R Slot):ak->R aS:=bb (dA (iG (dB (se 2))) (bb (n5 3 (dV 0)) (sP (.ret (.val .non)))) (eu))
 (bb (cN 4 (iX ij (dV 0) (gw (d2 bd (d2 fA (dL bE (ar (dV 0) (aC))) (dV 1)) (dC (.int 1)))) (nR)))
 (λε=>iM (gu 5 (cg (dC (.str [97,98,99]))) (bb (cN 6 (d2 bd (dV 4) (dV 5)))
 (dA (dB (d2 (eP λi j=>decide (j<i)) (lN 2 (dV 6) (dC (.int 0))) (dC (.int 0)))) (bb (lw 2 (dV 6) (d2 fA (ol 2 (dV 6)) (dC (.int 1))))
 (bb (jB (aY (rc) (gV (d2 bd (dV 0) (dV 5)) (gV (dV 1) (gO 2 (gO 3 (bB)))))))
 (lw 2 (dV 6) (d2 bd (ol 2 (dV 6)) (dC (.int 1)))))) (eu))) ε)))
def mQ(a:Ad):Nat->ak->R Slot
 |0=>bD 4 [2,3] (bC 3 Cb)
 |k+1=>bD 4 [2,3] (bC 3 (yam a (mQ a k)))
def yaP(a:Ad):ak->R aS:=bb (jB (aY (kJ a) (gV (dV 0) (bB))))
 (bb (cN 1 (d2 cn (dV 0) (dC (.int 0))))
 (bb (ju 2 (dL eQ (aC)))
 (bb (λε=>iM (gu 3 (cg (dF (dL sF (ar (dF (cB [] (cg (d2 cn (dV 0) (dC (.int 1)))) (dI) (iX ij (dV 0) (nR) (gw (d1 nY (dC (.int 1))))))) (aC))))) (jB (rK (mQ a 12) (pP (dV 3) (pP (dV 1) (gN (mI (aY (sO a) (gV (d2 cn (dV 0) (dC (.int 1))) (bB)))) (gO 2 (bB))))))) ε))
 (p9 2))))
def vL(a:Ad):ak->R Slot:=bD 1 [] (bC 3 (yaP a))
def yaC(a:Ad):ak->R aS:=bb (dA (dB (d2 (eP λi j=>decide (i<j)) (dV 1) (dL bE (ar (dV 0) (aC))))) (cy (d2 cn (dV 0) (dV 1))) (eu))
 (bb (dA (dB (d2 (eqT aj) (dV 0) (dF (dL eQ (aC))))) (cy (dC (.int 0))) (eu))
 (cy (d2 bd (d2 jW (d2 cn (dV 0) (d2 fI (dV 1) (dL bE (ar (dV 0) (aC))))) (dC (.int 31))) (dV 1))))
def pO(a:Ad):ak->R Slot:=bD 2 [] (bC 0 (yaC a))
def yaE(a:Ad):ak->R aS:=bb (cN 3 (d2 fI (d2 bd (d2 bd (d2 jW (bh (aY (pO a) (gV (dV 0) (gV (dV 1) (bB))))) (dC (.int 1103515245))) (d2 jW (dC (.int 7919)) (dV 1))) (dC (.int 12345))) (dC (.int 2147483647))))
 (cy (d2 fI (d2 fI (d2 fI (d2 r8 (dV 3) (dC (.int 5))) (dC (.int 2147483647))) (dC (.int 999983))) (dV 2)))
def vZ(a:Ad):ak->R Slot:=bD 3 [] (bC 1 (yaE a))
def yaD(a:Ad):ak->R aS:=bb (n5 1 (dC (.int 0)))
 (kB (aY (vZ a) (gV (dV 0) (gV (i9 (λxs=>nS (bE xs)) 1) (gV (dV 2) (bB))))))
def iP(a:Ad):ak->R Slot:=bD 3 [1] (bC 0 (yaD a))
def yaG(a:Ad):ak->R aS:=cy (d2 cn (dV 2) (bh (aY (iP a) (gV (dV 0) (gO 1 (gV (dL bE (ar (dV 2) (aC))) (bB)))))))
def sd(a:Ad):ak->R Slot:=bD 3 [1] (bC 0 (yaG a))
def yaI(a:Ad):ak->R aS:=bb (cN 4 (bh (aY (sd a) (gV (dV 0) (gO 1 (gV (dF (dL eQ (ar (dC (.int 1)) (ar (dC (.int 2)) (ar (dC (.int 2)) (ar (dC (.int 3)) (ar (dC (.int 3)) (ar (dC (.int 3)) (aC))))))))) (bB)))))))
 (bb (cN 5 (dC (.str [])))
 (bb (λε=>iM (gu 6 (dL i6 (ar (d2 bd (dV 2) (bh (aY (iP a) (gV (dV 0) (gO 1 (gV (d2 bd (d2 fA (dV 3) (dV 2)) (dC (.int 1))) (bB))))))) (aC))) (cN 5 (d2 bd (dV 5) (d2 cn (dC (.str [97,98,99])) (bh (aY (iP a) (gV (dV 0) (gO 1 (gV (dV 4) (bB))))))))) ε))
 (cy (dV 5))))
def pD(a:Ad):ak->R Slot:=bD 4 [1] (bC 3 (yaI a))
def yaH(a:Ad):ak->R aS:=cy (dL mJ (ar (dF (dL lH (ar (dF (cB [0,1] (dL i6 (ar (dL bE (ar (dV 0) (aC))) (aC))) (dB (d2 (eP λi j=>decide (i<=j)) (d2 bd (dV 0) (dV 2)) (dL bE (ar (dV 1) (aC))))) (iX ij (dV 1) (gw (dV 0)) (gw (d2 bd (dV 0) (dV 2)))))) (aC)))) (aC)))
def jm(a:Ad):ak->R Slot:=bD 2 [] (bC 0 (yaH a))
def yaK(a:Ad):ak->R aS:=bb (cN 4 (dA (dB (d2 (eqT ah) (dV 2) (dC (.int 2)))) (d2 bd (dC (.int 2)) (bh (aY (iP a) (gV (dV 0) (gO 1 (gV (dC (.int 3)) (bB))))))) (d2 bd (dC (.int 1)) (bh (aY (iP a) (gV (dV 0) (gO 1 (gV (dC (.int 4)) (bB)))))))))
 (bb (ju 5 (dL pX (ar (bh (aY (jm a) (gV (bh (aY (pD a) (gV (dV 0) (gO 1 (gV (dV 4) (gV (d2 fA (d2 bd (dV 4) (dV 3)) (dC (.int 1))) (bB))))))) (gV (dV 4) (bB))))) (aC))))
 (bb (λε=>iM (gu 6 (dL i6 (ar (d2 fI (dV 2) (dC (.int 3))) (aC))) (v5 5 (bh (aY (iP a) (gV (dV 0) (gO 1 (gV (i9 (λxs=>nS (bE xs)) 5) (bB)))))) (bh (aY (pD a) (gV (dV 0) (gO 1 (gV (dV 4) (gV (dV 4) (bB)))))))) ε))
 (cy (dL bo (ar (dV 4) (ar (dL mJ (ar (dF (i9 (λxs=>qe (lH xs)) 5)) (aC))) (aC)))))))
def rH(a:Ad):ak->R Slot:=bD 4 [1] (bC 3 (yaK a))
def yaF(a:Ad):ak->R aS:=bb (cN 2 (dF (dL eQ (ar (dC .non) (ar (dC (.int 5)) (ar (dC (.str [50,58,32,97,98])) (ar (dF (dL eQ (ar (dC (.int 1)) (ar (dL bo (ar (dC (.str [97])) (aC))) (aC))))) (ar (dL bo (ar (dC (.int 1)) (ar (dL bo (aC)) (aC)))) (ar (dL bo (ar (dC (.int 2)) (ar (dL bo (ar (dC (.str [97])) (aC))) (aC)))) (ar (dL bo (ar (dC (.int 0)) (ar (dL bo (ar (dC (.str [])) (aC))) (aC)))) (ar (dL bo (ar (dC (.int 5)) (ar (dL bo (ar (dC (.str [97,97,97,97,97])) (aC))) (aC)))) (ar (dL bo (ar (dC (.bl ah)) (ar (dL bo (ar (dC (.str [97])) (aC))) (aC)))) (aC)))))))))))))
 (bb (cN 2 (d2 bd (dV 2) (dF (dL eQ (ar (dL bo (ar (dC (.int 1)) (ar (dL bo (ar (dC (.str [98])) (ar (dC (.str [97])) (aC)))) (aC)))) (ar (dL bo (ar (dC (.int 1)) (ar (d2 uX (dL bo (ar (dC (.str [97])) (aC))) (dC (.int 10))) (aC)))) (ar (dL bo (ar (dC (.int 1)) (ar (dL bo (ar (dC (.str [100])) (aC))) (aC)))) (ar (dL bo (ar (dC (.int 1)) (ar (dL bo (ar (dC (.str [65])) (aC))) (aC)))) (ar (dL bo (ar (dC (.int 1)) (ar (dF (dL eQ (ar (dC (.str [97])) (aC)))) (aC)))) (ar (dL bo (ar (dC (.int 1)) (ar (dL bo (ar (dC (.int 1)) (aC))) (aC)))) (aC)))))))))))
 (bb (cN 2 (d2 bd (dV 2) (dF (dL eQ (ar (dL bo (ar (dC (.int 1)) (aC))) (ar (dL bo (ar (dC (.int 1)) (ar (dL bo (ar (dC (.str [97])) (aC))) (ar (dC (.int 1)) (aC))))) (ar (dL bo (ar (dC (.str [49])) (ar (dL bo (ar (dC (.str [97])) (aC))) (aC)))) (aC))))))))
 (kB (aY (sd a) (gV (dV 0) (gO 1 (gV (dV 2) (bB))))))))
def v8(a:Ad):ak->R Slot:=bD 2 [1] (bC 1 (yaF a))
def yaL(a:Ad):ak->R aS:=bb (ju 1 (dL eQ (ar (dL (iJ (ip a)) (ar (dV 0) (ar (dC (.raw (.ref a.NoText))) (aC)))) (ar (dL (iJ (ip a)) (ar (dV 0) (ar (dC (.raw (.ref a.NoWidth))) (aC)))) (ar (dL (iJ (ip a)) (ar (dV 0) (ar (dC (.raw (.ref a.NoView))) (aC)))) (ar (dL (iJ (ip a)) (ar (dV 0) (ar (dC (.raw (.ref a.NoWindow))) (aC)))) (aC)))))))
 (bb (lK 1 (dF (dL eQ (ar (dL (iJ (ip a)) (ar (dV 0) (ar (dC (.raw (.ref a.Never))) (aC)))) (ar (dL (iJ (ip a)) (ar (dV 0) (ar (dC (.raw (.ref a.Full))) (aC)))) (ar (dL (iJ (ip a)) (ar (dV 0) (ar (dC (.raw (.ref a.Nothing))) (aC)))) (ar (dL (iJ (ip a)) (ar (dV 0) (ar (dC (.raw (.ref a.Unlike))) (aC)))) (aC))))))))
 (bb (lK 1 (dF (dL eQ (ar (dL (iJ (ip a)) (ar (dV 0) (ar (dC (.raw (.ref a.NoPlace))) (aC)))) (ar (dL (iJ (ip a)) (ar (dV 0) (ar (dC (.raw (.ref a.NoLetters))) (aC)))) (ar (dL (iJ (ip a)) (ar (dV 0) (ar (dC (.raw (.ref a.BadText))) (aC)))) (aC)))))))
 (bb (dA (nH (dB (d2 (eqT ah) (pQ kL 1 (dC (.bl ah))) (dC (.int 1)))) (iG (dB (dL (iJ (ip a)) (ar (dV 0) (ar (dC (.raw (.ty "ValueError"))) (aC))))))) (cy (dL bo (ar (dC (.str [114,101,102,117,115,101,100])) (ar (d1 nY (dC (.int 1))) (aC))))) (eu))
 (cy (dL bo (ar (dC (.str [114,101,102,117,115,101,100])) (ar (pQ yO 1 (dC (.bl ah))) (aC))))))))
def jv(a:Ad):ak->R Slot:=bD 1 [] (bC 1 (yaL a))
def yaJ(a:Ad):ak->R aS:=bb (cN 3 (bh (aY (jm a) (gV (dV 0) (gV (dV 1) (bB))))))
 (cy (dL n9 (ar (dF (cB [3,2] (cg (dV 3)) (dI) (d2 (eP λi j=>decide (i<=j)) (pF kL (dV 1) (dV 0)) (pF kL (dV 2) (dV 0))))) (aC))))
def mO(a:Ad):ak->R Slot:=bD 3 [] (bC 1 (yaJ a))
def yaA(a:Ad):ak->R aS:=bb (yv 1 2 (dV 0))
 (bb (cN 3 (dF (dL eQ (ar (dC (.str [])) (aC)))))
 (bb (λε=>iM (gu 4 (dL i6 (ar (d2 fA (d2 bd (dL bE (ar (dV 2) (aC))) (dV 1)) (dC (.int 1))) (aC))) (bb (ju 5 (dL eQ (aC)))
 (bb (gu 6 (cg (dV 3)) (lK 5 (dF (cB [6,1,2] (cg (dC (.str [97,98,99]))) (dB (bh (aY (mO a) (gV (d2 bd (dV 1) (dV 0)) (gV (dV 2) (gV (dV 3) (bB))))))) (d2 bd (dV 1) (dV 0))))))
 (cN 3 (dM 5)))) ε))
 (pe (cB [1,2] (cg (dV 3)) (dB (d2 (eqT aj) (bh (aY (jm a) (gV (dV 0) (gV (dV 1) (bB))))) (dV 2))) (dV 0)))))
def rX(a:Ad):ak->R Slot:=bD 1 [] (bC 6 (yaA a))
def yat(a:Ad):ak->R aS:=cy (jL (dL dU (ar (dV 0) (ar (dC (.raw (.ty "str"))) (aC)))) (jL (kM (eP λi j=>decide (i<=j)) (eP λi j=>decide (i<=j)) (dC (.int 1)) (dL bE (ar (dV 0) (aC))) (dV 1)) (bh (aY (sK a) (gV (dV 0) (gV (dC (.str [97,98,99])) (bB)))))))
def vY(a:Ad):ak->R Slot:=bD 2 [] (bC 0 (yat a))
def yao(a:Ad):ak->R aS:=dA (iG (dB (bh (aY (vY a) (gV (dV 0) (gV (dC (.int 12)) (bB))))))) (kE (.ref a.NoText) (λε=>bN ((dC (.str [97,32,116,101,120,116,32,104,97,115,32,49,32,116,111,32,49,50,32,108,101,116,116,101,114,115,32,97,44,32,98,44,32,99])) ε))) (eu)
def vN(a:Ad):ak->R Slot:=bD 1 [] (bC 0 (yao a))
def yaq(a:Ad):ak->R aS:=dA (iG (dB (bh (aY (kU a) (gV (dV 0) (bB)))))) (kE (.ref a.NoWidth) (λε=>bN ((dC (.str [97,32,119,105,100,116,104,32,105,115,32,97,32,119,104,111,108,101,32,110,117,109,98,101,114,32,102,114,111,109,32,49,32,116,111,32,52])) ε))) (eu)
def vA(a:Ad):ak->R Slot:=bD 1 [] (bC 0 (yaq a))
def yaN(a:Ad):ak->R aS:=pe (cB [0,1] (dL i6 (ar (d2 bd (d2 fA (dL bE (ar (dV 0) (aC))) (dV 1)) (dC (.int 1))) (aC))) (dI) (iX ij (dV 1) (gw (dV 0)) (gw (d2 bd (dV 0) (dV 2)))))
def sR(a:Ad):ak->R Slot:=bD 2 [] (bC 0 (yaN a))
def yaO(a:Ad):ak->R aS:=bb (jB (aY (vN a) (gV (dV 0) (bB))))
 (bb (jB (aY (vA a) (gV (dV 1) (bB))))
 (kB (aY (wc a) (gV (dV 1) (gV (bh (aY (sR a) (gV (dV 0) (gV (dV 1) (bB))))) (bB))))))
def qm(a:Ad):ak->R Slot:=bD 2 [] (bC 0 (yaO a))
def yaM(a:Ad):ak->R aS:=bb (jB (aY (kJ a) (gV (dV 0) (bB))))
 (bb (dA (dB (d2 (eqT aj) (d2 cn (dV 0) (dC (.int 0))) (dC (.int 1)))) (kE (.ref a.NoWidth) (λε=>bN ((dC (.str [110,111,32,119,105,100,116,104,32,105,115,32,108,101,115,115,32,116,104,97,110,32,49])) ε))) (eu))
 (bb (dA (dB (d2 (eqT aj) (dL bE (ar (d2 cn (dV 0) (dC (.int 1))) (aC))) (dC (.int 9)))) (kE (.ref a.Full) (λε=>bN ((dC (.str [97,32,110,97,114,114,111,119,101,114,32,118,105,101,119,32,119,111,117,108,100,32,104,97,118,101,32,109,111,114,101,32,116,104,97,110,32,57,32,119,105,110,100,111,119,115])) ε))) (eu))
 (cy (dF (dL sortSetVP (ar (dF (cB [0] (cg (bh (aY (vL a) (gV (dV 0) (bB))))) (dI) (bh (aY (qm a) (gV (dV 0) (gV (d2 fA (d2 cn (dV 1) (dC (.int 0))) (dC (.int 1))) (bB))))))) (aC)))))))
def js(a:Ad):ak->R Slot:=bD 1 [] (bC 0 (yaM a))
end Sh
namespace K22
open L2 Pu Sh
def cX(i:Nat):aZ:=PySem.Challenge.pw_slitview_k22_whole_narrower.main.body.getD i (.Pass ⟨0,0,0,0⟩)
abbrev xr:aZ:=cX 39
abbrev xj:aZ:=cX 40
abbrev ym:aZ:=cX 41
abbrev uB:aZ:=cX 44
abbrev zi:aZ:=cX 42
abbrev x_:aZ:=cX 43
abbrev xG:aZ:=cX 45
abbrev xN:aZ:=cX 19
abbrev zv:aZ:=cX 21
abbrev uW:aZ:=cX 18
abbrev yY:aZ:=cX 22
abbrev uZ:aZ:=cX 23
abbrev yR:aZ:=cX 24
abbrev yz:aZ:=cX 25
abbrev zy:aZ:=cX 28
abbrev y9:aZ:=cX 20
abbrev zp:aZ:=cX 26
abbrev zC:aZ:=cX 27
abbrev xI:aZ:=cX 30
abbrev u9:aZ:=cX 29
abbrev xK:aZ:=cX 31
abbrev xV:aZ:=cX 34
abbrev xC:aZ:=cX 33
abbrev wd:aZ:=cX 35
abbrev uK:aZ:=cX 37
abbrev xX:aZ:=cX 49
abbrev xL:aZ:=cX 50
abbrev zt:aZ:=cX 48
abbrev v9:aZ:=cX 46
abbrev rN:aZ:=cX 47
abbrev o_:aZ:=cX 51
structure cP(K:ax)(mg:Str->Option ai)(base:aA)(a:Ad):Prop where
 yaC:cq K mg "_law_cell_at" xr
 yaE:cq K mg "_law_mixed" xj
 yaD:cq K mg "_law_draw" ym
 yaH:cq K mg "_law_seen" uB
 yaG:cq K mg "_law_pick" zi
 yaI:cq K mg "_law_text" x_
 yaK:cq K mg "_law_view" xG
 yaw:cq K mg "is_whole_number" xN
 yax:cq K mg "is_width" zv
 yas:cq K mg "has_only" uW
 yay:cq K mg "is_window" yY
 yan:cq K mg "are_windows" uZ
 yav:cq K mg "is_view_with" yR
 yau:cq K mg "is_view" yz
 yap:cq K mg "check_view" zy
 yat:cq K mg "is_text_up_to" y9
 yao:cq K mg "check_text" zp
 yaq:cq K mg "check_width" zC
 yaQ:cq K mg "view_of" xI
 yaN:cq K mg "pieces" u9
 yaO:cq K mg "text_view" xK
 yam:cq K mg "add_endings" xV
 yar:cq K mg "counted" xC
 yaP:cq K mg "texts" wd
 yaM:cq K mg "narrower" uK
 yaL:cq K mg "_law_which" xX
 yaB:cq K mg "_law_ask" xL
 yaF:cq K mg "_law_odd" zt
 yaJ:cq K mg "_law_under" v9
 yaA:cq K mg "_law_all" rN
 yaz:cq K mg "law" o_
 yaR:mg "ValueError" = ae
 yaS:mg "all" = ae
 yaT:mg "any" = ae
 yaU:mg "bool" = ae
 yaV:mg "int" = ae
 yaW:mg "isinstance" = ae
 yaX:mg "len" = ae
 yaY:mg "list" = ae
 yaZ:mg "range" = ae
 ya0:mg "set" = ae
 ya1:mg "sorted" = ae
 ya2:mg "str" = ae
 ya3:mg "tuple" = ae
 ya8:∃t,mg "LETTERS" = aa (.str (tS [97,98,99]) t)
 ya9:∃t,mg "MOST_LETTERS" = aa (.int 12 t)
 yba:∃t,mg "MOST_WINDOWS" = aa (.int 9 t)
 ybb:∃t,mg "WIDEST" = aa (.int 4 t)
 yak:mg "SlitError" = aa (.ref a.SlitError)
 yaf:mg "NoText" = aa (.ref a.NoText)
 yah:mg "NoWidth" = aa (.ref a.NoWidth)
 yag:mg "NoView" = aa (.ref a.NoView)
 yai:mg "NoWindow" = aa (.ref a.NoWindow)
 yac:mg "Never" = aa (.ref a.Never)
 yab:mg "Full" = aa (.ref a.Full)
 yaj:mg "Nothing" = aa (.ref a.Nothing)
 yal:mg "Unlike" = aa (.ref a.Unlike)
 yae:mg "NoPlace" = aa (.ref a.NoPlace)
 yad:mg "NoLetters" = aa (.ref a.NoLetters)
 yaa:mg "BadText" = aa (.ref a.BadText)
 ya6:OwnCls "NoView" a.NoView [.type "ValueError",.type "Exception",.type "BaseException",.type "object"] "ValueError.__new__" mg base
 ya5:OwnCls "NoText" a.NoText [.type "ValueError",.type "Exception",.type "BaseException",.type "object"] "ValueError.__new__" mg base
 ya7:OwnCls "NoWidth" a.NoWidth [.type "ValueError",.type "Exception",.type "BaseException",.type "object"] "ValueError.__new__" mg base
 ya4:OwnCls "Full" a.Full [.type "ValueError",.type "Exception",.type "BaseException",.type "object"] "ValueError.__new__" mg base
 err_SlitError:oj base a.SlitError
 und:∀c,jK a c=ah->Under base a.SlitError c
 tab:xS K (ip a)
section
variable{P:aM}{w:aF}{K:ax}{mg:Str->Option ai}{base:aA}{a:Ad}
theorem Lf:b_ ["_law_script","_law_k"] ["_law_script","_law_k"] (aW xr):=by ac_nf
theorem Ls(G:cP K mg base a):cC (cf P w) P w K mg base "_law_cell_at" 1 ["_law_script","_law_k"] (bF K (pO a)) :=
 c8 (k:=0) (pin:=[]) G.yaC Lf rfl (λ_ _ _ _ _ _ us hl=>Pu.Ob (λ_ _=>rfl) us hl) (λf aJ A outer s H E hr=>by exact
  (bv (gB (ig L7 i_ (au 1) (cu gC gE G.yaX gx (ay (au 0) aG)) rfl) (bn (dJ (ic iw iy (au 0) (au 1)))) gr)
  (bv (gB (ig (jX hr.units) jP (au 0) (kR aG) rfl) (bn (dJ aR)) gr)
  (bn (dJ (bZ eI eE (bZ yf xR (ic iw iy (au 0) (bZ pt qp (au 1) (cu gC gE G.yaX gx (ay (au 0) aG)))) aR) (au 1)))))))
theorem Kt:b_ ["_law_script","_law_k","_law_many","_law_drawn"] ["_law_script","_law_k","_law_many"] (aW xj):=by ac_nf
theorem FA(G:cP K mg base a):cC (cf P w) P w K mg base "_law_mixed" 2 ["_law_script","_law_k","_law_many"] (bF K (vZ a)) :=
 c8 (k:=1) (pin:=[]) G.yaE Kt rfl (λ_ _ _ _ _ _ us hl=>Pu.Oi (λ_ _ _=>rfl) us hl) (λf aJ A outer s H E hr=>by exact
  (bv (gq 3 Kt.nd (bZ pt qp (bZ eI eE (bZ eI eE (bZ yf xR ((bQ (Ls G) (hr.mono (by decide)) cA (aQ (au 0) (aQ (au 1) bJ)))).de aR) (bZ yf xR aR (au 1))) aR) aR))
  (bn (dJ (bZ pt qp (bZ pt qp (bZ pt qp (bZ LY NG (au 3) aR) aR) aR) (au 2))))))
theorem MR:b_ ["_law_script","_law_town","_law_many"] ["_law_script","_law_town","_law_many"] (aW ym):=by ac_nf
theorem nI(G:cP K mg base a):cC (cf P w) P w K mg base "_law_draw" 3 ["_law_script","_law_town","_law_many"] (bF K (iP a)) :=
 c8 (k:=2) (pin:=[1]) G.yaD MR rfl (λ_ _ _ _ _ _ us hl=>Pu.Oi (λ_ _ _=>rfl) us hl) (λf aJ A outer s H E hr=>by exact
  (bv (CM 1 aR)
  (bn (rM (bQ (FA G) (hr.mono (by decide)) cA (aQ (au 0) (aQ (Di 1 gC gE G.yaX gx) (aQ (au 2) bJ))))))))
theorem Mi:b_ ["_law_text_here","_law_width"] ["_law_text_here","_law_width"] (aW uB):=by ac_nf
theorem uE(G:cP K mg base a):cC (cf P w) P w K mg base "_law_seen" 1 ["_law_text_here","_law_width"] (bF K (jm a)) :=
 c8 (k:=0) (pin:=[]) G.yaH Mi rfl (λ_ _ _ _ _ _ us hl=>Pu.Ob (λ_ _=>rfl) us hl) (λf aJ A outer s H E hr=>by exact
  (bn (dJ (zr y0 y6 G.ya3 rW (ay (xA uO v7 G.ya1 pT (ay (ku (cap:=[0,1]) (N':=["_law_at","_law_text_here","_law_width"]) (jS.of ["_law_text_here","_law_width"] (aW uB) rfl rfl (by decide +kernel)) rfl (rQ G.yaZ (ay (cu gC gE G.yaX gx (ay (au 0) aG)) aG)) (λC s₀ H₀ ex pn=>by exact vk (ig kw i_ (bZ eI eE (au 0) (au 2)) (cu gC gE G.yaX gx (ay (au 1) aG)) rfl)) (λC s₀ H₀ ex pn=>by exact(vR v_ vW (au 1) (pi (au 0)) (pi (bZ eI eE (au 0) (au 2)))))).de aG)).de aG)))))
theorem Kw:b_ ["_law_script","_law_town","_law_some"] ["_law_script","_law_town","_law_some"] (aW zi):=by ac_nf
theorem Ej(G:cP K mg base a):cC (cf P w) P w K mg base "_law_pick" 4 ["_law_script","_law_town","_law_some"] (bF K (sd a)) :=
 c8 (k:=3) (pin:=[1]) G.yaG Kw rfl (λ_ _ _ _ _ _ us hl=>Pu.Oi (λ_ _ _=>rfl) us hl) (λf aJ A outer s H E hr=>by exact
  (bn (dJ (ic iw iy (au 2) ((bQ (nI G) (hr.mono (by decide)) cA (aQ (au 0) (gS 1 (aQ (cu gC gE G.yaX gx (ay (au 2) aG)) bJ))))).de))))
theorem Nt:b_ ["_law_script","_law_town","_law_low","_law_most","_law_few","_law_made","_law_k"] ["_law_script","_law_town","_law_low","_law_most"] (aW x_):=by ac_nf
theorem Bj(G:cP K mg base a):cC (cf P w) P w K mg base "_law_text" 5 ["_law_script","_law_town","_law_low","_law_most"] (bF K (pD a)) :=
 c8 (k:=4) (pin:=[1]) G.yaI Nt rfl (λ_ _ _ _ _ _ us hl=>Pu.Ov (λ_ _ _ _=>rfl) us hl) (λf aJ A outer s H E hr=>by exact
  (bv (gq 4 Nt.nd ((bQ (Ej G) (hr.mono (by decide)) cA (aQ (au 0) (gS 1 (aQ (kR (ay aR (ay aR (ay aR (ay aR (ay aR (ay aR aG))))))) bJ))))).de)
  (bv (gq 5 Nt.nd (c_ []))
  (bv (pI (nW 6 qY rfl Nt.nd (rQ G.yaZ (ay (bZ eI eE (au 2) ((bQ (nI G) (hr.mono (by decide)) jz (aQ (au 0) (gS 1 (aQ (bZ eI eE (bZ mz mB (au 3) (au 2)) aR) bJ))))).de) aG)) (bn (gq 5 Nt.nd (bZ eI eE (au 5) (ic iw iy (c_ [97,98,99]) ((bQ (nI G) (hr.mono (by decide)) jz (aQ (au 0) (gS 1 (aQ (au 4) bJ))))).de))))))
  (bn (dJ (au 5)))))))
theorem MB:b_ ["_law_script","_law_town","_law_spoil","_law_most","_law_width","_law_windows","_law_k"] ["_law_script","_law_town","_law_spoil","_law_most"] (aW xG):=by ac_nf
theorem LQ(G:cP K mg base a):cC (cf P w) P w K mg base "_law_view" 6 ["_law_script","_law_town","_law_spoil","_law_most"] (bF K (rH a)) :=
 c8 (k:=5) (pin:=[1]) G.yaK MB rfl (λ_ _ _ _ _ _ us hl=>Pu.Ov (λ_ _ _ _=>rfl) us hl) (λf aJ A outer s H E hr=>by exact
  (bv (gq 4 MB.nd (C1 (ig (rR hr.units) sv (au 2) aR rfl) (bZ eI eE aR ((bQ (nI G) (hr.mono (by decide)) cA (aQ (au 0) (gS 1 (aQ aR bJ))))).de) (bZ eI eE aR ((bQ (nI G) (hr.mono (by decide)) cA (aQ (au 0) (gS 1 (aQ aR bJ))))).de)))
  (bv (p_ 5 MB.nd (Cm Ek CW G.yaY BA (ay ((bQ (uE G) (hr.mono (by decide)) cA (aQ ((bQ (Bj G) (hr.mono (by decide)) cA (aQ (au 0) (gS 1 (aQ (au 4) (aQ (bZ mz mB (bZ eI eE (au 4) (au 3)) aR) bJ)))))).de (aQ (au 4) bJ)))).de aG)))
  (bv (pI (nW 6 qY rfl MB.nd (rQ G.yaZ (ay (bZ pt qp (au 2) aR) aG)) (bn (KP 5 ((bQ (nI G) (hr.mono (by decide)) jz (aQ (au 0) (gS 1 (aQ (Di 5 gC gE G.yaX gx) bJ))))).de ((bQ (Bj G) (hr.mono (by decide)) jz (aQ (au 0) (gS 1 (aQ (au 4) (aQ (au 4) bJ)))))).de))))
  (bn (dJ (cp (ay (au 4) (ay (zr y0 y6 G.ya3 rW (ay (KZ 5 uO v7 G.ya1 pT).de aG)) aG)))))))))
theorem IZ:b_ ["thing"] ["thing"] (aW xN):=by ac_nf
theorem GW(G:cP K mg base a):cC (cf P w) P w K mg base "is_whole_number" 1 ["thing"] (bF K (lz a)) :=
 c8 (k:=0) (pin:=[]) G.yaw IZ rfl (λ_ _ _ _ _ _ us hl=>Pu.Om (λ_=>rfl) us hl) (λf aJ A outer s H E hr=>by exact
  (bn (dJ (oi (cu nK n4 G.yaW f8 (ay (au 0) (ay (nM G.yaV KO) aG))) (rJ (LG (cu nK n4 G.yaW f8 (ay (au 0) (ay (nM G.yaU KD) aG)))))))))
theorem Mz:b_ ["thing"] ["thing"] (aW zv):=by ac_nf
theorem B0(G:cP K mg base a):cC (cf P w) P w K mg base "is_width" 2 ["thing"] (bF K (kU a)) :=
 c8 (k:=1) (pin:=[]) G.yax Mz rfl (λ_ _ _ _ _ _ us hl=>Pu.Om (λ_=>rfl) us hl) (λf aJ A outer s H E hr=>by exact
  (bn (dJ (oi ((bQ (GW G) (hr.mono (by decide)) cA (aQ (au 0) bJ))).de (rJ (D_ kw kw i_ i_ aR (au 0) (sG G.ybb)))))))
theorem G9:b_ ["text","signs"] ["text","signs"] (aW uW):=by ac_nf
theorem C7(G:cP K mg base a):cC (cf P w) P w K mg base "has_only" 1 ["text","signs"] (bF K (sK a)) :=
 c8 (k:=0) (pin:=[]) G.yas G9 rfl (λ_ _ _ _ _ _ us hl=>Pu.Ob (λ_ _=>rfl) us hl) (λf aJ A outer s H E hr=>by exact
  (bn (dJ (cu (y_ rfl) zA G.yaS zq (ay (ku (cap:=[1]) (N':=["sign","signs"]) (jS.of ["text","signs"] (aW uW) rfl rfl (by decide +kernel)) rfl (jb (au 0)) (λC s₀ H₀ ex pn=>by exact nN) (λC s₀ H₀ ex pn=>by exact(om Ma FV (au 0) (au 1) rfl))).de aG)))))
theorem Hd:b_ ["thing","width","signs"] ["thing","width","signs"] (aW yY):=by ac_nf
theorem IJ(G:cP K mg base a):cC (cf P w) P w K mg base "is_window" 2 ["thing","width","signs"] (bF K (mM a)) :=
 c8 (k:=1) (pin:=[]) G.yay Hd rfl (λ_ _ _ _ _ _ us hl=>Pu.Oi (λ_ _ _=>rfl) us hl) (λf aJ A outer s H E hr=>by exact
  (bn (dJ (oi (cu nK n4 G.yaW f8 (ay (au 0) (ay (nM G.ya2 Cn) aG))) (oi (om (jX hr.units) jP (cu gC gE G.yaX gx (ay (au 0) aG)) (au 1) rfl) (rJ ((bQ (C7 G) (hr.mono (by decide)) cA (aQ (au 0) (aQ (au 2) bJ)))).de))))))
theorem LL:b_ ["thing","width","signs"] ["thing","width","signs"] (aW uZ):=by ac_nf
theorem Jt(G:cP K mg base a):cC (cf P w) P w K mg base "are_windows" 3 ["thing","width","signs"] (bF K (i4 a)) :=
 c8 (k:=2) (pin:=[]) G.yan LL rfl (λ_ _ _ _ _ _ us hl=>Pu.Oi (λ_ _ _=>rfl) us hl) (λf aJ A outer s H E hr=>by exact
  (bv (gB ((xy (kD (lP (cu nK n4 G.yaW f8 (ay (au 0) (ay (nM G.ya3 rW) aG))))) (xu (kD (Bn kw kw i_ i_ aR (cu gC gE G.yaX gx (ay (au 0) aG)) (sG G.yba)))))).dt (bn (dJ n6)) gr)
  (bv (gB (kD (lP (cu (y_ rfl) zA G.yaS zq (ay (ku (cap:=[1,2]) (N':=["window","width","signs"]) (jS.of ["thing","width","signs"] (aW uZ) rfl rfl (by decide +kernel)) rfl (jb (au 0)) (λC s₀ H₀ ex pn=>by exact nN) (λC s₀ H₀ ex pn=>by exact((bQ (IJ G) (hr.mono (by decide)) jz (aQ (au 0) (aQ (au 1) (aQ (au 2) bJ))))).de)).de aG)))) (bn (dJ n6)) gr)
  (bn (dJ (om (jX hr.units) jP (Cm Ek CW G.yaY BA (ay (au 0) aG)).de (xA uO v7 G.ya1 pT (ay (au 0) aG)).de rfl))))))
theorem FK:b_ ["thing","signs"] ["thing","signs"] (aW yR):=by ac_nf
theorem Hf(G:cP K mg base a):cC (cf P w) P w K mg base "is_view_with" 4 ["thing","signs"] (bF K (gy a)) :=
 c8 (k:=3) (pin:=[]) G.yav FK rfl (λ_ _ _ _ _ _ us hl=>Pu.Ob (λ_ _=>rfl) us hl) (λf aJ A outer s H E hr=>by exact
  (bv (gB ((xy (kD (lP (cu nK n4 G.yaW f8 (ay (au 0) (ay (nM G.ya3 rW) aG))))) (xu (ig (rR hr.units) sv (cu gC gE G.yaX gx (ay (au 0) aG)) aR rfl)))).dt (bn (dJ n6)) gr)
  (bn (dJ (oi ((bQ (B0 G) (hr.mono (by decide)) cA (aQ (ic iw iy (au 0) aR) bJ))).de (rJ ((bQ (Jt G) (hr.mono (by decide)) cA (aQ (ic iw iy (au 0) aR) (aQ (ic iw iy (au 0) aR) (aQ (au 1) bJ))))).de))))))
theorem GK:b_ ["thing"] ["thing"] (aW yz):=by ac_nf
theorem LH(G:cP K mg base a):cC (cf P w) P w K mg base "is_view" 5 ["thing"] (bF K (lJ a)) :=
 c8 (k:=4) (pin:=[]) G.yau GK rfl (λ_ _ _ _ _ _ us hl=>Pu.Om (λ_=>rfl) us hl) (λf aJ A outer s H E hr=>by exact
  (bn (rM (bQ (Hf G) (hr.mono (by decide)) cA (aQ (au 0) (aQ (zb G.ya8) bJ))))))
theorem Nw:b_ ["thing"] ["thing"] (aW zy):=by ac_nf
theorem DD(G:cP K mg base a):cC (cf P w) P w K mg base "check_view" 6 ["thing"] (bF K (kJ a)) :=
 c8 (k:=5) (pin:=[]) G.yap Nw rfl (λ_ _ _ _ _ _ us hl=>Pu.Om (λ_=>rfl) us hl) (λf aJ A outer s H E hr=>by exact
  (bn (gB (kD (lP ((bQ (LH G) (hr.mono (by decide)) cA (aQ (au 0) bJ))).de)) (bn (pW pq rfl G.ya6 tL (c_ [97,32,118,105,101,119,32,105,115,32,97,32,116,117,112,108,101,32,111,102,32,97,32,119,105,100,116,104,32,97,110,100,32,97,32,114,105,115,105,110,103,32,116,117,112,108,101,32,111,102,32,49,32,116,111,32,57,32,119,105,110,100,111,119,115]))) gr)))
theorem Gq:b_ ["thing","most"] ["thing","most"] (aW y9):=by ac_nf
theorem M6(G:cP K mg base a):cC (cf P w) P w K mg base "is_text_up_to" 2 ["thing","most"] (bF K (vY a)) :=
 c8 (k:=1) (pin:=[]) G.yat Gq rfl (λ_ _ _ _ _ _ us hl=>Pu.Ob (λ_ _=>rfl) us hl) (λf aJ A outer s H E hr=>by exact
  (bn (dJ (oi (cu nK n4 G.yaW f8 (ay (au 0) (ay (nM G.ya2 Cn) aG))) (oi (D_ kw kw i_ i_ aR (cu gC gE G.yaX gx (ay (au 0) aG)) (au 1)) (rJ ((bQ (C7 G) (hr.mono (by decide)) cA (aQ (au 0) (aQ (zb G.ya8) bJ)))).de))))))
theorem Km:b_ ["thing"] ["thing"] (aW zp):=by ac_nf
theorem NA(G:cP K mg base a):cC (cf P w) P w K mg base "check_text" 3 ["thing"] (bF K (vN a)) :=
 c8 (k:=2) (pin:=[]) G.yao Km rfl (λ_ _ _ _ _ _ us hl=>Pu.Om (λ_=>rfl) us hl) (λf aJ A outer s H E hr=>by exact
  (bn (gB (kD (lP ((bQ (M6 G) (hr.mono (by decide)) cA (aQ (au 0) (aQ (sG G.ya9) bJ)))).de)) (bn (pW pq rfl G.ya5 tL (c_ [97,32,116,101,120,116,32,104,97,115,32,49,32,116,111,32,49,50,32,108,101,116,116,101,114,115,32,97,44,32,98,44,32,99]))) gr)))
theorem FF:b_ ["thing"] ["thing"] (aW zC):=by ac_nf
theorem MK(G:cP K mg base a):cC (cf P w) P w K mg base "check_width" 3 ["thing"] (bF K (vA a)) :=
 c8 (k:=2) (pin:=[]) G.yaq FF rfl (λ_ _ _ _ _ _ us hl=>Pu.Om (λ_=>rfl) us hl) (λf aJ A outer s H E hr=>by exact
  (bn (gB (kD (lP ((bQ (B0 G) (hr.mono (by decide)) cA (aQ (au 0) bJ))).de)) (bn (pW pq rfl G.ya7 tL (c_ [97,32,119,105,100,116,104,32,105,115,32,97,32,119,104,111,108,101,32,110,117,109,98,101,114,32,102,114,111,109,32,49,32,116,111,32,52]))) gr)))
theorem Mw:b_ ["width","windows"] ["width","windows"] (aW xI):=by ac_nf
theorem Hv(G:cP K mg base a):cC (cf P w) P w K mg base "view_of" 1 ["width","windows"] (bF K (wc a)) :=
 c8 (k:=0) (pin:=[]) G.yaQ Mw rfl (λ_ _ _ _ _ _ us hl=>Pu.Ob (λ_ _=>rfl) us hl) (λf aJ A outer s H E hr=>by exact
  (bv (gB (kD (Bn kw kw i_ i_ aR (cu gC gE G.yaX gx (ay (au 1) aG)) (sG G.yba))) (bn (pW pq rfl G.ya6 tL (c_ [97,32,118,105,101,119,32,104,97,115,32,49,32,116,111,32,57,32,119,105,110,100,111,119,115]))) gr)
  (bn (dJ (cp (ay (au 0) (ay (zr y0 y6 G.ya3 rW (ay (xA uO v7 G.ya1 pT (ay (au 1) aG)).de aG)) aG)))))))
theorem Mp:b_ ["text","length"] ["text","length"] (aW u9):=by ac_nf
theorem Ni(G:cP K mg base a):cC (cf P w) P w K mg base "pieces" 1 ["text","length"] (bF K (sR a)) :=
 c8 (k:=0) (pin:=[]) G.yaN Mp rfl (λ_ _ _ _ _ _ us hl=>Pu.Ob (λ_ _=>rfl) us hl) (λf aJ A outer s H E hr=>by exact
  (bn (Ci (ku (cap:=[0,1]) (N':=["place","text","length"]) (jS.of ["text","length"] (aW u9) rfl rfl (by decide +kernel)) rfl (rQ G.yaZ (ay (bZ eI eE (bZ mz mB (cu gC gE G.yaX gx (ay (au 0) aG)) (au 1)) aR) aG)) (λC s₀ H₀ ex pn=>by exact nN) (λC s₀ H₀ ex pn=>by exact(vR v_ vW (au 1) (pi (au 0)) (pi (bZ eI eE (au 0) (au 2)))))))))
theorem Gu:b_ ["text","width"] ["text","width"] (aW xK):=by ac_nf
theorem Li(G:cP K mg base a):cC (cf P w) P w K mg base "text_view" 4 ["text","width"] (bF K (qm a)) :=
 c8 (k:=3) (pin:=[]) G.yaO Gu rfl (λ_ _ _ _ _ _ us hl=>Pu.Ob (λ_ _=>rfl) us hl) (λf aJ A outer s H E hr=>by exact
  (bv (ph (bQ (NA G) (hr.mono (by decide)) cA (aQ (au 0) bJ)))
  (bv (ph (bQ (MK G) (hr.mono (by decide)) cA (aQ (au 1) bJ)))
  (bn (rM (bQ (Hv G) (hr.mono (by decide)) cA (aQ (au 1) (aQ ((bQ (Ni G) (hr.mono (by decide)) cA (aQ (au 0) (aQ (au 1) bJ)))).de bJ))))))))
theorem Bh:b_ ["text","width","left","found","head","letter","window"] ["text","width","left","found"] (aW xV):=by ac_nf
theorem JD(G:cP K mg base a)(m:Nat):cC (cf P w) P w K mg base "add_endings" (1+m) ["text","width","left","found"] (bF K (mQ a m)):=by
 induction m with
 |zero=>exact c8 (k:=0) (pin:=[2,3]) G.yam Bh rfl (λ_ _ _ _ _ _ us hl=>Pu.Ov (λ_ _ _ _=>rfl) us hl) (λf aJ A outer s H E hr=>MT)
 |succ m ih=>exact c8 (k:=1+m) (pin:=[2,3]) G.yam Bh rfl (λ_ _ _ _ _ _ us hl=>Pu.Ov (λ_ _ _ _=>rfl) us hl) (λf aJ A outer s H E hr=>by exact
  (bv (gB (kD (lP (Kb 2 rfl G.yaT))) (bv (CM 3 (au 0))
  (bn MP)) gr)
  (bv (gq 4 Bh.nd (vR v_ vW (au 0) (pi (bZ eI eE (bZ mz mB (cu gC gE G.yaX gx (ay (au 0) aG)) (au 1)) aR)) CA))
  (bn (pI (nW 5 qY rfl Bh.nd (jb (zb G.ya8)) (bv (gq 6 Bh.nd (bZ eI eE (au 4) (au 5)))
  (bn (gB (ig B6 i_ (Dp 2 hr.units (au 6) aR) aR rfl) (bv (zm 2 hr.units (au 6) (bZ mz mB (B8 2 hr.units (au 6)) aR))
  (bv (ph (bQ ih (hr.mono ∅) jz (aQ (bZ eI eE (au 0) (au 5)) (aQ (au 1) (gS 2 (gS 3 bJ))))))
  (bn (zm 2 hr.units (au 6) (bZ eI eE (B8 2 hr.units (au 6)) aR))))) gr)))))))))
theorem Gr:b_ ["windows","counts","window"] ["windows"] (aW xC):=by ac_nf
theorem HH(G:cP K mg base a):cC (cf P w) P w K mg base "counted" 1 ["windows"] (bF K (sO a)) :=
 c8 (k:=0) (pin:=[]) G.yar Gr rfl (λ_ _ _ _ _ _ us hl=>Pu.Om (λ_=>rfl) us hl) (λf aJ A outer s H E hr=>by exact
  (bv (p_ 1 Gr.nd (Hk))
  (bv (pI (nW 2 qY rfl Gr.nd (jb (au 0)) (bn (zm 1 hr.units (au 2) (bZ eI eE (Dp 1 hr.units (au 2) aR) aR)))))
  (bn (C_ 1)))))
theorem Nx:b_ ["view","width","found","head"] ["view"] (aW wd):=by ac_nf
theorem Gw(G:cP K mg base a):cC (cf P w) P w K mg base "texts" 14 ["view"] (bF K (vL a)) :=
 c8 (k:=13) (pin:=[]) G.yaP Nx rfl (λ_ _ _ _ _ _ us hl=>Pu.Om (λ_=>rfl) us hl) (λf aJ A outer s H E hr=>by exact
  (bv (ph (bQ (DD G) (hr.mono (by decide)) cA (aQ (au 0) bJ)))
  (bv (gq 1 Nx.nd (ic iw iy (au 0) aR))
  (bv (p_ 2 Nx.nd (rS aG))
  (bv (pI (nW 3 qY rfl Nx.nd (jb (Im rfl (ay (ku (cap:=[]) (N':=["window"]) (jS.of ["view","width","found","head"] (aW wd) rfl rfl (by decide +kernel)) rfl (jb (ic iw iy (au 0) aR)) (λC s₀ H₀ ex pn=>by exact nN) (λC s₀ H₀ ex pn=>by exact(vR v_ vW (au 0) CA (pi (CO BR D6 aR))))).de aG) G.ya1 G.ya0).de) (bn (ph (LO (JD G 12) (hr.mono (by decide)) jz (A8 (au 3) (A8 (au 1) (Ii (((bQ (HH G) (hr.mono (by decide)) jz (aQ (ic iw iy (au 0) aR) bJ))).dn) (gS 2 bJ)))))))))
  (bn (C_ 2)))))))
theorem HK:b_ ["view"] ["view"] (aW uK):=by ac_nf
theorem H_(G:cP K mg base a):cC (cf P w) P w K mg base "narrower" 15 ["view"] (bF K (js a)) :=
 c8 (k:=14) (pin:=[]) G.yaM HK rfl (λ_ _ _ _ _ _ us hl=>Pu.Om (λ_=>rfl) us hl) (λf aJ A outer s H E hr=>by exact
  (bv (ph (bQ (DD G) (hr.mono (by decide)) cA (aQ (au 0) bJ)))
  (bv (gB (ig (jX hr.units) jP (ic iw iy (au 0) aR) aR rfl) (bn (pW pq rfl G.ya7 tL (c_ [110,111,32,119,105,100,116,104,32,105,115,32,108,101,115,115,32,116,104,97,110,32,49]))) gr)
  (bv (gB (ig (jX hr.units) jP (cu gC gE G.yaX gx (ay (ic iw iy (au 0) aR) aG)) (sG G.yba) rfl) (bn (pW pq rfl G.ya4 tL (c_ [97,32,110,97,114,114,111,119,101,114,32,118,105,101,119,32,119,111,117,108,100,32,104,97,118,101,32,109,111,114,101,32,116,104,97,110,32,57,32,119,105,110,100,111,119,115]))) gr)
  (bn (dJ (dn_sortSetV hr.units rfl (ay (ku (cap:=[0]) (N':=["text","view"]) (jS.of ["view"] (aW uK) rfl rfl (by decide +kernel)) rfl (jb ((bQ (Gw G) (hr.mono (by decide)) cA (aQ (au 0) bJ))).de) (λC s₀ H₀ ex pn=>by exact nN) (λC s₀ H₀ ex pn=>by exact((bQ (Li G) (hr.mono (by decide)) jz (aQ (au 0) (aQ (bZ mz mB (ic iw iy (au 1) aR) aR) bJ)))).de)).de aG) G.ya1 G.ya0).de))))))
theorem Hm:b_ ["_law_e","_law_own"] ["_law_e"] (aW xX):=by ac_nf
theorem I_(G:cP K mg base a):uY P w K mg base "_law_which" 1 ["_law_e"] (bF K (jv a)) :=
 Hu (k:=0) (pin:=[]) G.yaL Hm rfl (λ_ _ _ _ _ _ us hl=>Pu.Om (λ_=>rfl) us hl) (λf aJ A outer s H hr=>by exact
  (bv (p_ 1 Hm.nd (rS (ay (cu jw (jo G.tab) G.yaW f8 (ay (au 0) (ay (jV G.yaf) aG))) (ay (cu jw (jo G.tab) G.yaW f8 (ay (au 0) (ay (jV G.yah) aG))) (ay (cu jw (jo G.tab) G.yaW f8 (ay (au 0) (ay (jV G.yag) aG))) (ay (cu jw (jo G.tab) G.yaW f8 (ay (au 0) (ay (jV G.yai) aG))) aG))))))
  (bv (ya 1 (kR (ay (cu jw (jo G.tab) G.yaW f8 (ay (au 0) (ay (jV G.yac) aG))) (ay (cu jw (jo G.tab) G.yaW f8 (ay (au 0) (ay (jV G.yab) aG))) (ay (cu jw (jo G.tab) G.yaW f8 (ay (au 0) (ay (jV G.yaj) aG))) (ay (cu jw (jo G.tab) G.yaW f8 (ay (au 0) (ay (jV G.yal) aG))) aG))))))
  (bv (ya 1 (kR (ay (cu jw (jo G.tab) G.yaW f8 (ay (au 0) (ay (jV G.yae) aG))) (ay (cu jw (jo G.tab) G.yaW f8 (ay (au 0) (ay (jV G.yad) aG))) (ay (cu jw (jo G.tab) G.yaW f8 (ay (au 0) (ay (jV G.yaa) aG))) aG)))))
  (bv (gB ((xy (ig (rR hr.units) sv (HU 1 n6) aR rfl) (xu (kD (lP (cu jw (jo G.tab) G.yaW f8 (ay (au 0) (ay (nM G.yaR LM) aG)))))))).dt (bn (dJ (cp (ay (c_ [114,101,102,117,115,101,100]) (ay (CO BR D6 aR) aG))))) gr)
  (bn (dJ (cp (ay (c_ [114,101,102,117,115,101,100]) (ay (GG 1 n6) aG))))))))))
def yaB(a:Ad):ak->R aS:=pY 1 (jK a) (sm (js a) (gV (dV 0) (bB))) (kB (λε=>bN (aY (jv a) (gV (dV 1) (bB)) ε)))
def ja(a:Ad):ak->R Slot:=bD 1 [] (bC 1 (yaB a))
theorem MD:b_ ["_law_asked","_law_e"] ["_law_asked"] (aW xL):=by ac_nf
theorem uT(G:cP K mg base a):cC (cf P w) P w K mg base "_law_ask" 16 ["_law_asked"] (bF K (ja a)) :=
 c8 (k:=15) (pin:=[]) G.yaB MD rfl (λ_ _ _ _ _ _ us hl=>Pu.Om (λ_=>rfl) us hl) (λf aJ A outer s H E hr=>by
  have hrh:=λad=>eY.hand (v:=aa (.ref ad)) hr;exact
  (bn (IN 1 MD.nd (He (H_ G) (hr.mono (by decide)) (aQ (au 0) bJ)) G.yak G.err_SlitError G.und (λad=>by exact(bn (rM (J7 (I_ G) ((hrh ad).mono (by decide)) (aQ (au 1) bJ))))))))
theorem Gh:b_ ["_law_script","_law_town","_law_some"] ["_law_script","_law_town"] (aW zt):=by ac_nf
theorem K6(G:cP K mg base a):cC (cf P w) P w K mg base "_law_odd" 5 ["_law_script","_law_town"] (bF K (v8 a)) :=
 c8 (k:=4) (pin:=[1]) G.yaF Gh rfl (λ_ _ _ _ _ _ us hl=>Pu.Ob (λ_ _=>rfl) us hl) (λf aJ A outer s H E hr=>by exact
  (bv (gq 2 Gh.nd (kR (ay F_ (ay aR (ay (c_ [50,58,32,97,98]) (ay (kR (ay aR (ay (cp (ay (c_ [97]) aG)) aG))) (ay (cp (ay aR (ay (cp aG) aG))) (ay (cp (ay aR (ay (cp (ay (c_ [97]) aG)) aG))) (ay (cp (ay aR (ay (cp (ay (c_ []) aG)) aG))) (ay (cp (ay aR (ay (cp (ay (c_ [97,97,97,97,97]) aG)) aG))) (ay (cp (ay n6 (ay (cp (ay (c_ [97]) aG)) aG))) aG)))))))))))
  (bv (gq 2 Gh.nd (bZ eI eE (au 2) (kR (ay (cp (ay aR (ay (cp (ay (c_ [98]) (ay (c_ [97]) aG))) aG))) (ay (cp (ay aR (ay (bZ ND Ng (cp (ay (c_ [97]) aG)) aR) aG))) (ay (cp (ay aR (ay (cp (ay (c_ [100]) aG)) aG))) (ay (cp (ay aR (ay (cp (ay (c_ [65]) aG)) aG))) (ay (cp (ay aR (ay (kR (ay (c_ [97]) aG)) aG))) (ay (cp (ay aR (ay (cp (ay aR aG)) aG))) aG)))))))))
  (bv (gq 2 Gh.nd (bZ eI eE (au 2) (kR (ay (cp (ay aR aG)) (ay (cp (ay aR (ay (cp (ay (c_ [97]) aG)) (ay aR aG)))) (ay (cp (ay (c_ [49]) (ay (cp (ay (c_ [97]) aG)) aG))) aG))))))
  (bn (rM (bQ (Ej G) (hr.mono (by decide)) cA (aQ (au 0) (gS 1 (aQ (au 2) bJ))))))))))
theorem Gg:b_ ["_law_text_here","_law_width","_law_windows","_law_made"] ["_law_text_here","_law_width","_law_windows"] (aW v9):=by ac_nf
theorem JZ(G:cP K mg base a):cC (cf P w) P w K mg base "_law_under" 2 ["_law_text_here","_law_width","_law_windows"] (bF K (mO a)) :=
 c8 (k:=1) (pin:=[]) G.yaJ Gg rfl (λ_ _ _ _ _ _ us hl=>Pu.Oi (λ_ _ _=>rfl) us hl) (λf aJ A outer s H E hr=>by exact
  (bv (gq 3 Gg.nd ((bQ (uE G) (hr.mono (by decide)) cA (aQ (au 0) (aQ (au 1) bJ)))).de)
  (bn (dJ (cu (y_ rfl) zA G.yaS zq (ay (ku (cap:=[3,2]) (N':=["_law_window","_law_made","_law_windows"]) (jS.of ["_law_text_here","_law_width","_law_windows","_law_made"] (aW v9) rfl rfl (by decide +kernel)) rfl (jb (au 3)) (λC s₀ H₀ ex pn=>by exact nN) (λC s₀ H₀ ex pn=>by exact(om kw i_ (CQ (au 1) (au 0)) (CQ (au 2) (au 0)) rfl))).de aG))))))
theorem HP:b_ ["_law_asked","_law_width","_law_windows","_law_rows","_law_k","_law_longer","_law_line"] ["_law_asked"] (aW rN):=by ac_nf
theorem Ht(G:cP K mg base a):cC (cf P w) P w K mg base "_law_all" 3 ["_law_asked"] (bF K (rX a)) :=
 c8 (k:=2) (pin:=[]) G.yaA HP rfl (λ_ _ _ _ _ _ us hl=>Pu.Om (λ_=>rfl) us hl) (λf aJ A outer s H E hr=>by exact
  (bv (Na 1 2 rfl HP.nd (au 0))
  (bv (gq 3 HP.nd (kR (ay (c_ []) aG)))
  (bv (pI (nW 4 qY rfl HP.nd (rQ G.yaZ (ay (bZ mz mB (bZ eI eE (cu gC gE G.yaX gx (ay (au 2) aG)) (au 1)) aR) aG)) (bv (p_ 5 HP.nd (rS aG))
  (bv (nW 6 qY rfl HP.nd (jb (au 3)) (bn (ya 5 (ku (cap:=[6,1,2]) (N':=["_law_letter","_law_line","_law_width","_law_windows"]) (jS.of ["_law_asked","_law_width","_law_windows","_law_rows","_law_k","_law_longer","_law_line"] (aW rN) rfl rfl (by decide +kernel)) rfl (jb (c_ [97,98,99])) (λC s₀ H₀ ex pn=>by exact vk (lP ((bQ (JZ G) (hr.mono (by decide)) jz (aQ (bZ eI eE (au 1) (au 0)) (aQ (au 2) (aQ (au 3) bJ))))).de)) (λC s₀ H₀ ex pn=>by exact(bZ eI eE (au 1) (au 0)))).de)))
  (bn (gq 3 HP.nd (Nk 5)))))))
  (bn (Ci (ku (cap:=[1,2]) (N':=["_law_line","_law_width","_law_windows"]) (jS.of ["_law_asked","_law_width","_law_windows","_law_rows","_law_k","_law_longer","_law_line"] (aW rN) rfl rfl (by decide +kernel)) rfl (jb (au 3)) (λC s₀ H₀ ex pn=>by exact vk (ig (jX hr.units) jP ((bQ (uE G) (hr.mono (by decide)) jz (aQ (au 0) (aQ (au 1) bJ)))).de (au 2) rfl)) (λC s₀ H₀ ex pn=>by exact(au 0)))))))))
def yaz(a:Ad):ak->R aS:=bb (ju 1 (dL eQ (aC)))
 (bb (cN 2 (bh (aY (iP a) (gV (dV 0) (gO 1 (gV (dC (.int 3)) (bB)))))))
 (bb (cN 3 (bh (aY (rH a) (gV (dV 0) (gO 1 (gV (dV 2) (gV (dA (dB (d2 (eP λi j=>decide (j<i)) (dV 2) (dC (.int 0)))) (dC (.int 9)) (dC (.int 7))) (bB))))))))
 (bb (cN 4 (d2 fA (d2 cn (dV 3) (dC (.int 0))) (dC (.int 1))))
 (bb (dA (dB (d2 (eqT ah) (bh (aY (ja a) (gV (bh (aY (v8 a) (gV (dV 0) (gO 1 (bB))))) (bB)))) (dL bo (ar (dC (.str [114,101,102,117,115,101,100])) (ar (dC (.int 2)) (aC)))))) (cy (dC (.bl aj))) (eu))
 (bb (dA (dB (d2 (eqT aj) (dV 4) (dC (.int 0)))) (cy (d2 (eqT aj) (bh (aY (ja a) (gV (dV 3) (bB)))) (dL bo (ar (dC (.str [114,101,102,117,115,101,100])) (ar (dC (.int 1)) (aC)))))) (eu))
 (bb (dA (dB (d2 (eqT aj) (dL bE (ar (d2 cn (dV 3) (dC (.int 1))) (aC))) (dC (.int 9)))) (cy (d2 (eqT aj) (bh (aY (ja a) (gV (dV 3) (bB)))) (dL bo (ar (dC (.str [114,101,102,117,115,101,100])) (ar (dC (.int 5)) (aC)))))) (eu))
 (bb (cN 5 (dF (cB [4] (cg (bh (aY (rX a) (gV (dV 3) (bB))))) (dI) (bh (aY (jm a) (gV (dV 0) (gV (dV 1) (bB))))))))
 (cy (d2 (eqT aj) (bh (aY (ja a) (gV (dV 3) (bB)))) (dF (dL sortSetVP (ar (dF (cB [4] (cg (dV 5)) (dB (d2 (eqT ah) (dV 0) (dL bo (aC)))) (dL bo (ar (dV 1) (ar (dV 0) (aC)))))) (aC)))))))))))))
def nO(a:Ad):ak->R Slot:=bD 1 [] (bC 5 (yaz a))
theorem Ka:b_ ["_law_script","_law_town","_law_spoil","_law_asked","_law_width","_law_rows"] ["_law_script"] (aW o_):=by ac_nf
theorem JW(G:cP K mg base a){f:af}{fd:gc}(Fn:nV K "law" "law" o_ f fd):jQ P w K mg base (cf P w) 17 f fd ["_law_script"] (bF K (nO a)) :=
 Je (k:=16) (pin:=[]) Fn Ka rfl (λ_ _ _ _ _ _ us hl=>Pu.Om (λ_=>rfl) us hl) (λf aJ A outer s H E hr=>by exact
  (bv (p_ 1 Ka.nd (rS aG))
  (bv (gq 2 Ka.nd ((bQ (nI G) (hr.mono (by decide)) cA (aQ (au 0) (gS 1 (aQ aR bJ))))).de)
  (bv (gq 3 Ka.nd ((bQ (LQ G) (hr.mono (by decide)) cA (aQ (au 0) (gS 1 (aQ (au 2) (aQ (C1 (ig B6 i_ (au 2) aR rfl) aR aR) bJ)))))).de)
  (bv (gq 4 Ka.nd (bZ mz mB (ic iw iy (au 3) aR) aR))
  (bv (gB (ig (rR hr.units) sv ((bQ (uT G) (hr.mono (by decide)) cA (aQ ((bQ (K6 G) (hr.mono (by decide)) cA (aQ (au 0) (gS 1 bJ)))).de bJ))).de (cp (ay (c_ [114,101,102,117,115,101,100]) (ay aR aG))) rfl) (bn (dJ n6)) gr)
  (bv (gB (ig (jX hr.units) jP (au 4) aR rfl) (bn (dJ (om (jX hr.units) jP ((bQ (uT G) (hr.mono (by decide)) cA (aQ (au 3) bJ))).de (cp (ay (c_ [114,101,102,117,115,101,100]) (ay aR aG))) rfl))) gr)
  (bv (gB (ig (jX hr.units) jP (cu gC gE G.yaX gx (ay (ic iw iy (au 3) aR) aG)) aR rfl) (bn (dJ (om (jX hr.units) jP ((bQ (uT G) (hr.mono (by decide)) cA (aQ (au 3) bJ))).de (cp (ay (c_ [114,101,102,117,115,101,100]) (ay aR aG))) rfl))) gr)
  (bv (Ga 5 Ka.nd (cap:=[4]) (N':=["_law_line","_law_width"]) (jS.of ["_law_script","_law_town","_law_spoil","_law_asked","_law_width","_law_rows"] (aW o_) rfl rfl (by decide +kernel)) rfl (jb ((bQ (Ht G) (hr.mono (by decide)) cA (aQ (au 3) bJ))).de) (λC s₀ H₀ ex pn=>by exact nN) (λC s₀ H₀ ex pn=>by exact((bQ (uE G) (hr.mono (by decide)) jz (aQ (au 0) (aQ (au 1) bJ)))).de))
  (bn (dJ (om (jX hr.units) jP ((bQ (uT G) (hr.mono (by decide)) cA (aQ (au 3) bJ))).de (dn_sortSetV hr.units rfl (ay (ku (cap:=[4]) (N':=["_law_row","_law_width"]) (jS.of ["_law_script","_law_town","_law_spoil","_law_asked","_law_width","_law_rows"] (aW o_) rfl rfl (by decide +kernel)) rfl (jb (au 5)) (λC s₀ H₀ ex pn=>by exact vk (ig (rR hr.units) sv (au 0) (cp aG) rfl)) (λC s₀ H₀ ex pn=>by exact(cp (ay (au 1) (ay (au 0) aG))))).de aG) G.ya1 G.ya0).de rfl))))))))))))
end
end K22
namespace Mx
open L2 Pu
def bM:Tx:=[97,98,99]
def dv:Nat->List Tx
 |0=>[[]]
 |k+1=>bM.flatMap λc=>(dv k).map (c::·)
theorem mL:∀(k:Nat) (x:Tx),x∈dv k↔x.length=k/\∀c∈x,c∈bM
 |0,x=>by
  simp only[dv,hV];constructor
  ·rintro rfl;simp
  ·rintro⟨h,_⟩;exact AA.mp h
 |k+1,x=>by
  simp only[dv,List.mem_flatMap,bP];constructor
  ·rintro⟨c,hc,y,hy,rfl⟩;obtain⟨h1,h2⟩:=(mL k y).mp hy;refine⟨by simp[h1],λd hd=>?_⟩;rcases bG.mp hd with rfl|hd
   ·exact hc
   ·exact h2 d hd
  ·rintro⟨h1,h2⟩;cases x with
   |nil=>cases h1
   |cons c y=>exact⟨c,h2 c (by simp),y,(mL k y).mpr ⟨wL h1,λd hd=>h2 d (by simp[hd])⟩,rfl⟩
theorem zg:∀k:Nat,(dv k).length=3^k
 |0=>rfl
 |k+1=>by simp only[dv,bM,qZ,E9,ef,dy,zg k,m_,tD];lia
theorem CD(i j:Nat):dv (i+j)=(dv i).flatMap λh=>(dv j).map (h++·):=by
 induction i with
 |zero=>simp[dv]
 |succ i ih=>rw[show i+1+j=(i+j)+1 by lia];simp only[dv,ih,List.flatMap_assoc,List.map_flatMap,List.flatMap_map,c0,tz,Ap]
theorem GA(k:Nat):dv (k+1)=(dv k).flatMap λh=>bM.map λc=>h++[c]:=by rw[CD k 1];congr 1
theorem yZ:∀k:Nat,(dv k).Pairwise (λa b=>a<b)
 |0=>by simp[dv]
 |k+1=>by
  simp only[dv];rw[List.pairwise_flatMap];refine⟨λc _=>?_,?_⟩
  ·rw[wA];exact(yZ k).imp λh=>Ay.mpr (.inr ⟨rfl,h⟩)
  ·have:bM.Pairwise (λa b=>a<b):=by decide
   refine this.imp λh=>?_;intro x hx y hy;obtain⟨x',_,rfl⟩:=bP.mp hx;obtain⟨y',_,rfl⟩:=bP.mp hy;exact Ay.mpr (.inl h)
theorem FJ{a b:Tx}(h:a<b):cY a b=ah:=by simp only[cY,decide_eq_true_eq];exact List.le_of_lt h
theorem Gn(k:Nat):(dv k).Pairwise (λa b=>cY a b=ah):=(yZ k).imp FJ
theorem CB(k:Nat):(dv k).Nodup:=(yZ k).imp λh z=>by subst z;exact List.lt_irrefl _ h
def a6(z:Tx)(w:Nat):List Tx:=((bX z.length).filter λi=>decide (i+w<=z.length)).map λi=>(z.drop i).take w
theorem CT(w L:Nat):∀m:Nat,(bX m).filter (λi=>decide (i+w<=L))=bX (min m (L+1-w))
 |0=>by simp
 |m+1=>by
  rw[oJ,List.filter_append,CT w L m];by_cases h:m+w<=L
  ·rw[show min m (L+1-w)=m by lia,show min (m+1) (L+1-w)=m+1 by lia,oJ];simp[h]
  ·rw[show min (m+1) (L+1-w)=min m (L+1-w) by lia];simp[h]
theorem qf(z:Tx)(w:Nat)(hw:1<=w):a6 z w=(bX (z.length+1-w)).map λi=>(z.drop i).take w:=by unfold a6;rw[CT,show min z.length (z.length+1-w)=z.length+1-w by lia]
def nw(w:Nat)(t:Tx):Tx->List Tx
 |[]=>[]
 |c::s=>(t.drop (t.length+1-w)++[c])::nw w (t++[c]) s
theorem DU(w:Nat)(hw:1<=w):∀(s t:Tx),w<=t.length+1->nw w t s=(bX s.length).map λi=>((t++s).drop (t.length+1-w+i)).take w
 |[],t,_=>by simp[nw]
 |c::s,t,h=>by
  rw[nw,DU w hw s (t++[c]) (by simp;lia),fg,zV,eh,c0];congr 1
  ·show _=((t++c::s).drop (t.length+1-w)).take w;rw[NT ∅,List.take_append];have e1:(t.drop (t.length+1-w)).length=w-1:=by rw[j8];lia
   rw[e1,wx (by rw[e1];lia),show w-(w-1)=1 by lia];rfl
  ·refine lY λi _=>?_;simp only[mh];rw[ef,sY,show t.length+1+1-w+i=t.length+1-w+Nat.succ i by lia];simp
theorem Bm{w:Nat}(hw:1<=w){h s:Tx}(hh:h.length=w-1):a6 (h++s) w=nw w h s:=by rw[qf _ _ hw,DU w hw s h ∅,ef,show h.length+s.length+1-w=s.length by lia];refine lY λi _=>?_;rw[show h.length+1-w+i=i by lia]
theorem LZ{w:Nat}(hw:1<=w)(t:Tx)(c:Nat):a6 (t++[c]) w=a6 t w++(if w<=t.length+1 then [((t++[c]).drop (t.length+1-w)).take w] else []):=by
 rw[qf _ _ hw,qf _ _ hw,ef,sY];by_cases h:w<=t.length+1
 ·rw[if_pos h,show t.length+1+1-w=(t.length+1-w)+1 by lia,oJ,nc];congr 1;refine lY λi hi=>?_;have hi:i<t.length+1-w:=by simpa using hi
  rw[NT ∅,List.take_append_of_le_length (by rw[j8];lia)]
 ·rw[if_neg h,show t.length+1+1-w=0 by lia,show t.length+1-w=0 by lia];simp
def gA(w:Nat):Nat->Tx->List Tx->List Tx
 |0,t,_=>[t]
 |r+1,t,q=>bM.flatMap λc=>if t.drop (t.length+1-w)++[c]∈q then gA w r (t++[c]) (q.erase (t.drop (t.length+1-w)++[c]))else []
theorem A0(w:Nat):∀(r:Nat) (t:Tx) (q:List Tx),q.length=r->gA w r t q=((dv r).filter λs=>(nw w t s).isPerm q).map (t++·)
 |0,t,q,hq=>by have:q=[]:=AA.mp hq;subst this;simp[gA,dv,nw,List.isPerm]
 |r+1,t,q,hq=>by
  simp only[gA,dv,E_,List.map_flatMap];congr 1;funext c;rw[tM,c0];by_cases h:t.drop (t.length+1-w)++[c]∈q
  ·rw[if_pos h,A0 w r (t++[c]) _ (by rw[Au h,hq];rfl)];have e:((λs=>(nw w t s).isPerm q) ∘ λx=>c::x)=λs=>(nw w (t++[c]) s).isPerm (q.erase (t.drop (t.length+1-w)++[c])):=by funext s;show(q.contains (t.drop (t.length+1-w)++[c])&&(nw w (t++[c]) s).isPerm (q.erase (t.drop (t.length+1-w)++[c])))=_;rw[List.contains_iff_mem.mpr h,Bool.true_and]
   rw[e];refine lY λs _=>?_;simp
  ·rw[if_neg h];have e:((λs=>(nw w t s).isPerm q) ∘ λx=>c::x)=λ_=>aj:=by
    funext s;show(q.contains (t.drop (t.length+1-w)++[c])&&(nw w (t++[c]) s).isPerm (q.erase (t.drop (t.length+1-w)++[c])))=_;have:q.contains (t.drop (t.length+1-w)++[c])=aj:=by rw[wJ];intro z;exact h (List.contains_iff_mem.mp z)
    rw[this,Bool.false_and]
   rw[e];simp
def bK(w:Nat)(ls:List Tx):List Tx:=(a8 (fu (ls.map oQ))).flatMap λh=>gA w ls.length h ls
theorem CN{α β:Type}{l:List α}{f:α->List β}(p:α->Bool)(h:∀x∈l,p x=aj->f x=[]):l.flatMap f=(l.filter p).flatMap f:=by
 induction l with
 |nil=>rfl
 |cons x l ih=>
  rw[qZ,ih λy hy=>h y (by simp[hy]),Fa];cases e:p x with
  |true=>simp
  |false=>rw[h x (by simp) e];simp
theorem sC{w:Nat}{ls:List Tx}(hw:1<=w)(hn:1<=ls.length)(hl:∀x∈ls,x.length=w/\∀c∈x,c∈bM):bK w ls=(dv (w-1+ls.length)).filter λz=>(a6 z w).isPerm ls:=by
 rw[CD,E_];have e1:(λh=>((dv ls.length).map (h++·)).filter λz=>(a6 z w).isPerm ls)=λh=>((dv ls.length).filter λs=>(a6 (h++s) w).isPerm ls).map (h++·):=by funext h;rw[tM];rfl
 rw[e1,CN (λh=>decide (h∈ls.map oQ))]
 ·have e2:(dv (w-1)).filter (λh=>decide (h∈ls.map oQ))=a8 (fu (ls.map oQ)):=by
   refine vI ?_ ((Gn (w-1)).filter _);refine(List.perm_ext_iff_of_nodup ((CB (w-1)).filter _) (Nf _)).mpr λx=>?_;rw[lR,decide_eq_true_eq,vd,mL];refine⟨λh=>h.2,λh=>⟨?_,h⟩⟩;obtain⟨y,hy,rfl⟩:=bP.mp h;obtain⟨h1,h2⟩:=hl y hy;exact⟨by rw[Ai,h1],λc hc=>h2 c ((List.dropLast_sublist _).mem hc)⟩
  rw[e2];unfold bK;have:∀l:List Tx,(∀h∈l,h.length=w-1)->l.flatMap (λh=>gA w ls.length h ls)=l.flatMap λh=>((dv ls.length).filter λs=>(a6 (h++s) w).isPerm ls).map (h++·):=by
   intro l
   induction l with
   |nil=>intro _;rfl
   |cons h l ih=>
    intro hh;rw[qZ,qZ,ih λy hy=>hh y (by simp[hy]),A0 w _ h ls rfl];have e3:(λs=>(nw w h s).isPerm ls)=λs=>(a6 (h++s) w).isPerm ls:=by funext s;rw[Bm hw (hh h (by simp))]
    rw[e3]
  refine this _ λh hh=>?_;have hm:=(vd _ _).mp ((jM _).mem_iff.mp hh);obtain⟨y,hy,rfl⟩:=bP.mp hm;rw[Ai,(hl y hy).1]
 ·intro h hh hp;have bz:=((mL _ h).mp hh).1;rw[List.map_eq_nil_iff,List.filter_eq_nil_iff];intro s hs hq;have hsl:=((mL _ s).mp hs).1;rw[Bm hw bz,List.isPerm_iff]at hq;cases s with
  |nil=>rw[m_]at hsl;lia
  |cons c s=>rw[nw,show h.length+1-w=0 by lia,ww]at hq;have:h++[c]∈ls:=hq.mem_iff.mp (by simp);rw[decide_eq_false_iff_not]at hp;exact hp (bP.mpr ⟨_,this,by simp⟩)
def unD(w:Nat)(ls:List Tx)(t:Tx):Bool:=(a6 t w).all λx=>decide ((a6 t w).count x<=ls.count x)
theorem B4{w:Nat}{ls:List Tx}{t:Tx}:unD w ls t=ah↔∀x,(a6 t w).count x<=ls.count x:=by
 unfold unD;rw[lf];constructor
 ·intro h x;by_cases hx:x∈a6 t w
  ·simpa using h x hx
  ·rw[Fb hx];lia
 ·intro h x _;simpa using h x
theorem Hl{w:Nat}(hw:1<=w){ls:List Tx}{t:Tx}{c:Nat}(h:unD w ls (t++[c])=ah):unD w ls t=ah:=by rw[B4]at h ⊢;intro x;have:=h x;rw[LZ hw,Fc]at this;lia
def rowsOf(w:Nat)(ls:List Tx)(k:Nat):List Tx:=(dv k).filter (unD w ls)
theorem FX{w:Nat}(hw:1<=w)(ls:List Tx):rowsOf w ls 0=[[]]:=by simp[rowsOf,dv,unD,a6]
theorem Ly{w:Nat}(hw:1<=w)(ls:List Tx)(k:Nat):rowsOf w ls (k+1)=(rowsOf w ls k).flatMap λt=>(bM.map λc=>t++[c]).filter (unD w ls):=by
 unfold rowsOf;rw[GA,E_];refine CN _ λt _ ht=>?_;rw[List.filter_eq_nil_iff];intro z hz hu;obtain⟨c,_,rfl⟩:=bP.mp hz;rw[Hl hw hu]at ht;cases ht
theorem Nh(w:Nat)(ls:List Tx)(k:Nat):(rowsOf w ls k).length<=3^k:=by rw[←zg k];exact Fd _ _
theorem G8{w:Nat}{ls:List Tx}(hs:ls.Pairwise (λa b=>cY a b=ah))(L:Nat):(rowsOf w ls L).filter (λz=>decide (a8 (a6 z w)=ls))=(dv L).filter λz=>(a6 z w).isPerm ls:=by
 unfold rowsOf;rw[List.filter_filter];refine List.filter_congr λz _=>?_;rw[j5,fD,decide_eq_true_eq,List.isPerm_iff];constructor
 ·rintro⟨h,_⟩;rw[←h];exact(jM _).symm
 ·intro h;refine⟨by rw[GU h,yV hs],?_⟩;rw[B4];intro x;rw[h.count_eq];exact a9 _
end Mx
namespace Sh
open L2 Pu Mx
theorem LD{α:Type}{f:List PV->Option α}{ds:ak->R (List PV)}{ε ε1:ak}{xs:List PV}{v:α}(h:ds ε=.ok xs ε1)(hf:f xs=aa v):dL f ds ε=.ok v ε1:=by unfold dL;rw[h];show bg (f xs) ε1=_;rw[hf];rfl
theorem Jl{d:ak->R PV}{ds:ak->R (List PV)}{ε ε1 ε2:ak}{x:PV}{xs:List PV}(h:d ε=.ok x ε1)(hs:ds ε1=.ok xs ε2):ar d ds ε=.ok (x::xs) ε2:=by unfold ar;rw[h];show(ds ε1).bind _=_;rw[hs];rfl
theorem HA{ε:ak}:aC ε=.ok [] ε:=rfl
theorem Kg{f:PV->PV->Option PV}{da db:ak->R PV}{ε ε1 ε2:ak}{x y z:PV}(h:da ε=.ok x ε1)(h2:db ε1=.ok y ε2)(hf:f x y=aa z):d2 f da db ε=.ok z ε2:=by unfold d2;rw[h];show(db ε1).bind _=_;rw[h2];show bg (f x y) ε2=_;rw[hf];rfl
section
theorem yb{ls:List Tx}(h:ls.length<=1000000):lH [.lst (ao ls)]=aa (.lst (ao (a8 ls))):=by show(ir (ao ls)).bind _=_;rw[uN,iB,if_pos h]
end
section
variable{a:Ad}
abbrev bA(ns:List Int):Slot:=.val (.lst (ns.map .int))
theorem D8(ns:List Int)(k:Int)(h0:0<=k)(h:k<ns.length):∃v,fY (ns.map PV.int) k=aa (.int v):=by
 have hk:k.toNat<ns.length:=∅
 refine⟨ns[k.toNat],?_⟩;rw[De h0 (by rw[dy];exact hk)];simp
theorem Iz(ns:List Int):Pu.eqT aj (.lst (ns.map .int)) (.lst [])=aa (.bl ns.isEmpty):=by
 cases ns with
 |nil=>rfl
 |cons x xs=>
  have hd:∀l:List Int,fM (l.map .int)=0:=λl=>by induction l with|nil=>rfl|cons y l ih=>simp[fM,fJ,ih]
  have:fM ((x::xs).map .int)=0:=hd _;simp only[eh]at this;simp[Pu.eqT,cV,cr,eJ,fJ,this]
theorem lI(neg:Bool)(i j:Int):Pu.eqT neg (.int i) (.int j)=aa (.bl (neg^^decide (i=j))):=by show(if su (V.int i) (V.int j)then aa (PV.bl (neg^^decide (V.int i=V.int j)))else ae)=_;have:su (V.int i) (V.int j)=ah:=rfl;rw[if_pos this];simp
theorem GD(ns:List Int)(k:Int)(h0:0<=k):∃v,pO a [bA ns,.val (.int k)]=.ok (.val (.int v)) [bA ns,.val (.int k)]:=by
 by_cases h:k<ns.length
 ·obtain⟨v,hv⟩:=D8 ns k h0 h;refine⟨v,?_⟩;simp![pO,yaC,bE,cn,hv,h]
 ·have e:=Iz ns;by_cases hn:ns=[]
  ·subst hn;refine⟨0,?_⟩;simp only[List.map_nil,Fe]at e;have h':¬k<0:=∅
   simp![pO,yaC,bE,cn,e,h']
  ·have hpos:0<ns.length:=by cases ns with|nil=>exact absurd rfl hn|cons=>simp
   obtain⟨v,hv⟩:=D8 ns (k % ns.length) (wS _ ∅) (wR _ ∅);refine⟨v*31+k,?_⟩;have e2:ns.isEmpty=aj:=by cases ns with|nil=>exact absurd rfl hn|cons=>rfl
   rw[e2]at e;have hm:fI (.int k) (.int (ns.length:Int))=aa (.int (k % ns.length)):=by simp[fI];lia
   have Fo:jW (.int v) (.int 31)=aa (.int (v*31)):=by simp[jW,sJ]
   simp![pO,yaC,bE,cn,h,e,hm,hv,Fo,bd]
theorem JX(ns:List Int)(k m:Int)(h0:0<=k)(hm:0<m):∃v,0<=v/\v<m/\vZ a [bA ns,.val (.int k),.val (.int m)]=.ok (.val (.int v)) [bA ns,.val (.int k),.val (.int m)]:=by
 obtain⟨c,hc⟩:=GD (a:=a) ns k h0;have d0:0<=(c*1103515245+7919*k+12345) % 2147483647:=wS _ (by decide);have d1:(c*1103515245+7919*k+12345) % 2147483647<2147483647:=wR _ (by decide);have m1:jW (.int c) (.int 1103515245)=aa (.int (c*1103515245)):=by simp[jW,sJ]
 have m2:jW (.int 7919) (.int k)=aa (.int (7919*k)):=by simp[jW,sJ]
 have m3:fI (.int (c*1103515245+7919*k+12345)) (.int 2147483647)=aa (.int ((c*1103515245+7919*k+12345) % 2147483647)):=by simp[fI]
 generalize (c*1103515245+7919*k+12345) % 2147483647=d at d0 d1 m3;have m4:r8 (.int d) (.int 5)=aa (.int (d^5)):=by
  have:d.natAbs<2^64:=∅
  simp[r8,this]
 have m5:fI (.int (d^5)) (.int 2147483647)=aa (.int (d^5 % 2147483647)):=by simp[fI]
 generalize d^5 % 2147483647=d5 at m5;have m6:fI (.int d5) (.int 999983)=aa (.int (d5 % 999983)):=by simp[fI]
 generalize d5 % 999983=d6 at m6;have m7:fI (.int d6) (.int m)=aa (.int (d6 % m)):=by simp[fI,hm]
 refine⟨d6 % m,wS _ ∅,wR _ hm,?_⟩;simp![vZ,yaE,hc,m1,m2,m3,m4,m5,m6,m7,bd]
theorem ot(ns:List Int)(xs:List PV)(m:Int)(hm:0<m)(hx:xs.length<=1000):∃v,0<=v/\v<m/\iP a [bA ns,.own (.lst xs),.val (.int m)]=.ok (.val (.int v)) [bA ns,.own (.lst (xs++[.int 0])),.val (.int m)]:=by
 obtain⟨v,v0,v1,hv⟩:=JX (a:=a) ns ((xs.length:Int)+1) m ∅ hm;refine⟨v,v0,v1,?_⟩;have rg:xs.length<cx:=by unfold cx;lia
 simp![iP,yaD,bE,rg,hv]
theorem BS{α:Type}(ps:List α)(v:Int)(h0:0<=v)(h1:v<ps.length):∃x∈ps,fY ps v=aa x:=by
 have hk:v.toNat<ps.length:=∅
 exact⟨ps[v.toNat],tf _,De h0 hk⟩
theorem Dy(ns:List Int)(xs ps:List PV)(hx:xs.length<=1000)(hp:0<ps.length):∃x∈ps,sd a [bA ns,.own (.lst xs),.val (.lst ps)]=.ok (.val x) [bA ns,.own (.lst (xs++[.int 0])),.val (.lst ps)]:=by obtain⟨v,v0,v1,hv⟩:=ot (a:=a) ns xs (ps.length:Nat) ∅ hx;obtain⟨x,hm,mr⟩:=BS ps v v0 v1;refine⟨x,hm,?_⟩;simp![sd,yaG,bE,cn,hv,mr]
theorem sy{n:Nat}(h:n<=1000000):i6 [.int n]=aa (dH 0 n):=by show(if(n:Int)<=1000000/\-1000000<=(n:Int)then aa (dH 0 (n:Int).toNat)else ae)=_;rw[if_pos ⟨∅,∅⟩];simp
theorem ve{x y:Tx}(h:x.length+y.length<=cx):bd (.str x) (.str y)=aa (.str (x++y)):=by show(if(x++y).length<=cx then aa (PV.str (x++y))else ae)=_;rw[if_pos (by rw[ef];exact h)]
theorem jN{d1 d2:ak->R aS}{ε ε1:ak}(h:d1 ε=.ok .next ε1):bb d1 d2 ε=d2 ε1:=by unfold bb;rw[h]
theorem L5{i:Nat}{d:ak->R PV}{ε ε1:ak}{x:PV}(h:d ε=.ok x ε1):cN i d ε=.ok .next (ε1.set i (.val x)):=by unfold cN;rw[h];rfl
theorem uU{i:Nat}{db:ak->R aS}{I:Nat->ak->Prop}{N:Nat}(step:∀k ε x,k<N->I k ε->∃ε',db (ε.set i (.val x))=.ok .next ε'/\I (k+1) ε'):∀(xs:List PV) (k:Nat) (ε:ak),k+xs.length<=N->I k ε->∃ε',j0 i db xs ε=.ok .next ε'/\I (k+xs.length) ε'
 |[],k,ε,_,h=>⟨ε,rfl,h⟩
 |x::xs,k,ε,hk,h=>by simp only[fg]at hk;obtain⟨ε1,e1,h1⟩:=step k ε x ∅ h;obtain⟨ε2,e2,h2⟩:=uU step xs (k+1) ε1 ∅ h1;refine⟨ε2,by unfold j0;rw[e1];exact e2,?_⟩;rw[fg,show k+(xs.length+1)=k+1+xs.length by lia];exact h2
theorem sN{i:Nat}{db:ak->R aS}{I:List PV->ak->Prop}(step:∀(x:PV) (r:List PV) ε,I (x::r) ε->∃ε',db (ε.set i (.val x))=.ok .next ε'/\I r ε'):∀(xs:List PV) (ε:ak),I xs ε->∃ε',j0 i db xs ε=.ok .next ε'/\I [] ε'
 |[],ε,h=>⟨ε,rfl,h⟩
 |x::xs,ε,h=>by obtain⟨ε1,e1,h1⟩:=step x xs ε h;obtain⟨ε2,e2,h2⟩:=sN step xs ε1 h1;exact⟨ε2,by unfold j0;rw[e1];exact e2,h2⟩
theorem C9(ns:List Int)(xs:List PV)(low most:Nat)(hlm:low<=most)(hm:most<=100)(hx:xs.length<=500):∃(z:Tx) (ys:List PV),low<=z.length/\z.length<=most/\(∀c∈z,c∈bM)/\ys.length<=xs.length+2+most /\ pD a [bA ns,.own (.lst xs),.val (.int low),.val (.int most)]=.ok (.val (.str z)) [bA ns,.own (.lst ys),.val (.int low),.val (.int most)]:=by
 obtain⟨f,hf,hp⟩:=Dy (a:=a) ns xs [.int 1,.int 2,.int 2,.int 3,.int 3,.int 3] ∅ (by decide);obtain⟨few,rfl,f0,f1⟩:∃few:Int,f=.int few/\0<few/\few<=3:=by simp only[bG,gf,or_false]at hf;rcases hf with rfl|rfl|rfl|rfl|rfl|rfl <;> exact⟨_,rfl,by decide,by decide⟩
 obtain⟨m,m0,m1,hd⟩:=ot (a:=a) ns (xs++[.int 0]) ((most:Int)-low+1) ∅ (by simp;lia);obtain⟨n,hn⟩:∃n:Nat,(low:Int)+m=n:=⟨(low+m).toNat,∅⟩
 have hr:i6 [.int ((low:Int)+m)]=aa (dH 0 n):=by rw[hn];exact sy ∅
 have bz:(dH 0 n).length=n:=by simp[dH]
 obtain⟨ε',e1,ys,z,s6,rfl,hz,hy,AR⟩:=uU (i:=6) (db:=cN 5 (d2 bd (dV 5) (d2 cn (dC (.str [97,98,99])) (bh (aY (iP a) (gV (dV 0) (gO 1 (gV (dV 4) (Pu.bB)))))))))
  (I:=λk ε=>∃ys z s6,ε=[bA ns,.own (.lst ys),.val (.int low),.val (.int most),.val (.int few),.val (.str z),s6]/\z.length=k/\ys.length<=xs.length+2+k/\∀c∈z,c∈bM) (N:=n)
  (by
   rintro k ε x hk ⟨ys,z,s6,rfl,hz,hy,AR⟩;obtain⟨v,v0,v1,hv⟩:=ot (a:=a) ns ys few f0 ∅;obtain⟨c,hc,oV⟩:=BS bM v v0 (by simp[bM];lia);refine⟨[bA ns,.own (.lst (ys++[.int 0])),.val (.int low),.val (.int most),.val (.int few),.val (.str (z++[c])),.val x],?_,ys++[.int 0],z++[c],.val x,rfl,by simp[hz],by simp;lia,λd hd=>?_⟩
   ·have hc3:cn (.str [97,98,99]) (.int v)=aa (.str [c]):=by
     show(fY bM v).map _=_;rw[oV];rfl
    have li:bd (.str z) (.str [c])=aa (.str (z++[c])):=ve (by simp[cx];lia);simp![hv,hc3,li]
   ·simp only[gb,hV]at hd;rcases hd with hd|rfl
    ·exact AR d hd
    ·exact hc)
  (dH 0 n) 0 [bA ns,.own (.lst (xs++[.int 0]++[.int 0])),.val (.int low),.val (.int most),.val (.int few),.val (.str []),.none] ∅ ⟨xs++[.int 0]++[.int 0],[],.none,rfl,rfl,by simp,by simp⟩
 refine⟨z,ys,∅,∅,AR,∅,?_⟩;have nt:fA (.int most) (.int low)=aa (.int ((most:Int)-low)):=rfl;have ha1:bd (.int ((most:Int)-low)) (.int 1)=aa (.int ((most:Int)-low+1)):=rfl;have ha2:bd (.int low) (.int m)=aa (.int ((low:Int)+m)):=rfl;simp only[qC,Ap,iC]at e1;simp![pD,yaI,hp,nt,ha1,ha2,hd,gu,hr,iM,e1]
theorem jl{cap:List Nat}{dt:ak->R Bool}{de:ak->R PV}{ε:ak}(p:PV->Bool)(f:PV->PV):∀(xs:List PV),(∀x∈xs,bN (c9 cap dt x ε)=.ok (p x) ε/\(p x=ah->bN (c9 cap de x ε)=.ok (f x) ε))->∀aH,i8 cap dt de xs aH ε=.ok (aH++(xs.filter p).map f) ε
 |[],_,aH=>by simp[i8]
 |x::xs,h,aH=>by
  have h1:=h x (by simp);have ih:=jl p f xs (λy hy=>h y (by simp[hy]));unfold i8;rw[h1.1];simp only[R.bind_ok];cases hp:p x with
  |false=>simp only[ih aH,Fa,hp];simp
  |true=>simp only[h1.2 hp,R.bind_ok,ih (aH++[f x]),Fa,hp];simp
theorem Cy{z:Tx}{i w:Nat}(h:i+w<=z.length):fz z (aa (i:Int)) (aa ((i:Int)+w))=(z.drop i).take w:=by
 unfold fz;have e1:HT.sIx z.length 0 (aa (i:Int))=i:=by rw[HT.sIx_nat];lia
 have e2:HT.sIx z.length z.length (aa ((i:Int)+w))=i+w:=by rw[show(i:Int)+w=((i+w:Nat):Int) by lia,HT.sIx_nat];lia
 rw[e1,e2,Nat.add_sub_cancel_left]
theorem vG(z:Tx)(w:Nat)(hz:z.length<=60):jm a [.val (.str z),.val (.int w)]=.ok (.val (.tup (ao (a8 (a6 z w))))) [.val (.str z),.val (.int w)]:=by
 have hr:i6 [.int (z.length:Nat)]=aa (dH 0 z.length):=sy ∅;have hc:=jl (cap:=[0,1]) (dt:=(dB (d2 (eP λi j=>decide (i<=j)) (d2 bd (dV 0) (dV 2)) (dL bE (ar (dV 1) (aC)))))) (de:=(iX ij (dV 1) (gw (dV 0)) (gw (d2 bd (dV 0) (dV 2)))))
  (ε:=[.val (.str z),.val (.int w)]) (λx=>match x with|.int i=>decide (i+w<=z.length)|_=>aj) (λx=>match x with|.int i=>.str (fz z (aa i) (aa (i+w)))|_=>.non) (dH 0 z.length)
  (by
   intro x hx;simp only[dH,bP]at hx;obtain⟨i,hi,rfl⟩:=hx;refine⟨?_,λh=>?_⟩
   ·simp![c9,cU,bN,bE,bd]
   ·simp![c9,cU,bN,bE,bd,iX,gw,ij]) []
 have hl:(a6 z w).length<=1000000:=by unfold a6;rw[dy];have:=Fd (λi=>decide (i+w<=z.length)) (bX z.length);rw[EM]at this;lia
 have he:(((dH 0 z.length).filter (λx=>match x with|.int i=>decide (i+w<=z.length)|_=>aj)).map (λx=>match x with|.int i=>PV.str (fz z (aa i) (aa (i+w)))|_=>.non))=ao (a6 z w):=by
  unfold dH a6 ao;rw[tM,c0,c0];have e0:((λx=>match x with|PV.int i=>decide (i+(w:Int)<=(z.length:Nat))|_=>aj) ∘ λ(i:Nat)=>PV.int (0+(i:Nat)))=λi=>decide (i+w<=z.length):=by funext i;simp only[mh];congr 1;simp;lia
  rw[e0];refine lY λi hi=>?_;have:=(lR.mp hi).2;simp only[decide_eq_true_eq]at this;simp only[mh,Int.zero_add];rw[Cy this]
 simp only[iC]at hc;rw[he]at hc;have dG:=yb hl;generalize ao (a8 (a6 z w))=T at dG;generalize ao (a6 z w)=B at hc dG;simp![jm,yaH,bE,hr,cB,hc,dG,mJ]
theorem ux{z:Tx}{w:Nat}:∀x∈a6 z w,x.length=w/\∀c∈x,c∈z:=by intro x hx;simp only[a6,bP,lR,kX,decide_eq_true_eq]at hx;obtain⟨i,⟨_,h⟩,rfl⟩:=hx;exact⟨by rw[mU,j8];lia,λc hc=>List.mem_of_mem_drop (Az hc)⟩
theorem DB{z:Tx}{w m:Nat}(hw:1<=w)(h1:w<=z.length)(h2:z.length<=w+m):1<=(a6 z w).length/\(a6 z w).length<=m+1:=by
 unfold a6;rw[dy];have:∀n,((bX n).filter λi=>decide (i+w<=z.length)).length=min n (z.length+1-w):=by
  intro n
  induction n with
  |zero=>simp
  |succ n ih=>
   rw[oJ,List.filter_append,ef,ih];by_cases h:n+w<=z.length
   ·simp[List.filter,h];lia
   ·simp[List.filter,h];lia
 rw[this];lia
structure Good(l:Tx)(w:Nat)(ls:List Tx):Prop where
 len:∀x∈ls,x.length=w
 abc:∀x∈ls,∀c∈x,c∈l
 some:1<=ls.length
 few:ls.length<=9
theorem Good.perm{l:Tx}{w:Nat}{ls ms:List Tx}(g:Good l w ls)(p:ms.Perm ls):Good l w ms:=⟨λx h=>g.len x (p.mem_iff.mp h),λx h=>g.abc x (p.mem_iff.mp h),by rw[p.length_eq];exact g.some,by rw[p.length_eq];exact g.few⟩
theorem Good.put{l:Tx}{w:Nat}{ls:List Tx}{z:Tx}{j:Nat}(g:Good l w ls)(hz:z.length=w)(ha:∀c∈z,c∈l):Good l w (ls.set j z):=by
 refine⟨λx h=>?_,λx h=>?_,by rw[fE];exact g.some,by rw[fE];exact g.few⟩
 ·rcases List.mem_or_eq_of_mem_set h with h|rfl
  ·exact g.len x h
  ·exact hz
 ·rcases List.mem_or_eq_of_mem_set h with h|rfl
  ·exact g.abc x h
  ·exact ha
theorem Iw(ls:List Tx)(j:Nat)(z:Tx):(ao ls).set j (.str z)=ao (ls.set j z):=by simp[ao,List.map_set]
theorem kP(ls:List Tx):(ao ls).length=ls.length:=by simp[ao]
theorem ME{n:Nat}{v:Int}(h0:0<=v)(h1:v<n):jn n v=aa v.toNat:=by unfold jn;rw[if_pos h0,if_pos h1]
theorem Jh(ls:List Tx):lC (ao ls)=ah:=by
 induction ls with
 |nil=>rfl
 |cons x ls ih=>show(imm (.str x)&&lC (ao ls))=ah;rw[ih];rfl
theorem Kd(ns:List Int)(xs:List PV)(spoil most:Nat)(hs:spoil<3)(m1:1<=most)(m9:most<=9)(hx:xs.length<=300):∃(w:Nat) (ls:List Tx) (ys:List PV),1<=w/\w<=4/\(spoil≠2->2<=w)/\Good bM w ls/\ls.Pairwise (λa b=>cY a b=ah)/\ls.length<=most/\(spoil=0->∃z:Tx,ls=a8 (a6 z w)/\w<=z.length/\z.length+1<=w+most/\∀c∈z,c∈bM)/\ys.length<=xs.length+60 /\ rH a [bA ns,.own (.lst xs),.val (.int spoil),.val (.int most)]=.ok (.val (.tup [.int w,.tup (ao ls)])) [bA ns,.own (.lst ys),.val (.int spoil),.val (.int most)]:=by
 obtain⟨w,w1,w4,w2,hw⟩:∃w:Nat,1<=w/\w<=4/\(spoil≠2->2<=w)/\(dA (dB (d2 (Pu.eqT ah) (dV 2) (dC (.int 2)))) (d2 bd (dC (.int 2)) (bh (aY (iP a) (gV (dV 0) (gO 1 (gV (dC (.int 3)) (Pu.bB))))))) (d2 bd (dC (.int 1)) (bh (aY (iP a) (gV (dV 0) (gO 1 (gV (dC (.int 4)) (Pu.bB)))))))) [bA ns,.own (.lst xs),.val (.int spoil),.val (.int most),.none,.none,.none] =
   .ok (.int w) [bA ns,.own (.lst (xs++[.int 0])),.val (.int spoil),.val (.int most),.none,.none,.none]:=by
  by_cases h2:spoil=2
  ·subst h2;obtain⟨v,v0,v1,hv⟩:=ot (a:=a) ns xs 4 (by decide) ∅;refine⟨(1+v).toNat,∅,∅,λz=>absurd rfl z,?_⟩;have e:Pu.eqT ah (.int 2) (.int 2)=aa (.bl aj):=by rw[lI];rfl
   have:((1+v).toNat:Int)=1+v:=∅
   simp![e,hv,bd,this]
  ·obtain⟨v,v0,v1,hv⟩:=ot (a:=a) ns xs 3 (by decide) ∅;refine⟨(2+v).toNat,∅,∅,λ_=>∅,?_⟩;have e:Pu.eqT ah (.int ((spoil:Nat):Int)) (.int 2)=aa (.bl ah):=by
    have:spoil=0\/spoil=1:=∅
    rcases this with rfl|rfl <;> (rw[lI];rfl)
   have:((2+v).toNat:Int)=2+v:=∅
   simp![e,hv,bd,this]
 obtain⟨z,y1,z1,z2,zabc,hy1,hz⟩:=C9 (a:=a) ns (xs++[.int 0]) w (w+(most-1)) ∅ ∅ (by simp;lia);simp only[ef,sY]at hy1;have nr:=vG (a:=a) z w ∅;have N8:=DB (z:=z) (w:=w) (m:=most-1) w1 z1 z2;have g0:Good bM w (a8 (a6 z w)):=by exact Good.perm ⟨λx h=>(ux x h).1,λx h c hc=>zabc c ((ux x h).2 c hc),N8.1,∅⟩ (jM _)
 have hrng:fI (.int spoil) (.int 3)=aa (.int spoil):=by
  have:spoil=0\/spoil=1\/spoil=2:=∅
  rcases this with rfl|rfl|rfl <;> rfl
 have hr:i6 [.int spoil]=aa (dH 0 spoil):=sy ∅;have bz:(dH 0 spoil).length=spoil:=by simp[dH]
 obtain⟨ε',e1,ys,ls,s6,rfl,gd,hln,h0,hy⟩:=uU (i:=6) (db:=(v5 5 (bh (aY (iP a) (gV (dV 0) (gO 1 (gV (i9 (λxs=>nS (bE xs)) 5) (Pu.bB)))))) (bh (aY (pD a) (gV (dV 0) (gO 1 (gV (dV 4) (gV (dV 4) (Pu.bB)))))))))
  (I:=λk ε=>∃ys ls s6,ε=[bA ns,.own (.lst ys),.val (.int spoil),.val (.int most),.val (.int w),.own (.lst (ao ls)),s6]/\Good bM w ls/\ls.length<=most/\(k=0->ls=a8 (a6 z w))/\ys.length<=y1.length+10*k) (N:=spoil)
  (by
   rintro k ε x hk ⟨ys,ls,s6,rfl,gd,hln,_,hy⟩;obtain⟨z,y2,z1,z2,zabc,hy2,hz⟩:=C9 (a:=a) ns ys w w ∅ ∅ ∅;obtain⟨v,v0,v1,hv⟩:=ot (a:=a) ns y2 (ls.length:Nat) (by have:=gd.some;lia) ∅;refine⟨[bA ns,.own (.lst (y2++[.int 0])),.val (.int spoil),.val (.int most),.val (.int w),.own (.lst (ao (ls.set v.toNat z))),.val x],?_,_,_,_,rfl,gd.put ∅ zabc,by rw[fE];exact hln,λz=>∅,by simp;lia⟩;have hix:jn (ao ls).length v=aa v.toNat:=ME v0 (by rw[kP];exact v1);have hl:bE [.lst (ao ls)]=aa (.int (ls.length:Nat)):=by simp[bE,kP]
   simp![v5,hz,hl,hv,hix,Iw])
  (dH 0 spoil) 0 [bA ns,.own (.lst y1),.val (.int spoil),.val (.int most),.val (.int w),.own (.lst (ao (a8 (a6 z w)))),.none] ∅ ⟨y1,_,.none,rfl,g0,by rw[vE];lia,λ_=>rfl,∅⟩
 refine⟨w,a8 ls,ys,w1,w4,w2,gd.perm (jM _),sB _,by rw[vE];exact hln,λz0=>⟨z,by rw[h0 ∅,yV (sB _)],z1,∅,zabc⟩,∅,?_⟩;have li:bd (.int w) (.int most)=aa (.int ((w:Int)+most)):=rfl;have AH:fA (.int ((w:Int)+most)) (.int 1)=aa (.int (((w+(most-1):Nat)):Int)):=by show aa (PV.int ((w:Int)+most-1))=_;congr 2;lia
 have dG:=yb (ls:=ls) (by have:=gd.few;lia);have body:yaK a [bA ns,.own (.lst xs),.val (.int spoil),.val (.int most),.none,.none,.none]=.ok (.ret (.val (.tup [.int w,.tup (ao (a8 ls))]))) [bA ns,.own (.lst ys),.val (.int spoil),.val (.int most),.val (.int w),.own (.lst (ao ls)),s6]:=by unfold yaK;refine(jN (L5 hw)).trans ?_;have him:=Jh (a8 ls);generalize ao (a8 ls)=T at dG him;generalize ((w+(most-1):Nat):Int)=q at AH hz;generalize (w:Int)+most=q2 at li AH;simp[bb,dA,dB,d2,d1,dV,dC,dL,dF,ar,aC,cy,kB,cN,ju,aY,gV,gO,Pu.bB,fV,f_,cz,eM,gn,R.bind,bg,bD,eX,bC,back,fZ,ly,vM,uR,vV,vy,bh,mI,eQ,bo,eu,sP,jB,ze,iG,sH,xw,nH,jL,yw,kM,eP,dQ,n5,i9,qe,bS,lU,li,AH,hz,nr,pX,hrng,gu,hr,iM,e1,dG,Dw,him,mJ]
 simp[rH,bD,eX,bC,body,back,fZ]
theorem map_set{α β:Type}(f:α->β)(l:List α)(j:Nat)(x:α):(l.map f).set j (f x)=(l.set j x).map f:=by simp[List.map_set]
theorem J3{α:Type}(xs:List α)(n:Nat):fz xs (aa (n:Int)) ae=xs.drop n:=by
 unfold fz;have e2:HT.sIx xs.length xs.length ae=xs.length:=rfl;rw[e2,HT.sIx_nat];by_cases h:n<=xs.length
 ·rw[Nat.min_eq_left h,wx (by rw[j8];lia)]
 ·rw[Nat.min_eq_right ∅,List.drop_of_length_le ∅,List.drop_of_length_le ∅];simp
theorem gz{t T:String}{b:Bool}{x:PV}(h:qi x=aa t)(e:d4 [] (.type t) (.type T)=aa b):dU [x,.raw (.ty T)]=aa (.bl b):=by show((qi x).bind λt=>(d4 [] (.type t) (.type T)).map λb=>PV.bl b)=_;rw[h,iB,e];rfl
theorem KB:d4 [] (.type "int") (.type "int")=aa ah:=by decide +kernel
theorem Md:d4 [] (.type "int") (.type "bool")=aa aj:=by decide +kernel
theorem Ih:d4 [] (.type "bool") (.type "int")=aa ah:=by decide +kernel
theorem Ny:d4 [] (.type "bool") (.type "bool")=aa ah:=by decide +kernel
theorem Lb:d4 [] (.type "str") (.type "int")=aa aj:=by decide +kernel
theorem CF:d4 [] (.type "str") (.type "str")=aa ah:=by decide +kernel
theorem Ge:d4 [] (.type "int") (.type "str")=aa aj:=by decide +kernel
theorem nP:d4 [] (.type "tuple") (.type "tuple")=aa ah:=by decide +kernel
theorem KQ:d4 [] (.type "int") (.type "tuple")=aa aj:=by decide +kernel
theorem IX:d4 [] (.type "NoneType") (.type "tuple")=aa aj:=by decide +kernel
theorem K5:d4 [] (.type "str") (.type "tuple")=aa aj:=by decide +kernel
theorem Cv:d4 [] (.type "list") (.type "tuple")=aa aj:=by decide +kernel
theorem G2(bs:List Bool):lx (bs.map .bl)=aa bs:=by
 induction bs with
 |nil=>rfl
 |cons b bs ih=>show(lx (bs.map .bl)).map (b::·)=_;rw[ih];rfl
theorem xU(bs:List Bool):n9 [.lst (bs.map .bl)]=aa (.bl (bs.all id)):=by show(lx (bs.map .bl)).map _=_;rw[G2];rfl
theorem Co(z s:Tx):sK a [.val (.str z),.val (.str s)]=.ok (.val (.bl (z.all s.contains))) [.val (.str z),.val (.str s)]:=by
 have hc:=jl (cap:=[1]) (dt:=dI) (de:=(d2 (pA aj) (dV 0) (dV 1))) (ε:=[.val (.str z),.val (.str s)]) (λ_=>ah) (λx=>match x with|.str [c]=>.bl (s.contains c)|_=>.non) (z.map λc=>.str [c])
  (by
   intro x hx;obtain⟨c,_,rfl⟩:=bP.mp hx;refine⟨by simp![c9,cU,bN,dI],λ_=>?_⟩;have iE:pA aj (.str [c]) (.str s)=aa (.bl (s.contains c)):=by rw[←GS];simp[pA]
   simp![c9,cU,bN,iE]) []
 have he:((z.map λc=>PV.str [c]).filter (λ_=>ah)).map (λx=>match x with|.str [c]=>PV.bl (s.contains c)|_=>.non)=(z.map s.contains).map .bl:=by rw[oR.mpr (by simp),c0,c0];rfl
 rw[iC,he]at hc;have fS:(z.map s.contains).all id=z.all s.contains:=by rw[wv];rfl
 generalize z.map s.contains=bs at hc fS;have ha:=xU bs;rw[fS]at ha;simp![sK,yas,cB,cg,iu,hc,ha]
def gR(w:Int)(s z:Tx):Bool:=decide ((z.length:Int)=w)&&z.all s.contains
theorem Hc(z s:Tx)(w:Int):mM a [.val (.str z),.val (.int w),.val (.str s)]=.ok (.val (.bl (gR w s z))) [.val (.str z),.val (.int w),.val (.str s)]:=by
 have h1:dU [.str z,.raw (.ty "str")]=aa (.bl ah):=gz rfl CF;have hh:=Co (a:=a) z s;have hl:bE [.str z]=aa (.int (z.length:Nat)):=rfl;have he:=lI aj (z.length:Nat) w;unfold gR;by_cases h:((z.length:Nat):Int)=w
 ·simp only[h,decide_true,Bool.xor_true,qW]at he;simp![mM,yay,h1,hl,he,hh,h]
 ·simp only[h,decide_false,Bool.xor_false]at he;simp![mM,yay,h1,hl,he,h]
theorem II(i w:Int)(s:Tx):mM a [.val (.int i),.val (.int w),.val (.str s)]=.ok (.val (.bl aj)) [.val (.int i),.val (.int w),.val (.str s)]:=by have h1:dU [.int i,.raw (.ty "str")]=aa (.bl aj):=gz rfl Ge;simp![mM,yay,h1]
theorem xq(ls ms:List Tx):eJ (ao ls) (ao ms)=aa (decide (ls=ms)):=by
 induction ls generalizing ms with
 |nil=>cases ms <;> simp[ao,eJ]
 |cons x ls ih=>
  cases ms with
  |nil=>simp[ao,eJ]
  |cons y ms=>
   show(cr (.str x) (.str y)).bind (λa=>(eJ (ao ls) (ao ms)).map λb=>a&&b)=_;rw[ih];have:cr (.str x) (.str y)=aa (decide (x=y)):=by
    show aa (tS x == tS y)=_;by_cases h:x=y
    ·subst h;simp
    ·have:tS x≠tS y:=λz=>h (u5 z);simp[h,this]
   rw[this];simp[qX]
theorem xv(ls:List Tx):fM (ao ls)=0:=by
 induction ls with
 |nil=>rfl
 |cons x ls ih=>show max (fJ (.str x)) (fM (ao ls))=0;rw[ih];rfl
theorem MQ(neg:Bool)(ls ms:List Tx):Pu.eqT neg (.lst (ao ls)) (.lst (ao ms))=aa (.bl (neg^^decide (ls=ms))):=by show(if fJ (.lst (ao ls))<=8 then(eJ (ao ls) (ao ms)).map (λk=>PV.bl (neg^^k))else ae)=_;rw[if_pos (by show fM (ao ls)+1<=8;rw[xv];decide),xq];rfl
theorem Hx(ls:List Tx)(w:Int)(s:Tx)(h1:1<=ls.length)(h9:ls.length<=9):i4 a [.val (.tup (ao ls)),.val (.int w),.val (.str s)]=.ok (.val (.bl (ls.all (gR w s)&&decide (ls=a8 ls)))) [.val (.tup (ao ls)),.val (.int w),.val (.str s)]:=by
 have k1:dU [.tup (ao ls),.raw (.ty "tuple")]=aa (.bl ah):=gz rfl nP;have hl:bE [.tup (ao ls)]=aa (.int (ls.length:Nat)):=by simp[bE,kP]
 have c1:(1:Int)<=(ls.length:Nat):=∅
 have c2:((ls.length:Nat):Int)<=9:=∅
 have hc:=jl (cap:=[1,2]) (dt:=dI) (de:=(bh (aY (mM a) (gV (dV 0) (gV (dV 1) (gV (dV 2) (Pu.bB))))))) (ε:=[.val (.tup (ao ls)),.val (.int w),.val (.str s)]) (λ_=>ah) (λx=>match x with|.str z=>.bl (gR w s z)|_=>.non) (ao ls)
  (by intro x hx;obtain⟨z,_,rfl⟩:=bP.mp hx;refine⟨by simp![c9,cU,bN,dI],λ_=>?_⟩;have hw:=Hc (a:=a) z s w;simp![c9,cU,bN,hw]) []
 have he:((ao ls).filter (λ_=>ah)).map (λx=>match x with|.str z=>PV.bl (gR w s z)|_=>.non)=(ls.map (gR w s)).map .bl:=by rw[oR.mpr (by simp)];unfold ao;rw[c0,c0];rfl
 rw[iC,he]at hc;have fS:(ls.map (gR w s)).all id=ls.all (gR w s):=by rw[wv];rfl
 generalize ls.map (gR w s)=bs at hc fS;have ha:=xU bs;have ko:ls.length<=1000000:=∅
 have rB:=MQ aj ls (a8 ls);cases hb:ls.all (gR w s)with
 |false=>rw[fS,hb]at ha;simp![i4,yan,k1,hl,c1,c2,cB,cg,iu,hc,ha]
 |true=>rw[fS,hb]at ha;simp only[Bool.false_xor]at rB;simp![i4,yan,k1,hl,c1,c2,cB,cg,iu,hc,ha,pX,lH,uN,ko,rB]
theorem Nv(ls:List Tx)(w:Int)(s:Tx)(h9:ls.length=0\/9<ls.length):i4 a [.val (.tup (ao ls)),.val (.int w),.val (.str s)]=.ok (.val (.bl aj)) [.val (.tup (ao ls)),.val (.int w),.val (.str s)]:=by
 have k1:dU [.tup (ao ls),.raw (.ty "tuple")]=aa (.bl ah):=gz rfl nP;have hl:bE [.tup (ao ls)]=aa (.int (ls.length:Nat)):=by simp[bE,kP]
 by_cases c1:(1:Int)<=(ls.length:Nat)
 ·have c2:¬((ls.length:Nat):Int)<=9:=∅
  simp![i4,yan,k1,hl,c1,c2]
 ·simp![i4,yan,k1,hl,c1]
theorem L6(i:Int):lz a [.val (.int i)]=.ok (.val (.bl ah)) [.val (.int i)]:=by have h1:dU [.int i,.raw (.ty "int")]=aa (.bl ah):=gz rfl KB;have h2:dU [.int i,.raw (.ty "bool")]=aa (.bl aj):=gz rfl Md;simp![lz,yaw,h1,h2]
theorem Hg(b:Bool):lz a [.val (.bl b)]=.ok (.val (.bl aj)) [.val (.bl b)]:=by have h1:dU [.bl b,.raw (.ty "int")]=aa (.bl ah):=gz rfl Ih;have h2:dU [.bl b,.raw (.ty "bool")]=aa (.bl ah):=gz rfl Ny;simp![lz,yaw,h1,h2]
theorem HW(x:Tx):lz a [.val (.str x)]=.ok (.val (.bl aj)) [.val (.str x)]:=by have h1:dU [.str x,.raw (.ty "int")]=aa (.bl aj):=gz rfl Lb;simp![lz,yaw,h1]
theorem xM(i:Int):kU a [.val (.int i)]=.ok (.val (.bl (decide (1<=i/\i<=4)))) [.val (.int i)]:=by
 have h:=L6 (a:=a) i;by_cases c1:1<=i
 ·by_cases c2:i<=4
  ·simp![kU,yax,h,c1,c2]
  ·simp![kU,yax,h,c1,c2]
 ·simp![kU,yax,h,c1]
theorem Ct{x:PV}(h:lz a [.val x]=.ok (.val (.bl aj)) [.val x]):kU a [.val x]=.ok (.val (.bl aj)) [.val x]:=by simp![kU,yax,h]
def iI(s:Tx)(w:Int)(ls:List Tx):Bool:=decide (1<=w/\w<=4)&&(decide (1<=ls.length/\ls.length<=9)&&(ls.all (gR w s)&&decide (ls=a8 ls)))
theorem Ep(s:Tx)(w:Int)(ls:List Tx):gy a [.val (.tup [.int w,.tup (ao ls)]),.val (.str s)]=.ok (.val (.bl (iI s w ls))) [.val (.tup [.int w,.tup (ao ls)]),.val (.str s)]:=by
 have k1:dU [.tup [.int w,.tup (ao ls)],.raw (.ty "tuple")]=aa (.bl ah):=gz rfl nP;have hl:bE [.tup [.int w,.tup (ao ls)]]=aa (.int 2):=rfl;have e2:=lI ah 2 2;simp only[decide_true,AB,ke]at e2;have i0:cn (.tup [.int w,.tup (ao ls)]) (.int 0)=aa (.int w):=rfl;have i1:cn (.tup [.int w,.tup (ao ls)]) (.int 1)=aa (.tup (ao ls)):=rfl;have hw:=xM (a:=a) w;unfold iI;by_cases c:1<=w/\w<=4
 ·rw[decide_eq_true c]at hw ⊢;by_cases c2:1<=ls.length/\ls.length<=9
  ·have hh:=Hx (a:=a) ls w s c2.1 c2.2;rw[decide_eq_true c2];simp![gy,yav,k1,hl,e2,i0,i1,hw,hh]
  ·have hh:=Nv (a:=a) ls w s ∅;rw[decide_eq_false c2];simp![gy,yav,k1,hl,e2,i0,i1,hw,hh]
 ·rw[decide_eq_false c]at hw ⊢;simp![gy,yav,k1,hl,e2,i0,i1,hw]
abbrev vw(w:Int)(ls:List Tx):Bool:=iI bM w ls
theorem IH(w:Int)(ls:List Tx):lJ a [.val (.tup [.int w,.tup (ao ls)])]=.ok (.val (.bl (vw w ls))) [.val (.tup [.int w,.tup (ao ls)])]:=by have hv:=Ep (a:=a) bM w ls;simp only[bM]at hv;simp![lJ,yau,hv];rfl
theorem vK{w:Int}{ls:List Tx}(h:vw w ls=ah):kJ a [.val (.tup [.int w,.tup (ao ls)])]=.ok (.val .non) [.val (.tup [.int w,.tup (ao ls)])]:=by have hv:=IH (a:=a) w ls;rw[h]at hv;simp![kJ,yap,hv]
theorem Good.vw{w:Nat}{ls:List Tx}(g:Good bM w ls)(w1:1<=w)(w4:w<=4)(hs:ls.Pairwise (λa b=>cY a b=ah)):vw w ls=ah:=by
 have e1:ls.all (gR w bM)=ah:=by rw[lf];intro x hx;unfold gR;rw[g.len x hx,decide_eq_true rfl,Bool.true_and,lf];intro c hc;simpa using g.abc x hx c hc
 have e2:decide (ls=a8 ls)=ah:=decide_eq_true (yV hs).symm;show iI bM w ls=ah;unfold iI;rw[e1,e2,decide_eq_true (show 1<=(w:Int)/\(w:Int)<=4 by lia),decide_eq_true (show 1<=ls.length/\ls.length<=9 from⟨g.some,g.few⟩)];rfl
theorem JF{x:PV}(h:gy a [.val x,.val (.str bM)]=.ok (.val (.bl aj)) [.val x,.val (.str bM)]):lJ a [.val x]=.ok (.val (.bl aj)) [.val x]:=by simp only[bM]at h;simp![lJ,yau,h]
theorem F9{x:PV}(h:lJ a [.val x]=.ok (.val (.bl aj)) [.val x]):kJ a [.val x]=.er (.ref a.NoView) [.val x]:=by simp![kJ,yap,h,kE,bN]
theorem uv(s:Tx){x:PV}{t:String}(h:qi x=aa t)(e:d4 [] (.type t) (.type "tuple")=aa aj):gy a [.val x,.val (.str s)]=.ok (.val (.bl aj)) [.val x,.val (.str s)]:=by have k1:=gz (T:="tuple") h e;simp![gy,yav,k1]
theorem B3(s:Tx){xs:List PV}(h:xs.length≠2):gy a [.val (.tup xs),.val (.str s)]=.ok (.val (.bl aj)) [.val (.tup xs),.val (.str s)]:=by
 have k1:dU [.tup xs,.raw (.ty "tuple")]=aa (.bl ah):=gz rfl nP;have hl:bE [.tup xs]=aa (.int (xs.length:Nat)):=rfl;have ee:=lI ah (xs.length:Nat) 2;have:¬((xs.length:Nat):Int)=2:=∅
 simp only[this,decide_false,AB,qW]at ee;simp![gy,yav,k1,hl,ee]
theorem A4(s:Tx){x y:PV}(h:kU a [.val x]=.ok (.val (.bl aj)) [.val x]):gy a [.val (.tup [x,y]),.val (.str s)]=.ok (.val (.bl aj)) [.val (.tup [x,y]),.val (.str s)]:=by have k1:dU [.tup [x,y],.raw (.ty "tuple")]=aa (.bl ah):=gz rfl nP;have hl:bE [.tup [x,y]]=aa (.int 2):=rfl;have e2:=lI ah 2 2;simp only[decide_true,AB,ke]at e2;have i0:cn (.tup [x,y]) (.int 0)=aa x:=rfl;simp![gy,yav,k1,hl,e2,i0,h]
theorem C8(s:Tx){w:Int}{y:PV}(hw:1<=w/\w<=4)(h:i4 a [.val y,.val (.int w),.val (.str s)]=.ok (.val (.bl aj)) [.val y,.val (.int w),.val (.str s)]):gy a [.val (.tup [.int w,y]),.val (.str s)]=.ok (.val (.bl aj)) [.val (.tup [.int w,y]),.val (.str s)]:=by have k1:dU [.tup [.int w,y],.raw (.ty "tuple")]=aa (.bl ah):=gz rfl nP;have hl:bE [.tup [.int w,y]]=aa (.int 2):=rfl;have e2:=lI ah 2 2;simp only[decide_true,AB,ke]at e2;have i0:cn (.tup [.int w,y]) (.int 0)=aa (.int w):=rfl;have i1:cn (.tup [.int w,y]) (.int 1)=aa y:=rfl;have o7:=xM (a:=a) w;rw[decide_eq_true hw]at o7;simp![gy,yav,k1,hl,e2,i0,i1,o7,h]
theorem FT(s:Tx)(xs:List PV)(w:Int):i4 a [.val (.lst xs),.val (.int w),.val (.str s)]=.ok (.val (.bl aj)) [.val (.lst xs),.val (.int w),.val (.str s)]:=by have k1:dU [.lst xs,.raw (.ty "tuple")]=aa (.bl aj):=gz rfl Cv;simp![i4,yan,k1]
theorem NH(s:Tx)(i w:Int):i4 a [.val (.tup [.int i]),.val (.int w),.val (.str s)]=.ok (.val (.bl aj)) [.val (.tup [.int i]),.val (.int w),.val (.str s)]:=by have k1:dU [.tup [.int i],.raw (.ty "tuple")]=aa (.bl ah):=gz rfl nP;have hl:bE [.tup [.int i]]=aa (.int 1):=rfl;have hw:=II (a:=a) i w s;have fS:n9 [.lst [.bl aj]]=aa (.bl aj):=rfl;simp![i4,yan,k1,hl,cB,cg,iu,i8,c9,cU,bN,dI,hw,fS]
theorem mG(s:Tx){w:Int}{ls:List Tx}(h:iI s w ls=aj):gy a [.val (.tup [.int w,.tup (ao ls)]),.val (.str s)]=.ok (.val (.bl aj)) [.val (.tup [.int w,.tup (ao ls)]),.val (.str s)]:=by have:=Ep (a:=a) s w ls;rwa[h]at this
def qb:List PV:=[.non,.int 5,.str [50,58,32,97,98],.lst [.int 1,.tup [.str [97]]],.tup [.int 1,.tup []],.tup [.int 2,.tup [.str [97]]],.tup [.int 0,.tup [.str []]],.tup [.int 5,.tup [.str [97,97,97,97,97]]],.tup [.bl ah,.tup [.str [97]]],.tup [.int 1,.tup [.str [98],.str [97]]],.tup [.int 1,.tup (bS 10 (.str [97]))],.tup [.int 1,.tup [.str [100]]],.tup [.int 1,.tup [.str [65]]],.tup [.int 1,.lst [.str [97]]],.tup [.int 1,.tup [.int 1]],.tup [.int 1],.tup [.int 1,.tup [.str [97]],.int 1],.tup [.str [49],.tup [.str [97]]]]
theorem FM(s:Tx)(h1:¬100∈s)(h2:¬65∈s):∀x∈qb,gy a [.val x,.val (.str s)]=.ok (.val (.bl aj)) [.val x,.val (.str s)]:=by
 intro x hx;simp only[qb,bG,gf,or_false]at hx;rcases hx with rfl|rfl|rfl|rfl|rfl|rfl|rfl|rfl|rfl|rfl|rfl|rfl|rfl|rfl|rfl|rfl|rfl|rfl
 ·exact uv s rfl IX
 ·exact uv s rfl KQ
 ·exact uv s rfl K5
 ·exact uv s rfl Cv
 ·exact mG s (w:=1) (ls:=[]) (by simp[iI])
 ·exact mG s (w:=2) (ls:=[[97]]) (by simp[iI,gR])
 ·exact mG s (w:=0) (ls:=[[]]) (by simp[iI])
 ·exact mG s (w:=5) (ls:=[[97,97,97,97,97]]) (by simp[iI])
 ·exact A4 s (Ct (Hg ah))
 ·refine mG s (w:=1) (ls:=[[98],[97]]) ?_;have:¬[[98],[97]]=a8 [[98],[97]]:=λh=>by have r:=sB [[98],[97]];rw[←h]at r;simp[cY]at r;exact absurd r (by decide)
  simp[iI,this]
 ·exact mG s (w:=1) (ls:=bS 10 [97]) (by simp[iI])
 ·exact mG s (w:=1) (ls:=[[100]]) (by simp[iI,gR,h1,h2])
 ·exact mG s (w:=1) (ls:=[[65]]) (by simp[iI,gR,h1,h2])
 ·exact C8 s (by decide) (FT s _ _)
 ·exact C8 s (by decide) (NH s _ _)
 ·exact B3 s (by decide)
 ·exact B3 s (by decide)
 ·exact A4 s (Ct (HW _))
theorem M4:∀x∈qb,lJ a [.val x]=.ok (.val (.bl aj)) [.val x]:=λx hx=>JF (FM bM (by decide) (by decide) x hx)
theorem FI(ns:List Int)(xs:List PV)(hx:xs.length<=900):∃x∈qb,∃ys,ys.length<=xs.length+1/\v8 a [bA ns,.own (.lst xs)]=.ok (.val x) [bA ns,.own (.lst ys)]:=by
 obtain⟨x,hm,hp⟩:=Dy (a:=a) ns xs qb ∅ (by decide);refine⟨x,hm,xs++[.int 0],by simp,?_⟩;have hr:uX (.tup [.str [97]]) (.int 10)=aa (.tup (bS 10 (.str [97]))):=by show(if([PV.str [97]]≠[]/\(2:Int)<=10/\(10:Int)<=1000/\[PV.str [97]].length<=1000)then aa (PV.tup (bS (10:Int).toNat [PV.str [97]]).flatten)else ae)=_;rw[if_pos ⟨by simp,by decide,by decide,by decide⟩];rfl
 simp only[qb]at hp;simp[v8,yaF,bb,dA,dB,d2,d1,dV,dC,dL,dF,ar,aC,cy,kB,cN,ju,aY,gV,gO,Pu.bB,fV,f_,cz,eM,gn,R.bind,bg,bD,eX,bC,back,fZ,ly,vM,uR,vV,vy,bh,mI,eQ,bo,eu,sP,jB,ze,iG,sH,xw,nH,jL,yw,kM,eP,dQ,n5,i9,qe,bS,lU,bd,cx,hr];simp at hp;simp[bb,dA,dB,d2,d1,dV,dC,dL,dF,ar,aC,cy,kB,cN,ju,aY,gV,gO,Pu.bB,fV,f_,cz,eM,gn,R.bind,bg,bD,eX,bC,back,fZ,ly,vM,uR,vV,vy,bh,mI,eQ,bo,eu,sP,jB,ze,iG,sH,xw,nH,jL,yw,kM,eP,dQ,n5,i9,qe,bS,lU,hp]
end
def cJ(m:List (Tx×Int))(x:Tx):Option Int:=(m.find? λp=>decide (p.1=x)).map (·.2)
def dr(m:List (Tx×Int))(x:Tx)(n:Int):List (Tx×Int):=if(m.any λp=>decide (p.1=x))=ah then m.map (λp=>if p.1=x then(p.1,n)else p)else m++[(x,n)]
def dk(m:List (Tx×Int)):List (aN×PV):=m.map λp=>(Sum.inr (tS p.1),PV.int p.2)
theorem zn(x y:Tx):((Sum.inr (tS x):aN)=Sum.inr (tS y))=(x=y):=propext ⟨λh=>u5 (Sum.inr.inj h),λh=>by rw[h]⟩
theorem uI(m:List (Tx×Int))(x:Tx):lA (dk m) (Sum.inr (tS x))=(cJ m x).map .int:=by
 induction m with
 |nil=>rfl
 |cons p m ih=>
  show((List.find? _ ((Sum.inr (tS p.1),PV.int p.2)::dk m)).map (·.2))=_;unfold cJ;rw[jE,jE];simp only[zn];by_cases h:p.1=x
  ·simp[h]
  ·simp only[h,decide_false];exact ih
theorem MV(m:List (Tx×Int))(x:Tx):((dk m).any λkv=>decide (kv.1=(Sum.inr (tS x):aN)))=m.any λp=>decide (p.1=x):=by unfold dk;rw[List.any_map];congr 1;funext p;simp only[mh,zn]
theorem xD(m:List (Tx×Int))(x:Tx)(n:Int):pB (dk m) (Sum.inr (tS x)) (.int n)=dk (dr m x n):=by
 unfold pB dr;rw[MV];split
 ·unfold dk;rw[c0,c0];refine lY λp _=>?_;simp only[mh,zn];split <;> rfl
 ·unfold dk;simp
theorem Dc(m:List (Tx×Int)):oh (dk m)=aa (m.any λp=>decide (p.2≠0)):=by
 induction m with
 |nil=>rfl
 |cons p m ih=>show(oh (dk m)).map _=_;rw[ih];simp
theorem xo{m:List (Tx×Int)}{x:Tx}(h:(m.any λp=>decide (p.1=x))=aj):cJ m x=ae:=by unfold cJ;rw[Option.map_eq_none_iff,As];intro p hp;have:=Ez.mp h p hp;simpa using this
theorem Ja{m:List (Tx×Int)}{x y:Tx}{n:Int}(h:(m.any λp=>decide (p.1=x))=aj):cJ (m++[(x,n)]) y=if y=x then aa n else cJ m y:=by
 have hn:=xo h;unfold cJ at hn ⊢;rw[List.find?_append];by_cases e:y=x
 ·subst e;rw[Option.map_eq_none_iff]at hn;simp[hn]
 ·rw[if_neg e];have:¬x=y:=λz=>e z.symm;cases hf:m.find? (λp=>decide (p.1=y))with
  |none=>simp[this]
  |some p=>simp
theorem Gx{m:List (Tx×Int)}{x y:Tx}{n:Int}:cJ (m.map λp=>if p.1=x then(p.1,n)else p) y=(cJ m y).map λz=>if y=x then n else z:=by
 induction m with
 |nil=>rfl
 |cons p m ih=>
  unfold cJ at ih ⊢;rw[eh,jE,jE];by_cases h:p.1=x
  ·rw[if_pos h];by_cases e:p.1=y
   ·simp[e,show y=x from e.symm.trans h]
   ·simp only[e,decide_false];exact ih
  ·rw[if_neg h];by_cases e:p.1=y
   ·simp[e,show ¬y=x from λz=>h (e.trans z)]
   ·simp only[e,decide_false];exact ih
theorem Nl{m:List (Tx×Int)}{x:Tx}(h:(m.any λp=>decide (p.1=x))=ah):∃n,cJ m x=aa n:=by
 unfold cJ;cases hf:m.find? (λp=>decide (p.1=x))with
 |none=>rw[As]at hf;obtain⟨p,hp,hq⟩:=wU.mp h;exact absurd hq (hf p hp)
 |some p=>exact⟨_,rfl⟩
theorem xi(m:List (Tx×Int))(x y:Tx)(n:Int):cJ (dr m x n) y=if y=x then aa n else cJ m y:=by
 unfold dr;by_cases h:(m.any λp=>decide (p.1=x))=ah
 ·rw[if_pos h,Gx];by_cases e:y=x
  ·subst e;obtain⟨k,hk⟩:=Nl h;rw[hk];simp
  ·simp[e]
 ·rw[if_neg h,Ja (wJ.mpr h)]
structure mH(m:List (Tx×Int))(q:List Tx):Prop where
 nd:(m.map (·.1)).Nodup
 get:∀x,(cJ m x).getD 0=(q.count x:Nat)
theorem mH.mem{m:List (Tx×Int)}{q:List Tx}(h:mH m q){p:Tx×Int}(hp:p∈m):cJ m p.1=aa p.2:=by
 have nd:=h.nd;clear h
 induction m with
 |nil=>cases hp
 |cons r m ih=>
  unfold cJ;rw[jE];rcases bG.mp hp with rfl|hp
  ·simp
  ·rw[eh,jd]at nd;have:¬r.1=p.1:=λz=>nd.1 (bP.mpr ⟨p,hp,z.symm⟩);simp only[this,decide_false];exact ih hp nd.2
theorem BC{m:List (Tx×Int)}{x:Tx}{n:Int}:(dr m x n).map (·.1)=if(m.any λp=>decide (p.1=x))=ah then m.map (·.1)else m.map (·.1)++[x]:=by
 unfold dr;split
 ·rw[c0];refine lY λp _=>?_;simp only[mh];split <;> rfl
 ·simp
theorem B5{m:List (Tx×Int)}{x:Tx}{n:Int}(h:(m.map (·.1)).Nodup):((dr m x n).map (·.1)).Nodup:=by
 rw[BC];split
 ·exact h
 ·rename_i hn;rw[List.nodup_append];refine⟨h,by simp,λa ha b hb=>?_⟩;rw[hV]at hb;subst hb;rintro rfl;obtain⟨p,hp,rfl⟩:=bP.mp ha;exact hn (wU.mpr ⟨p,hp,by simp⟩)
theorem mH.any{m:List (Tx×Int)}{q:List Tx}(h:mH m q):(m.any λp=>decide (p.2≠0))=!q.isEmpty:=by
 cases q with
 |nil=>rw[Fe,ke,Ez];intro p hp;have h1:=h.get p.1;rw[h.mem hp]at h1;simpa using h1
 |cons x q=>
  rw[List.isEmpty_cons,qW,wU];have h1:=h.get x;rw[AC]at h1;cases e:m.find? (λp=>decide (p.1=x))with
  |none=>unfold cJ at h1;rw[e]at h1;simp at h1;lia
  |some p=>unfold cJ at h1;rw[e]at h1;refine⟨p,List.mem_of_find?_eq_some e,?_⟩;simp at h1;simp;lia
theorem mH.dec{m:List (Tx×Int)}{q:List Tx}(h:mH m q){x:Tx}(hx:x∈q):∃n,cJ m x=aa n/\0<n/\mH (dr m x (n-1)) (q.erase x)/\cJ (dr m x (n-1)) x=aa (n-1)/\dr (dr m x (n-1)) x (n-1+1)=m:=by
 have h1:=h.get x;have hc:0<q.count x:=List.count_pos_iff.mpr hx;cases e:cJ m x with
 |none=>rw[e]at h1;simp at h1;lia
 |some n=>
  rw[e]at h1;simp only[wT]at h1;refine⟨n,rfl,∅,⟨B5 h.nd,λy=>?_⟩,by rw[xi,if_pos rfl],?_⟩
  ·rw[xi];by_cases c:y=x
   ·subst c;rw[if_pos rfl,List.count_erase_self];simp only[wT];lia
   ·rw[if_neg c,List.count_erase_of_ne (d9 (d9 c))];exact h.get y
  ·have ha:(m.any λp=>decide (p.1=x))=ah:=by
    cases z:(m.any λp=>decide (p.1=x))with
    |true=>rfl
    |false=>rw[xo z]at e;cases e
   have hb:((dr m x (n-1)).any λp=>decide (p.1=x))=ah:=by unfold dr;rw[if_pos ha];obtain⟨p,hp,hq⟩:=wU.mp ha;refine wU.mpr ⟨_,bP.mpr ⟨p,hp,rfl⟩,?_⟩;rw[decide_eq_true_eq]at hq;rw[if_pos hq];simpa using hq
   have e1:dr (dr m x (n-1)) x (n-1+1)=(m.map λp=>if p.1=x then(p.1,n-1)else p).map λp=>if p.1=x then(p.1,n-1+1)else p:=by show(if((dr m x (n-1)).any λp=>decide (p.1=x))=ah then _ else _)=_;rw[if_pos hb];unfold dr;rw[if_pos ha]
   rw[e1,c0];have:∀p∈m,((λp:Tx×Int=>if p.1=x then(p.1,n-1+1)else p) ∘ λp:Tx×Int=>if p.1=x then(p.1,n-1)else p) p=p:=by
    intro p hp;simp only[mh];by_cases c:p.1=x
    ·rw[if_pos c,if_pos c];have h2:=h.mem hp;rw[c,e]at h2;cases h2;rw[show p.2-1+1=p.2 by lia]
    ·rw[if_neg c,if_neg c]
   rw[lY this,List.map_id''];intro p;rfl
theorem mH.zero{m:List (Tx×Int)}{q:List Tx}(h:mH m q){x:Tx}(hx:x∉q):(cJ m x).getD 0=0:=by rw[h.get,Fb hx];rfl
section
variable{a:Ad}
theorem Mm(ls:List Tx)(hl:ls.length<=100):∃m,mH m ls/\m.length<=ls.length/\sO a [.val (.tup (ao ls))]=.ok (.own (.dK (dk m))) [.val (.tup (ao ls))]:=by
 obtain⟨ε',e1,m,s2,l,rfl,hm,rC,jI⟩:=sN (i:=2) (db:=(lw 1 (dV 2) (d2 bd (lN 1 (dV 2) (dC (.int 0))) (dC (.int 1)))))
  (I:=λr ε=>∃(m:List (Tx×Int)) (s2:Slot) (l:List Tx),ε=[.val (.tup (ao ls)),.own (.dK (dk m)),s2]/\mH m l/\m.length<=l.length/\∃q,ls=l++q/\r=ao q)
  (by
   rintro x r ε ⟨m,s2,l,rfl,hm,rC,q,hq,hr⟩;cases q with
   |nil=>cases hr
   |cons y q=>
    have kr:x::r=.str y::ao q:=hr;simp only[qX]at kr;obtain⟨rfl,rfl⟩:=kr;have bz:m.length<cx:=by have:=congrArg lU hq;simp at this;unfold cx;lia
    refine⟨[.val (.tup (ao ls)),.own (.dK (dk (dr m y ((cJ m y).getD 0+1)))),.val (.str y)],?_,dr m y ((cJ m y).getD 0+1),_,l++[y],rfl,⟨B5 hm.nd,λz=>?_⟩,?_,q,by rw[hq];simp,rfl⟩
    ·have hv:=uI m y;have hp:=xD m y ((cJ m y).getD 0+1);have hd:(dk m).length<cx:=by unfold dk;rw[dy];exact bz
     have hg:((cJ m y).map PV.int).getD (.int 0)=.int ((cJ m y).getD 0):=by cases cJ m y <;> rfl
     generalize dk m=D at hv hp hd;simp![lw,lN,fc,jR,hv,hg,bd,hd,hp]
    ·rw[xi];by_cases c:z=y
     ·subst c;rw[if_pos rfl,Fc,List.count_singleton_self];have:=hm.get z;simp only[wT];lia
     ·rw[if_neg c,Fc,hm.get z];have:[y].count z=0:=Fb (by simpa using c);rw[this];rfl
    ·have:(dr m y ((cJ m y).getD 0+1)).length<=m.length+1:=by
      unfold dr;split <;> simp
     rw[ef,sY];lia)
  (ao ls) [.val (.tup (ao ls)),.own (.dK (dk [])),.none] ⟨[],.none,[],rfl,⟨by simp,λx=>by simp[cJ]⟩,by simp,ls,by simp,rfl⟩
 obtain⟨q,hq,uh⟩:=jI;have:q=[]:=by cases q with|nil=>rfl|cons=>cases uh
 subst this;rw[hG]at hq;subst hq;refine⟨m,hm,rC,?_⟩;have e0:dk []=[]:=rfl;rw[e0]at e1;simp![sO,yar,xZ,gu,cg,iu,iM,e1,p9]
theorem KM{t:Tx}{w:Nat}(hw:w<=t.length+1)(h1:1<=w):ij (.str t) (aa ((t.length:Int)-w+1)) ae=aa (.str (t.drop (t.length+1-w))):=by show aa (PV.str (fz t _ ae))=_;rw[show((t.length:Int)-w+1)=((t.length+1-w:Nat):Int) by lia,J3]
def jq(c:Nat):PV:=.str [c]
theorem CK(w:Nat)(w1:1<=w):∀(r bO:Nat) (t:Tx) (m:List (Tx×Int)) (q:List Tx) (cM:List Tx),r<bO->q.length=r->mH m q->w<=t.length+1->t.length+r<=1000->m.length<=1000->cM.length+(gA w r t q).length<=cx -> mQ a bO [.val (.str t),.val (.int w),.own (.dK (dk m)),.own (.lst (ao cM))]=.ok (.val .non) [.val (.str t),.val (.int w),.own (.dK (dk m)),.own (.lst (ao (cM++gA w r t q)))]
 |0,0,_,_,_,_,h,_,_,_,_,_,_=>absurd h ∅
 |r+1,0,_,_,_,_,h,_,_,_,_,_,_=>absurd h ∅
 |0,bO+1,t,m,q,cM,_,hq,hm,hw,ht,rC,hs=>by
  have hq0:q=[]:=AA.mp hq;subst hq0;have ha:=Dc m;rw[hm.any]at ha;simp only[Fe,ke]at ha;have hl:(ao cM).length<cx:=by rw[kP];simp only[gA,sY]at hs;lia
  have e:ao (cM++gA w 0 t [])=ao cM++[.str t]:=by simp[ao,gA]
  rw[e];generalize dk m=D at ha;generalize ao cM=L at hl;simp![mQ,yam,se,fc,ha,hl]
 |r+1,bO+1,t,m,q,cM,hf,hq,hm,hw,ht,rC,hs=>by
  have dq:q.isEmpty=aj:=by cases q with|nil=>cases hq|cons=>rfl
  have ha:=Dc m;rw[hm.any,dq]at ha;simp only[qW]at ha;have hcut:=KM (t:=t) hw w1;have ba:bE [.str t]=aa (.int (t.length:Nat)):=rfl;have nt:fA (.int (t.length:Nat)) (.int w)=aa (.int ((t.length:Int)-w)):=rfl;have li:bd (.int ((t.length:Int)-w)) (.int 1)=aa (.int ((t.length:Int)-w+1)):=rfl
  let H:=t.drop (t.length+1-w)
  let f:=λc=>if H++[c]∈q then gA w r (t++[c]) (q.erase (H++[c]))else []
  have hE:gA w (r+1) t q=bM.flatMap f:=rfl;have hH:H.length<=1000:=by simp only[H,j8];lia
  obtain⟨ε',e1,s5,s6,p,rest,hp,uo,rfl⟩:=sN (i:=5) (db:=(bb (cN 6 (d2 bd (dV 4) (dV 5)))
 (dA (dB (d2 (eP λi j=>decide (j<i)) (lN 2 (dV 6) (dC (.int 0))) (dC (.int 0)))) (bb (lw 2 (dV 6) (d2 fA (ol 2 (dV 6)) (dC (.int 1))))
 (bb (jB (aY (mQ a bO) (gV (d2 bd (dV 0) (dV 5)) (gV (dV 1) (gO 2 (gO 3 (Pu.bB)))))))
 (lw 2 (dV 6) (d2 bd (ol 2 (dV 6)) (dC (.int 1)))))) (eu))))
   (I:=λr' ε=>∃(s5 s6:Slot) (p rest:Tx),bM=p++rest/\r'=rest.map jq/\ε=[.val (.str t),.val (.int w),.own (.dK (dk m)),.own (.lst (ao (cM++p.flatMap f))),.val (.str H),s5,s6])
   (by
    rintro x r' ε ⟨s5,s6,p,rest,hp,kr,rfl⟩;cases rest with
    |nil=>cases kr
    |cons c rest=>
     have Fs:x::r'=jq c::rest.map jq:=kr;simp only[qX]at Fs;obtain⟨rfl,rfl⟩:=Fs;have nD:bd (.str H) (.str [c])=aa (.str (H++[c])):=ve (by simp[cx];lia);have mr:bd (.str t) (.str [c])=aa (.str (t++[c])):=ve (by simp[cx];lia);have NZ:cM.length+(p.flatMap f).length+(f c).length<=cx:=by rw[hE,hp,Ff,qZ,ef,ef]at hs;lia
     have lu:ao (cM++(p++[c]).flatMap f)=ao ((cM++p.flatMap f)++f c):=by simp
     by_cases hc:H++[c]∈q
     ·obtain⟨n,g1,g2,g3,g4,g5⟩:=hm.dec hc;have hfc:f c=gA w r (t++[c]) (q.erase (H++[c])):=if_pos hc;have ih:=CK w w1 r bO (t++[c]) (dr m (H++[c]) (n-1)) (q.erase (H++[c])) (cM++p.flatMap f) ∅ (by rw[Au hc,hq];rfl) g3 (by simp;lia) (by simp;lia)
       (by
        have:(dr m (H++[c]) (n-1)).length=m.length:=by
         have:=congrArg lU (BC (m:=m) (x:=H++[c]) (n:=n-1));have ha:(m.any λp=>decide (p.1=H++[c]))=ah:=by
          cases z:(m.any λp=>decide (p.1=H++[c]))with
          |true=>rfl
          |false=>rw[xo z]at g1;cases g1
         rw[if_pos ha]at this;simpa using this
        lia)
       (by rw[←hfc,ef];exact NZ)
      rw[←hfc]at ih;have o8:=uI m (H++[c]);rw[g1]at o8;have fU:=xD m (H++[c]) (n-1);have ul:=uI (dr m (H++[c]) (n-1)) (H++[c]);rw[g4]at ul;have d8:=xD (dr m (H++[c]) (n-1)) (H++[c]) (n-1+1);rw[g5,show n-1+1=n by lia]at d8;have hd1:(dk m).length<cx:=by unfold dk;rw[dy];unfold cx;lia
      have nu:(dk (dr m (H++[c]) (n-1))).length<cx:=by
       unfold dk;rw[dy];have:(dr m (H++[c]) (n-1)).length<=m.length+1:=by unfold dr;split <;> simp
       unfold cx;lia
      have gt:(0:Int)<n:=g2;refine⟨[.val (.str t),.val (.int w),.own (.dK (dk m)),.own (.lst (ao (cM++(p++[c]).flatMap f))),.val (.str H),.val (.str [c]),.val (.str (H++[c]))],?_,_,_,p++[c],rest,by rw[hp];simp,rfl,rfl⟩;rw[lu];have s1:fA (.int n) (.int 1)=aa (.int (n-1)):=rfl;have s2:bd (.int (n-1)) (.int 1)=aa (.int n):=by show aa (PV.int (n-1+1))=_;congr 2;lia
      simp only[wE]at o8 ul;generalize dk m=D at o8 fU d8 hd1;generalize dk (dr m (H++[c]) (n-1))=D2 at ul fU d8 ih nu;generalize ao (cM++p.flatMap f)=L at ih;generalize ao ((cM++p.flatMap f)++f c)=L2 at ih;clear_value H f;simp![jq,nD,lN,ol,lw,fc,jR,o8,gt,s1,hd1,fU,mr,ih,ul,s2,nu,d8]
     ·have hfc:f c=[]:=if_neg hc;have hz:=hm.zero hc;have o8:=uI m (H++[c]);have hg:((cJ m (H++[c])).map PV.int).getD (.int 0)=.int 0:=by
       cases e:cJ m (H++[c])with
       |none=>rfl
       |some k=>rw[e]at hz;simp at hz;subst hz;rfl
      refine⟨[.val (.str t),.val (.int w),.own (.dK (dk m)),.own (.lst (ao (cM++(p++[c]).flatMap f))),.val (.str H),.val (.str [c]),.val (.str (H++[c]))],?_,_,_,p++[c],rest,by rw[hp];simp,rfl,rfl⟩;rw[lu,hfc,hG];generalize dk m=D at o8;generalize ao (cM++p.flatMap f)=L;clear_value H f;simp![jq,nD,lN,fc,jR,o8,hg])
   (bM.map jq) [.val (.str t),.val (.int w),.own (.dK (dk m)),.own (.lst (ao (cM++([]:Tx).flatMap f))),.val (.str H),.none,.none] ⟨.none,.none,[],bM,by simp,rfl,rfl⟩
  have fq:rest=[]:=by cases rest with|nil=>rfl|cons=>cases uo
  subst fq;rw[hG]at hp;rw[hE];rw[←hp]at e1;simp only[E9,hG]at e1;have oS:iu (.str [97,98,99])=aa (bM.map jq):=rfl;have N9:ij (.str t) (aa ((t.length:Int)-w+1)) ae=aa (.str H):=hcut;generalize dk m=D at ha e1;generalize ao cM=L at e1;generalize ao (cM++bM.flatMap f)=L2 at e1;clear_value H f;simp![mQ,yam,se,fc,ha,iX,gw,nR,ba,nt,li,N9,iM,gu,cg,oS,e1]
end
section
variable{a:Ad}
abbrev bi(w:Nat)(ls:List Tx):PV:=.tup [.int w,.tup (ao ls)]
theorem J9{α:Type}(xs:List α):fz xs ae (aa (-1))=xs.dropLast:=by unfold fz;rw[show HT.sIx xs.length 0 ae=0 from rfl,ww,Nat.sub_zero,List.dropLast_eq_take];congr 1;show(HT.sIx xs.length xs.length (aa (-1)))=_;show(if(-1:Int)<0 then((-1:Int)+(xs.length:Int)).toNat else min (-1:Int).toNat xs.length)=_;rw[if_pos (by decide)];lia
theorem Kh{w:Nat}{ls:List Tx}(g:Good bM w ls)(w1:1<=w)(w4:w<=4):(bK w ls).length<=531441:=by rw[sC w1 g.some λx hx=>⟨g.len x hx,g.abc x hx⟩];refine cR (Fd _ _) ?_;rw[zg];exact cR (Nat.pow_le_pow_right (by decide) (show w-1+ls.length<=12 by have:=g.few;lia)) (by decide)
theorem Gf(V:PV)(ls:List Tx)(w:Nat)(s2 s3:Slot):i8 [] dI (iX ij (dV 0) nR (gw (d1 nY (dC (.int 1))))) (ao ls) [] [.val V,.val (.int w),s2,s3]=.ok (ao (ls.map oQ)) [.val V,.val (.int w),s2,s3]:=by
 have hc:=jl (cap:=[]) (dt:=dI) (de:=(iX ij (dV 0) nR (gw (d1 nY (dC (.int 1)))))) (ε:=[.val V,.val (.int w),s2,s3]) (λ_=>ah) (λx=>match x with|.str z=>.str z.dropLast|_=>.non) (ao ls)
  (by
   intro x hx;obtain⟨z,_,rfl⟩:=bP.mp hx;refine⟨by simp![c9,cU,bN,dI],λ_=>?_⟩;have hs:ij (.str z) ae (aa (-1))=aa (.str z.dropLast):=by show aa (PV.str (fz z ae (aa (-1))))=_;rw[J9]
   have hn:nY (.int 1)=aa (.int (-1)):=rfl;simp![c9,cU,bN,iX,nR,gw,hn,hs]) []
 rw[hc,iC,oR.mpr (by simp)];unfold ao;rw[c0,c0];rfl
theorem MI{w:Nat}{ls:List Tx}(g:Good bM w ls)(w1:1<=w)(w4:w<=4)(hs:ls.Pairwise (λa b=>cY a b=ah)):vL a [.val (bi w ls)]=.ok (.own (.lst (ao (bK w ls)))) [.val (bi w ls)]:=by
 have hck:=vK (a:=a) (g.vw w1 w4 hs);have i0:cn (bi w ls) (.int 0)=aa (.int w):=rfl;have i1:cn (bi w ls) (.int 1)=aa (.tup (ao ls)):=rfl;obtain⟨m,hm,hml0,hcm⟩:=Mm (a:=a) ls (by have:=g.few;lia);have rC:m.length<=1000:=by have:=g.few;lia
 let hd:=a8 (fu (ls.map oQ))
 have hdl:∀h∈hd,h.length=w-1:=λh hh=>by have hm:=(vd _ _).mp ((jM _).mem_iff.mp hh);obtain⟨y,hy,rfl⟩:=bP.mp hm;rw[Ai,g.len y hy]
 let f:=λh=>gA w ls.length h ls
 have hT:bK w ls=hd.flatMap f:=rfl;have hTl:=Kh g w1 w4;obtain⟨ε',e1,s3,p,rest,hp,uo,rfl⟩:=sN (i:=3) (db:=(jB (rK (mQ a 12) (pP (dV 3) (pP (dV 1) (gN (mI (aY (sO a) (gV (d2 cn (dV 0) (dC (.int 1))) (Pu.bB)))) (gO 2 (Pu.bB))))))))
  (I:=λr ε=>∃(s3:Slot) (p rest:List Tx),hd=p++rest/\r=ao rest/\ε=[.val (bi w ls),.val (.int w),.own (.lst (ao (p.flatMap f))),s3])
  (by
   rintro x r ε ⟨s3,p,rest,hp,hr,rfl⟩;cases rest with
   |nil=>cases hr
   |cons h rest=>
    have kr:x::r=.str h::ao rest:=hr;simp only[qX]at kr;obtain⟨rfl,rfl⟩:=kr;have hh:h.length=w-1:=hdl h (by rw[hp];simp);have ha:=CK (a:=a) w w1 ls.length 12 h m ls (p.flatMap f) (by have:=g.few;lia) rfl hm ∅ (by have:=g.few;lia) rC (by rw[hT,hp,Ff,qZ,ef,ef]at hTl;show(p.flatMap f).length+(f h).length<=cx;unfold cx;lia);refine⟨[.val (bi w ls),.val (.int w),.own (.lst (ao ((p++[h]).flatMap f))),.val (.str h)],?_,_,p++[h],rest,by rw[hp];simp,rfl,rfl⟩;have e2:(p++[h]).flatMap f=p.flatMap f++gA w ls.length h ls:=by simp[f]
    rw[e2];generalize ao (p.flatMap f)=L at ha;generalize ao (p.flatMap f++gA w ls.length h ls)=L2 at ha;generalize dk m=D at ha hcm;simp only[bi]at i1 ⊢;generalize ao ls=T at hcm i1;clear_value f hd;simp![rK,pP,gN,B_,i1,hcm,ha])
  (ao hd) [.val (bi w ls),.val (.int w),.own (.lst (ao (([]:List Tx).flatMap f))),.none] ⟨.none,[],hd,by simp,rfl,rfl⟩
 have fq:rest=[]:=by cases rest with|nil=>rfl|cons=>cases uo
 subst fq;rw[hG]at hp;rw[←hp,←hT]at e1;simp only[E9]at e1;have hco:=Gf (bi w ls) ls w (.own (.lst [])) .none;have hss:sF [.lst (ao (ls.map oQ))]=aa (.lst (ao hd)):=by show(ir (ao _)).bind _=_;have h2:=g.few;rw[uN,iB,if_pos (oI (Lh _) (by rw[dy];lia))]
 have e0:ao ([]:List Tx)=[]:=rfl;rw[e0]at e1;generalize ao (bK w ls)=L at e1;generalize ao hd=D at e1 hss;generalize ao (ls.map oQ)=D0 at hco hss;simp only[bi]at hck i0 i1 hco e1 ⊢;generalize hTT:ao ls=T at hck i0 i1 hco e1;clear_value f hd;simp![vL,yaP,hck,i0,i1,iM,gu,cg,iu,cB,hco,hss,e1,p9]
theorem Jm(ls:List Tx):gY (ao ls)=aa (dD ls):=by
 induction ls with
 |nil=>rfl
 |cons x ls ih=>show(cV (.str x)).bind (λv=>(gY (ao ls)).map (v::·))=_;rw[ih];rfl
theorem Du(ls:List Tx)(x:Tx):kL (ao ls) (.str x)=aa (.int (ls.count x:Nat)):=by show(cV (.str x)).bind (λv=>(gY (ao ls)).map λws=>PV.int (ws.countP λz=>dz z v))=_;rw[Jm,←Ho];rfl
theorem Mj(w:Nat)(ls:List Tx)(t:Tx)(ht:t.length<=60):mO a [.val (.str t),.val (.int w),.val (.tup (ao ls))]=.ok (.val (.bl (unD w ls t))) [.val (.str t),.val (.int w),.val (.tup (ao ls))]:=by
 have nr:=vG (a:=a) t w ht
 let M:=a8 (a6 t w)
 have hc:=jl (cap:=[3,2]) (dt:=dI) (de:=(d2 (eP λi j=>decide (i<=j)) (pF kL (dV 1) (dV 0)) (pF kL (dV 2) (dV 0)))) (ε:=[.val (.str t),.val (.int w),.val (.tup (ao ls)),.val (.tup (ao M))]) (λ_=>ah) (λx=>match x with|.str z=>.bl (decide (M.count z<=ls.count z))|_=>.non) (ao M)
  (by intro x hx;obtain⟨z,_,rfl⟩:=bP.mp hx;refine⟨by simp![c9,cU,bN,dI],λ_=>?_⟩;have h1:=Du M z;have h2:=Du ls z;generalize ao M=A at h1;generalize ao ls=B at h2;simp![c9,cU,bN,pF,h1,h2]) []
 have he:((ao M).filter (λ_=>ah)).map (λx=>match x with|.str z=>PV.bl (decide (M.count z<=ls.count z))|_=>.non)=(M.map λz=>decide (M.count z<=ls.count z)).map .bl:=by rw[oR.mpr (by simp)];unfold ao;rw[c0,c0];rfl
 rw[iC,he]at hc;have fS:(M.map λz=>decide (M.count z<=ls.count z)).all id=unD w ls t:=by
  rw[wv];unfold unD;have hp:=jM (a6 t w);rw[j5,lf,lf];constructor
  ·intro h x hx;have:=h x (hp.mem_iff.mpr hx);simp only[mh,id,M,hp.count_eq]at this;exact this
  ·intro h x hx;have:=h x (hp.mem_iff.mp hx);simp only[mh,id,M,hp.count_eq];exact this
 generalize (M.map λz=>decide (M.count z<=ls.count z))=bs at hc fS;have ha:=xU bs;rw[fS]at ha;change jm a _=R.ok (Slot.val (.tup (ao M))) _ at nr;generalize ao M=MM at nr hc;clear_value M;simp![mO,yaJ,nr,cB,cg,iu,hc,ha]
theorem DK(neg:Bool)(ls ms:List Tx):Pu.eqT neg (.tup (ao ls)) (.tup (ao ms))=aa (.bl (neg^^decide (ls=ms))):=by show(if fJ (.tup (ao ls))<=8 then(eJ (ao ls) (ao ms)).map (λk=>PV.bl (neg^^k))else ae)=_;rw[if_pos (by show fM (ao ls)+1<=8;rw[xv];decide),xq];rfl
def nextT(w:Nat)(ls:List Tx)(t:Tx):List Tx:=(bM.map λc=>t++[c]).filter (unD w ls)
theorem MO(w:Nat)(ls:List Tx)(V s3 s4 s6:Slot)(rows:List Tx)(ht:∀t∈rows,t.length<=50)(hb:(rows.flatMap (nextT w ls)).length<=999999):∃nG,j0 6 (lK 5 (dF (cB [6,1,2] (cg (dC (.str [97,98,99]))) (dB (bh (aY (mO a) (gV (d2 bd (dV 1) (dV 0)) (gV (dV 2) (gV (dV 3) (Pu.bB))))))) (d2 bd (dV 1) (dV 0))))) (ao rows) [V,.val (.int w),.val (.tup (ao ls)),s3,s4,.own (.lst []),s6]=.ok .next [V,.val (.int w),.val (.tup (ao ls)),s3,s4,.own (.lst (ao (rows.flatMap (nextT w ls)))),nG]:=by
 let f:=nextT w ls
 obtain⟨ε',e1,nG,p,rest,hp,uo,rfl⟩:=sN (i:=6) (db:=(lK 5 (dF (cB [6,1,2] (cg (dC (.str [97,98,99]))) (dB (bh (aY (mO a) (gV (d2 bd (dV 1) (dV 0)) (gV (dV 2) (gV (dV 3) (Pu.bB))))))) (d2 bd (dV 1) (dV 0))))))
  (I:=λr ε=>∃(nG:Slot) (p rest:List Tx),rows=p++rest/\r=ao rest/\ε=[V,.val (.int w),.val (.tup (ao ls)),s3,s4,.own (.lst (ao (p.flatMap f))),nG])
  (by
   rintro x r ε ⟨nG,p,rest,hp,hr,rfl⟩;cases rest with
   |nil=>cases hr
   |cons t rest=>
    have kr:x::r=.str t::ao rest:=hr;simp only[qX]at kr;obtain⟨rfl,rfl⟩:=kr;have htl:=ht t (by rw[hp];simp);have hc:=jl (cap:=[6,1,2]) (dt:=(dB (bh (aY (mO a) (gV (d2 bd (dV 1) (dV 0)) (gV (dV 2) (gV (dV 3) (Pu.bB)))))))) (de:=(d2 bd (dV 1) (dV 0))) (ε:=[V,.val (.int w),.val (.tup (ao ls)),s3,s4,.own (.lst (ao (p.flatMap f))),.val (.str t)])
     (λx=>match x with|.str [c]=>unD w ls (t++[c])|_=>aj) (λx=>match x with|.str [c]=>.str (t++[c])|_=>.non) (bM.map jq)
     (by
      intro x hx;obtain⟨c,_,rfl⟩:=bP.mp hx;have hw:=Mj (a:=a) w ls (t++[c]) (by simp;lia);have ha:bd (.str t) (.str [c])=aa (.str (t++[c])):=ve (by simp[cx];lia);simp only[jq];generalize ao (p.flatMap f)=L;generalize unD w ls (t++[c])=b at hw;generalize t++[c]=tc at hw ha;generalize ao ls=B at hw;refine⟨?_,λ_=>?_⟩
      ·simp![c9,cU,bN,ha,hw]
      ·simp![c9,cU,bN,ha]) []
    have he:((bM.map jq).filter (λx=>match x with|.str [c]=>unD w ls (t++[c])|_=>aj)).map (λx=>match x with|.str [c]=>PV.str (t++[c])|_=>.non)=ao (f t):=by simp only[f,nextT];rw[tM,c0,tM];unfold ao;rw[c0];rfl
    rw[iC,he]at hc;have oS:iu (.str [97,98,99])=aa (bM.map jq):=rfl;have ur:(ao (p.flatMap f)).length+(ao (f t)).length<=cx:=by
     rw[kP,kP];have h2:(p.flatMap f).length+(f t).length<=(rows.flatMap (nextT w ls)).length:=by rw[hp,Ff,qZ,ef,ef];simp only[f];lia
     unfold cx;lia
    refine⟨[V,.val (.int w),.val (.tup (ao ls)),s3,s4,.own (.lst (ao ((p++[t]).flatMap f))),.val (.str t)],?_,.val (.str t),p++[t],rest,by rw[hp];simp,rfl,rfl⟩;have e2:ao ((p++[t]).flatMap f)=ao (p.flatMap f)++ao (f t):=by simp[ao]
    rw[e2];generalize ao (f t)=Y at hc ur;generalize ao (p.flatMap f)=L at hc ur;generalize ao ls=B at hc;generalize bM.map jq=A3 at hc oS;clear_value f;simp![lK,cB,cg,oS,hc,ur])
  (ao rows) [V,.val (.int w),.val (.tup (ao ls)),s3,s4,.own (.lst (ao (([]:List Tx).flatMap f))),s6] ⟨s6,[],rows,by simp,rfl,rfl⟩
 have fq:rest=[]:=by cases rest with|nil=>rfl|cons=>cases uo
 subst fq;rw[hG]at hp;rw[←hp]at e1;exact⟨nG,e1⟩
theorem Mu{k:Nat}(h:k<=12):3^k<=531441:=cR (Nat.pow_le_pow_right (by decide) h) (by decide)
theorem KS{w:Nat}{ls:List Tx}(g:Good bM w ls)(w1:1<=w)(w4:w<=4)(hs:ls.Pairwise (λa b=>cY a b=ah)):rX a [.val (bi w ls)]=.ok (.own (.lst (ao (bK w ls)))) [.val (bi w ls)]:=by
 have hL:bK w ls=(rowsOf w ls (ls.length+w-1)).filter (λz=>decide (a8 (a6 z w)=ls)):=by rw[G8 hs,sC w1 g.some λx hx=>⟨g.len x hx,g.abc x hx⟩];congr 2;lia
 obtain⟨L,hLe⟩:∃L:Nat,ls.length+w-1=L:=⟨_,rfl⟩
 rw[hLe]at hL;have hL12:L<=12:=by have:=g.few;lia
 have bz:bE [.tup (ao ls)]=aa (.int (ls.length:Nat)):=by simp[bE,kP]
 have ha1:bd (.int (ls.length:Nat)) (.int w)=aa (.int ((ls.length:Int)+w)):=rfl;have ha2:fA (.int ((ls.length:Int)+w)) (.int 1)=aa (.int L):=by show aa (PV.int ((ls.length:Int)+w-1))=_;congr 2;lia
 have hr:i6 [.int L]=aa (dH 0 L):=sy ∅;have hlr:(dH 0 L).length=L:=by simp[dH]
 obtain⟨ε',e1,s4,s5,s6,rfl⟩:=uU (i:=4) (db:=(bb (ju 5 (dL eQ (aC)))
 (bb (gu 6 (cg (dV 3)) (lK 5 (dF (cB [6,1,2] (cg (dC (.str [97,98,99]))) (dB (bh (aY (mO a) (gV (d2 bd (dV 1) (dV 0)) (gV (dV 2) (gV (dV 3) (Pu.bB))))))) (d2 bd (dV 1) (dV 0))))))
 (cN 3 (dM 5)))))
  (I:=λk ε=>∃(s4 s5 s6:Slot),ε=[.val (bi w ls),.val (.int w),.val (.tup (ao ls)),.val (.lst (ao (rowsOf w ls k))),s4,s5,s6]) (N:=L)
  (by
   rintro k ε x hk ⟨s4,s5,s6,rfl⟩;have hrow:∀t∈rowsOf w ls k,t.length<=50:=λt ht=>by have:=((mL k t).mp (lR.mp ht).1).1;lia
   have e:(rowsOf w ls k).flatMap (nextT w ls)=rowsOf w ls (k+1):=(Ly w1 ls k).symm;have ur:((rowsOf w ls k).flatMap (nextT w ls)).length<=999999:=by rw[e];have h1:=Nh w ls (k+1);have h2:=Mu (show k+1<=12 by lia);lia
   obtain⟨nG,h1⟩:=MO (a:=a) w ls (.val (bi w ls)) (.val (.lst (ao (rowsOf w ls k)))) (.val x) s6 (rowsOf w ls k) hrow ur;rw[e]at h1;refine⟨_,?_,.val x,.val (.lst (ao (rowsOf w ls (k+1)))),nG,rfl⟩;generalize ao (rowsOf w ls (k+1))=R1 at h1;generalize hR0:ao (rowsOf w ls k)=R0 at h1;simp only[bi]at h1 ⊢;have hfor:∀(d:ak->R aS) (xs:List PV) (ε:ak),ε[3]?=aa (.val (.lst xs))->gu 6 (cg (dV 3)) d ε=j0 6 d xs ε:=λd xs ε h=>by unfold gu cg dV;rw[h];rfl
   refine(jN (ε1:=[.val (.tup [.int w,.tup (ao ls)]),.val (.int w),.val (.tup (ao ls)),.val (.lst R0),.val x,.own (.lst []),s6]) (by simp![])).trans ?_;refine(jN ((hfor _ R0 _ rfl).trans h1)).trans ?_;simp[cN,dM,R.bind])
  (dH 0 L) 0 [.val (bi w ls),.val (.int w),.val (.tup (ao ls)),.val (.lst (ao (rowsOf w ls 0))),.none,.none,.none] ∅ ⟨.none,.none,.none,rfl⟩
 rw[hlr,qP,FX w1]at e1;have hc:=jl (cap:=[1,2]) (dt:=(dB (d2 (Pu.eqT aj) (bh (aY (jm a) (gV (dV 0) (gV (dV 1) (Pu.bB))))) (dV 2)))) (de:=dV 0) (ε:=[.val (bi w ls),.val (.int w),.val (.tup (ao ls)),.val (.lst (ao (rowsOf w ls L))),s4,s5,s6])
  (λx=>match x with|.str z=>decide (a8 (a6 z w)=ls)|_=>aj) (λx=>x) (ao (rowsOf w ls L))
  (by
   intro x hx;obtain⟨z,hz,rfl⟩:=bP.mp hx;have hzl:z.length<=60:=by have:=((mL L z).mp (lR.mp hz).1).1;lia
   have nr:=vG (a:=a) z w hzl;have he:=DK aj (a8 (a6 z w)) ls;simp only[Bool.false_xor]at he;generalize ao (a8 (a6 z w))=M at nr he;generalize hD:decide (a8 (a6 z w)=ls)=D at he;generalize ao (rowsOf w ls L)=RR;simp only[bi];refine⟨?_,λ_=>?_⟩
   ·simp only[hD];generalize ao ls=B at he;simp![c9,cU,bN,nr,he]
   ·generalize ao ls=B;simp![c9,cU,bN]) []
 have he:((ao (rowsOf w ls L)).filter (λx=>match x with|.str z=>decide (a8 (a6 z w)=ls)|_=>aj)).map (λx=>x)=ao (bK w ls):=by rw[List.map_id',hL];unfold ao;rw[tM];rfl
 rw[iC,he]at hc;have e0:ao [[]]=[.str []]:=rfl;rw[e0]at e1;generalize ao (bK w ls)=T at hc;generalize ao (rowsOf w ls L)=RR at hc e1;simp only[bi]at hc e1 ⊢;generalize ao ls=B at hc e1 bz;simp![rX,yaA,yv,bz,ha1,ha2,iM,gu,hr,e1,pe,cB,cg,iu,hc]
end
end Sh
namespace Mx
open L2 Pu
def kF:Nat->Nat->Nat->Nat->List Tx
 |0,_,_,_=>[[]]
 |n+1,i,j,k=>(match i with|0=>[]|i+1=>(kF n i j k).map (97::·))++((match j with|0=>[]|j+1=>(kF n i j k).map (98::·))++(match k with|0=>[]|k+1=>(kF n i j k).map (99::·)))
theorem BN:∀(n:Nat) (z:Tx),z.length=n->(∀c∈z,c∈bM)->z∈kF n (z.count 97) (z.count 98) (z.count 99)
 |0,z,h,_=>by rw[AA.mp h];simp[kF]
 |n+1,z,h,hc=>by
  cases z with
  |nil=>cases h
  |cons c z=>
   have ih:=BN n z (wL h) λd hd=>hc d (by simp[hd]);have h3:c=97\/c=98\/c=99:=by have:=hc c (by simp);simpa[bM]using this
   rcases h3 with rfl|rfl|rfl
   ·rw[AC,tN (by decide),tN (by decide)];simp only[kF,gb];exact .inl (bP.mpr ⟨z,ih,rfl⟩)
   ·rw[AC,tN (by decide),tN (by decide)];simp only[kF,gb];exact .inr (.inl (bP.mpr ⟨z,ih,rfl⟩))
   ·rw[AC,tN (by decide),tN (by decide)];simp only[kF,gb];exact .inr (.inr (bP.mpr ⟨z,ih,rfl⟩))
theorem len_sub{l m:List Tx}(nd:l.Nodup)(h:∀x∈l,x∈m):l.length<=m.length:=by
 induction l generalizing m with
 |nil=>simp
 |cons x l ih=>rw[jd]at nd;have hx:x∈m:=h x (by simp);have:=ih (m:=m.erase x) nd.2 λy hy=>(List.mem_erase_of_ne (λz=>nd.1 (by rw[←z];exact hy))).mpr (h y (by simp[hy]));rw[Au hx]at this;have h0:0<m.length:=List.length_pos_of_mem hx;rw[fg];lia
theorem IU{z:Tx}(h:∀c∈z,c∈bM):z.count 97+z.count 98+z.count 99=z.length:=by
 induction z with
 |nil=>rfl
 |cons c z ih=>
  have:=ih λd hd=>h d (by simp[hd]);have h3:c=97\/c=98\/c=99:=by have:=h c (by simp);simpa[bM]using this
  rcases h3 with rfl|rfl|rfl <;> (rw[List.count_cons,List.count_cons,List.count_cons,fg];simp;lia)
theorem LS{z:Tx}{w:Nat}(hw:1<=w):(a6 z w).length=z.length+1-w:=by rw[qf z w hw];simp
theorem K3{w:Nat}{ls:List Tx}(hw:1<=w)(hn:1<=ls.length)(hl:∀x∈ls,x.length=w/\∀c∈x,c∈bM):(bK w ls).Nodup:=by rw[sC hw hn hl];exact(CB _).filter _
theorem uA{w:Nat}{ls:List Tx}(hw:1<=w)(hn:1<=ls.length)(hl:∀x∈ls,x.length=w/\∀c∈x,c∈bM){z:Tx}(h:z∈bK w ls):z.length=w-1+ls.length/\∀c∈z,c∈bM:=by rw[sC hw hn hl,lR,mL]at h;exact h.1
end Mx
namespace Sh
open L2 Pu Mx
structure Vd where
 w:Nat
 ls:List Tx
def tx(v:Vd):List Tx:=bK v.w v.ls
section
variable{a:Ad}
theorem Fz{z:Tx}(h1:1<=z.length)(h2:z.length<=12)(hc:∀c∈z,c∈bM):vN a [.val (.str z)]=.ok (.val .non) [.val (.str z)]:=by
 have k1:dU [.str z,.raw (.ty "str")]=aa (.bl ah):=gz rfl CF;have hh:=Co (a:=a) z bM;have fS:z.all bM.contains=ah:=by rw[lf];intro c h;simpa using hc c h
 rw[fS]at hh;simp only[bM]at hh;have hl:bE [.str z]=aa (.int (z.length:Nat)):=rfl;have c1:(1:Int)<=(z.length:Nat):=∅
 have c2:((z.length:Nat):Int)<=12:=∅
 have ht:vY a [.val (.str z),.val (.int 12)]=.ok (.val (.bl ah)) [.val (.str z),.val (.int 12)]:=by simp![vY,yat,k1,hl,c1,c2,hh]
 simp![vN,yao,ht]
theorem ML{w:Nat}(w1:1<=w)(w4:w<=4):vA a [.val (.int w)]=.ok (.val .non) [.val (.int w)]:=by have h:=xM (a:=a) w;rw[decide_eq_true (show 1<=(w:Int)/\(w:Int)<=4 by lia)]at h;simp![vA,yaq,h]
def rP(t:Tx)(v:Nat):List Tx:=(bX (t.length+1-v)).map λi=>(t.drop i).take v
theorem GF{t:Tx}{w:Nat}(hw:w<=t.length+1)(ht:t.length<=60):sR a [.val (.str t),.val (.int w)]=.ok (.own (.lst (ao (rP t w)))) [.val (.str t),.val (.int w)]:=by
 have hl:bE [.str t]=aa (.int (t.length:Nat)):=rfl;have hs:fA (.int (t.length:Nat)) (.int w)=aa (.int ((t.length:Int)-w)):=rfl;have ha:bd (.int ((t.length:Int)-w)) (.int 1)=aa (.int ((t.length+1-w:Nat):Int)):=by show aa (PV.int ((t.length:Int)-w+1))=_;congr 2;lia
 have hr:i6 [.int ((t.length+1-w:Nat):Int)]=aa (dH 0 (t.length+1-w)):=sy ∅;have hc:=jl (cap:=[0,1]) (dt:=dI) (de:=(iX ij (dV 1) (gw (dV 0)) (gw (d2 bd (dV 0) (dV 2))))) (ε:=[.val (.str t),.val (.int w)]) (λ_=>ah) (λx=>match x with|.int i=>.str (fz t (aa i) (aa (i+w)))|_=>.non) (dH 0 (t.length+1-w))
  (by intro x hx;obtain⟨i,_,rfl⟩:=bP.mp hx;refine⟨by simp![c9,cU,bN,dI],λ_=>?_⟩;simp![c9,cU,bN,bd,iX,gw,ij]) []
 have he:((dH 0 (t.length+1-w)).filter (λ_=>ah)).map (λx=>match x with|.int i=>PV.str (fz t (aa i) (aa (i+w)))|_=>.non)=ao (rP t w):=by
  rw[oR.mpr (by simp)];unfold dH ao rP;rw[c0,c0];refine lY λi hi=>?_;have hi:i<t.length+1-w:=by simpa using hi
  simp only[mh,Int.zero_add];rw[Cy ∅]
 rw[iC,he]at hc;generalize ao (rP t w)=T at hc;generalize dH 0 (t.length+1-w)=RR at hr hc;generalize ((t.length+1-w:Nat):Int)=n at ha hr;simp![sR,yaN,pe,cB,hl,hs,ha,hr,hc]
theorem Ia{t:Tx}{w:Nat}(w1:1<=w):rP t w=a6 t w:=(qf t w w1).symm
theorem Jv{t:Tx}{w:Nat}(w1:1<=w)(hw:w<=t.length+1)(ht:t.length<=60):sR a [.val (.str t),.val (.int w)]=.ok (.own (.lst (ao (a6 t w)))) [.val (.str t),.val (.int w)]:=by rw[←Ia w1];exact GF hw ht
theorem L8{w:Nat}{ls:List Tx}(h1:1<=ls.length)(h9:ls.length<=9):wc a [.val (.int w),.val (.lst (ao ls))]=.ok (.val (bi w (a8 ls))) [.val (.int w),.val (.lst (ao ls))]:=by
 have hl:bE [.lst (ao ls)]=aa (.int (ls.length:Nat)):=by simp[bE,kP]
 have c1:(1:Int)<=(ls.length:Nat):=∅
 have c2:((ls.length:Nat):Int)<=9:=∅
 have dG:lH [.lst (ao ls)]=aa (.lst (ao (a8 ls))):=yb ∅;simp only[bi];generalize ao (a8 ls)=T at dG;generalize ao ls=B at hl dG;simp![wc,yaQ,hl,c1,c2,dG,mJ]
structure Tv(t:Tx)(w:Nat):Prop where
 w1:1<=w
 w4:w<=4
 h1:w<=t.length
 h9:t.length+1<=w+9
 abc:∀c∈t,c∈bM
theorem Tv.good{t:Tx}{w:Nat}(h:Tv t w):Good bM w (a6 t w):=by have hm:=DB (m:=8) h.w1 h.h1 (by have:=h.h9;lia);exact⟨λx hx=>(ux x hx).1,λx hx c hc=>h.abc c ((ux x hx).2 c hc),hm.1,hm.2⟩
theorem GE{t:Tx}{w:Nat}(h:Tv t w):qm a [.val (.str t),.val (.int w)]=.ok (.val (bi w (a8 (a6 t w)))) [.val (.str t),.val (.int w)]:=by have b1:=h.w1;have b2:=h.w4;have b3:=h.h1;have b4:=h.h9;have e1:=Fz (a:=a) (z:=t) ∅ ∅ h.abc;have e2:=ML (a:=a) h.w1 h.w4;have e4:=Jv (a:=a) (t:=t) h.w1 ∅ ∅;have e5:=L8 (a:=a) (w:=w) (ls:=a6 t w) h.good.some h.good.few;generalize bi w (a8 (a6 t w))=V at e5;generalize ao (a6 t w)=C at e4 e5;simp![qm,yaO,e1,e2,e4,e5]
end
end Sh
namespace Mx
open L2
theorem wins_at{z:Tx}{w k:Nat}(hw:k<w)(hz:w<=z.length):(a6 z w).map (λx=>x.getD k 0)=(z.drop k).take (z.length+1-w):=by
 rw[qf z w ∅,c0];refine tq λi=>?_;rw[jD,E7];by_cases c:i<z.length+1-w
 ·rw[wu c,if_pos c];have h1:i+k<z.length:=∅
  simp[E7,EY,hw,h1,Nat.add_comm k i]
 ·rw[if_neg c,nh (by simpa using c)];rfl
theorem take_tells{t u:Tx}{w:Nat}(hl:t.length=u.length)(hz:w<=t.length)(w1:1<=w)(hp:(a6 t w).Perm (a6 u w))(h:t.take (t.length+1-w)=u.take (t.length+1-w)):t=u:=by
 have key:∀k,k<w->t.take (t.length+1-w+k)=u.take (t.length+1-w+k):=by
  intro k
  induction k with
  |zero=>intro _;exact h
  |succ k ih=>
   intro hk;have ih:=ih ∅;have p:=hp.map (λx=>x.getD (k+1) 0);rw[wins_at ∅ hz,wins_at ∅ ∅,←hl]at p;generalize hn:t.length+1-w=n at *;obtain⟨m,rfl⟩:∃m,n=m+1:=⟨n-1,∅⟩
   have e1:∀z:Tx,z.length=t.length->(z.drop (k+1)).take (m+1)=(z.drop (k+1)).take m++[z.getD (m+1+k) 0]:=λz hz'=>by
    have ba:m<(z.drop (k+1)).length:=by rw[j8];lia
    rw[wO ba,wN];congr 2;rw[Fg,d7 ∅,wT];congr 1;lia
   rw[e1 t rfl,e1 u hl.symm]at p;have e2:(t.drop (k+1)).take m=(u.drop (k+1)).take m:=by have:=congrArg (List.drop (k+1)) ih;rw[List.drop_take,List.drop_take]at this;rw[show m+1+k-(k+1)=m by lia]at this;exact this
   rw[e2,List.perm_append_left_iff]at p;have e3:t.getD (m+1+k) 0=u.getD (m+1+k) 0:=by simpa using p
   have ba:m+1+k<t.length:=∅
   have hlu:m+1+k<u.length:=∅
   rw[show m+1+(k+1)=m+1+k+1 by lia,wO ba,wO hlu,ih];congr 2;rw[Fg,Fg,d7 ba,d7 hlu]at e3;exact e3
 have:=key (w-1) ∅;rw[show t.length+1-w+(w-1)=t.length by lia,tw]at this;rw[this,hl,tw]
theorem words9:∀m:Fin 10,∀i:Fin 10,∀j:Fin 10,i.val+j.val<=m.val->(kF m.val i.val j.val (m.val-i.val-j.val)).length<=1680:=by decide +kernel
theorem texts_1680{w:Nat}{ls:List Tx}(w1:1<=w)(hn:1<=ls.length)(h9:ls.length<=9)(hl:∀x∈ls,x.length=w/\∀c∈x,c∈bM):(bK w ls).length<=1680:=by
 by_cases h0:bK w ls=[]
 ·rw[h0];exact k_ _
 have iD:∀z∈bK w ls,z.length=w-1+ls.length/\∀c∈z,c∈bM:=λz hz=>uA w1 hn hl hz;have o6:∀z∈bK w ls,(a6 z w).Perm ls:=λz hz=>by rw[sC w1 hn hl,lR]at hz;exact List.isPerm_iff.mp hz.2
 obtain⟨t,ht⟩:∃t,t∈bK w ls:=by
  cases q:bK w ls with
  |nil=>exact absurd q h0
  |cons t r=>exact⟨t,eN⟩
 obtain⟨tl,tc⟩:=iD t ht;have nd:((bK w ls).map λz=>z.take ls.length).Nodup:=by refine nodup_of (K3 w1 hn hl) λz hz u hu e=>?_;have z1:=(iD z hz).1;have u1:=(iD u hu).1;exact take_tells ∅ ∅ w1 ((o6 z hz).trans (o6 u hu).symm) (by rw[show z.length+1-w=ls.length by lia];exact e)
 have sub:∀x∈(bK w ls).map (λz=>z.take ls.length),x∈kF ls.length ((t.take ls.length).count 97) ((t.take ls.length).count 98) ((t.take ls.length).count 99):=by
  intro x hx;obtain⟨z,hz,rfl⟩:=bP.mp hx;obtain⟨z1,z2⟩:=iD z hz;have p:(z.take ls.length).Perm (t.take ls.length):=by have q:=((o6 z hz).trans (o6 t ht).symm).map (λx=>x.getD 0 0);rw[wins_at ∅ ∅,wins_at ∅ ∅,ww,ww,show z.length+1-w=ls.length by lia,show t.length+1-w=ls.length by lia]at q;exact q
  have:=BN ls.length (z.take ls.length) (by simp;lia) λc hc=>z2 c (Az hc);rwa[p.count_eq,p.count_eq,p.count_eq]at this
 have:=len_sub nd sub;rw[dy]at this;refine cR this ?_;have hc:=IU (z:=t.take ls.length) λc hc=>tc c (Az hc);have gP:(t.take ls.length).length=ls.length:=by simp;lia
 have:=words9 ⟨ls.length,∅⟩ ⟨(t.take ls.length).count 97,∅⟩ ⟨(t.take ls.length).count 98,∅⟩ (show(t.take ls.length).count 97+(t.take ls.length).count 98<=ls.length by lia);have e:ls.length-(t.take ls.length).count 97-(t.take ls.length).count 98=(t.take ls.length).count 99:=∅
 simp only[e]at this;exact this
where
 nodup_of {l:List Tx}{f:Tx->Tx} (h:l.Nodup) (hi:∀x∈l,∀y∈l,f x=f y->x=y):(l.map f).Nodup:=by
  induction l with
  |nil=>simp
  |cons x l ih=>rw[eh,jd];have h':=jd.mp h;refine⟨λhm=>?_,ih h'.2 λa ha b hb=>hi a (dN _ ha) b (dN _ hb)⟩;obtain⟨y,hy,e⟩:=bP.mp hm;have:=hi y (dN _ hy) x eN e;subst this;exact h'.1 hy
end Mx
namespace Sh
open L2 Pu Mx
def vwK(w:Nat)(t:Tx):PrK:=((w:Int),a8 (a6 t w))
def vwL(w:Nat)(T:List Tx):PV:=.lst ((sortK (uniqK (T.map (vwK w)))).map prV)
theorem prs_map:∀{ks:List PrK},(∀k∈ks,k.2≠[])->prs (ks.map prV)=aa ks
 |[],_=>rfl
 |k::ks,h=>by
  have h1:pr1 (prV k)=aa k:=by show(ir (ao k.2)).bind _=_;rw[uN,iB,if_pos (h k eN)]
  show(pr1 (prV k)).bind _=_;rw[h1,iB,prs_map λy hy=>h y (dN _ hy)];rfl
theorem uniqK_len(l aH:List PrK):(l.foldl (λaH k=>if k∈aH then aH else aH++[k]) aH).length<=aH.length+l.length:=by
 induction l generalizing aH with
 |nil=>simp
 |cons x r ih=>rw[k9];refine cR (ih _) ?_;split <;> simp <;> lia
theorem wins_some{t:Tx}{w:Nat}(w1:1<=w)(h:w<=t.length):a8 (a6 t w)≠[]:=λz=>by have:=congrArg lU z;rw[vE,LS w1]at this;simp at this;lia
theorem sortV_eq{w:Nat}(w1:1<=w){T:List Tx}(hT:∀t∈T,w<=t.length)(hl:T.length<4000):sortSetVP [.lst (T.map λt=>prV (vwK w t))]=aa (.lst ((sortK (uniqK (T.map (vwK w)))).map prV)):=by
 have e:(T.map λt=>prV (vwK w t))=(T.map (vwK w)).map prV:=by rw[c0];rfl
 rw[e];show(prs _).bind _=_;rw[prs_map (λk hk=>by obtain⟨t,ht,rfl⟩:=bP.mp hk;exact wins_some w1 (hT t ht)),iB,if_pos];refine⟨oI (uniqK_len _ []) (by simpa using hl),λk hk=>?_⟩;obtain⟨t,ht,rfl⟩:=bP.mp hk;cases T with
 |nil=>cases ht
 |cons x r=>rfl
theorem dep_prV(k:PrK):fJ (prV k)<=2:=by
 show max (fJ (.int k.1)) (max (fJ (.tup (ao k.2))) 0)+1<=2;have:fJ (.tup (ao k.2))=1:=by show fM (ao k.2)+1=1;rw[xv]
 rw[this];show max 0 (max 1 0)+1<=2;decide
theorem deps_prs(ks:List PrK):fM (ks.map prV)<=2:=by
 induction ks with
 |nil=>exact k_ _
 |cons k ks ih=>exact Nat.max_le.mpr ⟨dep_prV k,ih⟩
theorem eqP_prV(k:PrK):cr (prV k) (prV k)=aa ah:=by
 have h1:eJ (ao k.2) (ao k.2)=aa ah:=by rw[xq,decide_eq_true rfl]
 have h2:cr (.int k.1) (.int k.1)=aa ah:=by show aa (dz (.int k.1) (.int k.1))=_;simp[dz]
 show(cr (.int k.1) (.int k.1)).bind (λa=>((eJ (ao k.2) (ao k.2)).bind λa=>(aa ah).map λb=>a&&b).map λb=>a&&b)=_;rw[h1,h2];rfl
theorem eqPs_prs:∀(ks:List PrK),eJ (ks.map prV) (ks.map prV)=aa ah
 |[]=>rfl
 |k::ks=>by show(cr (prV k) (prV k)).bind (λa=>(eJ (ks.map prV) (ks.map prV)).map λb=>a&&b)=_;rw[eqP_prV,eqPs_prs ks];rfl
theorem eqT_vwL(w:Nat)(T:List Tx):Pu.eqT aj (vwL w T) (vwL w T)=aa (.bl ah):=by show(if fJ (vwL w T)<=8 then(eJ _ _).map (λk=>PV.bl (aj^^k))else ae)=_;rw[if_pos (by show fM _+1<=8;have:=deps_prs (sortK (uniqK (T.map (vwK w))));lia),eqPs_prs];rfl
section
variable{a:Ad}
theorem tv_of{w v:Nat}{ls:List Tx}(g:Good bM w ls)(w1:1<=w)(v1:1<=v)(v4:v<=4)(hv:v+1<=w+ls.length)(h9:w+ls.length<=v+9){t:Tx}(ht:t∈bK w ls):Tv t v:=by obtain⟨h1,h2⟩:=uA w1 g.some (λx hx=>⟨g.len x hx,g.abc x hx⟩) ht;exact⟨v1,v4,∅,∅,h2⟩
theorem views_comp{w v:Nat}{ls:List Tx}(g:Good bM w ls)(w1:1<=w)(v1:1<=v)(v4:v<=4)(hv:v+1<=w+ls.length)(h9:w+ls.length<=v+9)(op:PV->PV->Option PV)(ho:op (.int w) (.int 1)=aa (.int v)):i8 [0] dI (bh (aY (qm a) (gV (dV 0) (gV (d2 op (d2 cn (dV 1) (dC (.int 0))) (dC (.int 1))) (Pu.bB))))) (ao (bK w ls)) [] [.val (bi w ls)]=.ok ((bK w ls).map λt=>prV (vwK v t)) [.val (bi w ls)]:=by
 have hi:cn (bi w ls) (.int 0)=aa (.int w):=rfl;have hc:=jl (cap:=[0]) (dt:=dI) (de:=(bh (aY (qm a) (gV (dV 0) (gV (d2 op (d2 cn (dV 1) (dC (.int 0))) (dC (.int 1))) (Pu.bB)))))) (ε:=[.val (bi w ls)]) (λ_=>ah) (λx=>match x with|.str t=>prV (vwK v t)|_=>.non) (ao (bK w ls))
  (by intro x hx;obtain⟨t,ht,rfl⟩:=bP.mp hx;have hv:=GE (a:=a) (tv_of g w1 v1 v4 hv h9 ht);have e:bi v (a8 (a6 t v))=prV (vwK v t):=rfl;rw[e]at hv;refine⟨by simp![c9,cU,bN,dI],λ_=>?_⟩;show _=R.ok (prV (vwK v t)) _;generalize prV (vwK v t)=Y at hv ⊢;generalize ((v:Nat):Int)=VI at hv ho;generalize ((w:Nat):Int)=WI at ho hi;generalize bi w ls=V at hi;simp![c9,cU,bN,hi,ho,hv]) []
 rw[iC,oR.mpr (by simp)]at hc;rw[hc];congr 1;simp[ao,c0,tz]
theorem few{w:Nat}{ls:List Tx}(g:Good bM w ls)(w1:1<=w):(bK w ls).length<4000 :=oI (texts_1680 w1 g.some g.few λx hx=>⟨g.len x hx,g.abc x hx⟩) (by decide)
theorem long{w v:Nat}{ls:List Tx}(g:Good bM w ls)(w1:1<=w)(hv:v+1<=w+ls.length):∀t∈bK w ls,v<=t.length:=λt ht=>by have:=(uA w1 g.some (λx hx=>⟨g.len x hx,g.abc x hx⟩) ht).1;lia
theorem eq_no{m k:Nat}(h:m≠k):Pu.eqT aj (.int m) (.int k)=aa (.bl aj):=by rw[lI,decide_eq_false ∅];rfl
theorem eq_yes{m k:Nat}(h:m=k):Pu.eqT aj (.int m) (.int k)=aa (.bl ah):=by rw[lI,decide_eq_true ∅];rfl
theorem vw_facts(w:Nat)(ls:List Tx):cn (bi w ls) (.int 0)=aa (.int w)/\cn (bi w ls) (.int 1)=aa (.tup (ao ls))/\bE [.tup (ao ls)]=aa (.int (ls.length:Nat)) :=⟨rfl,rfl,by show aa (PV.int ((ao ls).length:Nat))=_;rw[kP]⟩
end
end Sh
namespace K22
open L2 Pu Mx Sh
section
variable{a:Ad}
def rf(n:Int):PV:=.tup [.str [114,101,102,117,115,101,100],.int n]
def Wh(a:Ad):Prop:=[jv a [.val (.exc (.ref a.NoView))],jv a [.val (.exc (.ref a.NoWidth))],jv a [.val (.exc (.ref a.Full))]] =
 [.ok (.val (rf 2)) [.val (.exc (.ref a.NoView))],.ok (.val (rf 1)) [.val (.exc (.ref a.NoWidth))],.ok (.val (rf 5)) [.val (.exc (.ref a.Full))]]
theorem Ot (h:[jv a [.val (.exc (.ref a.NoView))],jv a [.val (.exc (.ref a.NoWidth))],jv a [.val (.exc (.ref a.Full))]]=[.ok (.val (rf 2)) [.val (.exc (.ref a.NoView))],.ok (.val (rf 1)) [.val (.exc (.ref a.NoWidth))],.ok (.val (rf 5)) [.val (.exc (.ref a.Full))]]):Wh a:=h
theorem Nj(h:Wh a):jv a [.val (.exc (.ref a.NoView))]=.ok (.val (rf 2)) [.val (.exc (.ref a.NoView))]/\jv a [.val (.exc (.ref a.NoWidth))]=.ok (.val (rf 1)) [.val (.exc (.ref a.NoWidth))]/\jv a [.val (.exc (.ref a.Full))]=.ok (.val (rf 5)) [.val (.exc (.ref a.Full))]:=by unfold Wh at h;simp only[qX,and_true]at h;exact h
theorem zw{c:af}{n:Int}{x:PV}(hc:jK a (.ref c)=ah)(hq:jv a [.val (.exc (.ref c))]=.ok (.val (rf n)) [.val (.exc (.ref c))])(h:js a [.val x]=.er (.ref c) [.val x]):ja a [.val x]=.ok (.val (rf n)) [.val x]:=by generalize rf n=Y at hq;simp![ja,yaB,pY,sm,bN,h,hc,hq]
theorem Lj{x y:PV}(h:js a [.val x]=.ok (.val y) [.val x]):ja a [.val x]=.ok (.val y) [.val x]:=by simp![ja,yaB,pY,sm,bN,h]
theorem F7{x:PV}(h:lJ a [.val x]=.ok (.val (.bl aj)) [.val x]):js a [.val x]=.er (.ref a.NoView) [.val x]:=by have:=F9 (a:=a) h;simp![js,yaM,this]
theorem FO{w:Nat}{ls:List Tx}(g:Good bM w ls)(w1:1<=w)(w4:w<=4)(hs:ls.Pairwise (λa b=>cY a b=ah))(h1:w=1):js a [.val (bi w ls)]=.er (.ref a.NoWidth) [.val (bi w ls)]:=by have hc:=vK (a:=a) (g.vw w1 w4 hs);obtain⟨i0,_,_⟩:=vw_facts w ls;have he:Pu.eqT aj (.int w) (.int 1)=aa (.bl ah):=eq_yes h1;have eC:kJ a [.val (bi w ls)]=.ok (.val .non) [.val (bi w ls)]:=hc;generalize ((w:Nat):Int)=WI at i0 he;generalize bi w ls=V at eC i0;simp![js,yaM,eC,i0,he,kE,bN]
theorem Go{w:Nat}{ls:List Tx}(g:Good bM w ls)(w1:1<=w)(w4:w<=4)(hs:ls.Pairwise (λa b=>cY a b=ah))(h1:w≠1)(h9:ls.length=9):js a [.val (bi w ls)]=.er (.ref a.Full) [.val (bi w ls)]:=by have eC:kJ a [.val (bi w ls)]=.ok (.val .non) [.val (bi w ls)]:=vK (a:=a) (g.vw w1 w4 hs);obtain⟨i0,i1,il⟩:=vw_facts w ls;have he:Pu.eqT aj (.int w) (.int 1)=aa (.bl aj):=eq_no h1;have kt:Pu.eqT aj (.int (ls.length:Nat)) (.int 9)=aa (.bl ah):=eq_yes h9;generalize ((ls.length:Nat):Int)=LI at il kt;generalize ((w:Nat):Int)=WI at i0 he;generalize ao ls=LP at i1 il;generalize bi w ls=V at eC i0 i1;simp![js,yaM,eC,i0,i1,il,he,kt,kE,bN]
theorem NI{w:Nat}{ls:List Tx}(g:Good bM w ls)(w1:1<=w)(w4:w<=4)(hs:ls.Pairwise (λa b=>cY a b=ah))(h1:w≠1)(h9:ls.length≠9):js a [.val (bi w ls)]=.ok (.val (vwL (w-1) (bK w ls))) [.val (bi w ls)]:=by
 have h9':=g.few;have h0':=g.some;have eC:kJ a [.val (bi w ls)]=.ok (.val .non) [.val (bi w ls)]:=vK (a:=a) (g.vw w1 w4 hs);obtain⟨i0,i1,il⟩:=vw_facts w ls;have he:Pu.eqT aj (.int w) (.int 1)=aa (.bl aj):=eq_no h1;have kt:Pu.eqT aj (.int (ls.length:Nat)) (.int 9)=aa (.bl aj):=eq_no h9;have ht:=MI (a:=a) g w1 w4 hs;have ho:fA (.int w) (.int 1)=aa (.int ((w-1:Nat):Int)):=by show aa (PV.int ((w:Int)-1))=_;congr 2;lia
 have hv:=views_comp (a:=a) (v:=w-1) g w1 ∅ ∅ ∅ ∅ fA ho;have o9:=sortV_eq (w:=w-1) (T:=bK w ls) ∅ (long g w1 ∅) (few g w1);have ei:iu (.lst (ao (bK w ls)))=aa (ao (bK w ls)):=rfl;unfold vwL;generalize (sortK (uniqK ((bK w ls).map (vwK (w-1))))).map prV=RV at o9;generalize ((bK w ls).map λt=>prV (vwK (w-1) t))=VV at hv o9;generalize ao (bK w ls)=TP at ht hv ei;generalize ((ls.length:Nat):Int)=LI at il kt;generalize ((w:Nat):Int)=WI at i0 he;generalize ao ls=LP at i1 il;generalize bi w ls=V at eC i0 i1 ht hv;simp![js,yaM,eC,i0,i1,il,he,kt,ht,cB,cg,ei,hv,o9]
theorem MY{v:Nat}{T:List Tx}(hT:∀t∈T,t.length<=60)(s0 s1 s2 s3 s5:Slot):i8 [4] dI (bh (aY (jm a) (gV (dV 0) (gV (dV 1) (Pu.bB))))) (ao T) [] [s0,s1,s2,s3,.val (.int v),s5]=.ok (T.map λt=>PV.tup (ao (a8 (a6 t v)))) [s0,s1,s2,s3,.val (.int v),s5]:=by
 have hc:=jl (cap:=[4]) (dt:=dI) (de:=(bh (aY (jm a) (gV (dV 0) (gV (dV 1) (Pu.bB)))))) (ε:=[s0,s1,s2,s3,.val (.int v),s5]) (λ_=>ah) (λx=>match x with|.str t=>PV.tup (ao (a8 (a6 t v)))|_=>.non) (ao T)
  (by intro x hx;obtain⟨t,ht,rfl⟩:=bP.mp hx;have hv:=vG (a:=a) t v (hT t ht);refine⟨by simp![c9,cU,bN,dI],λ_=>?_⟩;show _=R.ok (PV.tup (ao (a8 (a6 t v)))) _;generalize ao (a8 (a6 t v))=Y at hv ⊢;generalize ((v:Nat):Int)=VI at hv;simp![c9,cU,bN,hv]) []
 rw[iC,oR.mpr (by simp)]at hc;rw[hc];congr 1;simp[ao,c0,tz]
theorem FG{v:Nat}(v1:1<=v){T:List Tx}(hT:∀t∈T,v<=t.length)(s0 s1 s2 s3 s5:Slot):i8 [4] (dB (d2 (Pu.eqT ah) (dV 0) (dL bo aC))) (dL bo (ar (dV 1) (ar (dV 0) aC))) (T.map λt=>PV.tup (ao (a8 (a6 t v)))) [] [s0,s1,s2,s3,.val (.int v),s5]=.ok (T.map λt=>prV (vwK v t)) [s0,s1,s2,s3,.val (.int v),s5]:=by
 have hc:=jl (cap:=[4]) (dt:=(dB (d2 (Pu.eqT ah) (dV 0) (dL bo aC)))) (de:=(dL bo (ar (dV 1) (ar (dV 0) aC)))) (ε:=[s0,s1,s2,s3,.val (.int v),s5]) (λ_=>ah) (λx=>PV.tup [.int v,x]) (T.map λt=>PV.tup (ao (a8 (a6 t v))))
  (by
   intro x hx;obtain⟨t,ht,rfl⟩:=bP.mp hx;have dq:=wins_some v1 (hT t ht);have he:Pu.eqT ah (.tup (ao (a8 (a6 t v)))) (.tup [])=aa (.bl ah):=by have:=DK ah (a8 (a6 t v)) [];rw[decide_eq_false dq]at this;exact this
   have h0:bo []=aa (.tup []):=rfl;have h2:bo [.int v,.tup (ao (a8 (a6 t v)))]=aa (.tup [.int v,.tup (ao (a8 (a6 t v)))]):=rfl;generalize ao (a8 (a6 t v))=Y at he h2;generalize ((v:Nat):Int)=VI at h2;refine⟨?_,λ_=>?_⟩
   ·simp![c9,cU,bN,he]
   ·simp![c9,cU,bN]) []
 rw[iC,oR.mpr (by simp)]at hc;rw[hc];congr 1;rw[c0];rfl
theorem JP(nd:Wh a)(ns:List Int):nO a [bA ns]=.ok (.val (.bl ah)) [bA ns]:=by
 obtain⟨q2,q1,q5⟩:=Nj nd;have c2:jK a (.ref a.NoView)=ah:=by simp[jK,f9]
 have c1:jK a (.ref a.NoWidth)=ah:=by simp[jK,f9]
 have c5:jK a (.ref a.Full)=ah:=by simp[jK,f9]
 obtain⟨sp,p0,p3,hd⟩:=ot (a:=a) ns [] 3 (by decide) (by simp);obtain⟨s,rfl⟩:∃s:Nat,sp=(s:Nat):=⟨sp.toNat,∅⟩
 obtain⟨m,m1,m9,M,hM,ut⟩:∃m:Nat,1<=m/\m<=9/\∃M:Int,((m:Nat):Int)=M/\(if decide ((0:Int)<(s:Nat))=ah then(9:Int)else 7)=M:=by
  by_cases q:(0:Int)<(s:Nat)
  ·exact⟨9,∅,∅,9,rfl,if_pos (decide_eq_true q)⟩
  ·exact⟨7,∅,∅,7,rfl,if_neg (by rw[decide_eq_false q];decide)⟩
 obtain⟨w,ls,ys,w1,w4,_,g,hs,_,_,hys,hv⟩:=Kd (a:=a) ns ([]++[.int 0]) s m ∅ m1 m9 (by simp);have rD:rH a [bA ns,.own (.lst ([]++[.int 0])),.val (.int s),.val (.int m)]=.ok (.val (bi w ls)) [bA ns,.own (.lst ys),.val (.int s),.val (.int m)]:=hv;rw[iC]at rD hd;rw[hM]at rD;obtain⟨x,hx,y1,hy1,hodd⟩:=FI (a:=a) ns ys (by simp at hys;lia);have Ft:=zw c2 q2 (F7 (a:=a) (M4 x hx));have hrn:Pu.eqT ah (rf 2) (.tup [.str [114,101,102,117,115,101,100],.int 2])=aa (.bl aj):=rfl;obtain⟨i0,i1,il⟩:=vw_facts w ls;have ho:fA (.int w) (.int 1)=aa (.int ((w-1:Nat):Int)):=by show aa (PV.int ((w:Int)-1))=_;congr 2;lia
 have hgt:eP (λi j=>decide (j<i)) (.int s) (.int 0)=aa (.bl (decide ((0:Int)<(s:Nat)))):=rfl;have st:∀{r:R aS},((bb (dA (dB (d2 (Pu.eqT aj) (dV 4) (dC (.int 0)))) (cy (d2 (Pu.eqT aj) (bh (aY (ja a) (gV (dV 3) (Pu.bB)))) (dL bo (ar (dC (.str [114,101,102,117,115,101,100])) (ar (dC (.int 1)) (aC)))))) (eu)) (bb (dA (dB (d2 (Pu.eqT aj) (dL bE (ar (d2 cn (dV 3) (dC (.int 1))) (aC))) (dC (.int 9)))) (cy (d2 (Pu.eqT aj) (bh (aY (ja a) (gV (dV 3) (Pu.bB)))) (dL bo (ar (dC (.str [114,101,102,117,115,101,100])) (ar (dC (.int 5)) (aC)))))) (eu)) (bb (cN 5 (dF (cB [4] (cg (bh (aY (rX a) (gV (dV 3) (Pu.bB))))) (dI) (bh (aY (jm a) (gV (dV 0) (gV (dV 1) (Pu.bB)))))))) (cy (d2 (Pu.eqT aj) (bh (aY (ja a) (gV (dV 3) (Pu.bB)))) (dF (dL sortSetVP (ar (dF (cB [4] (cg (dV 5)) (dB (d2 (Pu.eqT ah) (dV 0) (dL bo (aC)))) (dL bo (ar (dV 1) (ar (dV 0) (aC)))))) (aC))))))))) [bA ns,.own (.lst y1),.val (.int s),.val (bi w ls),.val (.int ((w-1:Nat):Int)),.none]=r)->yaz a [bA ns,.none,.none,.none,.none,.none]=r:=by
  intro r hr;unfold yaz;refine(jN (ε1:=[bA ns,.own (.lst []),.none,.none,.none,.none]) (by simp![])).trans ?_;refine(jN (ε1:=[bA ns,.own (.lst [.int 0]),.val (.int s),.none,.none,.none]) (by simp![hd])).trans ?_;refine(jN (ε1:=[bA ns,.own (.lst ys),.val (.int s),.val (bi w ls),.none,.none]) ?_).trans ?_
  ·generalize bi w ls=V at rD;generalize ((s:Nat):Int)=SP at rD ut;by_cases q:(0:Int)<SP
   ·simp only[q,decide_true,if_true]at ut;subst ut;simp![q,rD]
   ·simp only[q,decide_false,eB,if_false]at ut;subst ut;simp![q,rD]
  refine(jN (ε1:=[bA ns,.own (.lst ys),.val (.int s),.val (bi w ls),.val (.int ((w-1:Nat):Int)),.none]) ?_).trans ?_
  ·generalize ((w-1:Nat):Int)=VI at ho;generalize ((w:Nat):Int)=WI at ho i0;generalize bi w ls=V at i0;simp![i0,ho]
  refine(jN (ε1:=[bA ns,.own (.lst y1),.val (.int s),.val (bi w ls),.val (.int ((w-1:Nat):Int)),.none]) ?_).trans hr;generalize rf 2=Rf at Ft hrn;simp![hodd,Ft,hrn]
 by_cases h1:w=1
 ·have ha:=zw c1 q1 (FO (a:=a) g w1 w4 hs h1);have he:Pu.eqT aj (.int ((w-1:Nat):Int)) (.int 0)=aa (.bl ah):=eq_yes (k:=0) ∅;have fq:Pu.eqT aj (rf 1) (.tup [.str [114,101,102,117,115,101,100],.int 1])=aa (.bl ah):=rfl;have hb:=st (r:=.ok (.ret (.val (.bl ah))) [bA ns,.own (.lst y1),.val (.int s),.val (bi w ls),.val (.int ((w-1:Nat):Int)),.none]) (by generalize ((w-1:Nat):Int)=VI at he;generalize bi w ls=V at ha;generalize rf 1=Rf at ha fq;simp![he,ha,fq]);simp[nO,bD,eX,bC,bS,hb,back,fZ,bg,R.bind]
 have he:Pu.eqT aj (.int ((w-1:Nat):Int)) (.int 0)=aa (.bl aj):=eq_no (k:=0) ∅;by_cases h9:ls.length=9
 ·have ha:=zw c5 q5 (Go (a:=a) g w1 w4 hs h1 h9);have kt:Pu.eqT aj (.int (ls.length:Nat)) (.int 9)=aa (.bl ah):=eq_yes (k:=9) h9;have fq:Pu.eqT aj (rf 5) (.tup [.str [114,101,102,117,115,101,100],.int 5])=aa (.bl ah):=rfl;have hb:=st (r:=.ok (.ret (.val (.bl ah))) [bA ns,.own (.lst y1),.val (.int s),.val (bi w ls),.val (.int ((w-1:Nat):Int)),.none]) (by generalize ((w-1:Nat):Int)=VI at he;generalize ((ls.length:Nat):Int)=LI at il kt;generalize ao ls=LP at i1 il;generalize bi w ls=V at ha i1;generalize rf 5=Rf at ha fq;simp![he,i1,il,kt,ha,fq]);simp[nO,bD,eX,bC,bS,hb,back,fZ,bg,R.bind]
 ·have h9':=g.few;have h0':=g.some;have ha:=Lj (NI (a:=a) g w1 w4 hs h1 h9);have kt:Pu.eqT aj (.int (ls.length:Nat)) (.int 9)=aa (.bl aj):=eq_no (k:=9) h9;have fh:=KS (a:=a) g w1 w4 hs;have wZ:∀t∈bK w ls,w-1<=t.length:=long g w1 ∅;have o9:=sortV_eq (w:=w-1) (T:=bK w ls) ∅ wZ (few g w1);have h60:∀t∈bK w ls,t.length<=60:=λt ht=>by have:=(uA w1 g.some (λx hx=>⟨g.len x hx,g.abc x hx⟩) ht).1;lia
  have rE:=MY (a:=a) (v:=w-1) h60 (bA ns) (.own (.lst y1)) (.val (.int s)) (.val (bi w ls)) .none;have rF:=FG (v:=w-1) ∅ wZ (bA ns) (.own (.lst y1)) (.val (.int s)) (.val (bi w ls)) (.val (.lst ((bK w ls).map λt=>PV.tup (ao (a8 (a6 t (w-1)))))));have rB:=eqT_vwL (w-1) (bK w ls);have ei:iu (.lst (ao (bK w ls)))=aa (ao (bK w ls)):=rfl;have ei2:iu (.lst ((bK w ls).map λt=>PV.tup (ao (a8 (a6 t (w-1))))))=aa ((bK w ls).map λt=>PV.tup (ao (a8 (a6 t (w-1))))):=rfl;unfold vwL at ha rB;have hb:=st (r:=.ok (.ret (.val (.bl ah))) [bA ns,.own (.lst y1),.val (.int s),.val (bi w ls),.val (.int ((w-1:Nat):Int)),.val (.lst ((bK w ls).map λt=>PV.tup (ao (a8 (a6 t (w-1))))))]) (by
   generalize (sortK (uniqK ((bK w ls).map (vwK (w-1))))).map prV=RV at o9 ha rB;generalize ((bK w ls).map λt=>prV (vwK (w-1) t))=VV at rF o9;generalize ((bK w ls).map λt=>PV.tup (ao (a8 (a6 t (w-1)))))=RW at rE rF ei2 ⊢;generalize ((w-1:Nat):Int)=VI at he rE rF ⊢;generalize ((ls.length:Nat):Int)=LI at il kt;generalize ao ls=LP at i1 il;generalize ao (bK w ls)=TP at fh rE ei;generalize bi w ls=V at ha i1 fh rE rF ⊢;generalize ((s:Nat):Int)=SP at rE rF ⊢;refine(jN (ε1:=[bA ns,.own (.lst y1),.val (.int SP),.val V,.val (.int VI),.none]) (by simp![he])).trans ?_;refine(jN (ε1:=[bA ns,.own (.lst y1),.val (.int SP),.val V,.val (.int VI),.none]) (by simp![i1,il,kt])).trans ?_;refine(jN (ε1:=[bA ns,.own (.lst y1),.val (.int SP),.val V,.val (.int VI),.val (.lst RW)]) (by simp![fh,cB,cg,ei,rE])).trans ?_;have hA:(bh (aY (ja a) (gV (dV 3) (Pu.bB)))) [bA ns,.own (.lst y1),.val (.int SP),.val V,.val (.int VI),.val (.lst RW)]=.ok (.lst RV) [bA ns,.own (.lst y1),.val (.int SP),.val V,.val (.int VI),.val (.lst RW)]:=by simp![ha]
   have hI:cg (dV 5) [bA ns,.own (.lst y1),.val (.int SP),.val V,.val (.int VI),.val (.lst RW)]=.ok RW [bA ns,.own (.lst y1),.val (.int SP),.val V,.val (.int VI),.val (.lst RW)]:=by simp![cg,ei2]
   have hC:(dF (cB [4] (cg (dV 5)) (dB (d2 (Pu.eqT ah) (dV 0) (dL bo (aC)))) (dL bo (ar (dV 1) (ar (dV 0) (aC)))))) [bA ns,.own (.lst y1),.val (.int SP),.val V,.val (.int VI),.val (.lst RW)]=.ok (.lst VV) [bA ns,.own (.lst y1),.val (.int SP),.val V,.val (.int VI),.val (.lst RW)]:=by unfold dF cB;rw[hI];simp only[R.bind];rw[rF];rfl
   have hS:(dF (dL sortSetVP (ar (dF (cB [4] (cg (dV 5)) (dB (d2 (Pu.eqT ah) (dV 0) (dL bo (aC)))) (dL bo (ar (dV 1) (ar (dV 0) (aC)))))) (aC)))) [bA ns,.own (.lst y1),.val (.int SP),.val V,.val (.int VI),.val (.lst RW)]=.ok (.lst RV) [bA ns,.own (.lst y1),.val (.int SP),.val V,.val (.int VI),.val (.lst RW)]:=by have h1:=LD (Jl hC HA) o9;show((dL sortSetVP _) _).bind _=_;rw[h1];rfl
   have hD:=Kg (f:=Pu.eqT aj) hA hS rB;unfold cy;rw[hD];rfl)
  simp[nO,bD,eX,bC,bS,hb,back,fZ,bg,R.bind]
end
open L2 Pu Sh
def sE(K:ax)(a:Ad):Bool:=ni K a.SlitError si "ValueError.__new__" && (f9 a).all (λx=>ni K x si "ValueError.__new__" && subB K a.SlitError x&&vh K x&&(f9 a).all (λd=>d4 K (.ref x) (.ref d) == aa (x == d))&&d4 K (.ref x) (.type "ValueError") == aa ah)&&xg K&&decide (f9 a).Nodup
section
variable{K:ax}{h base:aA}{mg:Str->Option ai}{a:Ad}
theorem rT(h:sE K a=ah):ni K a.SlitError si "ValueError.__new__" = ah/\(∀x∈f9 a,ni K x si "ValueError.__new__" = ah/\subB K a.SlitError x=ah/\vh K x=ah/\(∀d∈f9 a,d4 K (.ref x) (.ref d)=aa (x == d))/\d4 K (.ref x) (.type "ValueError")=aa ah)/\xg K=ah/\(f9 a).Nodup:=by unfold sE at h;simp only[fD,lf,beq_iff_eq,decide_eq_true_eq]at h;obtain⟨⟨⟨h1,h2⟩,h3⟩,h4⟩:=h;exact⟨h1,λx hx=>⟨(h2 x hx).1.1.1.1,(h2 x hx).1.1.1.2,(h2 x hx).1.1.2,(h2 x hx).1.2,(h2 x hx).2⟩,h3,h4⟩
theorem KA(h:sE K a=ah):xS K (ip a):=by
 obtain⟨_,h2,_,_⟩:=rT h;intro c D b e;unfold ip at e;split at e
 ·rename_i x d;split at e
  ·rename_i hc;rw[fD]at hc;cases e;have hx:x∈f9 a:=by simpa using hc.1
   have hd:d∈f9 a:=by simpa using hc.2
   exact⟨x,.ref d,rfl,BI (h2 x hx).2.2.1,rfl,(h2 x hx).2.2.2.1 d hd⟩
  ·cases e
 ·rename_i x T;split at e
  ·rename_i hc;rw[fD]at hc;cases e;have hx:x∈f9 a:=by simpa using hc.1
   have hT:T = "ValueError":=by simpa using hc.2
   subst hT;exact⟨x,.type "ValueError",rfl,BI (h2 x hx).2.2.1,rfl,(h2 x hx).2.2.2.2⟩
  ·cases e
 ·cases e
theorem Ld(X:K.In base)(h:sE K a=ah):∀c,jK a c=ah->Under base a.SlitError c:=by
 obtain⟨_,h2,_,_⟩:=rT h;intro c e;unfold jK at e;split at e
 ·rename_i x;have hx:x∈f9 a:=by simpa using e
  exact HQ X (h2 x hx).1 (h2 x hx).2.1
 ·cases e
structure Top(K:ax)(a:Ad):Prop where
 yaC:cK K "_law_cell_at" xr
 yaE:cK K "_law_mixed" xj
 yaD:cK K "_law_draw" ym
 yaH:cK K "_law_seen" uB
 yaG:cK K "_law_pick" zi
 yaI:cK K "_law_text" x_
 yaK:cK K "_law_view" xG
 yaw:cK K "is_whole_number" xN
 yax:cK K "is_width" zv
 yas:cK K "has_only" uW
 yay:cK K "is_window" yY
 yan:cK K "are_windows" uZ
 yav:cK K "is_view_with" yR
 yau:cK K "is_view" yz
 yap:cK K "check_view" zy
 yat:cK K "is_text_up_to" y9
 yao:cK K "check_text" zp
 yaq:cK K "check_width" zC
 yaQ:cK K "view_of" xI
 yaN:cK K "pieces" u9
 yaO:cK K "text_view" xK
 yam:cK K "add_endings" xV
 yar:cK K "counted" xC
 yaP:cK K "texts" wd
 yaM:cK K "narrower" uK
 yaL:cK K "_law_which" xX
 yaB:cK K "_law_ask" xL
 yaF:cK K "_law_odd" zt
 yaJ:cK K "_law_under" v9
 yaA:cK K "_law_all" rN
 yaz:cK K "law" o_
 yaR:cF K bR "ValueError" = aa ae
 yaS:cF K bR "all" = aa ae
 yaT:cF K bR "any" = aa ae
 yaU:cF K bR "bool" = aa ae
 yaV:cF K bR "int" = aa ae
 yaW:cF K bR "isinstance" = aa ae
 yaX:cF K bR "len" = aa ae
 yaY:cF K bR "list" = aa ae
 yaZ:cF K bR "range" = aa ae
 ya0:cF K bR "set" = aa ae
 ya1:cF K bR "sorted" = aa ae
 ya2:cF K bR "str" = aa ae
 ya3:cF K bR "tuple" = aa ae
 ya8:∃t,cF K bR "LETTERS" = aa (aa (.str (tS [97,98,99]) t))
 ya9:∃t,cF K bR "MOST_LETTERS" = aa (aa (.int 12 t))
 yba:∃t,cF K bR "MOST_WINDOWS" = aa (aa (.int 9 t))
 ybb:∃t,cF K bR "WIDEST" = aa (aa (.int 4 t))
 yak:cF K bR "SlitError" = aa (aa (.ref a.SlitError))
 yaf:cF K bR "NoText" = aa (aa (.ref a.NoText))
 yah:cF K bR "NoWidth" = aa (aa (.ref a.NoWidth))
 yag:cF K bR "NoView" = aa (aa (.ref a.NoView))
 yai:cF K bR "NoWindow" = aa (aa (.ref a.NoWindow))
 yac:cF K bR "Never" = aa (aa (.ref a.Never))
 yab:cF K bR "Full" = aa (aa (.ref a.Full))
 yaj:cF K bR "Nothing" = aa (aa (.ref a.Nothing))
 yal:cF K bR "Unlike" = aa (aa (.ref a.Unlike))
 yae:cF K bR "NoPlace" = aa (aa (.ref a.NoPlace))
 yad:cF K bR "NoLetters" = aa (aa (.ref a.NoLetters))
 yaa:cF K bR "BadText" = aa (aa (.ref a.BadText))
 ck:sE K a=ah
 z0:oz K "road" = ae
 wh:Wh a
theorem HX(T:Top K a)(X:K.In base)(G:base.Ns bR mg):cP K mg base a:=by
 have C:=(rT T.ck).2.1;have E1:=Mg X (rT T.ck).1;have U1:=Ld X T.ck;have T1:=KA T.ck;cases T;constructor
 all_goals first|assumption|exact cK.at (by assumption) X G|exact PySem.W.mg_none_of X G (by assumption)|exact wM X G (by assumption)|exact Hi X (wM X G (by assumption)) (C _ (by simp[f9])).1|exact Exists.imp (λ_ e=>wM X G e) (by assumption)
theorem Ji{l:zS}{w:aF}{fa:af}(X:K.In h)(G:h.Ns bR mg)(hfa:mg "law" = aa (.ref fa))(T:Top K a):∃fd:gc,(∀(s:am) (v:ai),BindsTo s fd ⟨[v],[]⟩ [("_law_script",v)])/\∀base:aA,K.In base->base.Ns bR mg->jQ l.prog w K mg base (cf l.prog w) 17 fa fd ["_law_script"] (bF K (nO a)):=by
 obtain⟨f,oc,od,kV,dc,pm,an,cd,ct,sl,e1,e2,e3,e4⟩:=T.yaz;have e:=hfa.symm.trans (wM X G e1);cases e;exact⟨_,λs v=>.of_eq rfl,λbase XB GB=>JW (HX T XB GB) (Dv e2 e3 e4)⟩
theorem IG{l:zS}{q:aM}{loose:List Str}{XP:(Str->Option ai)->aA->Prop}{YP:aF->aA->Prop}{d:DefRec}{K:Params->ax}(hn:l.most=aa 63)(oW:d.params.defaults=[])(hnm:d.name = "law")(hY:∀(w:aF) (h:aA),YP w h->(K w.params).In h) {a:Ad} (T:∀w:aF,Top (K w.params) a):PySem.W.WalkO q loose XP YP l.row.toRowW d [] (λf vs=>PySem.call f vs) :=
 L2.Ox (n:=63) (k:=17) (x:="_law_script") (K:=K) (CX:=λw=>cf l.prog w) (sp:=λw=>bF (K w.params) (nO a)) hn (by decide) oW ⟨rfl,by decide,by decide⟩ (λw h Y=>⟨hY w h Y,λc P e=>by rw[(T w).z0]at e;cases e⟩)
  (λw mg fa h KX G tU=>Ji KX G (by rw[←hnm];exact tU) (T w))
  (λw H b ns hl _ hS=>MC (LW (rT (T w).ck).2.2.1 hS) (JP (T w).wh ns))
  (λw H s e s' z=>by obtain⟨_,_,_,_,_,_,_,_,_,_,_,f⟩:=z;exact f)
theorem Ou{l:zS}{q:aM}{loose:List Str}{XP:(Str->Option ai)->aA->Prop}{YP:aF->aA->Prop}{d:DefRec}{K:Params->ax}{yak yaf yah yag yai yac yab yaj yal yae yad yaa:af}(hn:l.most=aa 63)(oW:d.params.defaults=[])(hnm:d.name = "law")(hY:∀(w:aF) (h:aA),YP w h->(K w.params).In h) (T:∀w:aF,Top (K w.params) ⟨yak,yaf,yah,yag,yai,yac,yab,yaj,yal,yae,yad,yaa,0,0⟩):PySem.W.WalkO q loose XP YP l.row.toRowW d [] (λf vs=>PySem.call f vs):=IG hn oW hnm hY T
end
end K22
def PySem.W.Fast.tw995782158971534743:Nat:=0
def PySem.W.Fast.tw8392861917374622712:Nat:=0
def PySem.W.Fast.tw5974084992052303018:Nat:=0
def PySem.W.Fast.tw5888296738440598775:Nat:=0
def PySem.W.Fast.tw16497792600287684061:Nat:=0
def PySem.W.Fast.tw2484642102891456839:Nat:=0
def PySem.W.Fast.tw16929919890746973372:Nat:=0
def PySem.W.Fast.tw15044153163070164938:Nat:=0
def PySem.W.Fast.tw10810697310209877469:Nat:=0
def PySem.W.Fast.tw3494162402438757736:Nat:=0
def PySem.W.Fast.tw13270965436333434860:Nat:=0
def PySem.W.Fast.tw9762174673961663698:Nat:=0
def PySem.W.Fast.tw12959908083550454915:Nat:=0
def PySem.W.Fast.tw10409685038908906658:Nat:=0
def PySem.W.Fast.tw8357741243746028109:Nat:=0
def PySem.W.Fast.tw17744871772757878303:Nat:=0
def PySem.W.Fast.tw7666829605751551830:Nat:=0
def PySem.W.Fast.tw2147561803450006278:Nat:=0
def PySem.W.Fast.tw14915219762641042989:Nat:=0
def PySem.W.Fast.tw17977089448032738420:Nat:=0
def PySem.W.Fast.tw13818014572971518138:Nat:=0
def PySem.W.Fast.tw6669382310163374528:Nat:=0
def PySem.W.Fast.tw16223837028646468837:Nat:=0
def PySem.W.Fast.tw14803856294503224772:Nat:=0
def PySem.W.Fast.tw3145444279383083767:Nat:=0
def PySem.W.Fast.tw15156937176810491157:Nat:=0
def PySem.W.Fast.tw2802742608804968683:Nat:=0
def PySem.W.Fast.tw1133255092003536203:Nat:=0
def PySem.W.Fast.tw2046528590011692672:Nat:=0
def PySem.W.Fast.tw15558114829752276641:Nat:=0
def PySem.W.Fast.tw13555030897364035935:Nat:=0
def PySem.W.Fast.tw1334284562891681842:Nat:=0
def PySem.W.Fast.tw2413977367429438575:Nat:=0
def PySem.W.Fast.tw10287872602405516799:Nat:=0
def PySem.W.Fast.tw4195293415484153863:Nat:=0
def PySem.W.Fast.tw5305211401755758966:Nat:=0
def PySem.W.Fast.tw3185445599344821842:Nat:=0
def PySem.W.Fast.tw14016983070414914108:Nat:=0
def PySem.W.Fast.tw9830157948949772626:Nat:=0
def PySem.W.Fast.tw16689449878092360462:Nat:=0
def PySem.W.Fast.tw8595685851943563280:Nat:=0
def PySem.W.Fast.tw5540953122280855259:Nat:=0
def PySem.W.Fast.tw15144267487963248116:Nat:=0
def PySem.W.Fast.tw6754816633058723376:Nat:=0
def PySem.W.Fast.tw14979280653891867127:Nat:=0
def PySem.W.Fast.tw2391493377194607713:Nat:=0
def PySem.W.Fast.tw5987430981443379832:Nat:=0
def PySem.W.Fast.tw12917132397226749759:Nat:=0
def PySem.W.Fast.tw12557552964125112120:Nat:=0
def PySem.W.Fast.tw6085095146485632011:Nat:=0
def PySem.W.Fast.tw15542647455188131514:Nat:=0
def PySem.W.Fast.tw5357829512317815386:Nat:=0
def PySem.W.Fast.tw10968813128350687801:Nat:=0
def PySem.W.Fast.tw18125713958997901553:Nat:=0
def PySem.W.Fast.tw1586073604141575829:Nat:=0
def PySem.W.Fast.tw7477023950845884863:Nat:=0
def PySem.W.Fast.tw16428750120426437097:Nat:=0
def PySem.W.Fast.tw11214924432092849092:Nat:=0
def PySem.W.Fast.tw14694000939839392545:Nat:=0
def PySem.W.Fast.tw7331627028859759717:Nat:=0
open PySem PySem.W PyProof.Rows
set_option maxRecDepth 100000 in
set_option maxHeartbeats 0 in
theorem PySem.Challenge.cw_slitview_k22_whole_narrower_holds : PySem.Challenge.rw_slitview_k22_whole_narrower.Holds := by
 w_on; o_law; k_head; (case hw=>w_witness2)
 k_fill
 refine' K22.Ou (l:=PySem.Challenge.rw_slitview_k22_whole_narrower) rfl rfl rfl (fun w h Y=>PySem.W.kIn_of Y) ?T
 case T =>
  intro w
  constructor
  iterate 31 (case _=>refine' Pu.N_ ?qa ?ql ?qc ?qk; (case qa=>k_is); (case ql=>k_is); (case qc=>k_is); (case qk=>k_is))
  iterate 13 (case _=>k_is)
  (case _=>refine' Pu.On ?e; (case e=>k_is))
  iterate 3 (case _=>refine' Pu.Os ?e; (case e=>k_is))
  iterate 12 (case _=>k_is)
  (case ck=>kernel_rfl)
  (case z0=>kernel_rfl)
  (case wh=>refine K22.Ot ?_; kernel_rfl)
