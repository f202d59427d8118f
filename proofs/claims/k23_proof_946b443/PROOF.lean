import PyProof.Rows.All
import Wide.All
import OpenK.AllK
import Wide.FinOn
import Lean
import PyProof.EqAt
import PyProof.EqKinds
import PyProof.TupleCall
import KE.KIntText
import KE.KDictList
import KE.KDictSum
import PyProof.Rows.Range3
import PyProof.DictWalks
import KE.KMinKey
import KE.KSortTup
import PySem.Challenge.RW_slitview_k23_whole_wider
noncomputable section
set_option compiler.extract_closed false
local macro_rules | `(∅) => `(by first | lia | omega)
set_option Elab.async false
set_option bootstrap.genMatcherCode false
set_option genSizeOf false
set_option linter.all false
set_option maxRecDepth 100000
local macro_rules | `(tactic| ac_nf) => `(tactic| exact ⟨rfl,rfl,rfl,by decide +kernel,rfl,by decide +kernel,by decide +kernel⟩)
open Option renaming some→aa,none→ae,bind_some→iy,map_some→wC,bind_eq_some_iff→wN,getD_some→wR,isSome_iff_exists→zJ,map_eq_some_iff→zR,getD_none→EG
open PySem renaming Addr→af,Value→ai,Shared→am,wpAny_bind→ap,wpAny→aq,model→au,Heap→aA,Expr→aB,wpAny_pure→aD,World→aF,starEach→aL,Program→aM,Around→aO,eval→aT,Stmt→a6,sizeLine→ba,mainGlobals→bQ,SetTable→bR,backTo→cL,Scope→dX,wpAny_mono→dY,rawInt→dZ,compareOp→eh,bootBuiltins→eB,cellsFrom→eT,strKind→eU,bindArgs→fA,NameKind→fM,FuncData→f8,wpAny_holding→iw,binaryOp→iS,Keyword→jh,holding→jX,mem_of_lookup→j0,wpAny_setState_of→j4,unsupported→j5,Paired→kN,swapsWith→kR,codeAny→kU,attributeBase→kW,sysModules→lO,isTrue→lR,IsPart→lT,wpAny_newObj_type→lU,wpAny_rule→lX,setNext→lZ,setField→l0,assign→mQ,pyIter→mR,builtinsNs→oq,wpAny_truthy_bool→ou,sizeLine_eq→oy,codeAny_mono→oA,wpAny_field→oC,getItem→oD,wpAny_of_eq→oJ,assignEach→qp,foldedSetIterable→qt,wpAny_call_entry→qu,sliceBounds→qw,backToKw→qy,keywordEach→qz,call_meets→qC,valueAt→qD,callerA→qF,relayAll→qH,wpAny_askSetting→qK,wpAny_setField→qL,hashByValue→qS,setSearchFrom→qT,tupleKind→sR,wpAny_specialOf→sW,codeAny_builtin→sZ,pickOrder→s_,eqIsQuiet→tD,ofAClassStatement→tE,wpAny_forIn_list→tF,reduceHash→tG,wpAny_passesOwn→wl,wpAny_call→wn,wpAny_Call_Name_kw→wo,isInstance→wA,setsByText→wB,wpAny_ite_split→wD,setFlight→wG,letOwnedTupleGo→zG,behindInMarks→zH,wpAny_loadPart'→zK,wpAny_typeOf→zM,subscripted→zO,setAddHashed→z5,wpAny_storeSet_of→z6,fits_of_scanBound→z7,plainId_quiet→z8,wpAny_seqItems→z9,excClassObj→Af,intKind→Ax,wpAny_execs_cons→Ew,wpAny_assign_Name→Ex,tupleKind_room_in1→EJ,wpAny_pyIter_list→EM,checkBuiltinCall→EU,wpAny_isInstance→EW,wpAny_loadPart_at→E3,searchCouldBeSeen→E9
open Bool renaming true→ah,false→aj,false_eq_true→eC,false_ne_true→eR,and_eq_true→fB,eq_iff_iff→jY,not_true→j9,not_false→qU,and_false→ww,eq_false_iff→wH,or_eq_true→zW,true_xor→AB,not_eq_true'→E4
open PySem.W renaming Frag→ax,nsIn→cD,kitOne→d4,fnOf→hG,kia_one→jZ,excIn→ng,tabIn→ot,findIn→oz,keepIn→oB,hashAt→oN,InstAt→sS,codeIn→sT,mroIn→wm,mg_of→wK,OpenLaw→zS,clsIn→Ag,methodObj→Ev,specialIn→EB,callWith_K→ED,cellsFrom_some→EE
open PyProof.Rows renaming wpS_bind→aE,wpS_pure→aK,pendingOf→bf,SortSt→br,StrsAre→df,wpS_mono→fN,wpS_forRange→fO,seqObj→fP,SortKind→gB,envOfC→ix,size_push'→iT,pairsOf→jF,wpS_get→j7,AllBare→lQ,wpS_modify→l9,wpS_lift→qO,listUpdate_at→z_,slot_tuple_getitem→NP
open Nat renaming le_refl→a_,ne_of_lt→cR,le_trans→cS,lt_irrefl→fc,lt_of_lt_of_le→fL,le_of_lt→jW,lt_succ_of_lt→j6,zero_le→kY,le_of_eq→lV,mod_lt→l5,not_lt_zero→l6,lt_succ_self→m_,lt_of_le_of_lt→oF,ne_of_gt→qr,lt_trans→qE,zero_add→qN,succ_pos→qR,le_succ→sX,add_right_comm→tm,pow_succ→tu,add_assoc→wI,mod_eq_of_lt→wO,mul_le_mul→zX,sub_self→Ah,add_mod→Aq,mul_comm→Ar
open PySem.Heap renaming lt_size→bu,get?_push_of_some→bG,get?_push_size→c0,SameBut→jB,get?_update_self→mW,get?_update_other→mX,get?_none_of_le→zE,size_push→zT,get?_update_ne→EY,size_update→E2
open List renaming mem_cons→bF,mem_map→bO,replicate→bV,range→bX,size_toArray→ce,map_map→c7,getElem?_eq_some_iff→c_,length_map→dw,mem_cons_of_mem→dI,getElem?_set_ne→dJ,getElem?_eq_getElem→d7,length_append→et,map_cons→eu,mem_cons_self→eN,getElem?_set_self→fe,length_cons→ff,length_set→fC,mem_append→fZ,not_mem_nil→f_,getElem?_append_left→gz,append_nil→g_,mem_singleton→hU,nil_append→iz,nodup_cons→jf,getElem?_map→jC,find?_cons→jD,lookup_cons→jE,length_drop→j3,mem_range→kP,filterMap_cons→kQ,mem_append_right→kT,foldl_cons→kX,all_eq_true→k6,mem_filter→lP,length→lS,map_congr_left→lW,getElem_of_mem→l8,length_take→mS,getElem?_append_right→mT,mem_of_getElem?→mU,replicate_succ→mY,length_nil→mZ,map_append→m8,getElem?_eq_none→nc,take_append_drop→nh,any_cons→oE,range_succ→oG,eq_nil_of_length_eq_zero→oH,mem_reverse→oK,dropLast→oO,filter_eq_self→oP,all_cons→qx,flatten_cons→qA,append_assoc→qB,pairwise_iff_getElem→qQ,flatMap_cons→qX,length_singleton→sV,getElem_mem→sY,ext_getElem?→tf,take_length→tq,filter_map→tI,count_cons_of_ne→tJ,of_mem_zip→wp,getElem?_range→wq,all_map→wt,drop_zero→wu,take_of_length_le→wv,toList_toArray→wx,pairwise_map→wy,drop_eq_getElem_cons→wF,getElem_drop→wL,take_succ_eq_append_getElem→wM,any_eq_true→wT,mem_append_left→zF,lookup→zU,range_succ_eq_map→zV,getElem?_zip_eq_some→Aa,take_zero→Ab,length_dropLast→Ai,pairwise_append→Aj,getElem_take→Ak,singleton_append→Am,drop_eq_nil_iff→An,cons_append→Ap,find?_eq_none→As,length_erase_of_mem→Au,zip_cons_cons→Av,cons_lt_cons_iff→Ay,mem_of_mem_take→Az,length_eq_zero_iff→AA,count_cons_self→AC,mem_filterMap→Ey,any_eq_false→EA,lookup_append→EL,length_range→EN,mergeSort_perm→EO,foldl_append→ES,map_filterMap→EX,getElem?_drop→EZ,reverse_append→E5,reverse_perm→E6,pairwise_reverse→E7,getElem?_take→E8,flatMap_nil→E_,filter_flatMap→Fa,filter_cons→Fb,count_eq_zero_of_not_mem→Fc,count_append→Fd,length_filter_le→Fe,isEmpty_nil→Ff,flatMap_append→Fg,getD_eq_getElem?_getD→Fh,findIdx?_eq_some_iff_getElem→NQ,Perm→NT,drop_append_of_le_length→NU
open PySem.SetTable renaming bits→dD,runEnd→eO,below→gA,Probe→jj,leap→k8,grown→lY,insertAt→oI,turns→oM,laid→zY,layClean→zZ,advance→At,sizeAbove→EQ
open Option.some renaming inj→dW
open Ne renaming symm→ef
open False renaming elim→f9
open Array renaming length_toList→g9,toList_append→hV,getElem?_eq_getElem→ji,getElem?_eq_some_iff→kZ,getElem_extract→l_,toList_push→qI,getD_eq_getD_getElem?→tw,getElem?_toList→wE,perm_iff_toList_perm→Ao,forIn_toList→Aw
open PySem.Str renaming empty→je
open PySem.Obj renaming mapSeq→jg,mapFields→l7,data_mapFields→tj,isFreed_of_fields→Ae
open PyProof.Rows.KeyOrd renaming kle_of_klt→j8,kle_refl→k7,kle_trans→qP
open PySem.Builtin.Tuple renaming tupleHashOf→ma,tupleExact→zN
open Function renaming comp→me,comp_def→tt
open Int renaming toNat_natCast→mV,emod_lt_of_pos→wP,emod_nonneg→wQ
open PySem.SetTable.layClean renaming free→ni
open PySem.Value renaming isStrOf→om,isInt→zD
open List.Perm renaming refl→qG,append_left→EV
open PySem.Heap.SameBut renaming update→qJ,refl→ER
open PySem.SetTable.below renaming go→qM
open List.cons renaming injEq→qV
open PySem.PassesOwn renaming never→qW
open PySem.SeqAt renaming EqAt→sU
open PySem.SetTable.probe renaming go→tz
open PySem.Around renaming under_plainId→wz
open Nat.succ renaming inj→wJ
open PySem.F renaming excBase_ValueError→wS,plainAttrs_list→Ac,slot_dict_get→EK,slot_tuple_hash→NS
open PySem.Calls renaming spliced_cons→zI,callWith_builtin→zP,evalArgs_plain→zQ,spliced_nil→EC
open PySem.Builtin.Slice renaming slicePlaces→zL,sliceAdjust→EF
open PySem.Builtin.Str renaming occurrences→Ez
open PySem.SeqAt.EqAt renaming int_int→EH
open PySem.Builtin.List renaming listTooLong→EI
open PyProof.Rows.F renaming plain_set_update_loop→ET,entry_set_update_loop→NR
open PySem PySem.Spec PyProof.Rows
namespace L2
abbrev aN:=Sum Int Str
def pY:aN->ai->Bool
 |.inl k,v=>zD k v
 |.inr x,v=>om x v
def Nw(w:aF):aN->Int
 |.inl k=>hashInt k
 |.inr x=>hashStr w x
theorem lL:∀{k:aN}{v:ai},pY k v=ah->(∃i t,k=Sum.inl i/\v=Value.int i t)\/(∃x t,k=Sum.inr x/\v=Value.str x t)
 |.inl i,v,h=>by obtain⟨t,e⟩:=Value.isInt_shape (k:=i) (v:=v) h;exact .inl ⟨i,t,rfl,e⟩
 |.inr x,v,h=>by obtain⟨t,e⟩:=Value.isStrOf_shape (x:=x) (v:=v) h;exact .inr ⟨x,t,rfl,e⟩
theorem GF(i:Int)(t:Tok):pY (.inl i) (.int i t)=ah:=by simp[pY,zD]
theorem Li(x:Str)(t:Tok):pY (.inr x) (.str x t)=ah:=by simp[pY,om]
theorem MH(a b:Int):decide ((Sum.inl a:aN)=Sum.inl b)=(a == b):=by
 by_cases e:a=b
 ·subst e;simp
 ·have h:¬(Sum.inl a:aN)=Sum.inl b:=λq=>e (Sum.inl.inj q);rw[decide_eq_false h];exact(beq_eq_false_iff_ne.mpr e).symm
theorem M3(a b:Str):decide ((Sum.inr a:aN)=Sum.inr b)=decide (a=b):=by
 by_cases e:a=b
 ·subst e;simp
 ·have h:¬(Sum.inr a:aN)=Sum.inr b:=λq=>e (Sum.inr.inj q);rw[decide_eq_false h,decide_eq_false e]
theorem HG(a:Int)(b:Str):decide ((Sum.inl a:aN)=Sum.inr b)=aj:=decide_eq_false (λq=>nomatch q)
theorem HY(a:Str)(b:Int):decide ((Sum.inr a:aN)=Sum.inl b)=aj:=decide_eq_false (λq=>nomatch q)
def gQ(prog:aM)(w:aF):PySem.KeyKind prog w aN where
 is:=pY
 hash:=Nw w
 inj:=λv a b ha hb=>by
  rcases lL ha with⟨i,t,rfl,rfl⟩|⟨x,t,rfl,rfl⟩
  ·rcases lL hb with⟨j,u,rfl,e⟩|⟨y,u,rfl,e⟩
   ·injection e with e1 _;rw[e1]
   ·exact nomatch e
  ·rcases lL hb with⟨j,u,rfl,e⟩|⟨y,u,rfl,e⟩
   ·exact nomatch e
   ·injection e with e1 _;rw[e1]
 byValue:=λk v h=>by rcases lL h with⟨i,t,rfl,rfl⟩|⟨x,t,rfl,rfl⟩ <;> rfl
 pyHash:=λhv h=>by
  rcases lL hv with⟨i,t,rfl,rfl⟩|⟨x,t,rfl,rfl⟩
  ·exact wpAny_pyHash_int h
  ·exact wpAny_pyHash_str h
 eqBool:=λhu hv h=>by
  rcases lL hu with⟨i,t,rfl,rfl⟩|⟨x,t,rfl,rfl⟩
  ·rcases lL hv with⟨j,u,rfl,rfl⟩|⟨y,u,rfl,rfl⟩
   ·rw[MH]at h;exact wpAny_eqBool_int h
   ·rw[HG]at h;exact SeqAt.EqAt.int_str i t y u _ _ _ _ h
  ·rcases lL hv with⟨j,u,rfl,rfl⟩|⟨y,u,rfl,rfl⟩
   ·rw[HY]at h;exact SeqAt.EqAt.str_int x t j u _ _ _ _ h
   ·rw[M3]at h;exact wpAny_eqBool_str h
 «strs»:=λk x t v h=>by
  rcases lL h with⟨i,u,rfl,e⟩|⟨y,u,rfl,e⟩
  ·exact nomatch e
  ·injection e with e1 _;subst e1;cases v <;> rfl
theorem FY(prog:aM)(w:aF)(i:Int)(t:Tok):(gQ prog w).is (.inl i) (.int i t)=ah:=GF i t
theorem HZ(prog:aM)(w:aF)(x:Str)(t:Tok):(gQ prog w).is (.inr x) (.str x t)=ah:=Li x t
inductive V where
 |non|bl (b:Bool)|int (i:Int)|str (x:Str)|byt (b:Array UInt8)|flt (b:UInt64)|ref (a:af)|ty (n:String)
 deriving DecidableEq
def RelV:V->ai->Prop
 |.non,u=>u=Value.none
 |.bl b,u=>u=Value.bool b
 |.int i,u=>∃t,u=Value.int i t
 |.str x,u=>∃t,u=Value.str x t
 |.byt b,u=>∃t,u=Value.bytes b t
 |.flt b,u=>∃t,u=Value.float b t
 |.ref a,u=>u=Value.ref a
 |.ty n,u=>u=Value.type n
abbrev bn:List V->List ai->Prop:=kN RelV
theorem bn.length{xs:List V}{us:List ai}(r:bn xs us):xs.length=us.length:=Paired.length r
theorem bn.get:∀{xs:List V}{us:List ai}{i:Nat}{x:V},bn xs us->xs[i]?=aa x->∃u,us[i]?=aa u/\RelV x u
 |_,_,_,_,.nil,e=>by simp at e
 |_,_,0,_,.cons r _,e=>by simp at e;subst e;exact⟨_,rfl,r⟩
 |_,_,i+1,x,.cons _ t,e=>by obtain⟨u,h1,h2⟩:=bn.get (i:=i) (x:=x) t (by simpa using e);exact⟨u,by simpa using h1,h2⟩
theorem bn.set{x:V}{u:ai}(r:RelV x u):∀{xs:List V}{us:List ai} (i:Nat),bn xs us->bn (xs.set i x) (us.set i u)
 |_,_,_,.nil=>.nil
 |_,_,0,.cons _ t=>.cons r t
 |_,_,i+1,.cons q t=>.cons q (bn.set r i t)
theorem bn.append:∀{xs ys:List V}{us ws:List ai},bn xs us->bn ys ws->bn (xs++ys) (us++ws)
 |_,_,_,_,.nil,s=>s
 |_,_,_,_,.cons r t,s=>.cons r (bn.append t s)
theorem bn.take:∀{xs:List V}{us:List ai} (n:Nat),bn xs us->bn (xs.take n) (us.take n)
 |_,_,0,_=>.nil
 |_,_,_+1,.nil=>.nil
 |_,_,n+1,.cons r t=>.cons r (bn.take n t)
theorem bn.drop:∀{xs:List V}{us:List ai} (n:Nat),bn xs us->bn (xs.drop n) (us.drop n)
 |_,_,0,r=>r
 |_,_,_+1,.nil=>.nil
 |_,_,n+1,.cons _ t=>bn.drop n t
def mP:Option V->Option ai->Prop
 |some v,aa u=>RelV v u
 |none,ae=>True
 |_,_=>False
def KV{κ:Type}:List (κ×V)->List (κ×ai)->Prop:=kN λ(p:κ×V) (q:κ×ai)=>p.1=q.1/\RelV p.2 q.2
def kV:aN->V
 |.inl i=>.int i
 |.inr x=>.str x
inductive HO where
 |lst (xs:List V)
 |tup (xs:List V)
 |dK (kvs:List (aN×V))|dT (kvs:List (List aN×V))
 |set (S:Int->Bool) (n:Nat)
 |ins (C dx:af) (fs:List (Str×V))
 |own (x:af)
 |xd (fs:List (Str×V))
 |met (f x:af)
 |rng (lo hi:Int)
 |frz (o:Obj) (u:HO)
 |tbl (q:Str)
 |ext (φ:aA->Prop)
abbrev Hp:=af->Option HO
def upd(H:Hp)(a:af)(o:HO):Hp:=λb=>if b=a then aa o else H b
theorem cC{H:Hp}{a:af}{o:HO}:upd H a o a=aa o:=by unfold upd;rw[if_pos rfl]
theorem b7{H:Hp}{a b:af}{o:HO}(h:b≠a):upd H a o b=H b:=by unfold upd;rw[if_neg h]
theorem Gh{H:Hp}{a b:af}{o u:HO}(h:H a=aa o)(h':H b=aa u)(d:o≠u):a≠b:=by intro e;subst e;rw[h]at h';exact d (dW h')
theorem jL{H:Hp}{a b:af}{o:HO}(h:H a=aa o)(h':H b=ae):a≠b:=by
 intro e;subst e;rw[h]at h';cases h'
def Eu(h:aA)(a:af)(items:Array ai):Prop:=IsTup h a items/\∃o,h.get? a=aa o/\o.dict=ae
theorem Eu.new(h:aA)(its:Array ai):Eu (h.push {cls:=.type "tuple",data:=.seq its}) h.objs.size its:=⟨IsTup.new _ _,_,c0 _ rfl,rfl⟩
section
variable(P:aM)(w:aF)
def cG(H:Hp)(h:aA)(a:af):HO->Prop
 |.lst xs=>xs.length<=ba/\∃(its:List ai) (n:Nat),bn xs its/\h.get? a=aa {cls:=.type "list",data:=.seq its.toArray n}
 |.tup xs=>xs.length<=ba/\∃its:List ai,bn xs its/\Eu h a its.toArray
 |.dK kvs=>kvs.length<=ba/\(a == lO)=aj/\∃vs,KV kvs vs/\h.DictOf (gQ P w) a vs
 |.dT kvs=>kvs.length<=ba/\(a == lO)=aj/\∃xs:List (List aN×af×ai),
   kN (λ(p:List aN×V) (q:List aN×af×ai)=>p.1=q.1/\H q.2.1=aa (.tup (p.1.map kV))/\RelV p.2 q.2.2) kvs xs /\
   ∃o es ep,h.get? a=aa o/\o.ExactDict/\o.data=.dict es ep/\es.toList=xs.map (entryOfKey (sR (gQ P w)))/\(xs.map (·.1)).Nodup
 |.set S n=>h.SetOf (intKind P w) a S n
 |.ins C dx fs=>H dx=aa (.own a)/\fs.length<=1000/\dx≠a/\h.get? a=aa (PySem.W.instObj C dx) /\
   ∃mA,h.Ns1 dx mA/\(∀f,mP (fs.lookup f) (mA f))/\PySem.Within mA (fs.map (·.1))
 |.own _=>∃o,h.get? a=aa o
 |.xd fs=>∃mA,h.Ns1 a mA/\∀f,mP (fs.lookup f) (mA f)
 |.rng lo hi=>∃t u v,h.get? a=aa {cls:=.type "range",data:=.fields #[.int lo t,.int hi u,.int 1 v]}
 |.frz o u=>h.get? a=aa o/\cG H h a u
 |.tbl q=>∃ps:Array ai,h.get? a=aa {cls:=.none,data:=.fields ps}/\TriplesOk ps.toList/\∀pos cv,codeAmong pos ps.toList=aa cv->∃c,cv=.ref c/\H c=aa (.own a)/\h.CodeRec cv q
 |.met f x=>h.get? a=aa (Ev (.ref f) (.ref x))
 |.ext φ=>φ h/\(∃o,h.get? a=aa o)/\∀h1 h2:aA,φ h1->(∀o,h1.get? a=aa o->h2.get? a=aa o)->φ h2
def cI(H:Hp)(h:aA):Prop:=∀a o,H a=aa o->cG P w H h a o
end
section
variable{P:aM}{w:aF}{H H':Hp}{h h':aA}{a:af}{o:HO}
theorem cG.lt(x:cG P w H h a o):a<h.objs.size:=by
 cases o with
 |lst xs=>obtain⟨_,_,_,_,e⟩:=x;exact bu e
 |tup xs=>obtain⟨_,_,_,p,_⟩:=x;exact p.lt
 |dK kvs=>obtain⟨_,_,_,_,o,_,_,e,_⟩:=x;exact bu e
 |dT kvs=>obtain⟨_,_,_,_,o,_,_,e,_⟩:=x;exact bu e
 |set S n=>obtain⟨o,_,_,_,e,_⟩:=x;exact bu e
 |ins C dx fs=>obtain⟨_,_,_,e,_⟩:=x;exact bu e
 |own y=>obtain⟨_,e⟩:=x;exact bu e
 |xd fs=>obtain⟨_,⟨_,_,_,e,_⟩,_⟩:=x;exact bu e
 |rng lo hi=>obtain⟨_,_,_,e⟩:=x;exact bu e
 |frz ob u=>obtain⟨e,_⟩:=x;exact bu e
 |tbl q=>obtain⟨_,e,_⟩:=x;exact bu e
 |met f y=>exact bu (show h.get? a=aa _ from x)
 |ext φ=>obtain⟨_,⟨_,e⟩,_⟩:=x;exact bu e
theorem Paired.mapP{α β:Type}{F G:α->β->Prop}:∀{l₁:List α}{l₂:List β},kN F l₁ l₂->(∀a b,F a b->G a b)->kN G l₁ l₂
 |_,_,.nil,_=>.nil
 |_,_,.cons r t,f=>.cons (f _ _ r) (Paired.mapP t f)
theorem cG.stay(x:cG P w H h a o)(k:∀b u,(b=a\/H b=aa (.own a))->h.get? b=aa u->h'.get? b=aa u)(ho:∀b,H b=aa (.own a)->H' b=aa (.own a)) (ht:∀b xs,H b=aa (.tup xs)->H' b=aa (.tup xs)):cG P w H' h' a o:=by
 induction o with
 |lst xs=>obtain⟨z,its,n,r,e⟩:=x;exact⟨z,its,n,r,k _ _ (.inl rfl) e⟩
 |tup xs=>obtain⟨z,its,r,⟨ob,e,c⟩,o2,e2,c2⟩:=x;exact⟨z,its,r,⟨ob,k _ _ (.inl rfl) e,c⟩,o2,k _ _ (.inl rfl) e2,c2⟩
 |dK kvs=>obtain⟨z,y,vs,r,ob,es,ep,e,c⟩:=x;exact⟨z,y,vs,r,ob,es,ep,k _ _ (.inl rfl) e,c⟩
 |dT kvs=>obtain⟨z,y,xs,r,ob,es,ep,e,c⟩:=x;exact⟨z,y,xs,Paired.mapP r λp q z=>⟨z.1,ht _ _ z.2.1,z.2.2⟩,ob,es,ep,k _ _ (.inl rfl) e,c⟩
 |set S n=>obtain⟨ob,es,ep,t,e,c⟩:=x;exact⟨ob,es,ep,t,k _ _ (.inl rfl) e,c⟩
 |ins C dx fs=>obtain⟨d,z,ne,e,mA,⟨od,es,ep,e2,c⟩,r⟩:=x;exact⟨ho _ d,z,ne,k _ _ (.inl rfl) e,mA,⟨od,es,ep,k _ _ (.inr d) e2,c⟩,r⟩
 |own y=>obtain⟨ob,e⟩:=x;exact⟨ob,k _ _ (.inl rfl) e⟩
 |xd fs=>obtain⟨mA,⟨od,es,ep,e,c⟩,r⟩:=x;exact⟨mA,⟨od,es,ep,k _ _ (.inl rfl) e,c⟩,r⟩
 |rng lo hi=>obtain⟨t,u,v,e⟩:=x;exact⟨t,u,v,k _ _ (.inl rfl) e⟩
 |frz ob u ih=>obtain⟨e,q⟩:=x;exact⟨k _ _ (.inl rfl) e,ih q⟩
 |tbl q=>
  obtain⟨ps,e,t,g⟩:=x;refine⟨ps,k a _ (.inl rfl) e,t,λpos cv hc=>?_⟩;obtain⟨c,rfl,h1,c2,o,vs,tk,e2,e3,r⟩:=g pos cv hc;cases e2;exact⟨c,rfl,ho c h1,c,o,vs,tk,rfl,k c _ (.inr h1) e3,r⟩
 |met f y=>have e:h.get? a=aa (Ev (.ref f) (.ref y)):=x;show h'.get? a=aa (Ev (.ref f) (.ref y));exact k a _ (.inl rfl) e
 |ext φ=>obtain⟨p,⟨o,e⟩,st⟩:=x;exact⟨st _ _ p λo q=>k _ _ (.inl rfl) q,⟨o,k _ _ (.inl rfl) e⟩,st⟩
theorem cI.lt(x:cI P w H h)(e:H a=aa o):a<h.objs.size:=(x a o e).lt
theorem cI.fresh(x:cI P w H h)(e:h.objs.size<=a):H a=ae:=by
 cases q:H a with
 |none=>rfl
 |some u=>exact absurd (fL (x.lt q) e) (fc _)
theorem cI.kept(x:cI P w H h)(k:∀b u,h.get? b=aa u->h'.get? b=aa u):cI P w H h':=λa o e=>(x a o e).stay (λb u _ q=>k b u q) (λ_ q=>q) λ_ _ q=>q
theorem cI.laid(x:cI P w H h)(k:∀b u,h.get? b=aa u->h'.get? b=aa u)(hp:h.objs.size<=a)(new:cG P w (upd H a o) h' a o):cI P w (upd H a o) h':=λb u e=>by
 have hn:=x.fresh hp;by_cases hb:b=a
 ·subst hb;rw[cC]at e;cases e;exact new
 ·rw[b7 hb]at e;exact(x b u e).stay (λc v _ q=>k c v q) (λc q=>by rw[b7 (jL q hn)];exact q) λc xs q=>by rw[b7 (jL q hn)];exact q
end
def Rd(H:Hp)(a:af)(u:HO):Prop:=H a=aa u\/∃o,H a=aa (.frz o u)
theorem Rd.ok{P:aM}{w:aF}{H:Hp}{h:aA}{a:af}{u:HO}(r:Rd H a u)(x:cI P w H h):cG P w H h a u:=by
 rcases r with r|⟨o,r⟩
 ·exact x a u r
 ·obtain⟨_,q⟩:=x a _ r;exact q
def rW:Option HO->Prop
 |some (.lst _)=>True
 |some (.dK _)=>True
 |some (.dT _)=>True
 |some (.set _ _)=>True
 |some (.ins _ _ _)=>True
 |some (.ext _)=>True
 |_=>False
section
variable{P:aM}{w:aF}{H:Hp}{h h':aA}{x e:af}{o':HO}
theorem cI.write(ok:cI P w H h)(mu:rW (H x))(he:e=x\/H e=aa (.own x))(k:∀b u,b≠e->h.get? b=aa u->h'.get? b=aa u)(qY:∃u,h'.get? e=aa u)(new:cG P w (upd H x o') h' x o'):cI P w (upd H x o') h':=λb u q=>by
 have nown:∀c y,H c=aa (.own y)->c≠x:=λc y r z=>by subst z;rw[r]at mu;exact mu
 have ntup:∀c xs,H c=aa (.tup xs)->c≠x:=λc xs r z=>by subst z;rw[r]at mu;exact mu
 by_cases hb:b=x
 ·subst hb;rw[cC]at q;cases q;exact new
 ·rw[b7 hb]at q;by_cases ka:b=e
  ·have q':H b=aa (.own x):=by
    rcases he with z|z
    ·exact absurd (ka.trans z) hb
    ·rw[ka];exact z
   rw[q]at q';cases q';obtain⟨v,hv⟩:=qY;exact⟨v,by rw[ka];exact hv⟩
  ·refine(ok b u q).stay (λc v hc r=>k c v ?_ r) (λc r=>by rw[b7 (nown c b r)];exact r) λc xs r=>by rw[b7 (ntup c xs r)];exact r
   rcases hc with rfl|hc
   ·exact ka
   ·rintro rfl;rcases he with z|z
    ·exact nown c b hc z
    ·rw[hc]at z;cases z;exact hb rfl
end
structure Un(fs ex:List af)(H H':Hp)(h h':aA):Prop where
 keep:∀b o,h.get? b=aa o->H b=ae->b∉fs->b∉ex->h'.get? b=aa o
 slot:∀b o,h.get? b=aa o->H b=ae->b∈fs->b∉ex->∃sl,h'.get? b=aa {o with slots:=sl}
 free:∀b o,h.get? b=aa o->H b=ae->b∉ex->H' b=ae
 there:∀b o,h.get? b=aa o->b∉ex->∃o',h'.get? b=aa o'
 tups:∀b xs,H b=aa (.tup xs)->H' b=aa (.tup xs)
 frzs:∀b o u,H b=aa (.frz o u)->H' b=aa (.frz o u)
 tbls:∀b q,H b=aa (.tbl q)->H' b=aa (.tbl q)
section
variable{fs fs' ex ex':List af}{H H1 H2:Hp}{h h1 h2 h':aA}{a x e:af}{o:HO}
theorem Un.any(u:Un fs ex H H1 h h1){b:af}{ob:Obj}(q:h.get? b=aa ob)(n:H b=ae)(hx:b∉ex):∃sl,h1.get? b=aa {ob with slots:=sl}:=by
 by_cases hb:b∈fs
 ·exact u.slot b ob q n hb hx
 ·exact⟨ob.slots,u.keep b ob q n hb hx⟩
theorem Un.kept(k:∀b u,h.get? b=aa u->h'.get? b=aa u):Un fs ex H H h h' :=⟨λb ob q _ _ _=>k b ob q,λb ob q _ _ _=>⟨ob.slots,k b ob q⟩,λ_ _ _ n _=>n,λb ob q _=>⟨ob,k b ob q⟩,λ_ _ q=>q,λ_ _ _ q=>q,λ_ _ q=>q⟩
theorem Un.refl:Un fs ex H H h h:=Un.kept λ_ _ q=>q
theorem Un.laid(k:∀b u,h.get? b=aa u->h'.get? b=aa u)(hp:h.objs.size<=a)(hn:H a=ae):Un fs ex H (upd H a o) h h' where
 keep:=λb u q _ _ _=>k b u q
 slot:=λb u q _ _ _=>⟨u.slots,k b u q⟩
 free:=λb u q n _=>by rw[b7 (cR (fL (bu q) hp))];exact n
 there:=λb u q _=>⟨u,k b u q⟩
 tups:=λb xs q=>by rw[b7 (jL q hn)];exact q
 frzs:=λb u xs q=>by rw[b7 (jL q hn)];exact q
 tbls:=λb ps q=>by rw[b7 (jL q hn)];exact q
theorem Un.write(mu:rW (H x))(he:e=x\/H e=aa (.own x))(k:∀b u,b≠e->h.get? b=aa u->h'.get? b=aa u)(qY:∃u,h'.get? e=aa u):Un fs ex H (upd H x o) h h':=by
 have hx:∀b,H b=ae->b≠x:=λb n z=>by subst z;rw[n]at mu;exact mu
 have hb:∀b,H b=ae->b≠e:=λb n z=>by
  subst z;rcases he with r|r
  ·exact hx b n r
  ·rw[n]at r;cases r
 have hm:∀b u,H b=aa u->¬rW (aa u)->b≠x:=λb u q nm z=>by subst z;rw[q]at mu;exact nm mu
 refine⟨λb u q n _ _=>k b u (hb b n) q,λb u q n _ _=>⟨u.slots,k b u (hb b n) q⟩,λb u q n _=>by rw[b7 (hx b n)];exact n,λb u q _=>?_,
  λb xs q=>by rw[b7 (hm b _ q λz=>z)];exact q,λb u xs q=>by rw[b7 (hm b _ q λz=>z)];exact q,λb ps q=>by rw[b7 (hm b _ q λz=>z)];exact q⟩
 by_cases ka:b=e
 ·subst ka;exact qY
 ·exact⟨u,k b u ka q⟩
end
def vy(h:aA)(H:Hp):List af:=(bX h.objs.size).filter λa=>(H a).isSome
def lB(h:aA)(H:Hp):aA:=PySem.W.hideAll h (vy h H)
theorem FE(h:aA)(H:Hp):(lB h H).objs.size=h.objs.size:=PySem.W.hideAll_size _ _
theorem JA{h:aA}{H:Hp}{b:af}{o:Obj}(e:h.get? b=aa o)(n:H b=ae):(lB h H).get? b=aa o :=PySem.W.hideAll_get _ e λhm=>by have q:(H b).isSome=ah:=(lP.mp hm).2;rw[n]at q;simp at q
theorem NM{h:aA}{H:Hp}{b:af}{o:Obj}(e:(lB h H).get? b=aa o):h.get? b=aa o/\H b=ae:=by
 have e':h.get? b=aa o:=PySem.W.of_hideAll (vy h H) e;refine⟨e',?_⟩;cases q:H b with
 |none=>rfl
 |some x=>
  have hm:b∈vy h H:=lP.mpr ⟨kP.mpr (bu e'),by simp[q]⟩;have z:(lB h H).get? b=ae:=PySem.W.hideAll_none (vy h H) hm;rw[z]at e;cases e
def K4(g h:aA)(L:af):List (af×Obj):=(bX h.objs.size).filterMap λa=>if a=L\/(g.get? a).isSome=ah then ae else(h.get? a).map λo=>(a,o)
def rest(g h:aA)(L d:af):List (af×Obj):=(K4 g h L).filter λp=>decide (p.1≠d)
structure Mod(K:ax)(mg:Str->Option ai)(base:aA):Prop where
 kin:K.In base
 glob:base.Ns bQ mg
 blt:∃mb,base.Ns oq mb/\∀x:Str,x≠"__name__"->mb x=eB x
 nolimit:base.NoLimit
 bm:∃bm ob,mg "__builtins__" = aa (.ref bm)/\bm≠oq/\base.get? bm=aa ob/\ob.cls=.type "module"/\ob.dict=aa oq/\ob.data=.plain
set_option genInjectivity false in
structure Cx where
 prog:aM
 w:aF
 K:ax
 mg:Str->Option ai
 base:aA
 A:aO
 N:List Str
 s₀:am
 H₀:Hp
 env:Env
 outer:List Env
 stack:List Env
 ex:List af
 fn:Str->Bool
 calm:Bool
 pn:List (af×Obj)
 xe:ai->am->Prop
def eF(l:List Env):List af:=l.filterMap (·.frame)
abbrev Cx.fs(X:Cx):List af:=eF X.outer
def fF(sc:dX)(x:Str):Prop:=sc.names.lookup x=aa .local\/sc.names.lookup x=aa .cell\/sc.names.lookup x=aa .free
def Loc(sc:dX)(x:Str):Prop:=sc.names.lookup x=aa .local\/sc.names.lookup x=aa .cell
def Look(env:Env)(h:aA)(m:Str->Option ai)(x:Str)(u:ai):Prop :=(env.kindOf x=aa .local/\m x=aa u)\/((env.kindOf x=aa .cell\/env.kindOf x=aa .free)/\∃c,env.cells.lookup x=aa c/\h.IsCell c (aa u))
def zk:List Str:=["road"]
def uA(K:ax)(H:Hp):Prop:=∀x∈zk,∀c P,ot K x=aa (c,P)->H P=aa (.tbl (x++".<locals>.<lambda>"))
set_option genInjectivity false in
structure Cx.Ok(X:Cx):Prop where
 mod:Mod X.K X.mg X.base
 kind:X.env.scope.kind=.function
 glob:X.env.globals=bQ
 blt:X.env.builtins=oq
 above:X.s₀.heap.objs.size<=X.env.locals
 inj:∀x y c,X.env.cells.lookup x=aa c->X.env.cells.lookup y=aa c->x=y
 has:∀x,(X.env.kindOf x=aa .cell\/X.env.kindOf x=aa .free)->∃c,X.env.cells.lookup x=aa c
 cab:∀x c,X.fn x=ah->X.env.cells.lookup x=aa c->X.s₀.heap.objs.size<=c
 hd:X.calm=ah->X.A.handled=ae
 frames:X.A.frames=aa X.stack
 stk:X.stack=X.outer\/(X.stack=X.env::X.outer/\X.env.frame=aa X.env.locals)
 exf:∀b∈X.ex,b≠X.env.locals/\∀x c,X.env.cells.lookup x=aa c->c≠b
 bs:∀b o,X.base.get? b=aa o->X.s₀.heap.get? b=aa o/\X.H₀ b=ae
 bsz:X.base.objs.size<=X.s₀.heap.objs.size
 noex:∀b o,X.base.get? b=aa o->b∉X.ex
 exfs:∀b∈X.ex,b∉X.fs
 funs:X.s₀.heap.FunFrames X.base X.outer
 frf:∀b∈X.fs,X.H₀ b=ae
 tab:uA X.K X.H₀
structure Inv(X:Cx)(ag:List (af×Obj))(σ:List (Option V))(H:Hp)(s:am):Prop where
 ok:X.Ok
 os:s.os=X.s₀.os
 bare:lQ s.gens
 base:Un X.fs X.ex X.H₀ H X.s₀.heap s.heap
 loc:∃m,s.heap.Ns X.env.locals m/\∀(i:Nat) (x:Str) (v:V),X.N[i]?=aa x->σ[i]?=aa (aa v)->fF X.env.scope x->∃u,RelV v u/\Look X.env s.heap m x u
 cell:∀x c,X.env.cells.lookup x=aa c->∃v,s.heap.IsCell c v
 free:H X.env.locals=ae
 freeC:∀x c,X.env.cells.lookup x=aa c->H c=ae
 pin:∀p∈X.pn++ag,s.heap.get? p.1=aa p.2/\H p.1=ae/\p.1≠X.env.locals/\p.1∉X.fs/\∀v,p.2.data≠.cell v
 hok:cI X.prog X.w H s.heap
 len:σ.length=X.N.length
section
variable{X:Cx}{ag:List (af×Obj)}{σ:List (Option V)}{H H':Hp}{s:am}{h':aA}
theorem Cx.Ok.nofr(ok:X.Ok){b:af}{o:Obj}(e:X.base.get? b=aa o):b∉X.fs:=λhb=>by
 have:=(ok.funs.mem hb).1;rw[e]at this;cases this
theorem Inv.bs(I:Inv X ag σ H s):∀b o,X.base.get? b=aa o->s.heap.get? b=aa o/\H b=ae:=λb o e=>⟨I.base.keep b o (I.ok.bs b o e).1 (I.ok.bs b o e).2 (I.ok.nofr e) (I.ok.noex b o e),I.base.free b o (I.ok.bs b o e).1 (I.ok.bs b o e).2 (I.ok.noex b o e)⟩
theorem Inv.bk(I:Inv X ag σ H s):∀b o,X.base.get? b=aa o->s.heap.get? b=aa o:=λb o e=>(I.bs b o e).1
theorem Inv.mod(I:Inv X ag σ H s):Mod X.K X.mg X.base:=I.ok.mod
theorem Inv.kIn(I:Inv X ag σ H s):X.K.In s.heap:=I.ok.mod.kin.keeps I.bk
theorem Inv.lt(I:Inv X ag σ H s):X.env.locals<s.heap.objs.size:=let ⟨_,hn,_⟩:=I.loc;hn.lt
theorem Inv.sz(I:Inv X ag σ H s):X.s₀.heap.objs.size<=s.heap.objs.size:=cS I.ok.above (jW I.lt)
theorem Inv.nofs(I:Inv X ag σ H s){a:af}(h:s.heap.objs.size<=a):a∉X.fs:=λhb=>by obtain⟨_,o,ho,_⟩:=I.ok.funs.mem hb;exact absurd (fL (bu ho) (cS I.sz h)) (fc _)
theorem Inv.cne(I:Inv X ag σ H s):∀x c,X.env.cells.lookup x=aa c->c≠X.env.locals:=λx c e z=>by
 obtain⟨v,o,ho,hd⟩:=I.cell x c e;obtain⟨m,⟨o',es,ep,gb,qZ,_⟩,_⟩:=I.loc;rw[z,gb]at ho;cases ho;rw[qZ]at hd;cases hd
theorem Inv.tab(I:Inv X ag σ H s):uA X.K H:=λx hx c P h=>I.base.tbls P _ (I.ok.tab x hx c P h)
theorem Inv.funs(I:Inv X ag σ H s):s.heap.FunFrames X.base X.outer:=by
 have all:∀(l:List Env),(∀b∈eF l,b∈X.fs)->X.s₀.heap.FunFrames X.base l->s.heap.FunFrames X.base l:=by
  intro l
  induction l with
  |nil=>intro _ _;trivial
  |cons env r ih=>intro hs hl;obtain⟨hk,⟨L,o,hf,hn,ho,hd⟩,hr⟩:=hl;have hL:L∈X.fs:=hs L (by unfold eF;rw[kQ,hf];exact eN);obtain⟨sl,e⟩:=I.base.slot L o ho (I.ok.frf L hL) hL λz=>I.ok.exfs L z hL;exact⟨hk,⟨L,_,hf,hn,e,hd⟩,ih (λb hb=>hs b (by unfold eF;rw[kQ,hf];exact dI _ hb)) hr⟩
 exact all X.outer (λ_ hb=>hb) I.ok.funs
theorem Inv.stack(I:Inv X ag σ H s):s.heap.FunFrames X.base X.stack:=by
 rcases I.ok.stk with e|⟨e,hf⟩
 ·rw[e];exact I.funs
 ·rw[e];obtain⟨m,hn,_⟩:=I.loc;refine .cons (by rw[I.ok.kind];decide) hf hn ?_ I.funs;exact zE (cS I.ok.bsz I.ok.above)
theorem Inv.stkSub(I:Inv X ag σ H s):∀b∈eF X.stack,b∈X.env.locals::X.fs:=λb hb=>by
 rcases I.ok.stk with e|⟨e,hf⟩
 ·rw[e]at hb;exact dI _ hb
 ·rw[e]at hb;unfold eF at hb;rw[kQ,hf]at hb;exact hb
theorem Inv.stkFree(I:Inv X ag σ H s):∀b∈eF X.stack,H b=ae:=λb hb=>by
 rcases bF.mp (I.stkSub b hb)with e|hb
 ·rw[e];exact I.free
 ·obtain⟨_,o,ho,_⟩:=I.ok.funs.mem hb;exact I.base.free b o ho (I.ok.frf b hb) λz=>I.ok.exfs b z hb
theorem Inv.step{g':Array GenState}{t':Nat}{d':Drawn}{ch:List af}(I:Inv X ag σ H s)(lc:∀b∈ch,(b∈X.ex\/X.s₀.heap.objs.size<=b)/\b≠X.env.locals/\(∀x c,X.env.cells.lookup x=aa c->c≠b)/\∀p∈X.pn++ag,p.1≠b)(keep:∀b o,b≠X.env.locals->b∉X.fs->b∉ch->s.heap.get? b=aa o->H b=ae->h'.get? b=aa o)(slot:∀b o,b≠X.env.locals->b∈X.fs->b∉ch->s.heap.get? b=aa o->H b=ae->∃sl,h'.get? b=aa {o with slots:=sl}) (free:∀b o,b∉ch->s.heap.get? b=aa o->H b=ae->H' b=ae)(there:∀b o,b∉ch->s.heap.get? b=aa o->∃o',h'.get? b=aa o')(tups:∀b xs,H b=aa (.tup xs)->H' b=aa (.tup xs)) (frzs:∀b o u,H b=aa (.frz o u)->H' b=aa (.frz o u)) (tbls:∀b q,H b=aa (.tbl q)->H' b=aa (.tbl q))(ns:∀m,s.heap.Ns X.env.locals m->h'.Ns X.env.locals m) (hok:cI X.prog X.w H' h') (hg:lQ g'):Inv X ag σ H' {s with heap:=h',gens:=g',drawn:=d',toks:=t'}:=by
 have neL:∀b o,X.s₀.heap.get? b=aa o->b≠X.env.locals:=λb o e=>cR (fL (bu e) I.ok.above);have neC:∀b o,X.s₀.heap.get? b=aa o->b∉X.ex->b∉ch:=λb o e hx hb=>by
  rcases(lc b hb).1 with z|z
  ·exact hx z
  ·exact absurd (fL (bu e) z) (fc _)
 have cellK:∀x c,X.env.cells.lookup x=aa c->∀v,s.heap.IsCell c v->h'.IsCell c v:=λx c e v ⟨o,ho,hd⟩=>by
  have nch:c∉ch:=λz=>(lc c z).2.2.1 x c e rfl;by_cases hc:c∈X.fs
  ·obtain⟨sl,q⟩:=slot c o (I.cne x c e) hc nch ho (I.freeC x c e);exact⟨_,q,hd⟩
  ·exact⟨o,keep c o (I.cne x c e) hc nch ho (I.freeC x c e),hd⟩
 refine⟨I.ok,I.os,hg,⟨λb o e n hb hx=>?_,λb o e n hb hx=>?_,λb o e n hx=>?_,λb o e hx=>?_,λb xs e=>tups b xs (I.base.tups b xs e),λb o xs e=>frzs b o xs (I.base.frzs b o xs e),λb ps e=>?_⟩,?_,λx c e=>?_,?_,λx c e=>?_,λp hp=>?_,hok,I.len⟩
 ·exact keep b o (neL b o e) hb (neC b o e hx) (I.base.keep b o e n hb hx) (I.base.free b o e n hx)
 ·obtain⟨sl,e1⟩:=I.base.slot b o e n hb hx;obtain⟨sl',e2⟩:=slot b _ (neL b o e) hb (neC b o e hx) e1 (I.base.free b o e n hx);exact⟨sl',e2⟩
 ·obtain⟨o',e1⟩:=I.base.there b o e hx;exact free b o' (neC b o e hx) e1 (I.base.free b o e n hx)
 ·obtain⟨o',e1⟩:=I.base.there b o e hx;exact there b o' (neC b o e hx) e1
 ·exact tbls b _ (I.base.tbls b ps e)
 ·obtain⟨m,hn,hl⟩:=I.loc;refine⟨m,ns m hn,λi x v e1 e2 e3=>?_⟩;obtain⟨u,r,l⟩:=hl i x v e1 e2 e3;refine⟨u,r,?_⟩;rcases l with l|⟨k,c,e,z⟩
  ·exact .inl l
  ·exact .inr ⟨k,c,e,cellK x c e _ z⟩
 ·obtain⟨v,z⟩:=I.cell x c e;exact⟨v,cellK x c e v z⟩
 ·obtain⟨m,⟨o,_,_,ho,_⟩,_⟩:=I.loc;exact free _ o (λz=>(lc _ z).2.1 rfl) ho I.free
 ·obtain⟨v,o,ho,hd⟩:=I.cell x c e;exact free c o (λz=>(lc c z).2.2.1 x c e rfl) ho (I.freeC x c e)
 ·obtain⟨e,n,ne,nf,d⟩:=I.pin p hp;have nch:p.1∉ch:=λz=>(lc p.1 z).2.2.2 p hp rfl;exact⟨keep p.1 p.2 ne nf nch e n,free p.1 p.2 nch e n,ne,nf,d⟩
theorem Inv.un{t':Nat}(I:Inv X ag σ H s)(u:Un X.fs [] H H' s.heap h')(hok:cI X.prog X.w H' h'):Inv X ag σ H' {s with heap:=h',toks:=t'}:=by
 obtain⟨m,⟨o,es,ep,ho,r⟩,_⟩:=id I.loc;obtain⟨sl,hL⟩:=u.any ho I.free (by simp);exact I.step (g':=s.gens) (d':=s.drawn) (ch:=[]) (λ_ z=>nomatch z) (λb o _ hb _ e n=>u.keep b o e n hb (by simp)) (λb o _ hb _ e n=>u.slot b o e n hb (by simp)) (λb o _ e n=>u.free b o e n (by simp)) (λb o _ e=>u.there b o e (by simp)) u.tups u.frzs u.tbls (λm' hm=>by
  obtain⟨o',es',ep',gb,r'⟩:=hm;rw[ho]at gb;cases gb;exact⟨_,es',ep',hL,r'⟩) hok I.bare
theorem Inv.call{g':Array GenState}{t':Nat}{d':Drawn}{ch:List af}(I:Inv X ag σ H s)(u:Un (eF X.stack) ch H H' s.heap h')(hok:cI X.prog X.w H' h')(hg:lQ g')(lc:∀b∈ch,(b∈X.ex\/X.s₀.heap.objs.size<=b)/\b≠X.env.locals/\(∀x c,X.env.cells.lookup x=aa c->c≠b)/\∀p∈X.pn++ag,p.1≠b):Inv X ag σ H' {s with heap:=h',gens:=g',drawn:=d',toks:=t'}:=by
 obtain⟨m,⟨o,es,ep,ho,r⟩,_⟩:=id I.loc;obtain⟨sl,hL⟩:=u.any ho I.free λz=>(lc _ z).2.1 rfl;exact I.step (ch:=ch) lc (λb o hL hb hc e n=>u.keep b o e n (λz=>(bF.mp (I.stkSub b z)).elim hL hb) hc) (λb o _ _ hc e n=>u.any e n hc) (λb o hc e n=>u.free b o e n hc) (λb o hc e=>u.there b o e hc) u.tups u.frzs u.tbls (λm' hm=>by
  obtain⟨o',es',ep',gb,r'⟩:=hm;rw[ho]at gb;cases gb;exact⟨_,es',ep',hL,r'⟩) hok hg
theorem Inv.turned{t':Nat}{it:af}(I:Inv X ag σ H s)(k:∀b o,b≠it->s.heap.get? b=aa o->h'.get? b=aa o)(hn:H it=ae)(hL:it≠X.env.locals)(h1:it∈X.ex\/X.s₀.heap.objs.size<=it) (h2:∀x c,X.env.cells.lookup x=aa c->c≠it) (h3:∀p∈X.pn++ag,p.1≠it):Inv X ag σ H {s with heap:=h',toks:=t'}:=by
 have nit:∀b u,H b=aa u->b≠it:=λb u e z=>by rw[z,hn]at e;cases e
 refine I.step (g':=s.gens) (d':=s.drawn) (ch:=[it]) (λb hb=>?_) (λb o _ _ hc e _=>k b o (λz=>hc (by simp[z])) e) (λb o _ _ hc e _=>⟨o.slots,k b o (λz=>hc (by simp[z])) e⟩) (λ_ _ _ _ n=>n)
  (λb o hc e=>⟨o,k b o (λz=>hc (by simp[z])) e⟩) (λ_ _ e=>e) (λ_ _ _ e=>e) (λ_ _ e=>e) (λm hm=>?_) (λb u e=>?_) I.bare
 ·have e:b=it:=by simpa using hb
  subst e;exact⟨h1,hL,h2,h3⟩
 ·obtain⟨o,es,ep,ho,r⟩:=hm;exact⟨o,es,ep,k _ o (ef hL) ho,r⟩
 ·refine(I.hok b u e).stay (λc v hc q=>k c v ?_ q) (λ_ q=>q) λ_ _ q=>q;rcases hc with z|z
  ·rw[z];exact nit b u e
  ·exact nit c _ z
theorem Inv.tok(I:Inv X ag σ H s)(t:Nat):Inv X ag σ H {s with toks:=t}:=I.un (h':=s.heap) (t':=t) Un.refl I.hok
theorem Inv.kept{t':Nat}(I:Inv X ag σ H s)(k:∀b u,s.heap.get? b=aa u->h'.get? b=aa u):Inv X ag σ H {s with heap:=h',toks:=t'}:=I.un (Un.kept k) (I.hok.kept k)
theorem Inv.laid{a:af}{o:HO}{t':Nat}(I:Inv X ag σ H s)(k:∀b u,s.heap.get? b=aa u->h'.get? b=aa u)(hp:s.heap.objs.size<=a)(new:cG X.prog X.w (upd H a o) h' a o):Inv X ag σ (upd H a o) {s with heap:=h',toks:=t'}:=I.un (Un.laid k hp (I.hok.fresh hp)) (I.hok.laid k hp new)
theorem Inv.write{x e:af}{o:HO}{t':Nat}(I:Inv X ag σ H s)(mu:rW (H x))(he:e=x\/H e=aa (.own x))(k:∀b u,b≠e->s.heap.get? b=aa u->h'.get? b=aa u)(qY:∃u,h'.get? e=aa u)(new:cG X.prog X.w (upd H x o) h' x o):Inv X ag σ (upd H x o) {s with heap:=h',toks:=t'}:=I.un (Un.write mu he k qY) (I.hok.write mu he k qY new)
theorem Inv.pins_of{pins':List (af×Obj)}(I:Inv X ag σ H s)(h:∀p∈pins',s.heap.get? p.1=aa p.2/\H p.1=ae/\p.1≠X.env.locals/\p.1∉X.fs/\∀v,p.2.data≠.cell v):Inv X pins' σ H s :=⟨I.ok,I.os,I.bare,I.base,I.loc,I.cell,I.free,I.freeC,λp hp=>(fZ.mp hp).elim (λz=>I.pin p (zF _ z)) (h p),I.hok,I.len⟩
theorem xr{N:List Str}(hN:N.Nodup){i j:Nat}{x:Str}(a:N[i]?=aa x)(b:N[j]?=aa x):i=j:=by obtain⟨h1,e1⟩:=c_.mp a;obtain⟨h2,e2⟩:=c_.mp b;exact(List.getElem_inj hN).mp (e1.trans e2.symm)
theorem Dr{M:Model}{A:aO}{E:ai->am->Prop}{i:Nat}{x:Str}{v:V}{u:ai}{Q:Unit->am->Prop}(I:Inv X ag σ H s)(hN:X.N.Nodup)(hi:X.N[i]?=aa x)(hx:Loc X.env.scope x)(r:RelV v u)(h:∀s',Inv X ag (σ.set i (aa v)) H s'->(∃a,jB a s.heap s'.heap/\(a=X.env.locals\/X.env.cells.lookup x=aa a))->Q () s') (hf:X.fn x=ah\/X.env.scope.names.lookup x=aa .local:=by first|exact .inl rfl|exact .inr rfl|assumption):aq M A (storeName X.env x u) Q E s:=by
 obtain⟨m,hn,hl⟩:=id I.loc;have mi:(X.env.scope.kind == .class||(X.env.scope.kind == .module&&X.env.locals != X.env.globals))=aj:=by rw[I.ok.kind];rfl
 have hiσ:i<σ.length:=by rw[I.len];exact(c_.mp hi).1
 have cne:=I.cne;have tracked:∀{a:af}{h':aA},(∃o,s.heap.get? a=aa o/\H a=ae)->jB a s.heap h'->cI X.prog X.w H h':=λ{a h'} ha hs b ob e=>by
  obtain⟨_,_,tK⟩:=ha;refine(I.hok b ob e).stay (λc w' hc q=>(hs.2 c ?_).trans q) (λ_ q=>q) λ_ _ q=>q;rintro rfl;rcases hc with rfl|hc
  ·rw[tK]at e;cases e
  ·rw[tK]at hc;cases hc
 rcases hx with hk|hk
 ·refine wpAny_storeName_local hk hn (λh' hn' hs=>?_) mi;obtain⟨oL,_,_,lf,_⟩:=id hn;refine h _ ⟨I.ok,I.os,I.bare,⟨λb o e n hb hx=>?_,λb o e n hb hx=>?_,I.base.free,λb o e hx=>?_,I.base.tups,I.base.frzs,I.base.tbls⟩,⟨_,hn',λj y v' e1 e2 e3=>?_⟩,λy c e=>?_,I.free,I.freeC,λp hp=>?_,tracked ⟨oL,lf,I.free⟩ hs,by simpa using I.len⟩ ⟨_,hs,.inl rfl⟩
  ·exact(hs.2 b (cR (fL (bu e) I.ok.above))).trans (I.base.keep b o e n hb hx)
  ·obtain⟨sl,e1⟩:=I.base.slot b o e n hb hx;exact⟨sl,(hs.2 b (cR (fL (bu e) I.ok.above))).trans e1⟩
  ·obtain⟨o',e1⟩:=I.base.there b o e hx;exact⟨o',(hs.2 b (cR (fL (bu e) I.ok.above))).trans e1⟩
  ·by_cases hj:j=i
   ·subst hj;rw[hi]at e1;cases e1;rw[fe hiσ]at e2;cases e2;exact⟨u,r,.inl ⟨hk,by simp⟩⟩
   ·rw[dJ (ef hj)]at e2;obtain⟨u',r',q⟩:=hl j y v' e1 e2 e3;refine⟨u',r',?_⟩;rcases q with⟨k,e⟩|⟨k,c,e,z⟩
    ·refine .inl ⟨k,?_⟩;have:y≠x:=λe=>hj (xr hN e1 (e ▸ hi));simp[this,e]
    ·exact .inr ⟨k,c,e,z.sameBut hs (cne y c e)⟩
  ·obtain⟨w',z⟩:=I.cell y c e;exact⟨w',z.sameBut hs (cne y c e)⟩
  ·obtain⟨e,n,ne,nf,d⟩:=I.pin p hp;exact⟨(hs.2 p.1 ne).trans e,n,ne,nf,d⟩
 ·have hfn:X.fn x=ah:=by
   rcases hf with z|z
   ·exact z
   ·rw[z]at hk;cases hk
  obtain⟨c,hc⟩:=I.ok.has x (.inl hk);obtain⟨w',z⟩:=I.cell x c hc;refine wpAny_storeName_cell I.ok.kind hk hc z (λh' eD hs=>?_);obtain⟨oc,hoc,hocd⟩:=id z;refine h {s with heap:=h'} ⟨I.ok,I.os,I.bare,⟨λb o e n hb hx=>?_,λb o e n hb hx=>?_,I.base.free,λb o e hx=>?_,I.base.tups,I.base.frzs,I.base.tbls⟩,⟨m,hn.sameBut hs (ef (cne x c hc)),λj y v' e1 e2 e3=>?_⟩,λy c' e=>?_,I.free,I.freeC,λp hp=>?_,tracked ⟨oc,hoc,I.freeC x c hc⟩ hs,by simpa using I.len⟩ ⟨c,hs,.inr hc⟩
  ·exact(hs.2 b (cR (fL (bu e) (I.ok.cab x c hfn hc)))).trans (I.base.keep b o e n hb hx)
  ·obtain⟨sl,e1⟩:=I.base.slot b o e n hb hx;exact⟨sl,(hs.2 b (cR (fL (bu e) (I.ok.cab x c hfn hc)))).trans e1⟩
  ·obtain⟨o',e1⟩:=I.base.there b o e hx;exact⟨o',(hs.2 b (cR (fL (bu e) (I.ok.cab x c hfn hc)))).trans e1⟩
  ·by_cases hj:j=i
   ·subst hj;rw[hi]at e1;cases e1;rw[fe hiσ]at e2;cases e2;exact⟨u,r,.inr ⟨.inl hk,c,hc,eD⟩⟩
   ·rw[dJ (ef hj)]at e2;obtain⟨u',r',q⟩:=hl j y v' e1 e2 e3;refine⟨u',r',?_⟩;rcases q with q|⟨k,c',e,z'⟩
    ·exact .inl q
    ·refine .inr ⟨k,c',e,z'.sameBut hs ?_⟩;rintro rfl;exact hj (xr hN e1 (I.ok.inj _ _ _ e hc ▸ hi))
  ·by_cases hcc:c'=c
   ·subst hcc;exact⟨_,eD⟩
   ·obtain⟨w2,z2⟩:=I.cell y c' e;exact⟨w2,z2.sameBut hs hcc⟩
  ·obtain⟨e,n,ne,nf,d⟩:=I.pin p hp;refine⟨(hs.2 p.1 ?_).trans e,n,ne,nf,d⟩;intro q;rw[q,hoc]at e;have q':oc=p.2:=dW e;exact d w' (by rw[←q'];exact hocd)
theorem sr{M:Model}{A:aO}{E:ai->am->Prop}{i:Nat}{x:Str}{v:V}{u:ai}{Q:Unit->am->Prop}(I:Inv X ag σ H s)(hN:X.N.Nodup)(hi:X.N[i]?=aa x)(hx:Loc X.env.scope x)(r:RelV v u)(h:∀s',Inv X ag (σ.set i (aa v)) H s'->Q () s') (hf:X.fn x=ah\/X.env.scope.names.lookup x=aa .local:=by first|exact .inl rfl|exact .inr rfl|assumption):aq M A (storeName X.env x u) Q E s :=Dr I hN hi hx r (λs' I' _=>h s' I') hf
theorem Inv.call'{s':am}{ch:List af}(I:Inv X ag σ H s)(ho:s'.os=s.os)(u:Un (eF X.stack) ch H H' s.heap s'.heap)(hok:cI X.prog X.w H' s'.heap)(hg:lQ s'.gens)(lc:∀b∈ch,(b∈X.ex\/X.s₀.heap.objs.size<=b)/\b≠X.env.locals/\(∀x c,X.env.cells.lookup x=aa c->c≠b)/\∀p∈X.pn++ag,p.1≠b):Inv X ag σ H' s':=by obtain⟨h',g',d',t',o'⟩:=s';have e:o'=s.os:=ho;subst e;exact I.call (g':=g') (t':=t') (d':=d') u hok hg lc
end
abbrev XK:=ai->Option af->Hp->Prop
abbrev St:=List (Option V)
abbrev VK:=V->Hp->Prop
abbrev TE:=St->Hp->VK->Prop
abbrev TT:=St->Hp->(Bool->Hp->Prop)->Prop
abbrev TA:=St->Hp->(List V->Hp->Prop)->Prop
structure jQ where
 nx:St->Hp->Prop
 rt:VK
 bk:St->Hp->Prop:=λ_ _=>False
 ct:St->Hp->Prop:=λ_ _=>False
abbrev TS:=jQ->St->Hp->Prop
def EP(X:Cx)(ag:List (af×Obj))(σ:St)(Q:VK)(u:ai)(s':am):Prop:=∃v H',Inv X ag σ H' s'/\RelV v u/\Q v H'
def TP(X:Cx)(ag:List (af×Obj))(σ:St)(Q:Bool->Hp->Prop)(b:Bool)(s':am):Prop:=∃H',Inv X ag σ H' s'/\Q b H'
def AP(X:Cx)(ag:List (af×Obj))(σ:St)(Q:List V->Hp->Prop)(us:List ai)(s':am):Prop:=∃vs H',Inv X ag σ H' s'/\bn vs us/\Q vs H'
def SP(X:Cx)(ag:List (af×Obj))(D:jQ)(f:Flow)(s':am):Prop :=
 match f with
 |.next=>∃σ' H',Inv X ag σ' H' s'/\D.nx σ' H'
 |.brk=>∃σ' H',Inv X ag σ' H' s'/\D.bk σ' H'
 |.cont=>∃σ' H',Inv X ag σ' H' s'/\D.ct σ' H'
 |.ret u=>∃v σ' H',Inv X ag σ' H' s'/\RelV v u/\D.rt v H'
def PE(X:Cx)(e:aB)(t:TE):Prop :=
 ∀(ag:List (af×Obj)) (s:am) (σ:St) (H:Hp) (Q:VK),Inv X ag σ H s->t σ H Q->aq (au X.prog X.w) X.A (aT e X.env) (EP X ag σ Q) X.xe s
def PT(X:Cx)(e:aB)(t:TT):Prop :=
 ∀(ag:List (af×Obj)) (s:am) (σ:St) (H:Hp) (Q:Bool->Hp->Prop),Inv X ag σ H s->t σ H Q->aq (au X.prog X.w) X.A (lR e X.env (aT e X.env)) (TP X ag σ Q) X.xe s
def PW(X:Cx)(e:aB)(t:TT):Prop :=
 ∀(gC:Sem ai) (ag:List (af×Obj)) (s:am) (σ:St) (H:Hp) (Q:Bool->Hp->Prop),Inv X ag σ H s->t σ H Q->aq (au X.prog X.w) X.A (lR e X.env gC) (TP X ag σ Q) X.xe s
def PA(X:Cx)(es:List aB)(t:TA):Prop :=
 ∀(pos:Pos) (ag:List (af×Obj)) (s:am) (σ:St) (H:Hp) (Q:List V->Hp->Prop),Inv X ag σ H s->t σ H Q->aq (au X.prog X.w) X.A (spliced (cL pos (aL es X.env))) (AP X ag σ Q) X.xe s
def PS(X:Cx)(st:a6)(t:TS):Prop :=
 ∀(ag:List (af×Obj)) (s:am) (σ:St) (H:Hp) (D:jQ),Inv X ag σ H s->t D σ H->aq (au X.prog X.w) X.A (exec st X.env) (SP X ag D) X.xe s
def kL(X:Cx)(st:List a6)(t:TS):Prop :=
 ∀(ag:List (af×Obj)) (s:am) (σ:St) (H:Hp) (D:jQ),Inv X ag σ H s->t D σ H->aq (au X.prog X.w) X.A (execs st X.env) (SP X ag D) X.xe s
theorem aV{α:Type}{t:Sem α}{Q Q':α->am->Prop}{M:Model}{A:aO}{E:ai->am->Prop}{s:am}(h:aq M A t Q E s)(hQ:∀a s,Q a s->Q' a s):aq M A t Q' E s:=dY h hQ λ_ _ x=>x
section
variable{X:Cx}
def DY(i:Nat):TE:=λσ H Q=>∃v,σ[i]?=aa (aa v)/\Q v H
def tC(v:V):TE:=λ_ H Q=>Q v H
theorem gP{i:Nat}{x:Str}{pos:Pos}(hN:X.N[i]?=aa x)(hv:fF X.env.scope x)(hd:(x == ("__debug__" : Str))=aj:=by decide)(bS:(x == ("__classdict__" : Str))=aj:=by decide):PE X (.Name x pos) (DY i):=by
 intro ag s σ H Q I h;obtain⟨v,e,h⟩:=h;obtain⟨m,hn,hl⟩:=I.loc;obtain⟨u,r,l⟩:=hl i x v hN e hv;have fin:EP X ag σ Q u s:=⟨v,H,I,r,h⟩
 rcases l with⟨hk,hm⟩|⟨hk,c,hc,wU⟩
 ·exact wpAny_Name (wpAny_loadName_local I.ok.kind hk hn hm fin) hd
 ·rcases hk with hk|hk
  ·exact wpAny_Name (wpAny_loadName_cell I.ok.kind hk hc wU fin) hd
  ·exact wpAny_Name (wpAny_loadName_free I.ok.kind hk hc wU fin bS) hd
theorem M6{i j pos}:PE X (.Constant (.int i) j pos) (tC (.int i)):=λ_ _ _ H _ I h=>wpAny_Constant_int ⟨.int i,H,I.tok _,⟨_,rfl⟩,h⟩
theorem Kx{b j pos}:PE X (.Constant (.bool b) j pos) (tC (.bl b)):=λ_ _ _ H _ I h=>Constant_bool ⟨.bl b,H,I,rfl,h⟩
theorem KM{j pos}:PE X (.Constant .none j pos) (tC .non):=λ_ _ _ H _ I h=>Constant_none ⟨.non,H,I,rfl,h⟩
theorem JI{x j pos}:PE X (.Constant (.str x) j pos) (tC (.str x)):=λ_ _ _ H _ I h=>Calls.Constant_str ⟨.str x,H,I.tok _,⟨_,rfl⟩,h⟩
def Gl(X:Cx)(x:Str):Prop:=X.env.kindOf x=aa .globalImplicit
theorem qm{E:ai->am->Prop}{ag:List (af×Obj)}{s:am}{σ:St}{H:Hp}{x:Str}{u:ai}{pos:Pos}{Q:ai->am->Prop}(I:Inv X ag σ H s)(hg:Gl X x)(hm:X.mg x=aa u)(h:Q u s)(hd:(x == ("__debug__" : Str))=aj:=by decide):aq (au X.prog X.w) X.A (aT (.Name x pos) X.env) Q E s :=Calls.Name_function_global I.ok.kind hg (Calls.loadGlobal_global (by rw[I.ok.glob];exact I.mod.glob.keeps I.bk) hm h) hd
theorem vR{E:ai->am->Prop}{ag:List (af×Obj)}{s:am}{σ:St}{H:Hp}{x:Str}{u:ai}{pos:Pos}{Q:ai->am->Prop}(I:Inv X ag σ H s)(hg:Gl X x)(hm:X.mg x=ae)(hv:eB x=aa u)(h:Q u s)(hn:x≠"__name__":=by decide) (hd:(x == ("__debug__" : Str))=aj:=by decide):aq (au X.prog X.w) X.A (aT (.Name x pos) X.env) Q E s:=by obtain⟨mb,h1,h2⟩:=I.mod.blt;exact Calls.Name_function_global I.ok.kind hg (Calls.loadGlobal_builtin (by rw[I.ok.glob];exact I.mod.glob.keeps I.bk) hm (by rw[I.ok.blt];exact h1.keeps I.bk) ((h2 x hn).trans hv) h) hd
theorem yC{x:Str}{v:V}{u:ai}{pos:Pos}(hg:Gl X x)(hm:X.mg x=aa u)(r:RelV v u)(hd:(x == ("__debug__" : Str))=aj:=by decide):PE X (.Name x pos) (tC v) :=λ_ _ _ H _ I h=>qm I hg hm ⟨v,H,I,r,h⟩ hd
theorem Jo{x:Str}{v:V}{u:ai}{pos:Pos}(hg:Gl X x)(hm:X.mg x=ae)(hv:eB x=aa u)(r:RelV v u)(hn:x≠"__name__":=by decide)(hd:(x == ("__debug__" : Str))=aj:=by decide):PE X (.Name x pos) (tC v) :=λ_ _ _ H _ I h=>vR I hg hm hv ⟨v,H,I,r,h⟩ hn hd
variable{a b:aB}{ta tb:TE}{pos:Pos}
def tB(t:TE):TT:=λσ H Q=>t σ H λx H1=>∃c,x=.bl c/\Q c H1
theorem LM{e:aB}{t:TE}(h:PE X e t)(he:∀gC,lR e X.env gC=(do let v ←gC;standAt e.pos;jX [v] (truthy v)):=by intro _;rfl):PT X e (tB t):=by
 intro ag s σ H Q I hw;refine isTrue_plain (aV (h ag s σ H _ I hw) λv s1 ⟨x,H1,I1,r1,q1⟩=>?_) (he _);obtain⟨d,rfl,q⟩:=q1;cases r1;exact ou ⟨H1,I1,q⟩
variable{tA tB':TT}{rest:List aB}
def GH(t u:TT):TT:=λσ H Q=>t σ H λc H1=>if c=ah then Q ah H1 else u σ H1 Q
def MK(t:TT):TT:=λσ H Q=>t σ H λc H1=>Q (!c) H1
theorem Jx(ha:PT X a tA):PW X (.BoolOp .Or [a] pos) tA:=by
 intro wh ag s σ H Q I h;refine isTrue_or (aV (ha ag s σ H Q I h) λc s1 e=>?_);cases c with
 |false=>exact isTrue_or_nil e
 |true=>exact e
theorem KH(ha:PT X a tA)(hb:PW X (.BoolOp .Or (b::rest) pos) tB'):PW X (.BoolOp .Or (a::b::rest) pos) (GH tA tB'):=by
 intro wh ag s σ H Q I h;refine isTrue_or (aV (ha ag s σ H _ I h) λc s1 ⟨H1,I1,q1⟩=>?_);cases c with
 |true=>exact⟨H1,I1,q1⟩
 |false=>exact hb wh ag s1 σ H1 Q I1 q1
theorem HA(ha:PT X a tA):PT X (.UnaryOp .Not a pos) (MK tA):=by intro ag s σ H Q I h;exact isTrue_not (ha ag s σ H (λc H1=>Q (!c) H1) I h)
def Hs(ta tb:TE):TE:=λσ H Q=>ta σ H λx H1=>∃c,x=.bl c/\if c=ah then tb σ H1 Q else Q (.bl aj) H1
def JY(ta:TE):TE:=λσ H Q=>ta σ H λx H1=>∃c,x=.bl c/\Q (.bl (!c)) H1
theorem ID{op}{t:TE}(h:PE X a t):PE X (.BoolOp op [a] pos) t:=λag s σ H Q I hw=>BoolOp_one (h ag s σ H Q I hw)
theorem FQ(ha:PE X a ta)(hb:PE X (.BoolOp .And (b::rest) pos) tb):PE X (.BoolOp .And (a::b::rest) pos) (Hs ta tb):=by
 intro ag s σ H Q I h;refine BoolOp_and (aV (ha ag s σ H _ I h) λv s1 ⟨x,H1,I1,r1,q1⟩=>?_);obtain⟨c,rfl,q1⟩:=q1;cases r1;refine ou ?_;cases c with
 |true=>exact hb ag s1 σ H1 Q I1 q1
 |false=>exact⟨.bl aj,H1,I1,rfl,q1⟩
theorem Ma(ha:PE X a ta):PE X (.UnaryOp .Not a pos) (JY ta):=by
 intro ag s σ H Q I h;refine UnaryOp_ (aV (ha ag s σ H _ I h) λv s1 ⟨x,H1,I1,r1,q1⟩=>?_);obtain⟨c,rfl,q1⟩:=q1;cases r1;exact not_of (ou ⟨.bl (!c),H1,I1,rfl,q1⟩)
def JC(t:TT)(ta tb:TE):TE:=λσ H Q=>t σ H λc H1=>if c=ah then ta σ H1 Q else tb σ H1 Q
theorem Jq{c:aB}(hc:PT X c tA)(ha:PE X a ta)(hb:PE X b tb):PE X (.IfExp c a b pos) (JC tA ta tb):=by
 intro ag s σ H Q I h;refine wpAny_IfExp (aV (hc ag s σ H _ I h) λd s1 ⟨H1,I1,q1⟩=>?_);cases d with
 |true=>exact ha ag s1 σ H1 Q I1 q1
 |false=>exact hb ag s1 σ H1 Q I1 q1
end
def cc(K:ax)(H:Hp)(a:af)(xs:List V):Prop :=
 Rd H a (.lst xs) \/
  ∃(o:Obj) (its:Array ai) (n:Nat),K.lookup a=aa o/\o.cls=.type "list"/\o.dict=ae/\o.data=.seq its n/\its.size<=ba/\bn xs its.toList
def cB(K:ax)(H:Hp)(a:af)(xs:List V):Prop :=
 Rd H a (.tup xs) \/
  ∃(o:Obj) (its:Array ai) (n:Nat),K.lookup a=aa o/\o.cls=.type "tuple"/\o.data=.seq its n/\its.size<=ba/\bn xs its.toList
def NO:ai->Option V
 |.none=>aa .non
 |.bool b=>aa (.bl b)
 |.int i _=>aa (.int i)
 |.str x _=>aa (.str x)
 |.bytes b _=>aa (.byt b)
 |.float b _=>aa (.flt b)
 |.ref a=>aa (.ref a)
 |.type n=>aa (.ty n)
 |_=>ae
theorem RelV.abs{x:V}{u:ai}(r:RelV x u):NO u=aa x:=by
 cases x with
 |non=>cases r;rfl
 |bl _=>cases r;rfl
 |int _=>obtain⟨t,rfl⟩:=r;rfl
 |str _=>obtain⟨t,rfl⟩:=r;rfl
 |byt _=>obtain⟨t,rfl⟩:=r;rfl
 |flt _=>obtain⟨t,rfl⟩:=r;rfl
 |ref _=>cases r;rfl
 |ty _=>cases r;rfl
theorem RelV.inj{x y:V}{u:ai}(r:RelV x u)(q:RelV y u):x=y:=dW (r.abs.symm.trans q.abs)
theorem bn.inj:∀{xs ys:List V}{us:List ai},bn xs us->bn ys us->xs=ys
 |_,_,_,.nil,.nil=>rfl
 |_,_,_,.cons r t,.cons r' t'=>by rw[r.inj r',bn.inj t t']
section
variable{X:Cx}{ag:List (af×Obj)}{σ:St}{H:Hp}{s:am}{a:af}{xs ys:List V}
theorem cc.of{K:ax}(h:H a=aa (.lst xs)):cc K H a xs:=.inl (.inl h)
theorem cB.of{K:ax}(h:H a=aa (.tup xs)):cB K H a xs:=.inl (.inl h)
theorem Inv.list(I:Inv X ag σ H s)(h:cc X.K H a xs):∃its:List ai,bn xs its/\PlainL s.heap a its.toArray/\xs.length<=ba:=by
 rcases h with h|⟨o,its,n,hk,hc,hd,hs,hz,r⟩
 ·obtain⟨z,its,n,r,e⟩:=h.ok I.hok;exact⟨its,r,⟨_,n,e,rfl,rfl,rfl⟩,z⟩
 ·refine⟨its.toList,r,⟨o,n,I.kIn a o hk,hc,hd,by simpa using hs⟩,?_⟩;have e:=r.length;simp only[g9]at e;lia
theorem Inv.tuple(I:Inv X ag σ H s)(h:cB X.K H a xs):∃its:List ai,bn xs its/\IsTup s.heap a its.toArray/\xs.length<=ba:=by
 rcases h with h|⟨o,its,n,hk,hc,hs,hz,r⟩
 ·obtain⟨z,its,r,p,_⟩:=h.ok I.hok;exact⟨its,r,p,z⟩
 ·refine⟨its.toList,r,⟨o,I.kIn a o hk,hc,n,by simpa using hs⟩,?_⟩;have e:=r.length;simp only[g9]at e;lia
theorem Inv.list_inj(I:Inv X ag σ H s)(h:cc X.K H a xs)(h':cc X.K H a ys):xs=ys:=by
 obtain⟨its,r,⟨o,n,e,_,_,d⟩,_⟩:=I.list h;obtain⟨its',r',⟨o',n',e',_,_,d'⟩,_⟩:=I.list h';rw[e]at e';cases e';rw[d]at d';injection d' with d1 _;have:its=its':=by simpa using congrArg Array.toList d1
 subst this;exact r.inj r'
theorem Inv.tuple_inj(I:Inv X ag σ H s)(h:cB X.K H a xs)(h':cB X.K H a ys):xs=ys:=by
 obtain⟨its,r,⟨o,e,_,n,d⟩,_⟩:=I.tuple h;obtain⟨its',r',⟨o',e',_,n',d'⟩,_⟩:=I.tuple h';rw[e]at e';cases e';rw[d]at d';injection d' with d1 _;have:its=its':=by simpa using congrArg Array.toList d1
 subst this;exact r.inj r'
end
abbrev Cx.wish(X:Cx)(E:ai->am->Prop):Cx:={X with xe:=E}
abbrev Cx.nox(X:Cx):Cx:=X.wish λ_ _=>False
theorem Cx.Ok.wish{X:Cx}(ok:X.Ok)(E:ai->am->Prop):(X.wish E).Ok :=⟨ok.mod,ok.kind,ok.glob,ok.blt,ok.above,ok.inj,ok.has,ok.cab,ok.hd,ok.frames,ok.stk,ok.exf,ok.bs,ok.bsz,ok.noex,ok.exfs,ok.funs,ok.frf,ok.tab⟩
theorem Cx.Ok.unwish{X:Cx}{E:ai->am->Prop}(ok:(X.wish E).Ok):X.Ok :=⟨ok.mod,ok.kind,ok.glob,ok.blt,ok.above,ok.inj,ok.has,ok.cab,ok.hd,ok.frames,ok.stk,ok.exf,ok.bs,ok.bsz,ok.noex,ok.exfs,ok.funs,ok.frf,ok.tab⟩
section
variable{X:Cx}{ag:List (af×Obj)}{σ:St}{H:Hp}{s:am}{E:ai->am->Prop}
theorem Inv.wish(I:Inv X ag σ H s)(E:ai->am->Prop):Inv (X.wish E) ag σ H s:=⟨I.ok.wish E,I.os,I.bare,I.base,I.loc,I.cell,I.free,I.freeC,I.pin,I.hok,I.len⟩
theorem Inv.unwish(I:Inv (X.wish E) ag σ H s):Inv X ag σ H s:=⟨I.ok.unwish,I.os,I.bare,I.base,I.loc,I.cell,I.free,I.freeC,I.pin,I.hok,I.len⟩
theorem SP.unwish{D:jQ}{f:Flow}{s':am}(h:SP (X.wish E) ag D f s'):SP X ag D f s':=by
 cases f with
 |next=>obtain⟨σ',H',I,q⟩:=h;exact⟨σ',H',I.unwish,q⟩
 |brk=>obtain⟨σ',H',I,q⟩:=h;exact⟨σ',H',I.unwish,q⟩
 |cont=>obtain⟨σ',H',I,q⟩:=h;exact⟨σ',H',I.unwish,q⟩
 |ret u=>obtain⟨v,σ',H',I,r,q⟩:=h;exact⟨v,σ',H',I.unwish,r,q⟩
end
section
variable{X:Cx}{st:a6}{rest:List a6}{t u:TS}{e:aB}{te:TE}{pos:Pos}
def IS:TS:=λD σ H=>D.nx σ H
def Hx(t u:TS):TS:=λD σ H=>t {D with nx:=u D} σ H
theorem G9:kL X [] IS:=λ_ _ σ H _ I h=>wpAny_execs_nil ⟨σ,H,I,h⟩
theorem F6(h1:PS X st t)(h2:kL X rest u):kL X (st::rest) (Hx t u):=by
 intro ag s σ H D I h;refine Ew (aV (h1 ag s σ H {D with nx:=u D} I h) λf s1 q=>?_);cases f with
 |next=>obtain⟨σ',H',I',q⟩:=q;exact h2 ag s1 σ' H' D I' q
 |ret v=>exact q
 |brk=>exact q
 |cont=>exact q
theorem G4(h1:PS X st t):kL X [st] t:=by
 intro ag s σ H D I h;refine Ew (aV (h1 ag s σ H D I h) λf s1 q=>?_);cases f with
 |next=>exact wpAny_execs_nil q
 |ret v=>exact q
 |brk=>exact q
 |cont=>exact q
theorem Inv.quiet{ag:List (af×Obj)}{σ:St}{H:Hp}{s:am}(I:Inv X ag σ H s):interactive X.env=aj:=by simp[interactive,I.ok.kind]
def Kc(te:TE):TS:=λD σ H=>te σ H λ_ H1=>D.nx σ H1
theorem yv(he:PE X e te)(hs:kR e ae pos.line X.env=pure aj:=by rfl):PS X (.Expr e pos) (Kc te):=by intro ag s σ H D I h;exact wpAny_Expr_any (aV (he ag s σ H _ I h) λv s1 ⟨x,H1,I1,r1,q1⟩=>⟨σ,H1,I1,q1⟩) I.quiet hs
def JT(te:TE):TS:=λD σ H=>te σ H D.rt
theorem uP(he:PE X e te):PS X (.Return (aa e) pos) (JT te):=by intro ag s σ H D I h;exact wpAny_Return_some (aV (he ag s σ H _ I h) λv s1 ⟨x,H1,I1,r1,q1⟩=>⟨x,σ,H1,I1,r1,q1⟩)
def LU:TS:=λD _ H=>D.rt .non H
theorem Nn:PS X (.Return ae pos) LU:=λ_ _ σ H _ I h=>wpAny_Return_none ⟨.non,σ,H,I,rfl,h⟩
def Nc(c:TT)(t u:TS):TS:=λD σ H=>c σ H λb H1=>if b=ah then t D σ H1 else u D σ H1
theorem MX{c:aB}{a b:List a6}{tc:TT}(hc:PT X c tc)(ha:kL X a t)(hb:kL X b u):PS X (.If c a b pos) (Nc tc t u):=by
 intro ag s σ H D I h;refine wpAny_If (aV (hc ag s σ H _ I h) λd s1 ⟨H1,I1,q1⟩=>?_);cases d with
 |true=>exact ha ag s1 σ H1 D I1 q1
 |false=>exact hb ag s1 σ H1 D I1 q1
end
abbrev TG:=V->St->Hp->(St->Hp->Prop)->Prop
abbrev n8:=List V->St->Hp->(St->Hp->Prop)->Prop
def PG(X:Cx)(target:aB)(t:TG):Prop :=
 ∀(ag:List (af×Obj)) (s:am) (σ:St) (H:Hp) (v:V) (u:ai) (Q:St->Hp->Prop),Inv X ag σ H s->RelV v u->t v σ H Q ->
  aq (au X.prog X.w) X.A (mQ target X.env u) (λ_ s'=>∃σ' H',Inv X ag σ' H' s'/\Q σ' H') X.xe s
def uM(X:Cx)(ts:List aB)(t:n8):Prop :=
 ∀(ag:List (af×Obj)) (s:am) (σ:St) (H:Hp) (vs:List V) (us:List ai) (Q:St->Hp->Prop),Inv X ag σ H s->bn vs us->t vs σ H Q ->
  aq (au X.prog X.w) X.A (assignInOrder ((qp ts X.env).map (·.2)) us) (λ_ s'=>∃σ' H',Inv X ag σ' H' s'/\Q σ' H') X.xe s
abbrev yN:=V->V->V->Hp->(Hp->Prop)->Prop
def De(X:Cx)(t:yN):Prop :=
 ∀(ag:List (af×Obj)) (s:am) (σ:St) (H:Hp) (o i v:V) (ov iv u:ai) (Q:Hp->Prop),Inv X ag σ H s->RelV o ov->RelV i iv->RelV v u->t o i v H Q ->
  aq (au X.prog X.w) X.A (setItem ov iv u) (λ_ s'=>∃H',Inv X ag σ H' s'/\Q H') X.xe s
section
variable{X:Cx}{pos:Pos}
def A6(i:Nat):TG:=λv σ H Q=>Q (σ.set i (aa v)) H
theorem zx{i:Nat}{x:Str}(hN:X.N.Nodup)(hi:X.N[i]?=aa x)(hx:Loc X.env.scope x)(hf:X.fn x=ah\/X.env.scope.names.lookup x=aa .local:=by first|exact .inl rfl|exact .inr rfl|assumption):PG X (.Name x pos) (A6 i):=by intro ag s σ H v u Q I r h;exact Ex (sr I hN hi hx r (λs' I'=>⟨_,H,I',h⟩) hf)
def bB:n8:=λvs σ H Q=>vs=[]/\Q σ H
def JS(t:TG)(u:n8):n8:=λvs σ H Q=>∃v r,vs=v::r/\t v σ H λσ' H'=>u r σ' H' Q
theorem Lq:uM X [] bB:=by
 intro ag s σ H vs us Q I r h;obtain⟨e,h⟩:=h;subst e;cases r;exact assignInOrder_nil ⟨σ,H,I,h⟩
theorem Eg{e:aB}{es:List aB}{t:TG}{u:n8}(h1:PG X e t)(h2:uM X es u)(hs:(qp (e::es) X.env).map (·.2)=mQ e X.env::(qp es X.env).map (·.2):=by rfl):uM X (e::es) (JS t u):=by
 intro ag s σ H vs us Q I r h;obtain⟨v,vr,e1,h⟩:=h;subst e1;cases r with
 |cons r rr=>rw[hs];refine assignInOrder_cons (aV (h1 ag s σ H _ _ _ I r h) λ_ s1 ⟨σ1,H1,I1,q1⟩=>?_);exact h2 ag s1 σ1 H1 _ _ Q I1 rr q1
def Lu(K:ax)(n:Nat)(t:n8):TG:=λv σ H Q=>∃a xs,v=.ref a/\cB K H a xs/\xs.length=n/\t xs σ H Q
theorem Lz{es:List aB}{k:Nat}{t:n8}{n:Nat}(hc:X.calm=ah)(h:uM X es t)(hn:(qp es X.env).length=n:=by rfl) (dE:(qp es X.env).findIdx? (·.1)=ae:=by rfl):PG X (.Tuple es k pos) (Lu X.K n t):=by
 intro ag s σ H v u Q I r hw;obtain⟨a,xs,e1,hq,hl,hw⟩:=hw;subst e1;cases r;obtain⟨its,rv,ht,hz⟩:=I.tuple hq;refine assign_Tuple_tuple (I.ok.hd hc) ht (by simp[hn,←hl,rv.length]) dE λh' hx=>?_;have I1:Inv X ag σ H {s with heap:=h'}:=I.kept (t':=s.toks) λb o e=>hx b o (cR (bu e)) e;exact h ag _ σ H xs _ Q I1 (by simpa using rv) hw
def Mo(to ti:TE)(t:yN):TG:=λv σ H Q=>to σ H λo H1=>ti σ H1 λi H2=>t o i v H2 λH3=>Q σ H3
theorem Fv{o i:aB}{to ti:TE}{t:yN}(ho:PE X o to)(hi:PE X i ti)(hs:De X t)(ha:∀v,mQ (.Subscript o i pos) X.env v=(do
   let ov ←jX [v] (aT o X.env)
   let iv ←jX [v,ov] (aT i X.env)
   standAt pos
   jX [v,ov,iv] (setItem ov iv v)
   release [v,ov,iv] []):=by intro _;rfl):PG X (.Subscript o i pos) (Mo to ti t):=by
 intro ag s σ H v u Q I r h;rw[ha];refine ap (iw (aV (ho ag s σ H _ I h) λov s1 ⟨x,H1,I1,r1,q1⟩=>?_));refine ap (iw (aV (hi ag s1 σ H1 _ I1 q1) λiv s2 ⟨y,H2,I2,r2,q2⟩=>?_));refine ap (wpAny_standAt (ap (iw (aV (hs ag s2 σ H2 x y v ov iv u _ I2 r1 r2 r q2) λ_ s3 ⟨H3,I3,q3⟩=>?_))));exact wpAny_release ⟨σ,H3,I3,q3⟩
def Br(te:TE)(g:TG):TS:=λD σ H=>te σ H λx H1=>g x σ H1 D.nx
theorem Ce{tg e:aB}{te:TE}{g:TG}(he:PE X e te)(hg:PG X tg g)(hs:swapsWithSole [tg] e pos.line X.env=pure aj:=by rfl)(hw:swappedStores [tg] e X.env=pure ae:=by rfl)(h1:(qp [tg] X.env).map (·.2)=[mQ tg X.env]:=by rfl):PS X (.Assign [tg] e pos) (Br te g):=by intro ag s σ H D I h;refine wpAny_Assign_stores (aV (he ag s σ H _ I h) λv s1 ⟨x,H1,I1,r1,q1⟩=>?_) hs hw;rw[h1];exact aV (hg ag s1 σ H1 x v _ I1 r1 q1) λ_ s2 q=>q
theorem D7{i:Nat}{x:Str}{e:aB}{te:TE}{pos':Pos}(hN:X.N.Nodup)(hi:X.N[i]?=aa x)(hx:Loc X.env.scope x)(he:PE X e te)(hs:kR e (aa (.Name x pos')) pos.line X.env=pure aj:=by rfl)(hf:X.fn x=ah\/X.env.scope.names.lookup x=aa .local:=by first|exact .inl rfl|exact .inr rfl|assumption):PS X (.Assign [.Name x pos'] e pos) (Br te (A6 i)):=by intro ag s σ H D I h;refine wpAny_Assign_Name (aV (he ag s σ H _ I h) λv s1 ⟨y,H1,I1,r1,q1⟩=>?_) hs;exact sr I1 hN hi hx r1 (λs2 I2=>⟨_,H1,I2,q1⟩) hf
end
structure It where
 go:Nat->Hp->Prop
 yld:Nat->Hp->V->Hp->Prop
 stop:Nat->Hp->Prop
def jU(X:Cx)(ag:List (af×Obj))(H:Hp)(b:af):Prop :=
 H b=ae/\b≠X.env.locals/\b∉X.fs/\(b∈X.ex\/X.s₀.heap.objs.size<=b)/\(∀x c,X.env.cells.lookup x=aa c->c≠b)/\∀p∈X.pn++ag,p.1≠b
theorem Inv.fpOk{X:Cx}{ag:List (af×Obj)}{σ:St}{H H':Hp}{s:am}{b:af}(I:Inv X ag σ H s)(hb:s.heap.objs.size<=b)(hn:H' b=ae):jU X ag H' b:=by
 refine⟨hn,qr (fL I.lt hb),I.nofs hb,.inr (cS I.sz hb),λx c e z=>?_,λp hp z=>?_⟩
 ·obtain⟨v,q⟩:=I.cell x c e;exact absurd (fL q.lt (by rw[z];exact hb)) (fc _)
 ·exact absurd (fL (bu (I.pin p hp).1) (by rw[z];exact hb)) (fc _)
structure rV(P:aM)(w:aF)(K:ax)(tg:aB)(J:It)(fp:List af)(it:af)(tn:Nat->aA->Prop):Prop where
 mem:it∈fp
 obj:∀i h,tn i h->∀b∈fp,∃o,h.get? b=aa o/\∀v,o.data≠.cell v
 keep:∀i h h',tn i h->(∀b∈fp,∀o,h.get? b=aa o->h'.get? b=aa o)->tn i h'
 item:∀(X:Cx),X.prog=P->X.w=w->X.K=K->X.calm=ah->∀(i:Nat) (ag:List (af×Obj)) (s:am) (σ:St) (H:Hp) (E:ai->am->Prop),Inv X ag σ H s->(∀b∈fp,jU X ag H b)->tn i s.heap->J.go i H ->
  aq (au P w) X.A (pyNext (.ref it)) (λr s1=>∃u,r=aa u /\ aq (au P w) X.A (zG tg (.ref it) u) (λ_ s2=>∃x H',Inv X ag σ H' s2/\RelV x u/\J.yld i H x H'/\tn (i+1) s2.heap/\∀b∈fp,H' b=ae) E s1) E s
 done:∀(X:Cx),X.prog=P->X.w=w->X.K=K->X.calm=ah->∀(i:Nat) (ag:List (af×Obj)) (s:am) (σ:St) (H:Hp) (E:ai->am->Prop),Inv X ag σ H s->(∀b∈fp,jU X ag H b)->tn i s.heap->J.stop i H ->
  aq (au P w) X.A (pyNext (.ref it)) (λr s1=>r=ae/\Inv X ag σ H s1) E s
 self:∀(A:aO) (i:Nat) (s:am) (Q:ai->am->Prop) (E:ai->am->Prop),tn i s.heap->Q (.ref it) s->aq (au P w) A (mR (.ref it)) Q E s
abbrev TI:=St->Hp->(It->Hp->Prop)->Prop
def uH(X:Cx)(ag:List (af×Obj))(σ:St)(tg:aB)(R:It->Hp->Prop)(itv:ai)(s2:am):Prop :=
 ∃(it:af) (fp:List af) (tn:Nat->aA->Prop) (J:It) (H':Hp),itv=.ref it/\Inv X ag σ H' s2/\rV X.prog X.w X.K tg J fp it tn/\tn 0 s2.heap/\(∀b∈fp,jU X ag H' b)/\R J H'
def PI(X:Cx)(tg iter:aB)(wi:TI):Prop :=
 ∀(ag:List (af×Obj)) (s:am) (σ:St) (H:Hp) (R:It->Hp->Prop),Inv X ag σ H s->wi σ H R ->
  aq (au X.prog X.w) X.A (aT iter X.env) (λv s1=>aq (au X.prog X.w) X.A (mR v) (uH X ag σ tg R) X.xe s1) X.xe s
theorem uD{M:Model}{A:aO}{E:ai->am->Prop}{s:am}{tg:aB}{it:af}{u:ai}{o:Obj}{n:String}{vs:Array ai}{Q:Unit->am->Prop}(ho:s.heap.get? it=aa o)(hc:o.cls=.type n)(hd:o.data=.fields vs)(hn:["enumerate","zip","dict_itemiterator","dict_reverseitemiterator","odict_iterator","itertools.zip_longest","itertools.pairwise"].contains n=aj) (hQ:Q () s):aq M A (zG tg (.ref it) u) Q E s:=by
 unfold zG;cases tg <;> first
  |exact aD hQ
  | (cases u <;> first
    |exact aD hQ
    | (refine ap (wpAny_load ho ?_)
       rw[hc,hd];show aq M A (if(["enumerate","zip","dict_itemiterator","dict_reverseitemiterator","odict_iterator","itertools.zip_longest","itertools.pairwise"].contains n&&vs[0]? == aa (dZ _))=ah then _ else _) Q E s;rw[if_neg (by intro h;rw[hn,Bool.false_and]at h;cases h)];exact aD hQ))
def xy(K:ax)(a:af):It :=⟨λi H=>∃xs x,cc K H a xs/\xs[i]?=aa x,λi H x H'=>H'=H/\∀xs,cc K H a xs->xs[i]?=aa x,λi H=>∃xs,cc K H a xs/\xs.length<=i⟩
def yK(K:ax)(a:af):It :=⟨λi H=>∃xs x,cB K H a xs/\xs[i]?=aa x,λi H x H'=>H'=H/\∀xs,cB K H a xs->xs[i]?=aa x,λi H=>∃xs,cB K H a xs/\xs.length<=i⟩
def vh(lo:Int)(n:Nat):It:=⟨λi _=>i<n,λi H x H'=>H'=H/\x=.int (lo+i),λi _=>n<=i⟩
theorem J4{P:aM}{w:aF}{K:ax}{tg:aB}(a it:af):rV P w K tg (xy K a) [it] it (λi h=>h.IsListIter it a i) where
 mem:=by simp
 obj:=λi h st b hb=>by
  have e:b=it:=by simpa using hb
  subst e;obtain⟨o,e,c,d⟩:=st;exact⟨o,e,λv z=>by rw[d]at z;cases z⟩
 keep:=λi h h' st k=>st.at λo e=>k it (by simp) o e
 item:=by intro X hP hw hK hc i ag s σ H E I hf st hg;subst hP hw hK;obtain⟨xs,x,hq,hx⟩:=hg;obtain⟨its,rv,p,hz⟩:=I.list hq;obtain⟨u,hu,ru⟩:=rv.get hx;obtain⟨f0,f1,f2,f3,f4,f5⟩:=hf it (by simp);refine wpAny_pyNext_list_item st p.isList (x:=u) (by simpa using hu) λh' ay sb=>?_;have I1:Inv X ag σ H {s with heap:=h'}:=I.turned (t':=s.toks) (λb o hb e=>(sb.2 b hb).trans e) f0 f1 f3 f4 f5;obtain⟨o,e,c,d⟩:=id ay;exact⟨u,rfl,uD (s:={s with heap:=h'}) e c d (by decide) ⟨x,H,I1,ru,⟨rfl,λys hy=>by rw[I.list_inj hy hq];exact hx⟩,ay,λb hb=>(hf b hb).1⟩⟩
 done:=by intro X hP hw hK hc i ag s σ H E I hf st hg;subst hP hw hK;obtain⟨xs,hq,hx⟩:=hg;obtain⟨its,rv,p,hz⟩:=I.list hq;obtain⟨f0,f1,f2,f3,f4,f5⟩:=hf it (by simp);have hl:=rv.length;exact wpAny_pyNext_list_end (I.ok.hd hc) st p.isList (by simp;lia) λh' eb=>⟨rfl,I.turned (t':=s.toks) (λb o hb e=>eb b o hb e) f0 f1 f3 f4 f5⟩
 self:=λ_ _ _ _ _ st h=>wpAny_pyIter_listiter st h
theorem Mf{P:aM}{w:aF}{K:ax}{tg:aB}(a it:af):rV P w K tg (yK K a) [it] it (λi h=>h.IsTupleIter it a i) where
 mem:=by simp
 obj:=λi h st b hb=>by
  have e:b=it:=by simpa using hb
  subst e;obtain⟨o,e,c,d⟩:=st;exact⟨o,e,λv z=>by rw[d]at z;cases z⟩
 keep:=λi h h' st k=>st.at λo e=>k it (by simp) o e
 item:=by intro X hP hw hK hc i ag s σ H E I hf st hg;subst hP hw hK;obtain⟨xs,x,hq,hx⟩:=hg;obtain⟨its,rv,p,hz⟩:=I.tuple hq;obtain⟨u,hu,ru⟩:=rv.get hx;obtain⟨f0,f1,f2,f3,f4,f5⟩:=hf it (by simp);refine wpAny_pyNext_tuple_item st (show s.heap.IsTuple a its.toArray from p) (x:=u) (by simpa using hu) λh' ay sb=>?_;have I1:Inv X ag σ H {s with heap:=h'}:=I.turned (t':=s.toks) (λb o hb e=>(sb.2 b hb).trans e) f0 f1 f3 f4 f5;obtain⟨o,e,c,d⟩:=id ay;exact⟨u,rfl,uD (s:={s with heap:=h'}) e c d (by decide) ⟨x,H,I1,ru,⟨rfl,λys hy=>by rw[I.tuple_inj hy hq];exact hx⟩,ay,λb hb=>(hf b hb).1⟩⟩
 done:=by intro X hP hw hK hc i ag s σ H E I hf st hg;subst hP hw hK;obtain⟨xs,hq,hx⟩:=hg;obtain⟨its,rv,p,hz⟩:=I.tuple hq;obtain⟨f0,f1,f2,f3,f4,f5⟩:=hf it (by simp);have hl:=rv.length;exact wpAny_pyNext_tuple_end (I.ok.hd hc) st (show s.heap.IsTuple a its.toArray from p) (by simp;lia) λh' eb=>⟨rfl,I.turned (t':=s.toks) (λb o hb e=>eb b o hb e) f0 f1 f3 f4 f5⟩
 self:=λ_ _ _ _ _ st h=>wpAny_pyIter_tupleiter st h
theorem Ji{P:aM}{w:aF}{K:ax}{tg:aB}(it:af)(lo:Int)(n:Nat):rV P w K tg (vh lo n) [it] it (λi h=>IsRangeIter h it (lo+(i:Nat)*1) ((n:Int)-(i:Nat)) 1) where
 mem:=by simp
 obj:=λi h st b hb=>by
  have e:b=it:=by simpa using hb
  subst e;exact⟨_,st,λv z=>by
   have z':Data.fields _=Data.cell v:=z;cases z'⟩
 keep:=λi h h' st k=>k it (by simp) _ st
 item:=by intro X hP hw hK hc i ag s σ H E I hf st hg;subst hP hw hK;obtain⟨f0,f1,f2,f3,f4,f5⟩:=hf it (by simp);have W:=Walks.range (prog:=X.prog) (w:=X.w) (I.ok.hd hc) it lo 1 n;refine W.item i s _ _ hg st λv h' tk hv ay kk=>?_;obtain⟨t,rfl⟩:=hv;have I1:Inv X ag σ H {s with heap:=h',toks:=tk}:=I.turned (λb o hb e=>kk b o (by simpa using hb) e) f0 f1 f3 f4 f5;refine⟨_,rfl,uD (s:={s with heap:=h',toks:=tk}) (n:="range_iterator") ay rfl rfl (by decide) ⟨.int (lo+i),H,I1,⟨t,?_⟩,⟨rfl,rfl⟩,ay,λb hb=>(hf b hb).1⟩⟩;rw[Int.mul_one]
 done:=by intro X hP hw hK hc i ag s σ H E I hf st hg;subst hP hw hK;obtain⟨f0,f1,f2,f3,f4,f5⟩:=hf it (by simp);exact wpAny_pyNext_range_end (I.ok.hd hc) st (by have:n<=i:=hg;lia) λh' eb=>⟨rfl,I.turned (t':=s.toks) (λb o hb e=>eb b o hb e) f0 f1 f3 f4 f5⟩
 self:=λ_ _ _ _ _ st h=>wpAny_pyIter_rangeiter st h
section
variable{X:Cx}{tg:aB}
theorem F7{ag:List (af×Obj)}{σ:St}{H:Hp}{s:am}{R:It->Hp->Prop}{E:ai->am->Prop}{lo hi:Int}{t u v:Tok}{tk:Nat}(I:Inv X ag σ H s)(h1:-(2^62)<=lo)(h2:lo<2^62)(h3:-(2^62)<=hi)(h4:hi<2^62)(q:R (vh lo (hi-lo).toNat) H):aq (au X.prog X.w) X.A (mR (.ref s.heap.objs.size)) (uH X ag σ tg R) E {s with heap:=s.heap.push {cls:=.type "range",data:=.fields #[.int lo t,.int hi u,.int 1 v]},toks:=tk}:=by
 refine wpAny_pyIter_range (IsRange.new ..) (small_one h1 h2 h3 h4) ?_;have I1:Inv X ag σ H {s with heap:=s.heap.push {cls:=.type "range",data:=.fields #[.int lo t,.int hi u,.int 1 v]},toks:=tk}:=I.kept λb o e=>bG _ e;refine⟨(s.heap.push {cls:=.type "range",data:=.fields #[.int lo t,.int hi u,.int 1 v]}).objs.size,[(s.heap.push {cls:=.type "range",data:=.fields #[.int lo t,.int hi u,.int 1 v]}).objs.size],_,_,H,rfl,I1.kept (t':=tk) λb o e=>bG _ e,Ji _ lo (hi-lo).toNat,?_,λb hb=>?_,q⟩
 ·have e1:lo+((0:Nat):Int)*1=lo:=by simp
  have e2:(((hi-lo).toNat:Nat):Int)-((0:Nat):Int)=Builtin.Range.rangeSize lo hi 1:=by rw[rangeSize_one];split <;> lia
  show IsRangeIter _ _ (lo+((0:Nat):Int)*1) ((((hi-lo).toNat:Nat):Int)-((0:Nat):Int)) 1;rw[e1,e2];exact c0 _ rfl
 ·have e:b=(s.heap.push {cls:=.type "range",data:=.fields #[.int lo t,.int hi u,.int 1 v]}).objs.size:=by simpa using hb
  subst e;exact I1.fpOk (a_ _) (I1.hok.fresh (a_ _))
def Gn(ta:TA):TI:=λσ H R=>ta σ H λvs H1=>∃j:Int,vs=[.int j]/\-(2^62)<=j/\j<2^62/\R (vh 0 j.toNat) H1
theorem Nq{a:aB}{ta:TA}{p pos:Pos}(hg:Gl X "range")(hm:X.mg "range" = ae)(ha:PA X [a] ta)(hs:aL [a] X.env=[(aj,aT a X.env)]:=by rfl):PI X tg (.Call (.Name "range" p) [a] [] pos) (Gn ta):=by
 intro ag s σ H R I h;refine Call_ (vR I hg hm boot_range (PyProof.Rows.callWith_type1 (aV (ha pos ag s σ H _ I h) λus s1 ⟨vs,H1,I1,r1,q1⟩=>?_) hs rfl));obtain⟨j,e,q1,q2,q⟩:=q1;subst e;cases r1 with
 |cons r rr=>
  cases rr;obtain⟨t,rfl⟩:=r;exact call_range_1 (F7 I1 ∅ ∅ q1 q2 (by simpa using q))
def LV(wi:TI)(g:TG)(tb:TS):TS:=λD σ H=>wi σ H λJ H1=>∃W:Nat->Nat->St->Hp->Prop,(∃m,W 0 m σ H1)/\∀i m σ H,W i m σ H ->
 (J.stop i H/\D.nx σ H)\/(J.go i H/\∃N:St->Hp->Prop,(∀σ' H',N σ' H'->∃m',m'<m/\W (i+1) m' σ' H')/\∀x H',J.yld i H x H'->g x σ H' λσ2 H2=>tb {D with nx:=N,ct:=N,bk:=D.nx} σ2 H2)
def sA(fp:List af)(h:aA):List (af×Obj):=fp.filterMap λb=>(h.get? b).map λo=>(b,o)
theorem vC{fp:List af}{h:aA}{b:af}{o:Obj}(hb:b∈fp)(e:h.get? b=aa o):(b,o)∈sA fp h:=Ey.mpr ⟨b,hb,by rw[e];rfl⟩
theorem Jr{fp:List af}{h:aA}{p:af×Obj}(hp:p∈sA fp h):p.1∈fp/\h.get? p.1=aa p.2:=by
 obtain⟨b,hb,e⟩:=Ey.mp hp;cases q:h.get? b with
 |none=>rw[q]at e;cases e
 |some o=>rw[q]at e;have e':(b,o)=p:=dW e;subst e';exact⟨hb,q⟩
theorem Inv.pinned{ag:List (af×Obj)}{σ:St}{H:Hp}{s:am}{fp:List af}(I:Inv X ag σ H s)(hf:∀b∈fp,jU X ag H b)(ho:∀b∈fp,∃o,s.heap.get? b=aa o/\∀v,o.data≠.cell v):Inv X (ag++sA fp s.heap) σ H s :=
 I.pins_of λp hp=>(fZ.mp hp).elim (λz=>I.pin p (kT _ z)) λz=>by
  obtain⟨hb,e⟩:=Jr z;obtain⟨f0,f1,f2,_⟩:=hf p.1 hb;obtain⟨o,e',d⟩:=ho p.1 hb;rw[e]at e';cases e';exact⟨e,f0,f1,f2,d⟩
theorem Inv.unpinned{ag pl:List (af×Obj)}{σ:St}{H:Hp}{s:am}(I:Inv X (ag++pl) σ H s):Inv X ag σ H s:=I.pins_of λp hp=>I.pin p (kT _ (zF _ hp))
theorem JR{iter:aB}{body:List a6}{wi:TI}{g:TG}{tb:TS}{pos:Pos}(hp:PassesOwn (au X.prog X.w) X.A X.env X.xe)(hc:X.calm=ah)(hi:PI X tg iter wi)(hg:PG X tg g)(hb:kL X body tb)(hs:∀x,qt iter X.env x=pure x:=by intro _;rfl):PS X (.For tg iter body [] pos) (LV wi g tb):=by
 intro ag s σ H D I h;refine wpAny_For (aV (hi ag s σ H _ I h) λv s1 h1=>aV h1 λitv s2 h2=>?_) hs;obtain⟨it,fp,tn,J,H2,e,I2,T,aZ,f2,W,⟨m0,w0⟩,turn⟩:=h2;subst e;have stat:∀{H':Hp},(∀b∈fp,H' b=ae)->∀b∈fp,jU X ag H' b:=λhn b hb=>⟨hn b hb,(f2 b hb).2⟩
 refine codeAny_forLoop_any (λn s'=>∃i σ' H',Inv X ag σ' H' s'/\tn i s'.heap/\(∀b∈fp,H' b=ae)/\W i n σ' H') ?_ m0 ⟨0,σ,H2,I2,aZ,λb hb=>(f2 b hb).1,w0⟩;rintro n s3 ⟨i,σ3,H3,I3,bq,fr3,w3⟩;rcases turn i n σ3 H3 w3 with⟨stop,qn⟩|⟨go,N,hN,step⟩
 ·refine wl hp (aV (T.done X rfl rfl rfl hc i ag s3 σ3 H3 X.xe I3 (stat fr3) bq stop) λr s4 ⟨hr,I4⟩=>?_);subst hr;exact wpAny_execs_nil ⟨σ3,H3,I4,qn⟩
 ·refine wl hp (aV (T.item X rfl rfl rfl hc i ag s3 σ3 H3 X.xe I3 (stat fr3) bq go) λr s4 ⟨u,hr,h4⟩=>?_);subst hr;refine wl hp (aV h4 λ_ s5 ⟨x,H5,I5,r5,y5,bY,fr5⟩=>?_);have I5':=I5.pinned (stat fr5) (T.obj _ _ bY);refine wl hp (aV (hg _ s5 σ3 H5 x u _ I5' r5 (step x H5 y5)) λ_ s6 ⟨σ6,H6,I6,q6⟩=>?_);refine wl hp (aV (hb _ s6 σ6 H6 _ I6 q6) λf s7 q7=>?_);have again:∀{σ7:St}{H7:Hp},Inv X (ag++sA fp s5.heap) σ7 H7 s7->N σ7 H7->∃m,m<n/\∃i σ' H',Inv X ag σ' H' s7/\tn i s7.heap/\(∀b∈fp,H' b=ae)/\W i m σ' H':=λ{σ7 H7} I7 n7=>by obtain⟨m',hm,w7⟩:=hN σ7 H7 n7;refine⟨m',hm,i+1,σ7,H7,I7.unpinned,T.keep _ _ _ bY λb hb o e=>(I7.pin (b,o) (kT _ (kT _ (vC hb e)))).1,λb hb=>?_,w7⟩;obtain⟨o,e,d⟩:=T.obj _ _ bY b hb;exact(I7.pin (b,o) (kT _ (kT _ (vC hb e)))).2.1
  cases f with
  |next=>obtain⟨σ7,H7,I7,n7⟩:=q7;exact again I7 n7
  |cont=>obtain⟨σ7,H7,I7,n7⟩:=q7;exact again I7 n7
  |brk=>obtain⟨σ7,H7,I7,q7⟩:=q7;exact⟨σ7,H7,I7.unpinned,q7⟩
  |ret v=>obtain⟨x7,σ7,H7,I7,r7,q7⟩:=q7;exact⟨x7,σ7,H7,I7.unpinned,r7,q7⟩
end
abbrev R2:=V->V->Hp->VK->Prop
def bT(X:Cx)(f:ai->ai->Sem ai)(r:R2):Prop :=
 ∀(ag:List (af×Obj)) (s:am) (σ:St) (H:Hp) (x y:V) (v u:ai) (Q:VK),Inv X ag σ H s->RelV x v->RelV y u->r x y H Q ->
  aq (au X.prog X.w) X.A (f v u) (EP X ag σ Q) X.xe s
def wf(X:Cx)(f:ai->Sem ai)(r:V->Hp->VK->Prop):Prop :=
 ∀(ag:List (af×Obj)) (s:am) (σ:St) (H:Hp) (x:V) (v:ai) (Q:VK),Inv X ag σ H s->RelV x v->r x H Q ->
  aq (au X.prog X.w) X.A (f v) (EP X ag σ Q) X.xe s
def eA(X:Cx)(f:ai)(r:List V->Hp->VK->Prop):Prop :=
 ∀(ag:List (af×Obj)) (s:am) (σ:St) (H:Hp) (xs:List V) (us:List ai) (Q:VK),Inv X ag σ H s->bn xs us->r xs H Q ->
  aq (au X.prog X.w) X.A (call f us) (EP X ag σ Q) X.xe s
def uJ(r:R2)(ta tb:TE):TE:=λσ H Q=>ta σ H λx H1=>tb σ H1 λy H2=>r x y H2 Q
def LH(r:V->Hp->VK->Prop)(ta:TE):TE:=λσ H Q=>ta σ H λx H1=>r x H1 Q
def rI(C:Int->Int->Prop)(g:Int->Int->V):R2:=λx y H Q=>∃i j,x=.int i/\y=.int j/\C i j/\Q (g i j) H
def ko(g:Int->Int->V):R2:=λx y H Q=>∃i j,x=.int i/\y=.int j/\Q (g i j) H
def rU(g:Int->V):V->Hp->VK->Prop:=λx H Q=>∃i,x=.int i/\Q (g i) H
section
variable{X:Cx}{a b c:aB}{ta tb tc:TE}{pos:Pos}
theorem zc(ha:PE X a ta)(hb:PE X b tb){ag:List (af×Obj)}{s:am}{σ:St}{H:Hp}{R:V->V->Hp->Prop}(I:Inv X ag σ H s)(h:ta σ H λx H1=>tb σ H1 λy H2=>R x y H2) {Q:ai->am->Prop}{f:ai->ai->Sem ai}(hf:∀v u s2 x y H2,Inv X ag σ H2 s2->RelV x v->RelV y u->R x y H2->aq (au X.prog X.w) X.A (f v u) Q X.xe s2):aq (au X.prog X.w) X.A (aT a X.env) (λv s₁=>aq (au X.prog X.w) X.A (aT b X.env) (λu s₂=>aq (au X.prog X.w) X.A (f v u) Q X.xe s₂) X.xe s₁) X.xe s:=by refine aV (ha ag s σ H _ I h) λv s1 ⟨x,H1,I1,r1,q1⟩=>?_;refine aV (hb ag s1 σ H1 _ I1 q1) λu s2 ⟨y,H2,I2,r2,q2⟩=>?_;exact hf v u s2 x y H2 I2 r1 r2 q2
theorem FD{op:Operator}{r:R2}(ho:bT X (iS op) r)(ha:PE X a ta)(hb:PE X b tb):PE X (.BinOp a op b pos) (uJ r ta tb):=by intro ag s σ H Q I h;exact wpAny_BinOp (zc ha hb I h λv u s2 x y H2 I2 rx ry q=>ho ag s2 σ H2 x y v u Q I2 rx ry q)
theorem LY{op:UnaryOp}{r:V->Hp->VK->Prop}(ho:wf X (unaryOp op) r)(ha:PE X a ta):PE X (.UnaryOp op a pos) (LH r ta):=by intro ag s σ H Q I h;exact UnaryOp_ (aV (ha ag s σ H _ I h) λv s1 ⟨x,H1,I1,r1,q1⟩=>ho ag s1 σ H1 x v Q I1 r1 q1)
theorem yL{f:ai->ai->Sem ai}{C:Int->Int->Prop}{g:Int->Int->Int}(rule:∀(i j:Int) (t u:Tok) (s:am) (Q:ai->am->Prop) (E:ai->am->Prop),C i j->Q (.int (g i j) s.toks) {s with toks:=s.toks+1}->aq (au X.prog X.w) X.A (f (.int i t) (.int j u)) Q E s):bT X f (rI C λi j=>.int (g i j)):=by intro ag s σ H x y v u Q I rx ry h;obtain⟨i,j,rfl,rfl,hc,q⟩:=h;obtain⟨t,rfl⟩:=rx;obtain⟨t',rfl⟩:=ry;exact rule i j t t' s _ _ hc ⟨.int (g i j),H,I.tok _,⟨_,rfl⟩,q⟩
theorem CF{f:ai->ai->Sem ai}{g:Int->Int->Int}(rule:∀(i j:Int) (t u:Tok) (s:am) (Q:ai->am->Prop) (E:ai->am->Prop),Q (.int (g i j) s.toks) {s with toks:=s.toks+1}->aq (au X.prog X.w) X.A (f (.int i t) (.int j u)) Q E s):bT X f (ko λi j=>.int (g i j)):=by intro ag s σ H x y v u Q I rx ry h;obtain⟨i,j,rfl,rfl,q⟩:=h;obtain⟨t,rfl⟩:=rx;obtain⟨t',rfl⟩:=ry;exact rule i j t t' s _ _ ⟨.int (g i j),H,I.tok _,⟨_,rfl⟩,q⟩
theorem zB{f:ai->ai->Sem ai}{g:Int->Int->Bool}(rule:∀(i j:Int) (t u:Tok) (s:am) (Q:ai->am->Prop) (E:ai->am->Prop),Q (.bool (g i j)) s->aq (au X.prog X.w) X.A (f (.int i t) (.int j u)) Q E s):bT X f (ko λi j=>.bl (g i j)):=by intro ag s σ H x y v u Q I rx ry h;obtain⟨i,j,rfl,rfl,q⟩:=h;obtain⟨t,rfl⟩:=rx;obtain⟨t',rfl⟩:=ry;exact rule i j t t' s _ _ ⟨.bl (g i j),H,I,rfl,q⟩
def BW(i j:Int):Prop:=0<=j/\j<=1000000/\i.natAbs<2^64
def yH(i j:Int):Prop:=(-(2^64)<i/\i<2^64)\/(-(2^64)<j/\j<2^64)
theorem yH.ok{i j:Int}(h:yH i j):IntMulOk i j:=by
 rcases h with⟨h1,h2⟩|⟨h1,h2⟩
 ·exact .of_left (intBits_le_64 h1 h2)
 ·exact .of_right (intBits_le_64 h1 h2)
theorem Op:bT X (iS .Add) (ko λi j=>.int (i+j)):=CF λ_ _ _ _ _ _ _ q=>add_int q
theorem pc:bT X (iS .Sub) (ko λi j=>.int (i-j)):=CF λ_ _ _ _ _ _ _ q=>sub_int q
theorem Oe:bT X (iS .Mult) (rI yH λi j=>.int (i*j)):=yL λ_ _ _ _ _ _ _ hc q=>mul_int q hc.ok
theorem pi:bT X (iS .Mod) (rI (λ_ j=>0<j) λi j=>.int (i % j)):=yL λi j _ _ _ _ _ hc q=>by have h1:(0:Int)<j:=hc;exact mod_int' ∅ (by rw[Int.fmod_eq_emod_of_nonneg i ∅];exact q)
theorem LZ:bT X (iS .Pow) (rI BW λi j=>.int (i^j.toNat)):=yL λ_ _ _ _ _ _ _ hc q=>pow_int_small hc.1 hc.2.1 hc.2.2 q
theorem Ga{f:ai->Sem ai}{g:Int->Int}(rule:∀(i:Int) (t:Tok) (s:am) (Q:ai->am->Prop) (E:ai->am->Prop),Q (.int (g i) s.toks) {s with toks:=s.toks+1}->aq (au X.prog X.w) X.A (f (.int i t)) Q E s):wf X f (rU λi=>.int (g i)):=by intro ag s σ H x v Q I rx h;obtain⟨i,rfl,q⟩:=h;obtain⟨t,rfl⟩:=rx;exact rule i t s _ _ ⟨.int (g i),H,I.tok _,⟨_,rfl⟩,q⟩
theorem BR:wf X (unaryOp .USub) (rU λi=>.int (-i)):=Ga λ_ _ _ _ _ q=>neg_int q
end
def sm:V->V->Bool
 |.non,.non=>ah|.non,.int _=>ah|.int _,.non=>ah|.non,.bl _=>ah|.bl _,.non=>ah|.non,.str _=>ah|.str _,.non=>ah
 |.int _,.int _=>ah|.bl _,.bl _=>ah|.str _,.str _=>ah|.byt _,.byt _=>ah
 |.int _,.str _=>ah|.str _,.int _=>ah|.bl _,.str _=>ah|.str _,.bl _=>ah
 |_,_=>aj
def CY:R2:=λx y H Q=>sm x y=ah/\Q (.bl (decide (x=y))) H
def B2:R2:=λx y H Q=>sm x y=ah/\Q (.bl (!decide (x=y))) H
theorem CI{i j:Int}:decide (V.int i=V.int j)=(i == j):=by rw[jY];simp
theorem Ca{i j:Bool}:decide (V.bl i=V.bl j)=(i == j):=by rw[jY];simp
theorem Bz{i j:Str}:decide (V.str i=V.str j)=(i == j):=by rw[jY];simp
theorem Em{i j:Array UInt8}:decide (V.byt i=V.byt j)=(i.toList == j.toList):=by
 rw[jY];cases i;cases j;simp
section
variable{X:Cx}{a b c:aB}{ta tb tc:TE}{pos:Pos}
theorem cW{ag:List (af×Obj)}{σ:St}{H:Hp}{s:am}{Q:VK}{k k':Bool}(I:Inv X ag σ H s)(q:Q (.bl k) H)(e:k=k'):EP X ag σ Q (.bool k') s:=by subst e;exact⟨.bl k,H,I,rfl,q⟩
theorem Ol:bT X (eh .Eq) CY:=by
 intro ag s σ H x y v u Q I rx ry h;obtain⟨hs,q⟩:=h;cases x with
 |non=>
  cases rx;cases y with
  |non=>cases ry;exact PySem.EqNone.eq_none_none (cW I q (by simp))
  |bl j=>cases ry;exact PySem.EqNone.eq_none_bool (cW I q (by simp))
  |int j=>obtain⟨t',rfl⟩:=ry;exact PySem.EqNone.eq_none_int (cW I q (by simp))
  |str j=>obtain⟨t',rfl⟩:=ry;exact PySem.EqNone.eq_none_str (cW I q (by simp))
  |_=>exact absurd (show aj=ah from hs) eR
 |bl i=>
  cases rx;cases y with
  |non=>cases ry;exact PySem.EqNone.eq_bool_none (cW I q (by simp))
  |bl j=>cases ry;exact eq_bool (cW I q Ca)
  |str j=>obtain⟨t',rfl⟩:=ry;exact PySem.EqMixed.eq_bool_str (cW I q (by simp))
  |_=>exact absurd (show aj=ah from hs) eR
 |int i=>
  obtain⟨t,rfl⟩:=rx;cases y with
  |non=>cases ry;exact PySem.EqNone.eq_int_none (cW I q (by simp))
  |int j=>obtain⟨t',rfl⟩:=ry;exact eq_int (cW I q CI)
  |str j=>obtain⟨t',rfl⟩:=ry;exact PySem.EqMixed.eq_int_str (cW I q (by simp))
  |_=>exact absurd (show aj=ah from hs) eR
 |str i=>
  obtain⟨t,rfl⟩:=rx;cases y with
  |non=>cases ry;exact PySem.EqNone.eq_str_none (cW I q (by simp))
  |bl j=>cases ry;exact PySem.EqMixed.eq_str_bool (cW I q (by simp))
  |int j=>obtain⟨t',rfl⟩:=ry;exact PySem.EqMixed.eq_str_int (cW I q (by simp))
  |str j=>obtain⟨t',rfl⟩:=ry;exact eq_str (cW I q Bz)
  |_=>exact absurd (show aj=ah from hs) eR
 |byt i=>
  obtain⟨t,rfl⟩:=rx;cases y with
  |byt j=>obtain⟨t',rfl⟩:=ry;exact PySem.W.eq_bytes (cW I q Em)
  |_=>exact absurd (show aj=ah from hs) eR
 |_=>cases y <;> exact absurd (show aj=ah from hs) eR
theorem Ox:bT X (eh .NotEq) B2:=by
 intro ag s σ H x y v u Q I rx ry h;obtain⟨hs,q⟩:=h;cases x with
 |non=>
  cases rx;cases y with
  |non=>cases ry;exact PySem.EqNone.ne_none_none (cW I q (by simp))
  |bl j=>cases ry;exact PySem.EqNone.ne_none_bool (cW I q (by simp))
  |int j=>obtain⟨t',rfl⟩:=ry;exact PySem.EqNone.ne_none_int (cW I q (by simp))
  |str j=>obtain⟨t',rfl⟩:=ry;exact PySem.EqNone.ne_none_str (cW I q (by simp))
  |_=>exact absurd (show aj=ah from hs) eR
 |bl i=>
  cases rx;cases y with
  |non=>cases ry;exact PySem.EqNone.ne_bool_none (cW I q (by simp))
  |bl j=>cases ry;exact ne_bool (cW I q (congrArg not Ca))
  |str j=>obtain⟨t',rfl⟩:=ry;exact PySem.EqMixed.ne_bool_str (cW I q (by simp))
  |_=>exact absurd (show aj=ah from hs) eR
 |int i=>
  obtain⟨t,rfl⟩:=rx;cases y with
  |non=>cases ry;exact PySem.EqNone.ne_int_none (cW I q (by simp))
  |int j=>obtain⟨t',rfl⟩:=ry;exact ne_int (cW I q (congrArg not CI))
  |str j=>obtain⟨t',rfl⟩:=ry;exact PySem.EqMixed.ne_int_str (cW I q (by simp))
  |_=>exact absurd (show aj=ah from hs) eR
 |str i=>
  obtain⟨t,rfl⟩:=rx;cases y with
  |non=>cases ry;exact PySem.EqNone.ne_str_none (cW I q (by simp))
  |bl j=>cases ry;exact PySem.EqMixed.ne_str_bool (cW I q (by simp))
  |int j=>obtain⟨t',rfl⟩:=ry;exact PySem.EqMixed.ne_str_int (cW I q (by simp))
  |str j=>obtain⟨t',rfl⟩:=ry;exact ne_str (cW I q (congrArg not Bz))
  |_=>exact absurd (show aj=ah from hs) eR
 |byt i=>
  obtain⟨t,rfl⟩:=rx;cases y with
  |byt j=>obtain⟨t',rfl⟩:=ry;exact PySem.W.ne_bytes (cW I q (congrArg not Em))
  |_=>exact absurd (show aj=ah from hs) eR
 |_=>cases y <;> exact absurd (show aj=ah from hs) eR
theorem L8:bT X (eh .Lt) (ko λi j=>.bl (decide (i<j))):=zB λ_ _ _ _ _ _ _ q=>lt_int q
theorem kn:bT X (eh .LtE) (ko λi j=>.bl (decide (i<=j))):=zB λ_ _ _ _ _ _ _ q=>le_int q
theorem B6:bT X (eh .Gt) (ko λi j=>.bl (decide (j<i))):=zB λ_ _ _ _ _ _ _ q=>gt_int q
theorem Oh:bT X (eh .In) (λx y H Q=>∃i j,x=.str i/\y=.str j/\Q (.bl (!(Ez j i 0 j.length 1).isEmpty)) H):=by intro ag s σ H x y v u Q I rx ry h;obtain⟨i,j,rfl,rfl,q⟩:=h;obtain⟨t,rfl⟩:=rx;obtain⟨t',rfl⟩:=ry;exact in_str (cW I q rfl)
theorem bT.or{f:ai->ai->Sem ai}{r r':R2}(h:bT X f r)(h':bT X f r'):bT X f (λx y H Q=>r x y H Q\/r' x y H Q):=by
 intro ag s σ H x y v u Q I rx ry q;rcases q with q|q
 ·exact h ag s σ H x y v u Q I rx ry q
 ·exact h' ag s σ H x y v u Q I rx ry q
theorem LF{op:CmpOp}{r:R2}(ho:bT X (eh op) r)(ha:PE X a ta)(hb:PE X b tb)(hm:zH op b=aj):PE X (.Compare a [op] [b] pos) (uJ r ta tb):=by intro ag s σ H Q I h;exact wpAny_Compare1 (zc ha hb I h λv u s2 x y H2 I2 rx ry q=>ho ag s2 σ H2 x y v u Q I2 rx ry q) hm
def Ch(t:TE):TT:=λσ H Q=>t σ H λx H'=>∃k,x=.bl k/\Q k H'
theorem IN{op:CmpOp}{r:R2}(ho:bT X (eh op) r)(ha:PE X a ta)(hb:PE X b tb)(hm:zH op b=aj):PT X (.Compare a [op] [b] pos) (Ch (uJ r ta tb)):=by
 intro ag s σ H Q I h;refine wpAny_isTrue_Compare1 (aV (ha ag s σ H _ I h) λv s1 ⟨x,H1,I1,r1,q1⟩=>aV (hb ag s1 σ H1 _ I1 q1) λu s2 ⟨y,H2,I2,r2,q2⟩=>aV (ho ag s2 σ H2 x y v u _ I2 r1 r2 q2) λc s3 ⟨z,H3,I3,r3,k,e,q3⟩=>?_) hm;subst e;cases r3;exact ou ⟨H3,I3,q3⟩
def xD(r r':R2)(ta tb tc:TE):TE:=λσ H Q=>ta σ H λx H1=>tb σ H1 λy H2=>r x y H2 λz H3=>∃k,z=.bl k /\
 (if k=ah then tc σ H3 λw' H4=>r' y w' H4 Q else Q (.bl aj) H3)
theorem KI{op op':CmpOp}{r r':R2}(ho:bT X (eh op) r)(gb:bT X (eh op') r')(ha:PE X a ta)(hb:PE X b tb)(hc:PE X c tc)(hm:lastMarks [op,op'] [b,c]=aj:=by with_unfolding_all rfl):PE X (.Compare a [op,op'] [b,c] pos) (xD r r' ta tb tc):=by
 intro ag s σ H Q I h;refine Compare_chain (aV (ha ag s σ H _ I h) λv s1 ⟨x,H1,I1,r1,q1⟩=>chain_link (aV (hb ag s1 σ H1 _ I1 q1) λu s2 ⟨y,H2,I2,r2,q2⟩=>aV (ho ag s2 σ H2 x y v u _ I2 r1 r2 q2) λd s3 ⟨z,H3,I3,r3,k,e,q3⟩=>?_)) hm;subst e;cases r3;refine ou ?_;cases k with
 |false=>exact ite_ff ⟨.bl aj,H3,I3,rfl,q3⟩
 |true=>exact ite_tt (chain_last (aV (hc ag s3 σ H3 _ I3 q3) λw' s4 ⟨z',H4,I4,r4,q4⟩=>gb ag s4 σ H4 y z' u w' Q I4 r2 r4 q4))
theorem Le{op op':CmpOp}{r r':R2}(ho:bT X (eh op) r)(gb:bT X (eh op') r')(ha:PE X a ta)(hb:PE X b tb)(hc:PE X c tc)(hm:lastMarks [op,op'] [b,c]=aj:=by with_unfolding_all rfl):PT X (.Compare a [op,op'] [b,c] pos) (Ch (xD r r' ta tb tc)):=by
 intro ag s σ H Q I h;refine isTrue_chain (aV (ha ag s σ H _ I h) λv s1 ⟨x,H1,I1,r1,q1⟩=>test_link (aV (hb ag s1 σ H1 _ I1 q1) λu s2 ⟨y,H2,I2,r2,q2⟩=>aV (ho ag s2 σ H2 x y v u _ I2 r1 r2 q2) λd s3 ⟨z,H3,I3,r3,k,e,q3⟩=>?_)) hm;subst e;cases r3;refine ou ?_;cases k with
 |false=>
  obtain⟨k',e',q'⟩:=q3;cases e';exact ite_ff ⟨H3,I3,q'⟩
 |true=>
  refine ite_tt (test_last (aV (hc ag s3 σ H3 _ I3 q3) λw' s4 ⟨z',H4,I4,r4,q4⟩=>aV (gb ag s4 σ H4 y z' u w' _ I4 r2 r4 q4) λd' s5 ⟨z2,H5,I5,r5,k2,e2,q5⟩=>?_));subst e2;cases r5;exact ou ⟨H5,I5,q5⟩
theorem pL:(ba:Nat)<2^63:=by rw[oy];decide
theorem Ic:bT X (iS .Add) (λx y H Q=>∃i j,x=.str i/\y=.str j/\i.length+j.length<=ba/\Q (.str (i++j)) H):=by intro ag s σ H x y v u Q I rx ry h;obtain⟨i,j,rfl,rfl,hz,q⟩:=h;obtain⟨t,rfl⟩:=rx;obtain⟨t',rfl⟩:=ry;exact add_str (λt' tk=>⟨.str (i++j),H,I.tok _,⟨_,rfl⟩,q⟩) hz
theorem vals1{x:V}{us:List ai}(r:bn [x] us):∃u,us=[u]/\RelV x u:=by
 cases r with
 |cons r1 r2=>cases r2;exact⟨_,rfl,r1⟩
theorem vals2{x y:V}{us:List ai}(r:bn [x,y] us):∃u w',us=[u,w']/\RelV x u/\RelV y w':=by
 cases r with
 |cons r1 r2=>
  cases r2 with
  |cons r3 r4=>cases r4;exact⟨_,_,rfl,r1,r3⟩
def Bw(K:ax)(x:V)(H:Hp)(n:Nat):Prop :=
 match x with
 |.str y=>y.length<=ba/\n=y.length
 |.byt y=>y.size<=ba/\n=y.size
 |.ref p=>(∃xs,cc K H p xs/\n=xs.length)\/∃xs,cB K H p xs/\n=xs.length
 |_=>False
theorem gW:eA X (.builtin "len") (λxs H Q=>∃x n,xs=[x]/\Bw X.K x H n/\Q (.int n) H):=by
 intro ag s σ H xs us Q I r h;obtain⟨x,n,rfl,e,q⟩:=h;obtain⟨u,rfl,rx⟩:=vals1 r;have hl:=pL;have hs:ba=16777216:=oy;cases x with
 |str y=>obtain⟨t,rfl⟩:=rx;obtain⟨hy,e'⟩:y.length<=ba/\n=y.length:=e;subst e';exact len_str ∅ ⟨.int _,H,I.tok _,⟨_,rfl⟩,q⟩
 |byt y=>obtain⟨t,rfl⟩:=rx;obtain⟨hy,e'⟩:y.size<=ba/\n=y.size:=e;subst e';exact PySem.W.len_bytes ∅ ⟨.int _,H,I.tok _,⟨_,rfl⟩,q⟩
 |ref p=>
  cases rx;have e':(∃xs,cc X.K H p xs/\n=xs.length)\/∃xs,cB X.K H p xs/\n=xs.length:=e;rcases e' with⟨xs,hx,e'⟩|⟨xs,hx,e'⟩
  ·subst e';obtain⟨its,r',pl,hz⟩:=I.list hx;have bw:=r'.length;exact Calls.call_len_list pl.isList (by simp only[ce];lia) ⟨.int xs.length,H,I.tok _,⟨_,by simp only[ce];rw[bw]⟩,q⟩
  ·subst e';obtain⟨its,r',pl,hz⟩:=I.tuple hx;have bw:=r'.length;exact len_tuple pl (by simp only[ce];lia) ⟨.int xs.length,H,I.tok _,⟨_,by simp only[ce];rw[bw]⟩,q⟩
 |_=>exact(show False from e).elim
end
structure Eh(h:aA)(x dx C:af)(mA:Str->Option ai):Prop where
 obj:h.get? x=aa (PySem.W.instObj C dx)
 ns:h.Ns1 dx mA
 ne:dx≠x
theorem Lw{h:aA}{dx:af}{mA:Str->Option ai}(n:h.Ns1 dx mA):∃od,h.get? dx=aa od/\∀name,PySem.W.lookIn name od=aa (mA name):=by
 obtain⟨o,es,ep,ho,hd,hk,_,hm⟩:=n;refine⟨o,ho,λname=>?_⟩;have e:=hm name;unfold nsFind findBy at e;rw[←Array.find?_toList]at e;unfold PySem.W.lookIn;rw[hd];dsimp only;split
 ·rename_i y q;rw[q]at e;exact congrArg aa e
 ·rename_i q;rw[q]at e;have a:es.toList.any (·.refKey)=aj:=by rw[EA];intro y hy;obtain⟨z,t,jG⟩:=hk y (Array.mem_toList_iff.mp hy);simp[DictEntry.refKey,jG]
  have a':¬es.toList.any (·.refKey)=ah:=by rw[a];exact eR
  rw[if_neg a'];exact congrArg aa e
theorem Eh.look{h:aA}{x dx C:af}{mA:Str->Option ai}(I:Eh h x dx C mA):∃od,sS h x (PySem.W.instObj C dx) C (aa od)/\∀name,PySem.W.lookIn name od=aa (mA name) :=
 let ⟨od,ho,hl⟩:=Lw I.ns
 ⟨od,⟨I.obj,rfl,rfl,ho⟩,hl⟩
theorem mP.some_of{v:V}{o:Option ai}(r:mP (aa v) o):∃u,o=aa u/\RelV v u:=by
 cases o with
 |none=>exact(show False from r).elim
 |some u=>exact⟨u,rfl,r⟩
section
variable{P:aM}{w:aF}{H H':Hp}{h h':aA}{a C dx:af}{fs fs':List (Str×V)}
theorem JN(hok:cI P w H h)(e:H a=aa (.ins C dx fs)):∃mA,Eh h a dx C mA/\(∀f,mP (fs.lookup f) (mA f))/\PySem.Within mA (fs.map (·.1))/\fs.length<=1000/\H dx=aa (.own a):=by
 obtain⟨d,z,ne,ob,mA,n,r,q⟩:=(show cG P w H h a (.ins C dx fs)from hok a _ e)
 exact⟨mA,⟨ob,n,ne⟩,r,q,z,d⟩
end
structure CU(K:ax)(C:af):Prop where
 pg:PySem.W.plainGet K C je=ah
 hd:PySem.W.hasDictIn K C=ah
 po:PySem.W.plainOver K C=ah
 sa:oz K (.ref C) "__setattr__" = aa (aa (.builtin "object.__setattr__"))
theorem CU.get{K:ax}{C:af}(c:CU K C)(f:Str):PySem.W.plainGet K C f=ah:=c.pg
section
variable{X:Cx}{ag:List (af×Obj)}{σ:St}{H:Hp}{s:am}{A:aO}{E:ai->am->Prop}{Q:ai->am->Prop}{c:ai}{b:Bool}
inductive g8(K:ax)(H:Hp):V->ai->Prop where
 |non:g8 K H .non (.type "NoneType")
 |bl (x:Bool):g8 K H (.bl x) (.type "bool")
 |int (i:Int):g8 K H (.int i) (.type "int")
 |str (x:Str):g8 K H (.str x) (.type "str")
 |flt (x:UInt64):g8 K H (.flt x) (.type "float")
 |lst {a:af}{xs:List V} (e:H a=aa (.lst xs)):g8 K H (.ref a) (.type "list")
 |frz {a:af}{o:Obj}{xs:List V} (e:H a=aa (.frz o (.lst xs))):g8 K H (.ref a) (.type "list")
 |tup {a:af}{xs:List V} (e:H a=aa (.tup xs)):g8 K H (.ref a) (.type "tuple")
 |dK {a:af}{kvs:List (aN×V)} (e:H a=aa (.dK kvs)):g8 K H (.ref a) (.type "dict")
 |dT {a:af}{kvs:List (List aN×V)} (e:H a=aa (.dT kvs)):g8 K H (.ref a) (.type "dict")
 |ins {a C dx:af}{fs:List (Str×V)} (e:H a=aa (.ins C dx fs)) (cl:CU K C) (ha:oz K (.ref C) "__class__" = aa (aa (.builtin "object.__class__")))
   (hn:EB K (.builtin "object.__class__") "__get__" = aa (aa (.builtin "getset_descriptor.__get__"))) (oR:PySem.W.takesIn K (.builtin "object.__class__")=aa ah)
   (hm:wm K C (.type "object")=aa ah):g8 K H (.ref a) (.ref C)
theorem IR{x:V}{u t:ai}(I:Inv X ag σ H s)(rx:RelV x u)(ty:g8 X.K H x t)(e:d4 X.K t c=aa b)(h:∀tk,Q (.bool b) {s with toks:=tk}):aq (au X.prog X.w) A (call (.builtin "isinstance") [u,c]) Q E s:=by
 cases ty with
 |non=>cases (show u=Value.none from rx);exact jZ PySem.W.kitx_none I.kIn True.intro e (λz=>nomatch z) h
 |bl y=>cases (show u=Value.bool y from rx);exact jZ PySem.W.kitx_bool I.kIn True.intro e (λz=>nomatch z) h
 |int i=>obtain⟨t,q⟩:=(show ∃t,u=Value.int i t from rx);cases q;exact jZ PySem.W.kitx_int I.kIn True.intro e (λz=>nomatch z) h
 |str y=>obtain⟨t,q⟩:=(show ∃t,u=Value.str y t from rx);cases q;exact jZ PySem.W.kitx_str I.kIn True.intro e (λz=>nomatch z) h
 |flt y=>obtain⟨t,q⟩:=(show ∃t,u=Value.float y t from rx);cases q;exact jZ PySem.W.kitx_float I.kIn True.intro e (λz=>nomatch z) h
 |@lst a xs ea=>
  cases (show u=Value.ref a from rx);obtain⟨_,_,n,_,h1⟩:=(show cG X.prog X.w H s.heap a (.lst xs)from I.hok a _ ea)
  exact jZ PySem.W.kitx_list I.kIn ⟨_,h1,rfl⟩ e (λz=>nomatch z) h
 |@frz a ob xs ea=>
  cases (show u=Value.ref a from rx);obtain⟨_,_,_,n,_,h1⟩:=(show cG X.prog X.w H s.heap a (.frz ob (.lst xs))from I.hok a _ ea)
  exact jZ PySem.W.kitx_list I.kIn ⟨_,h1,rfl⟩ e (λz=>nomatch z) h
 |@tup a xs ea=>
  cases (show u=Value.ref a from rx);obtain⟨_,_,_,p,_⟩:=(show cG X.prog X.w H s.heap a (.tup xs)from I.hok a _ ea)
  obtain⟨o,h1,h2,_⟩:=p;exact jZ PySem.W.kitx_tuple I.kIn ⟨o,h1,h2⟩ e (λz=>nomatch z) h
 |@dK a kvs ea=>
  cases (show u=Value.ref a from rx);obtain⟨_,_,vs,_,p⟩:=(show cG X.prog X.w H s.heap a (.dK kvs)from I.hok a _ ea)
  obtain⟨o,es,ep,h1,h2,_⟩:=p;exact jZ PySem.W.kitx_dict I.kIn ⟨o,h1,h2.1⟩ e (λz=>nomatch z) h
 |@dT a kvs ea=>
  cases (show u=Value.ref a from rx);obtain⟨_,_,xs,_,o,es,ep,h1,h2,_⟩:=(show cG X.prog X.w H s.heap a (.dT kvs)from I.hok a _ ea)
  exact jZ PySem.W.kitx_dict I.kIn ⟨o,h1,h2.1⟩ e (λz=>nomatch z) h
 |@ins a C dx fs ea cl ha hn oR hm=>
  cases (show u=Value.ref a from rx);obtain⟨mA,O,_⟩:=JN I.hok ea;obtain⟨od,J,_⟩:=O.look;exact jZ (PySem.W.kitx_own (cl.get _) cl.hd ha hn oR hm) I.kIn J e (λz=>nomatch z) h
end
structure eX(k:Nat)(A:aO):Prop where
 hd:A.handled=ae
 dp:A.depth+3*k+5<recursionLimit
 un:A.units+16*k+200<cLine
theorem eX.mono{j k:Nat}{A:aO}(r:eX k A)(h:j<=k):eX j A:=⟨r.hd,by have:=r.dp;lia,by have:=r.un;lia⟩
theorem eX.deeper{k:Nat}{A:aO}(r:eX (k+1) A)(env:Env):eX k (A.deeper env) :=⟨r.hd,by have:=r.dp;show A.depth+1+3*k+5<_;lia,by have:=r.un;show A.units+3+16*k+200<_;lia⟩
theorem eX.depth{k:Nat}{A:aO}(r:eX k A):A.depth<recursionLimit:=by have:=r.dp;lia
theorem eX.units{k:Nat}{A:aO}(r:eX k A):A.units+64<cLine:=by have:=r.un;lia
def IE:TA:=λ_ H Q=>Q [] H
def Io(ta:TE)(tr:TA):TA:=λσ H Q=>ta σ H λx H1=>tr σ H1 λxs H2=>Q (x::xs) H2
section
variable{X:Cx}{e:aB}{es:List aB}{te:TE}{t:TA}{pos:Pos}
theorem jt:PA X [] IE:=λ_ _ _ _ H Q I h=>EC ⟨[],H,I,.nil,h⟩
theorem ij(ha:PE X e te)(hr:PA X es t)(hs:aL (e::es) X.env=(aj,aT e X.env)::aL es X.env:=by rfl):PA X (e::es) (Io te t):=by intro pos ag s σ H Q I h;rw[hs];show aq _ _ (spliced ((aj,aT e X.env)::cL pos (aL es X.env))) _ _ s;refine zI (aV (ha ag s σ H _ I h) λu s1 ⟨x,H1,I1,r1,q1⟩=>?_);exact aV (hr pos ag s1 σ H1 _ I1 q1) λus s2 ⟨xs,H2,I2,r2,q2⟩=>⟨x::xs,H2,I2,.cons r1 r2,q2⟩
def JV(t:TA):TE:=λσ H Q=>t σ H λxs H1=>xs.length<=ba/\∀p,H1 p=ae->Q (.ref p) (upd H1 p (.tup xs))
def Gj(t:TA):TE:=λσ H Q=>t σ H λxs H1=>xs.length<=ba/\∀p,H1 p=ae->Q (.ref p) (upd H1 p (.lst xs))
theorem Hr{x1}(h:PA X es t):PE X (.Tuple es x1 pos) (JV t):=by intro ag s σ H Q I hq;refine wpAny_Tuple_spliced (aV (h pos ag s σ H _ I hq) λus s1 ⟨xs,H1,I1,r,z,q⟩=>⟨by rw[←r.length];exact z,?_⟩);have hf:H1 s1.heap.objs.size=ae:=I1.hok.fresh (a_ _);refine⟨.ref s1.heap.objs.size,upd H1 s1.heap.objs.size (.tup xs),I1.laid (t':=s1.toks) (λb u e=>bG _ e) (a_ _) ?_,rfl,q _ hf⟩;exact⟨z,us,r,⟨⟨_,c0 _ rfl,rfl,_,rfl⟩,_,c0 _ rfl,rfl⟩⟩
theorem MN(h:PA X es t):PE X (.List es pos) (Gj t):=by intro ag s σ H Q I hq;refine wpAny_List_spliced (aV (h pos ag s σ H _ I hq) λus s1 ⟨xs,H1,I1,r,z,q⟩=>⟨by rw[←r.length];exact z,?_⟩);have hf:H1 s1.heap.objs.size=ae:=I1.hok.fresh (a_ _);refine⟨.ref s1.heap.objs.size,upd H1 s1.heap.objs.size (.lst xs),I1.laid (t':=s1.toks) (λb u e=>bG _ e) (a_ _) ?_,rfl,q _ hf⟩;exact⟨z,us,0,r,c0 _ rfl⟩
end
abbrev Sp:=List V->Hp->VK->XK->Prop
abbrev fE:=List Env->Hp->am->XK->ai->am->Prop
structure pJ(P:aM)(w:aF)(K:ax)(mg:Str->Option ai)(base:aA)(A:aO)(outer:List Env)(s:am)(H:Hp):Prop where
 frames:A.frames=aa outer
 mod:Mod K mg base
 bs:∀b o,base.get? b=aa o->s.heap.get? b=aa o/\H b=ae
 bsz:base.objs.size<=s.heap.objs.size
 funs:s.heap.FunFrames base outer
 frf:∀b∈eF outer,H b=ae
 hok:cI P w H s.heap
 bare:lQ s.gens
 tab:uA K H
def CE(outer:List Env)(P:aM)(w:aF)(H:Hp)(s:am)(Q:VK)(u:ai)(s':am):Prop :=
 ∃v H',s'.os=s.os/\lQ s'.gens/\Un (eF outer) [] H H' s.heap s'.heap/\cI P w H' s'.heap/\RelV v u/\Q v H'
def CR(CX:fE)(outer:List Env)(P:aM)(w:aF)(H:Hp)(s:am)(Q:VK)(E:XK)(r:Result)(s':am):Prop :=
 match r with
 |.ok (.ret u)=>CE outer P w H s Q u s'
 |.ok _=>False
 |.error e=>CX outer H s E e s'
structure jM(P:aM)(w:aF)(K:ax)(mg:Str->Option ai)(base:aA)(CX:fE)(k:Nat)(f:af)(fd:f8)(ps:List Str)(sp:Sp):Prop where
 len:∀vs H Q E,sp vs H Q E->vs.length=ps.length
 run:∀(A:aO) (outer:List Env) (s:am) (H:Hp) (args:Args) (us:List ai) (vs:List V) (Q:VK) (E:XK),eX k A->pJ P w K mg base A outer s H->BindsTo s fd args (ps.zip us)->bn vs us->sp vs H Q E ->
  kU (au P w) A (.call (.ref f) args) (CR CX outer P w H s Q E) s
section
variable{X:Cx}{ag:List (af×Obj)}{σ:St}{H:Hp}{s s':am}
theorem Inv.env0(I:Inv X ag σ H s):pJ X.prog X.w X.K X.mg X.base X.A X.stack s H :=⟨I.ok.frames,I.ok.mod,I.bs,cS I.ok.bsz I.sz,I.stack,I.stkFree,I.hok,I.bare,I.tab⟩
theorem Inv.after{Q:VK}{u:ai}(I:Inv X ag σ H s)(h:CE X.stack X.prog X.w H s Q u s'):EP X ag σ Q u s':=by obtain⟨v,H',os,bare,un,hok,r,q⟩:=h;obtain⟨hh,g,d,t,os'⟩:=s';obtain rfl:os'=s.os:=os;exact⟨v,H',I.call (h':=hh) (g':=g) (d':=d) (t':=t) (ch:=[]) un hok bare (λb z=>absurd z (by simp)),r,q⟩
end
def HH(sp:Sp)(dvs:List V)(E:XK)(t:TA):TE:=λσ H Q=>t σ H λvs H1=>sp (vs++dvs) H1 Q E
def Binds(K:ax)(fd:f8)(ps:List Str)(ds:List ai):Prop :=
 ∀(s:am) (us:List ai),K.In s.heap->(us++ds).length=ps.length->BindsTo s fd ⟨us,[]⟩ (ps.zip (us++ds))
theorem Binds.all{K:ax}{fd:f8}{ps:List Str}(h:∀us:List ai,us.length=ps.length->fA fd ⟨us,[]⟩=pure (ps.zip us)):Binds K fd ps []:=λs us _ hl=>by rw[g_]at hl ⊢;exact .of_eq (h us hl)
def pU(CX:fE)(X:Cx)(E:XK):Prop:=∀(ag:List (af×Obj)) (σ:St) (H:Hp) (s:am) (e:ai) (s':am),Inv X ag σ H s->CX X.stack H s E e s'->X.xe e s'
section
variable{X:Cx}{CX:fE}{k:Nat}{f C:af}{fd:f8}{ps:List Str}{sp:Sp}{dvs:List V}{ds:List ai}{E:XK}{x m:Str}{p pos apos:Pos}{e o:aB}{es:List aB}{ta:TE}{t:TA}
theorem NL{ag:List (af×Obj)}{σ:St}{H:Hp}{s:am}{Q:VK}{us:List ai}{vs:List V}(F:jM X.prog X.w X.K X.mg X.base CX k f fd ps sp)(hr:eX k X.A)(hb:Binds X.K fd ps ds)(hd:bn dvs ds)(hx:pU CX X E)(I:Inv X ag σ H s) (r:bn vs us) (h:sp (vs++dvs) H Q E):aq (au X.prog X.w) X.A (call (.ref f) us) (EP X ag σ Q) X.xe s:=by
 have r2:bn (vs++dvs) (us++ds):=r.append hd;have hl:(us++ds).length=ps.length:=by rw[←r2.length];exact F.len _ _ _ _ h
 refine wn (oA (F.run X.A X.stack s H ⟨us,[]⟩ (us++ds) (vs++dvs) Q E hr I.env0 (hb s us I.kIn hl) r2 h) λr s' hq=>?_);cases r with
 |error e=>exact hx ag σ H s e s' I hq
 |ok fl=>
  cases fl with
  |ret u=>exact I.after hq
  |next=>exact f9 hq
  |brk=>exact f9 hq
  |cont=>exact f9 hq
theorem BB(F:jM X.prog X.w X.K X.mg X.base CX k f fd ps sp)(hr:eX k X.A)(hg:Gl X x)(hm:X.mg x=aa (.ref f))(hk:oB X.K (.ref f)=ah)(hb:Binds X.K fd ps ds)(hd:bn dvs ds)(hx:pU CX X E)(ha:PA X (e::es) t) (gE:(x == ("__debug__" : Str))=aj:=by decide) (he:aL (e::es) X.env=(aj,aT e X.env)::aL es X.env:=by rfl) (cT:(cL pos (aL es X.env)).any (·.1)=aj:=by rfl):PE X (.Call (.Name x p) (e::es) [] pos) (HH sp dvs E t):=by intro ag s σ H Q I h;refine wo (qm I hg hm ?_ gE);refine ED (h₀:=X.base) I.ok.mod.kin hk (aV (ha pos ag s σ H _ I h) λus s1 ⟨vs,H1,I1,r,q⟩=>⟨I1.kIn,?_⟩) he cT;exact NL F hr hb hd hx I1 r q
end
structure b_(N P:List Str)(sc:dX):Prop where
 kind:sc.kind=.function
 co:sc.isCoroutine=aj
 gen:sc.isGenerator=aj
 nd:N.Nodup
 pre:N.take P.length=P
 par:∀x∈P,sc.names.lookup x=aa .local\/sc.names.lookup x=aa .cell
 nofree:∀y∈sc.names,y.2≠.free
theorem CZ{kindOf:Str->Option fM}{x:Str}:∀{binds:List (Str×ai)}{m:Str->Option ai},(∀v,(x,v)∉binds)->bindL kindOf binds m x=m x
 |[],_,_=>rfl
 | (n,v)::r,m,h=>by
  unfold bindL;rw[CZ λw hw=>h w (dI _ hw)];split
  ·have:x≠n:=by rintro rfl;exact h v eN
   simp[this]
  ·rfl
theorem En{kindOf:Str->Option fM}{x:Str}:∀{binds:List (Str×ai)}{m:Str->Option ai},(∀v,(x,v)∉binds)->bindC kindOf binds m x=m x
 |[],_,_=>rfl
 | (n,v)::r,m,h=>by
  unfold bindC;rw[En λw hw=>h w (dI _ hw)];split
  ·rfl
  ·have:x≠n:=by rintro rfl;exact h v eN
   simp[this]
theorem Bv{kindOf:Str->Option fM}{x:Str}{v:ai}:∀{P:List Str}{vs:List ai}{i:Nat}{m:Str->Option ai},P.Nodup->P[i]?=aa x->vs[i]?=aa v->kindOf x=aa .local -> bindL kindOf (P.zip vs) m x=aa v
 |[],_,_,_,_,h,_,_=>by simp at h
 |_::_,[],_,_,_,_,h,_=>by simp at h
 |p::P,w::vs,0,m,nd,h1,h2,hk=>by simp at h1 h2;subst h1;subst h2;show bindL kindOf ((p,w)::P.zip vs) m p=_;unfold bindL;rw[CZ λv hv=>(jf.mp nd).1 (wp hv).1,if_pos hk];simp
 |p::P,w::vs,i+1,m,nd,h1,h2,hk=>by show bindL kindOf ((p,w)::P.zip vs) m x=_;unfold bindL;exact Bv (i:=i) (jf.mp nd).2 (by simpa using h1) (by simpa using h2) hk
theorem Ef{kindOf:Str->Option fM}{x:Str}{v:ai}:∀{P:List Str}{vs:List ai}{i:Nat}{m:Str->Option ai},P.Nodup->P[i]?=aa x->vs[i]?=aa v->kindOf x≠aa .local -> bindC kindOf (P.zip vs) m x=aa v
 |[],_,_,_,_,h,_,_=>by simp at h
 |_::_,[],_,_,_,_,h,_=>by simp at h
 |p::P,w::vs,0,m,nd,h1,h2,hk=>by simp at h1 h2;subst h1;subst h2;show bindC kindOf ((p,w)::P.zip vs) m p=_;unfold bindC;rw[En λv hv=>(jf.mp nd).1 (wp hv).1,if_neg hk];simp
 |p::P,w::vs,i+1,m,nd,h1,h2,hk=>by show bindC kindOf ((p,w)::P.zip vs) m x=_;unfold bindC;exact Ef (i:=i) (jf.mp nd).2 (by simpa using h1) (by simpa using h2) hk
def start(N:List Str)(vs:List V):St:=vs.map aa++bV (N.length-vs.length) ae
def ii(CX:fE)(P:aM)(w:aF)(K:ax)(mg:Str->Option ai)(base:aA)(N:List Str)(qual:Str)(scope:dX)(f:af)(cd:ai)(A:aO)(outer:List Env)(s:am)(H:Hp)(E:XK):Cx where
 prog:=P
 w:=w
 K:=K
 mg:=mg
 base:=base
 A:=A.deeper (ix qual scope s.heap.objs.size f cd)
 N:=N
 s₀:=s
 H₀:=H
 env:=ix qual scope s.heap.objs.size f cd
 outer:=outer
 stack:=ix qual scope s.heap.objs.size f cd::outer
 ex:=[]
 calm:=ah
 fn:=λ_=>ah
 pn:=[]
 xe:=λe s'=>aq (au P w) (A.deeper (ix qual scope s.heap.objs.size f cd)) (leaving (ix qual scope s.heap.objs.size f cd) e) (λ_ s''=>CX outer H s E e s'') (λe' s''=>CX outer H s E e' s'') s'
theorem Bo{sc:dX}{n:Nat}{x:Str}(h:sc.names.lookup x=aa .cell):∃c,(eT n sc.names []).lookup x=aa c:=by have q:=EE sc.names n [] (.inl h);exact zJ.mp q
theorem Cq{CX:fE}{P:aM}{w:aF}{K:ax}{mg:Str->Option ai}{base:aA}{N ps:List Str}{qual:Str}{scope:dX}{f:af}{cd:ai}{A:aO}{outer:List Env}{s s1:am}{H:Hp}{E:XK}{us:List ai}{vs:List V}(S:b_ N ps scope) (hd:A.handled=ae) (e0:pJ P w K mg base A outer s H) (hl:vs.length=ps.length) (r:bn vs us)(x:InCallC s s.heap.objs.size (bindL (ix qual scope s.heap.objs.size f cd).kindOf (ps.zip us) λ_=>ae) (eT (s.heap.objs.size+1) scope.names []) (bindC (ix qual scope s.heap.objs.size f cd).kindOf (ps.zip us) λ_=>ae) s1):Inv (ii CX P w K mg base N qual scope f cd A outer s H E) [] (start N vs) H s1:=by
 have cT:ps.length<=N.length:=by have:=congrArg lS S.pre;rw[mS]at this;lia
 obtain⟨h1,tk,rfl,hk⟩:=x.done;have noA:∀b:af,b∉(ii CX P w K mg base N qual scope f cd A outer s H E).ex:=λb z=>absurd (show b∈([]:List af)from z) (by simp);refine⟨⟨e0.mod,S.kind,rfl,rfl,a_ _,λy z c h1 h2=>?_,λy hy=>?_,λy c _ h=>?_,λ_=>hd,Around.frames_deeper e0.frames,.inr ⟨rfl,rfl⟩,λb z=>absurd z (noA b),e0.bs,e0.bsz,λb _ _=>noA b,λb z=>absurd z (noA b),e0.funs,e0.frf,e0.tab⟩,rfl,e0.bare,Un.kept hk,⟨_,x.toInCall.ns,λi y v h1 h2 h3=>?_⟩,λy c h=>⟨_,x.cell y c h⟩,e0.hok.fresh (a_ _),λy c h=>?_,λp hp=>absurd (show p∈([]:List (af×Obj))from hp) (by simp),e0.hok.kept hk,?_⟩
 ·exact name_of_addr x.apart (j0 h1) (j0 h2)
 ·have hy:scope.names.lookup y=aa .cell\/scope.names.lookup y=aa .free:=hy;rcases hy with hy|hy
  ·exact Bo hy
  ·exact absurd rfl (S.nofree _ (j0 hy))
 ·exact jW (x.above y c (j0 h))
 ·have hi:i<vs.length:=by
   unfold start at h2;by_cases hi:i<vs.length
   ·exact hi
   ·rw[mT (by simpa using hi)]at h2;rw[List.getElem?_replicate]at h2;split at h2 <;> cases h2
  have ha:vs[i]?=aa v:=by
   unfold start at h2;rw[gz (by simpa using hi),jC]at h2;cases e:vs[i]? with
   |none=>rw[e]at h2;cases h2
   |some a=>rw[e]at h2;cases h2;rfl
  obtain⟨u,hu,rv⟩:=r.get ha;have hp:ps[i]?=aa y:=by rw[←S.pre,List.getElem?_take_of_lt ∅];exact h1
  have ndP:ps.Nodup:=by rw[←S.pre];exact S.nd.sublist (List.take_sublist _ _)
  refine⟨u,rv,?_⟩;rcases S.par y (mU hp)with k|k
  ·exact .inl ⟨k,Bv ndP hp hu k⟩
  ·obtain⟨c,e⟩:=Bo (n:=s.heap.objs.size+1) k;refine .inr ⟨.inl k,c,e,?_⟩;have q:=x.cell y c e;rw[Ef ndP hp hu (by show scope.names.lookup y≠_;rw[k];decide)]at q;exact q
 ·exact e0.hok.fresh (jW (x.above y c (j0 h)))
 ·unfold start;show _=N.length;rw[et,dw,List.length_replicate];lia
theorem FS{CX:fE}{P:aM}{w:aF}{K:ax}{mg:Str->Option ai}{base:aA}{k:Nat}{f:af}{name qual:Str}{params:Arguments}{body:List a6}{scope:dX}{dV kV doc pm aJ ct oc:ai}{an od:Option af}{osl:Array (Option ai)}{N ps:List Str}{sp:Sp} (lk:K.lookup f=aa ⟨oc,od,.func (hG name qual params body scope dV kV doc pm an aJ ct),osl⟩) (bS:sT K aJ qual=ah) (S:b_ N ps scope)(len:∀vs H Q E,sp vs H Q E->vs.length=ps.length)(gD:∀(A:aO) (outer:List Env) (s:am) (H:Hp) (vs:List V) (Q:VK) (E:XK),eX k (A.deeper (ix qual scope s.heap.objs.size f aJ))->sp vs H Q E -> ∃t,kL (ii CX P w K mg base N qual scope f aJ A outer s H E) body t/\t {nx:=λ_ H'=>Q .non H',rt:=Q} (start N vs) H):jM P w K mg base CX (k+1) f (hG name qual params body scope dV kV doc pm an aJ ct) ps sp:=by
 refine⟨len,λA outer s H args us vs Q E hr e0 hb r gc=>?_⟩;have hl:=len _ _ _ _ gc;have KX:K.In s.heap:=e0.mod.kin.keeps λb o e=>(e0.bs b o e).1;have lim:s.heap.NoLimit:=e0.mod.nolimit.keeps λb o e=>(e0.bs b o e).1;have AE:∀y∈ps.zip us,scope.names.lookup y.1=aa .local\/(scope.names.lookup y.1=aa .cell/\((eT (s.heap.objs.size+1) scope.names []).lookup y.1).isSome=ah):=λ⟨n,v⟩ hy=>by
  rcases S.par n (wp hy).1 with q|q
  ·exact .inl q
  ·exact .inr ⟨q,EE _ _ _ (.inl q)⟩
 refine codeAny_call_function hr.depth (KX _ _ lk) rfl S.co S.gen rfl (PySem.W.codeRec_of KX bS) (hb _ _ _ _ ?_);refine wpAny_newFunctionEnv_cells S.kind AE λenv he s1 x=>?_;subst he;refine⟨lim.keeps x.toInCall.keep,codeAny_func ?_⟩;obtain⟨t,ht,hq⟩:=gD A outer s H vs Q E (hr.deeper _) gc;have I:Inv (ii CX P w K mg base N qual scope f aJ A outer s H E) [] (start N vs) H s1:=Cq S hr.hd e0 hl r x;refine dY (ht [] s1 (start N vs) H _ I hq) (λfl s' hs=>?_) λe s' hs=>hs;have fin:∀{σ':St}{H':Hp}{v:V}{u:ai},Inv (ii CX P w K mg base N qual scope f aJ A outer s H E) [] σ' H' s'->RelV v u->Q v H'->CE outer P w H s Q u s' :=λ{σ' H' v u} J rv q=>⟨v,H',J.os,J.bare,J.base,J.hok,rv,q⟩
 cases fl with
 |ret u=>obtain⟨v,σ',H',J,rv,q⟩:=hs;exact fin J rv q
 |next=>obtain⟨σ',H',J,q⟩:=hs;exact fin (v:=V.non) (u:=Value.none) J rfl q
 |brk=>obtain⟨_,_,_,q⟩:=hs;exact f9 q
 |cont=>obtain⟨_,_,_,q⟩:=hs;exact f9 q
section
variable{X:Cx}{x:Str}{p pos:Pos}{e:aB}{es:List aB}{t:TA}{id T:String}{r:List V->Hp->VK->Prop}
def Dw(r:List V->Hp->VK->Prop)(t:TA):TE:=λσ H Q=>t σ H λvs H1=>r vs H1 Q
theorem oj(hc:eA X (.builtin id) r)(hg:Gl X x)(hm:X.mg x=ae)(hv:eB x=aa (.builtin id))(ha:PA X (e::es) t)(hn:x≠"__name__":=by decide)(gE:(x == ("__debug__" : Str))=aj:=by decide)(he:aL (e::es) X.env=(aj,aT e X.env)::aL es X.env:=by rfl) (cT:(cL pos (aL es X.env)).any (·.1)=aj:=by rfl):PE X (.Call (.Name x p) (e::es) [] pos) (Dw r t):=by intro ag s σ H Q I h;refine wo (vR I hg hm hv ?_ hn gE);exact PyProof.Rows.callWith_builtin1 (aV (ha pos ag s σ H _ I h) λus s1 ⟨vs,H1,I1,r1,q1⟩=>hc ag s1 σ H1 vs us Q I1 r1 q1) he cT
theorem vE(hc:eA X (.type T) r)(hg:Gl X x)(hm:X.mg x=ae)(hv:eB x=aa (.type T))(ha:PA X (e::es) t)(hn:x≠"__name__":=by decide)(gE:(x == ("__debug__" : Str))=aj:=by decide)(he:aL (e::es) X.env=(aj,aT e X.env)::aL es X.env:=by rfl) (cT:(cL pos (aL es X.env)).any (·.1)=aj:=by rfl):PE X (.Call (.Name x p) (e::es) [] pos) (Dw r t):=by intro ag s σ H Q I h;refine wo (vR I hg hm hv ?_ hn gE);exact PyProof.Rows.callWith_type1 (aV (ha pos ag s σ H _ I h) λus s1 ⟨vs,H1,I1,r1,q1⟩=>hc ag s1 σ H1 vs us Q I1 r1 q1) he cT
end
end L2
namespace HT
section
open PySem.SeqAt
open PySem.AutoSeq1 (wpAny_loadPart')
open PySem.MeetsSeq PySem.MeetsSeq2 PySem.MeetsSeq3
end
section
variable{prog:aM}{w:aF}{A:aO}{E:ai->am->Prop}{s:am}
theorem cat_tup{t b:af}{vs ws:List ai}{Q:ai->am->Prop}(ht:IsTup s.heap t vs.toArray)(hb:IsTup s.heap b ws.toArray)(hv:vs≠[])(h1:ws=[]->Q (.ref t) s) (h2:ws≠[]->Q (.ref s.heap.objs.size) {s with heap:=s.heap.push {cls:=.type "tuple",data:=.seq (vs++ws).toArray}})(hsz:vs.length+ws.length<=ba):aq (au prog w) A (iS .Add (.ref t) (.ref b)) Q E s:=by
 obtain⟨⟨cls,dd,data,sl⟩,ho,hc,n,hd⟩:=id ht;obtain⟨⟨cls2,dd2,data2,sl2⟩,jl,oS,n2,nr⟩:=id hb;simp only at hc hd oS nr;subst hc hd oS nr;have e:vs.toArray++ws.toArray=(vs++ws).toArray:=by simp
 by_cases hw:ws=[]
 ·exact concat_meets ⟨_,ho,rfl⟩ ⟨_,jl,rfl⟩ noFill_tuple_add seq_tuple_add PySem.F.slot_tuple_add PySem.F.entry_tuple_add (PySem.F.args_tuple_add_2 _ _)
   (tuple_addW1 t b vs.toArray ws.toArray n n2 dd dd2 sl sl2 (by simpa using hv) (by simp[hw])) ⟨ho,jl,h1 hw⟩
 ·refine concat_meets ⟨_,ho,rfl⟩ ⟨_,jl,rfl⟩ noFill_tuple_add seq_tuple_add PySem.F.slot_tuple_add PySem.F.entry_tuple_add (PySem.F.args_tuple_add_2 _ _)
   (tuple_addW2 t b vs.toArray ws.toArray n n2 dd dd2 sl sl2 (by simpa using hv) (by simpa using hw) (by rw[ce,ce];exact hsz)) ⟨ho,jl,?_⟩
  rw[e];exact h2 hw
def sIx(n d:Nat):Option Int->Nat
 |none=>d
 |some v=>if v<0 then(v+(n:Int)).toNat else min v.toNat n
theorem sIx_nat(n d k:Nat):sIx n d (aa (k:Int))=min k n:=by show(if(k:Int)<0 then((k:Int)+(n:Int)).toNat else min (k:Int).toNat n)=min k n;rw[if_neg ∅,mV]
theorem sIx_le(n d:Nat)(hd:d<=n)(o:Option Int):sIx n d o<=n:=by
 cases o with
 |none=>exact hd
 |some v=>
  show(if v<0 then(v+(n:Int)).toNat else min v.toNat n)<=n;by_cases hv:v<0
  ·rw[if_pos hv];lia
  ·rw[if_neg hv];exact Nat.min_le_right _ _
theorem Bf(v:Int)(n d:Nat):(if v<0 then max (v+(n:Int)) 0 else min v (n:Int))=((sIx n d (aa v):Nat):Int):=by
 show(if v<0 then max (v+(n:Int)) 0 else min v (n:Int))=(((if v<0 then(v+(n:Int)).toNat else min v.toNat n):Nat):Int)
 by_cases hv:v<0
 ·simp only[if_pos hv];lia
 ·simp only[if_neg hv];lia
theorem IA(lo hi:Option Int)(n:Nat):EF lo hi 1 (n:Int)=(((sIx n 0 lo:Nat):Int),((sIx n n hi:Nat):Int)):=by
 have h1:¬((1:Int)<0):=∅
 unfold EF;simp only[h1,if_false];refine Prod.ext ?_ ?_
 ·cases lo with
  |none=>rfl
  |some v=>exact Bf v n 0
 ·cases hi with
  |none=>rfl
  |some v=>exact Bf v n n
theorem K_(i j:Nat):zL (i:Int) (j:Int) 1=j-i:=by
 unfold zL;have h1:(1:Int) > 0:=∅
 simp only[h1,if_true,Int.ediv_one];split <;> lia
theorem D1{v:ai}{o:Option Int}{Q:Option Int->am->Prop}(p:lT v o)(h:Q o s):aq (au prog w) A (Builtin.Slice.slicePartIndex v) Q E s:=by
 cases p with
 |none=>exact slicePart_none h
 |int i t=>exact slicePart_int h
theorem LQ{sl:af}{vl vu:ai}{lo hi:Option Int}{n:Nat}{Q:Int×Int×Nat->am->Prop}(hs:s.heap.IsSliceOf sl vl vu .none)(pl:lT vl lo)(pu:lT vu hi)(h:Q (((sIx n 0 lo:Nat):Int),1,sIx n n hi-sIx n 0 lo) s):aq (au prog w) A (Builtin.Slice.sliceApplied (.ref sl) (pure (n:Int))) Q E s:=by
 obtain⟨os,tO,hcs,hds⟩:=id hs;unfold Builtin.Slice.sliceApplied Builtin.Slice.sliceFields;refine ap (ap (oC tO hds (x:=vl) rfl (ap (oC tO hds (x:=vu) rfl (ap (oC tO hds (x:=.none) rfl (aD ?_)))))));refine ap (slicePart_none ?_);show aq _ _ (if((1:Int) == 0)=ah then _ else _) _ _ s;rw[if_neg (by decide)];refine ap (D1 pl (ap (D1 pu (ap (aD ?_)))));show aq _ _ (match EF lo hi 1 (n:Int)with | (lo,hi)=>pure (lo,(1:Int),zL lo hi 1)) _ _ s;rw[IA lo hi n];show aq _ _ (pure (((sIx n 0 lo:Nat):Int),(1:Int),zL ((sIx n 0 lo:Nat):Int) ((sIx n n hi:Nat):Int) 1)) _ _ s;rw[K_];exact aD h
theorem Kk(xs:Array ai)(i k:Nat):((bX k).filterMap λ(m:Nat)=>xs[((i:Int)+(m:Int)*1).toNat]?).toArray=((xs.toList.drop i).take k).toArray:=by
 have e:(λ(m:Nat)=>xs[((i:Int)+(m:Int)*1).toNat]?)=λm=>xs[i+m]?:=by
  funext m;have:((i:Int)+(m:Int)*1).toNat=i+m:=∅
  rw[this]
 rw[e];have:=pick_run xs i k;rw[List.filterMap_map]at this;have e2:((λx=>xs[x]?) ∘ λx=>i+x)=λm=>xs[i+m]?:=rfl;rw[e2]at this;rw[this]
theorem getItem_tuple_cut{t sl:af}{items:Array ai}{vl vu:ai}{lo hi:Option Int}{Q:ai->am->Prop}(ht:IsTup s.heap t items)(hs:s.heap.IsSliceOf sl vl vu .none)(pl:lT vl lo)(pu:lT vu hi)(hw:¬(sIx items.size 0 lo=0/\sIx items.size items.size hi=items.size))(h:Q (.ref s.heap.objs.size) {s with heap:=s.heap.push {cls:=.type "tuple",data:=.seq ((items.toList.drop (sIx items.size 0 lo)).take (sIx items.size items.size hi-sIx items.size 0 lo)).toArray}})(hsz:items.size<=ba):aq (au prog w) A (oD (.ref t) (.ref sl)) Q E s:=by
 have wV:sizeOk (.seq ((items.toList.drop (sIx items.size 0 lo)).take (sIx items.size items.size hi-sIx items.size 0 lo)).toArray):=by show((items.toList.drop (sIx items.size 0 lo)).take (sIx items.size items.size hi-sIx items.size 0 lo)).toArray.size<=ba;rw[ce,mS,j3,g9];lia
 have hj:sIx items.size items.size hi<=items.size:=sIx_le _ _ (a_ _) hi;obtain⟨os,tO,hcs,hds⟩:=id hs;have hTs:s.TypeIs (.ref sl) "slice":=⟨os,tO,hcs⟩
 unfold oD
 try with_reducible refine iw ?_
 first|refine ap (aD ?_)|skip
 refine ap (wpAny_sequenceKey ht.typeIs (by decide) ?_);refine ap (wpAny_callSpecial?_slot (name:=Str.ofString "__getitem__") ht.typeIs NP (qu NP ht.typeIs entry_tuple_getitem ?_ (args_tuple_getitem _ _)));show aq _ _ (Builtin.Tuple.tupleItemsOf (.ref t) >>= _) _ _ s;refine ap (tupleItemsOf_ ht ?_);refine ap (zM hTs ?_);rw[if_pos (by decide)];refine ap (LQ hs pl pu ?_);have hno:¬((((sIx items.size 0 lo:Nat):Int) == 0&&(1:Int) == 1&&(sIx items.size items.size hi-sIx items.size 0 lo) == items.size)=ah):=by intro q;rw[fB,fB]at q;have q1:((sIx items.size 0 lo:Nat):Int)=0:=eq_of_beq q.1.1;have q2:sIx items.size items.size hi-sIx items.size 0 lo=items.size:=eq_of_beq q.2;exact hw ⟨∅,∅⟩
 show aq _ _ (if(((sIx items.size 0 lo:Nat):Int) == 0&&(1:Int) == 1&&(sIx items.size items.size hi-sIx items.size 0 lo) == items.size)=ah then _ else _) _ _ s;rw[if_neg hno,Kk]
 first
  |exact ap (m:=zN _) (lU (aD ⟨_,rfl,aD h⟩) wV)
  |exact ap (m:=zN _) (lU (ap (aD (aD ⟨_,rfl,aD h⟩))) wV)
  |exact ap (ap (m:=zN _) (lU (aD (aD ⟨_,rfl,aD h⟩)) wV))
  |exact ap (ap (m:=zN _) (lU (aD ⟨_,rfl,aD h⟩) wV))
end
end HT
namespace L2
abbrev TO:=St->Hp->(Option Int->Hp->Prop)->Prop
def PO(X:Cx)(e:Option aB)(t:TO):Prop :=
 ∀(ag:List (af×Obj)) (s:am) (σ:St) (H:Hp) (Q:Option Int->Hp->Prop),Inv X ag σ H s->t σ H Q ->
  aq (au X.prog X.w) X.A (evalPart e X.env) (λu s'=>∃o H',Inv X ag σ H' s'/\lT u o/\Q o H') X.xe s
def Mg:TO:=λ_ H Q=>Q ae H
def HR(t:TE):TO:=λσ H Q=>t σ H λx H1=>∃i,x=.int i/\Q (aa i) H1
section
variable{X:Cx}{e:aB}{te:TE}{lo hi:Option aB}{tl th:TO}{pos p2:Pos}
theorem Jc:PO X ae Mg:=by intro ag s σ H Q I h;rw[evalPart_none];exact aD ⟨ae,H,I,.none,h⟩
theorem Kr(h:PE X e te):PO X (aa e) (HR te):=by intro ag s σ H Q I hw;rw[evalPart_some];refine aV (h ag s σ H _ I hw) λu s1 ⟨x,H1,I1,r1,q1⟩=>?_;obtain⟨i,rfl,q⟩:=q1;obtain⟨t,rfl⟩:=r1;exact⟨aa i,H1,I1,.int i t,q⟩
def lz(X:Cx)(r:V->Option Int->Option Int->Hp->VK->Prop):Prop :=
 ∀(ag:List (af×Obj)) (s:am) (σ:St) (H:Hp) (x:V) (v vl vu:ai) (lo hi:Option Int) (sl:af) (Q:VK),Inv X ag σ H s->RelV x v->s.heap.IsSliceOf sl vl vu .none->lT vl lo->lT vu hi->r x lo hi H Q ->
  ∃T id,typeLookup (.type T) "__getitem__" = pure (aa (.builtin id))/\s.TypeIs v T/\aq (au X.prog X.w) X.A (oD v (.ref sl)) (EP X ag σ Q) X.xe s
theorem lz.or{r r':V->Option Int->Option Int->Hp->VK->Prop}(h:lz X r)(h':lz X r'):lz X (λx lo hi H Q=>r x lo hi H Q\/r' x lo hi H Q):=by
 intro ag s σ H x v vl vu lo hi sl Q I rx hs pl pu q;rcases q with q|q
 ·exact h ag s σ H x v vl vu lo hi sl Q I rx hs pl pu q
 ·exact h' ag s σ H x v vl vu lo hi sl Q I rx hs pl pu q
def Lp(r:V->Option Int->Option Int->Hp->VK->Prop)(te:TE)(tl th:TO):TE:=λσ H Q=>te σ H λx H1=>tl σ H1 λl H2=>th σ H2 λu H3=>r x l u H3 Q
theorem JO{r:V->Option Int->Option Int->Hp->VK->Prop}(hr:lz X r)(he:PE X e te)(hl:PO X lo tl)(hu:PO X hi th):PE X (.Subscript e (.Slice lo hi ae p2) pos) (Lp r te tl th):=by intro ag s σ H Q I h;refine Subscript_ (aV (he ag s σ H _ I h) λv s1 ⟨x,H1,I1,r1,q1⟩=>?_);refine wpAny_Slice (aV (hl ag s1 σ H1 _ I1 q1) λvl s2 ⟨l,H2,I2,pl,q2⟩=>aV (hu ag s2 σ H2 _ I2 q2) λvu s3 ⟨u,H3,I3,pu,q3⟩=>?_);rw[evalPart_none];refine aD ?_;have I4:Inv X ag σ H3 {s3 with heap:=s3.heap.push {cls:=.type "slice",data:=.fields #[vl,vu,.none]}}:=I3.kept (t':=s3.toks) λb ob q=>bG _ q;obtain⟨T,id,hT,ht,hg⟩:=hr ag {s3 with heap:=s3.heap.push {cls:=.type "slice",data:=.fields #[vl,vu,.none]}} σ H3 x v vl vu l u s3.heap.objs.size Q I4 r1 (Heap.IsSliceOf.new ..) pl pu q3;show aq (au X.prog X.w) X.A (subscriptTail e (.Slice lo hi ae p2) v (.ref s3.heap.objs.size)) (EP X ag σ Q) X.xe {s3 with heap:=s3.heap.push {cls:=.type "slice",data:=.fields #[vl,vu,.none]}};exact tail_any (ops:=[.ref s3.heap.objs.size,v]) ht hT hg (by with_unfolding_all rfl)
def mz(xs:List V)(lo hi:Option Int):List V:=(xs.drop (HT.sIx xs.length 0 lo)).take (HT.sIx xs.length xs.length hi-HT.sIx xs.length 0 lo)
theorem Be(xs:List V)(lo hi:Option Int):(mz xs lo hi).length<=xs.length:=by unfold mz;rw[mS,j3];lia
def Dj(K:ax):V->Option Int->Option Int->Hp->VK->Prop:=λx lo hi H Q=>∃a xs,x=.ref a/\cB K H a xs /\
 ¬(HT.sIx xs.length 0 lo=0/\HT.sIx xs.length xs.length hi=xs.length)/\∀p,H p=ae->Q (.ref p) (upd H p (.tup (mz xs lo hi)))
theorem IL:lz X (Dj X.K):=by
 intro ag s σ H x v vl vu lo hi sl Q I rx hs pl pu h;obtain⟨a,xs,rfl,hx,hw,q⟩:=h;cases rx;obtain⟨its,r,ht,hz⟩:=I.tuple hx;have bw:its.toArray.size=xs.length:=by rw[ce];exact r.length.symm
 refine⟨"tuple",_,PyProof.Rows.slot_tuple_getitem.lookup,ht.typeIs,?_⟩;refine HT.getItem_tuple_cut ht hs pl pu (by rw[bw];exact hw) ?_ (by rw[bw];exact hz);rw[bw];refine⟨.ref s.heap.objs.size,_,I.laid (t':=s.toks) (o:=.tup (mz xs lo hi)) (λb ob q=>bG _ q) (a_ _) ?_,rfl,q _ (I.hok.fresh (a_ _))⟩;exact⟨cS (Be xs lo hi) hz,_,(r.drop (HT.sIx xs.length 0 lo)).take (HT.sIx xs.length xs.length hi-HT.sIx xs.length 0 lo),Eu.new _ _⟩
def BF(K:ax):R2:=λx y H Q=>∃a b xs ys,x=.ref a/\y=.ref b/\cB K H a xs/\cB K H b ys/\xs≠[]/\xs.length+ys.length<=ba /\
 (ys=[]->Q (.ref a) H)/\(ys≠[]->∀p,H p=ae->Q (.ref p) (upd H p (.tup (xs++ys))))
theorem bn.nil_iff{xs:List V}{us:List ai}(r:bn xs us):us=[]↔xs=[]:=by
 cases r with
 |nil=>simp
 |cons _ _=>simp
theorem Oi:bT X (iS .Add) (BF X.K):=by
 intro ag s σ H x y v u Q I rx ry h;obtain⟨a,b,xs,ys,rfl,rfl,ha,hb,hx,hz,q1,q2⟩:=h;cases rx;cases ry;obtain⟨its,r1,p1,_⟩:=I.tuple ha;obtain⟨its2,r2,p2,_⟩:=I.tuple hb;refine HT.cat_tup p1 p2 (λz=>hx (r1.nil_iff.mp z)) (λz=>⟨.ref a,H,I,rfl,q1 (r2.nil_iff.mp z)⟩) (λz=>?_) (by rw[←r1.length,←r2.length];exact hz);refine⟨.ref s.heap.objs.size,_,I.laid (t':=s.toks) (o:=.tup (xs++ys)) (λb ob q=>bG _ q) (a_ _) ?_,rfl,q2 (λw=>z (r2.nil_iff.mpr w)) _ (I.hok.fresh (a_ _))⟩;exact⟨by rw[et];exact hz,_,r1.append r2,Eu.new _ _⟩
end
def jo(n:Nat)(i:Int):Option Nat:=if 0<=i then(if i<n then aa i.toNat else ae)else if -(n:Int)<=i then aa (i+n).toNat else ae
def fW{α:Type}(xs:List α)(i:Int):Option α:=(jo xs.length i).bind λj=>xs[j]?
theorem BE{n:Nat}{i:Int}{j:Nat}(h:jo n i=aa j):seqIndex? i n=aa j/\j<n/\-(n:Int)<=i/\i<n:=by
 unfold jo at h;by_cases h0:0<=i
 ·rw[if_pos h0]at h;by_cases h1:i<n
  ·rw[if_pos h1]at h;have e:i.toNat=j:=dW h;exact⟨by rw[seqIndex_of h0 h1,e],∅,∅,h1⟩
  ·rw[if_neg h1]at h;cases h
 ·rw[if_neg h0]at h;by_cases h1:-(n:Int)<=i
  ·rw[if_pos h1]at h;have e:(i+n).toNat=j:=dW h;exact⟨by rw[seqIndex_neg ∅ h1,e],∅,h1,∅⟩
  ·rw[if_neg h1]at h;cases h
theorem xw{α:Type}{xs:List α}{i:Int}{v:α}(h:fW xs i=aa v):∃j,seqIndex? i xs.length=aa j/\xs[j]?=aa v/\j<xs.length/\-(xs.length:Int)<=i/\i<xs.length:=by
 unfold fW at h;cases e:jo xs.length i with
 |none=>rw[e]at h;cases h
 |some j=>rw[e]at h;obtain⟨h1,h2,h3,h4⟩:=BE e;exact⟨j,h1,h,h2,h3,h4⟩
theorem LC{α:Type}{xs:List α}{j:Nat}{v:α}(h:xs[j]?=aa v):fW xs (j:Int)=aa v:=by
 have hj:j<xs.length:=(c_.mp h).1;have e:jo xs.length (j:Int)=aa j:=by unfold jo;rw[if_pos ∅,if_pos ∅];simp
 unfold fW;rw[e];exact h
def CW(b:aB):Prop:=∀o i,zO b aj o i=operate [o,i] (oD o i)
def lm(X:Cx)(r:R2):Prop :=
 ∀(value slice:aB) (ag:List (af×Obj)) (s:am) (σ:St) (H:Hp) (x y:V) (v u:ai) (Q:VK),Inv X ag σ H s->RelV x v->RelV y u->r x y H Q ->
  zO slice aj v u=operate [v,u] (oD v u)->aq (au X.prog X.w) X.A (subscriptTail value slice v u) (EP X ag σ Q) X.xe s
def wg(X:Cx)(id:String)(r:V->List V->Hp->VK->Prop):Prop :=
 ∀(ag:List (af×Obj)) (s:am) (σ:St) (H:Hp) (x:V) (xs:List V) (v:ai) (us:List ai) (Q:VK),Inv X ag σ H s->RelV x v->bn xs us->r x xs H Q ->
  aq (au X.prog X.w) X.A (call (.builtin id) (v::us)) (EP X ag σ Q) X.xe s
section
variable{X:Cx}{a b:aB}{ta tb:TE}{pos:Pos}
theorem lm.or{r r':R2}(h:lm X r)(h':lm X r'):lm X (λx y H Q=>r x y H Q\/r' x y H Q):=by
 intro value slice ag s σ H x y v u Q I rx ry q hs;rcases q with q|q
 ·exact h value slice ag s σ H x y v u Q I rx ry q hs
 ·exact h' value slice ag s σ H x y v u Q I rx ry q hs
theorem Jj{r:R2}(hr:lm X r)(ha:PE X a ta)(hb:PE X b tb)(hs:CW b):PE X (.Subscript a b pos) (uJ r ta tb):=by intro ag s σ H Q I h;exact Subscript_ (zc ha hb I h λv u s2 x y H2 I2 rx ry q=>hr a b ag s2 σ H2 x y v u Q I2 rx ry q (hs _ _))
def C_(K:ax):R2:=λx y H Q=>∃p xs i v,x=.ref p/\y=.int i/\cc K H p xs/\fW xs i=aa v/\Q v H
def AU(K:ax):R2:=λx y H Q=>∃p xs i v,x=.ref p/\y=.int i/\cB K H p xs/\fW xs i=aa v/\Q v H
def A2:R2:=λx y H Q=>∃z i c,x=.str z/\y=.int i/\z.length<=ba/\fW z.cps.toList i=aa c/\Q (.str ⟨#[c]⟩) H
theorem Om:lm X (C_ X.K):=by
 intro value slice ag s σ H x y v u Q I rx ry h hs;obtain⟨p,xs,i,z,rfl,rfl,hq,he,q⟩:=h;cases rx;obtain⟨t,rfl⟩:=ry;obtain⟨its,r,pl,hz⟩:=I.list hq;obtain⟨j,h1,h2,h3,h4,h5⟩:=xw he;obtain⟨w,ew,rw'⟩:=r.get h2;have hl:=r.length;have hn:=pL;have fin:EP X ag σ Q w s:=⟨z,H,I,rw',q⟩
 by_cases h0:0<=i
 ·have hj:i.toNat=j:=by
   rw[seqIndex_of h0 h5]at h1;exact dW h1
  exact item_listR pl.isList h0 ∅ (by rw[hj];simpa using ew) fin hs
 ·have hj:(i+(its.toArray.size:Int)).toNat=j:=by
   rw[seqIndex_neg ∅ h4]at h1;rw[ce,←hl];exact dW h1
  exact subscriptTail_builtinR (x:=w) pl.isList.typeIs slot_list_getitem.lookup
   (wpAny_getItem_list_neg (Q:=λr s'=>r=w/\EP X ag σ Q r s') pl.isList ∅ (by rw[ce] <;> lia) ∅ (by rw[hj];simpa using ew) ⟨rfl,fin⟩) hs
theorem Os:lm X (AU X.K):=by
 intro value slice ag s σ H x y v u Q I rx ry h hs;obtain⟨p,xs,i,z,rfl,rfl,hq,he,q⟩:=h;cases rx;obtain⟨t,rfl⟩:=ry;obtain⟨its,r,pl,hz⟩:=I.tuple hq;obtain⟨j,h1,h2,h3,h4,h5⟩:=xw he;obtain⟨w,ew,rw'⟩:=r.get h2;have hl:=r.length;have hn:=pL;have fin:EP X ag σ Q w s:=⟨z,H,I,rw',q⟩
 exact subscriptTail_builtinR (x:=w) pl.typeIs slot_tuple_getitem.lookup
  (getItem_tuple (j:=j) (Q:=λr s'=>r=w/\EP X ag σ Q r s') pl ∅ ∅ (by rw[ce,←hl];exact h1) (by simpa using ew) ⟨rfl,fin⟩) hs
theorem JL:lm X A2:=by
 intro value slice ag s σ H x y v u Q I rx ry h hs;obtain⟨z,i,c,rfl,rfl,hz,he,q⟩:=h;obtain⟨t,rfl⟩:=rx;obtain⟨t',rfl⟩:=ry;obtain⟨j,h1,h2,h3,h4,h5⟩:=xw he;have hl:z.cps.toList.length=z.length:=by simp[Str.length]
 rw[hl]at h1 h4 h5;have hn:=pL;exact tail_any (typeIs_str s z t) slot_str_getitem.lookup (getItem_str (c:=c) (by have e1:decide (i < -(2^63:Int))=aj:=decide_eq_false ∅;have e2:decide (i ≥ 2^63)=aj:=decide_eq_false ∅;rw[e1,e2,Bool.or_false]) (by rw[h1];simpa using h2) ⟨.str ⟨#[c]⟩,H,I.tok _,⟨_,rfl⟩,q⟩) hs
def DH(K:ax):R2:=λx y H Q=>C_ K x y H Q\/AU K x y H Q\/A2 x y H Q
theorem iO:lm X (DH X.K):=Om.or (Os.or JL)
theorem HD(its:List ai)(n j:Nat)(u:ai):jg (·.setIfInBounds j u) {cls:=.type "list",data:=.seq its.toArray n}={cls:=.type "list",data:=.seq (its.set j u).toArray n}:=by simp[jg]
theorem Inv.lst{ag:List (af×Obj)}{σ:St}{H:Hp}{s:am}{p:af}{xs:List V}(I:Inv X ag σ H s)(h:H p=aa (.lst xs)):∃(its:List ai) (n:Nat),bn xs its/\s.heap.get? p=aa {cls:=.type "list",data:=.seq its.toArray n}/\xs.length<=ba:=by obtain⟨z,its,n,r,e⟩:=I.hok p _ h;exact⟨its,n,r,e,z⟩
theorem Inv.lstUpd{ag:List (af×Obj)}{σ:St}{H:Hp}{s:am}{p:af}{xs ys:List V}{its its':List ai}{n n':Nat}{f:Obj->Obj}(I:Inv X ag σ H s)(h:H p=aa (.lst xs))(ho:s.heap.get? p=aa {cls:=.type "list",data:=.seq its.toArray n}) (hf:f {cls:=.type "list",data:=.seq its.toArray n}={cls:=.type "list",data:=.seq its'.toArray n'}) (r:bn ys its') (hz:ys.length<=ba) (t:Nat):Inv X ag σ (upd H p (.lst ys)) {s with heap:=s.heap.update p f,toks:=t}:=by
 have e:(s.heap.update p f).get? p=aa {cls:=.type "list",data:=.seq its'.toArray n'}:=by rw[mW f ho (by rw[hf] <;> rfl),hf]
 refine I.write (x:=p) (e:=p) (by rw[h];trivial) (.inl rfl) (λb u hb q=>(mX _ _ (ef hb)).trans q) ⟨_,e⟩ ?_;exact⟨hz,its',n',r,e⟩
def GK:V->V->V->Hp->(Hp->Prop)->Prop:=λo i v H Q=>∃p xs k j,o=.ref p/\i=.int k/\H p=aa (.lst xs)/\jo xs.length k=aa j/\Q (upd H p (.lst (xs.set j v)))
theorem M9:De X GK:=by
 intro ag s σ H o i v ov iv u Q I ro ri rv h;obtain⟨p,xs,k,j,rfl,rfl,hp,hj,q⟩:=h;cases ro;obtain⟨t,rfl⟩:=ri;obtain⟨its,n,r,ho,hz⟩:=I.lst hp;obtain⟨h1,h2,h3,h4⟩:=BE hj;have hl:=r.length;have hn:=pL;have I':Inv X ag σ (upd H p (.lst (xs.set j v))) {s with heap:=s.heap.update p (jg (·.setIfInBounds j u))} :=I.lstUpd hp ho (HD its n j u) (r.set rv j) (by rw[fC];exact hz) s.toks;by_cases h0:0<=k
 ·have hk:k.toNat=j:=by
   rw[seqIndex_of h0 h4]at h1;exact dW h1
  exact PySem.W.ki_setAt ho h0 ∅ (by rw[ce,←hl];exact h4) (by rw[hk];exact⟨_,I',q⟩)
 ·have hk:(k+(its.toArray.size:Int)).toNat=j:=by
   rw[seqIndex_neg ∅ h3]at h1;rw[ce,←hl];exact dW h1
  exact PySem.W.ki_setBack ho ∅ (by rw[ce,←hl];exact h3) ∅ (by rw[hk];exact⟨_,I',q⟩)
theorem Kz(lo hi:Option Int)(n:Nat):(qw lo hi ae n).1=((HT.sIx n 0 lo:Nat):Int)/\(qw lo hi ae n).2.1=((HT.sIx n n hi:Nat):Int)/\(qw lo hi ae n).2.2=1:=by
 refine⟨?_,?_,rfl⟩
 ·cases lo with
  |none=>simp[qw,HT.sIx]
  |some i=>
   simp only[qw,HT.sIx,EG,show(1:Int) > 0 by decide,if_true];by_cases h:i<0
   ·simp only[h,if_true] <;> lia
   ·simp only[h,if_false] <;> lia
 ·cases hi with
  |none=>simp[qw,HT.sIx]
  |some i=>
   simp only[qw,HT.sIx,EG,show(1:Int) > 0 by decide,if_true];by_cases h:i<0
   ·simp only[h,if_true] <;> lia
   ·simp only[h,if_false] <;> lia
theorem GM(its:List ai)(lo hi:Option Int):slicePick its.toArray lo hi ae=((its.drop (HT.sIx its.length 0 lo)).take (HT.sIx its.length its.length hi-HT.sIx its.length 0 lo)).toArray:=by obtain⟨h1,h2,h3⟩:=Kz lo hi its.toArray.size;unfold slicePick;rw[h1,h2,h3];simp only[sliceRange_one,pick_run,ce] <;> rfl
def B7(K:ax):V->Option Int->Option Int->Hp->VK->Prop:=λx lo hi H Q=>∃a xs,x=.ref a/\cc K H a xs/\∀p,H p=ae->Q (.ref p) (upd H p (.lst (mz xs lo hi)))
theorem Og:lz X (B7 X.K):=by
 intro ag s σ H x v vl vu lo hi sl Q I rx hs pl pu h;obtain⟨a,xs,rfl,hx,q⟩:=h;cases rx;obtain⟨its,r,ht,hz⟩:=I.list hx;have bw:=r.length;refine⟨"list",_,slot_list_getitem.lookup,ht.isList.typeIs,?_⟩;refine wpAny_getItem_list_slice ht.isList hs pl pu .none (by simp) ?_ (by rw[ce] <;> lia);rw[GM,←bw];refine⟨.ref s.heap.objs.size,_,I.laid (t':=s.toks) (o:=.lst (mz xs lo hi)) (λb ob q=>bG _ q) (a_ _) ?_,rfl,q _ (I.hok.fresh (a_ _))⟩;exact⟨cS (Be xs lo hi) hz,_,0,(r.drop (HT.sIx xs.length 0 lo)).take (HT.sIx xs.length xs.length hi-HT.sIx xs.length 0 lo),c0 _ rfl⟩
def eZ:V->Bool
 |.non=>ah
 |.bl _=>ah
 |.int _=>ah
 |.str _=>ah
 |_=>aj
def dy:V->V->Bool
 |.non,.non=>ah
 |.bl a,.bl b=>a == b
 |.bl a,.int b=>(if a then 1 else 0) == b
 |.int a,.bl b=>a == (if b then 1 else 0)
 |.int a,.int b=>a == b
 |.str a,.str b=>a == b
 |_,_=>aj
theorem B9{A:aO}{s:am}{y x:V}{u v:ai}(ry:RelV y u)(rx:RelV x v)(fy:eZ y=ah)(fx:eZ x=ah):sU A s u v (dy y x):=by
 cases y with
 |non=>
  cases ry;cases x with
  |non=>cases rx;exact SeqAt.EqAt.same _
  |bl b=>cases rx;exact SeqAt.EqAt.none_bool b
  |int b=>obtain⟨t,rfl⟩:=rx;exact SeqAt.EqAt.none_int b t
  |str b=>obtain⟨t,rfl⟩:=rx;exact SeqAt.EqAt.none_str b t
  |_=>exact absurd (show aj=ah from fx) eR
 |bl a=>
  cases ry;cases x with
  |non=>cases rx;exact SeqAt.EqAt.bool_none a
  |bl b=>cases rx;exact SeqAt.EqAt.bool_bool a b
  |int b=>obtain⟨t,rfl⟩:=rx;exact SeqAt.EqAt.bool_int a b t
  |str b=>obtain⟨t,rfl⟩:=rx;exact SeqAt.EqAt.bool_str a b t
  |_=>exact absurd (show aj=ah from fx) eR
 |int a=>
  obtain⟨t',rfl⟩:=ry;cases x with
  |non=>cases rx;exact SeqAt.EqAt.int_none a t'
  |bl b=>cases rx;exact SeqAt.EqAt.int_bool a t' b
  |int b=>obtain⟨t,rfl⟩:=rx;exact EH a t' b t
  |str b=>obtain⟨t,rfl⟩:=rx;exact SeqAt.EqAt.int_str a t' b t
  |_=>exact absurd (show aj=ah from fx) eR
 |str a=>
  obtain⟨t',rfl⟩:=ry;cases x with
  |non=>cases rx;exact SeqAt.EqAt.str_none a t'
  |bl b=>cases rx;exact SeqAt.EqAt.str_bool a t' b
  |int b=>obtain⟨t,rfl⟩:=rx;exact SeqAt.EqAt.str_int a t' b t
  |str b=>obtain⟨t,rfl⟩:=rx;exact SeqAt.EqAt.str_str a t' b t
  |_=>exact absurd (show aj=ah from fx) eR
 |_=>exact absurd (show aj=ah from fy) eR
def iM(x:V)(u:ai):Bool:=match u with
 |.none=>dy .non x
 |.bool b=>dy (.bl b) x
 |.int i _=>dy (.int i) x
 |.str z _=>dy (.str z) x
 |_=>aj
theorem uR{x y:V}{u:ai}(r:RelV y u)(f:eZ y=ah):iM x u=dy y x:=by
 cases y with
 |non=>cases r;rfl
 |bl b=>cases r;rfl
 |int i=>obtain⟨t,rfl⟩:=r;rfl
 |str z=>obtain⟨t,rfl⟩:=r;rfl
 |_=>exact absurd (show aj=ah from f) eR
theorem yi{x:V}:∀{xs:List V}{us:List ai},bn xs us->xs.all eZ=ah->us.any (iM x)=xs.any λy=>dy y x
 |_,_,.nil,_=>rfl
 |y::xs,u::us,.cons r t,f=>by rw[qx,fB]at f;rw[oE,oE,uR r f.1,yi t f.2]
theorem ph{A:aO}{s:am}{x:V}{v:ai}(rx:RelV x v)(fx:eZ x=ah):∀{xs:List V}{us:List ai},bn xs us->xs.all eZ=ah->∀u∈us,sU A s u v (iM x u)
 |_,_,.nil,_=>λu hu=>by cases hu
 |y::xs,u::us,.cons r t,f=>λu' hu=>by
  rw[qx,fB]at f;rcases bF.mp hu with rfl|hu
  ·rw[uR r f.1];exact B9 r rx f.1 fx
  ·exact ph rx fx t f.2 u' hu
def rZ(x:V)(xs:List V):Bool:=xs.any λy=>dy y x
def yf(K:ax)(neg:Bool):R2:=λx y H Q=>∃p xs,y=.ref p/\(cc K H p xs\/cB K H p xs)/\eZ x=ah/\xs.all eZ=ah/\Q (.bl (if neg then !rZ x xs else rZ x xs)) H
theorem Mi:bT X (eh .In) (yf X.K aj):=by
 intro ag s σ H x y v u Q I rx ry h;obtain⟨p,xs,rfl,hq,fx,fs,q⟩:=h;cases ry;rcases hq with hq|hq
 ·obtain⟨its,r,pl,hz⟩:=I.list hq;refine SeqAt.in_listAt (iM x) pl.isList (λw hw=>ph rx fx r fs w (by simpa using hw)) ⟨.bl _,H,I,rfl,?_⟩;rw[show its.toArray.any (iM x)=its.any (iM x) by simp,yi r fs];exact q
 ·obtain⟨its,r,pl,hz⟩:=I.tuple hq;refine SeqAt.in_tupleAt (iM x) pl (λw hw=>ph rx fx r fs w (by simpa using hw)) ⟨.bl _,H,I,rfl,?_⟩;rw[show its.toArray.any (iM x)=its.any (iM x) by simp,yi r fs];exact q
theorem eA.or{f:ai}{r r':List V->Hp->VK->Prop}(h:eA X f r)(h':eA X f r'):eA X f (λxs H Q=>r xs H Q\/r' xs H Q):=by
 intro ag s σ H xs us Q I rs q;rcases q with q|q
 ·exact h ag s σ H xs us Q I rs q
 ·exact h' ag s σ H xs us Q I rs q
theorem Ek:eA X (.type "list") (λxs H Q=>∃p ys,xs=[.ref p]/\(cc X.K H p ys\/cB X.K H p ys)/\∀l,H l=ae->Q (.ref l) (upd H l (.lst ys))):=by
 intro ag s σ H xs us Q I r h;obtain⟨p,ys,rfl,hq,q⟩:=h;obtain⟨u,rfl,rx⟩:=vals1 r;cases rx;have fin:∀(its:List ai),bn ys its->ys.length<=ba->∀(h':aA) (c':Nat),(∀b o',s.heap.get? b=aa o'->h'.get? b=aa o') ->
   h'.get? s.heap.objs.size=aa {cls:=.type "list",dict:=ae,data:=.seq its.toArray c',slots:=#[]}->EP X ag σ Q (.ref s.heap.objs.size) {s with heap:=h'}:=λits r' hz h' c' kp e=>
  ⟨.ref s.heap.objs.size,_,I.laid (t':=s.toks) kp (a_ _) (show cG X.prog X.w _ h' _ (.lst ys)from⟨hz,its,c',r',e⟩),rfl,q _ (I.hok.fresh (a_ _))⟩
 rcases hq with hq|hq
 ·obtain⟨its,r',pl,hz⟩:=I.list hq;have bw:=r'.length;obtain⟨o,ho,hc,n,hd⟩:=pl.isList;exact call_list_seq p (.inl rfl) ho hc hd (λh' c' kp e=>fin its r' hz h' c' kp e) (by simp only[ce] <;> lia)
 ·obtain⟨its,r',pl,hz⟩:=I.tuple hq;have bw:=r'.length;obtain⟨o,ho,hc,n,hd⟩:=pl;exact call_list_seq p (.inr rfl) ho hc hd (λh' c' kp e=>fin its r' hz h' c' kp e) (by simp only[ce] <;> lia)
theorem y0:eA X (.type "tuple") (λxs H Q=>∃p ys,xs=[.ref p]/\((cc X.K H p ys/\∀l,H l=ae->Q (.ref l) (upd H l (.tup ys)))\/(cB X.K H p ys/\Q (.ref p) H))):=by
 intro ag s σ H xs us Q I r h;obtain⟨p,ys,rfl,h⟩:=h;obtain⟨u,rfl,rx⟩:=vals1 r;cases rx;rcases h with⟨hq,q⟩|⟨hq,q⟩
 ·obtain⟨its,r',pl,hz⟩:=I.list hq;have bw:=r'.length;refine call_tuple_list pl.isList (λh' kp=>?_) (by simp only[ce] <;> lia);have I1:Inv X ag σ H {s with heap:=h'}:=I.kept (t':=s.toks) kp;have I2:Inv X ag σ (upd H h'.objs.size (.tup ys)) {s with heap:=h'.push {cls:=.type "tuple",data:=.seq its.toArray}} :=I1.laid (t':=s.toks) (λb o e=>bG _ e) (a_ _) (show cG X.prog X.w _ _ _ (.tup ys)from⟨hz,its,r',Eu.new _ _⟩);exact⟨.ref h'.objs.size,_,I2,rfl,q _ (I1.hok.fresh (a_ _))⟩
 ·obtain⟨its,r',pl,hz⟩:=I.tuple hq;exact call_tuple_same pl ⟨.ref p,H,I,rfl,q⟩
def zp(K:ax)(T:String)(x:V)(H:Hp):Prop:=match x with
 |.str _=>T = "str"
 |.int _=>T = "int"
 |.ref p=>(T = "list"/\∃xs,cc K H p xs)\/(T = "tuple"/\∃o,K.lookup p=aa o/\o.cls=.type "tuple"/\o.dict=ae) \/
   (T = "dict"/\((∃kvs,H p=aa (.dK kvs))\/∃kvs,H p=aa (.dT kvs)))\/(T = "set"/\∃S n,H p=aa (.set S n))
 |_=>False
theorem BJ{ag:List (af×Obj)}{σ:St}{H:Hp}{s:am}{T:String}{x:V}{v:ai}(I:Inv X ag σ H s)(r:RelV x v)(ty:zp X.K T x H):s.TypeIs v T/\∀a,v=.ref a->∃ob,s.heap.get? a=aa ob/\ob.dict=ae:=by
 cases x with
 |str z=>
  obtain⟨t,rfl⟩:=r;cases (show T = "str" from ty);exact⟨typeIs_str s z t,λ_ e=>nomatch e⟩
 |int i=>
  obtain⟨t,rfl⟩:=r;cases (show T = "int" from ty);exact⟨typeIs_int s i t,λ_ e=>nomatch e⟩
 |ref p=>
  cases r;rcases ty with⟨rfl,xs,hq⟩|⟨rfl,o,hk,hc,hd⟩|⟨rfl,hk⟩|⟨rfl,S,n,hk⟩
  ·obtain⟨its,_,pl,_⟩:=I.list hq;refine⟨pl.isList.typeIs,λa e=>?_⟩;cases e;obtain⟨o,n,e,c,hd,_⟩:=pl;exact⟨o,e,hd⟩
  ·refine⟨⟨o,I.kIn p o hk,hc⟩,λa e=>?_⟩;cases e;exact⟨o,I.kIn _ o hk,hd⟩
  ·have z:∃o,s.heap.get? p=aa o/\o.ExactDict:=by
    rcases hk with⟨kvs,hk⟩|⟨kvs,hk⟩
    ·obtain⟨_,_,_,_,o,_,_,e,ex,_⟩:=I.hok p _ hk;exact⟨o,e,ex⟩
    ·obtain⟨_,_,_,_,o,_,_,e,ex,_⟩:=I.hok p _ hk;exact⟨o,e,ex⟩
   obtain⟨o,e,ex⟩:=z;refine⟨⟨o,e,ex.1⟩,λa e2=>?_⟩;cases e2;exact⟨o,e,ex.2.1⟩
  ·obtain⟨o,_,_,_,e,ex,_⟩:=I.hok p _ hk;refine⟨⟨o,e,ex.1⟩,λa e2=>?_⟩;cases e2;exact⟨o,e,ex.2.1⟩
 |_=>exact f9 ty
def LB(K:ax)(T:String)(r:V->List V->Hp->VK->Prop)(to:TE):TE:=λσ H Q=>to σ H λx H1=>zp K T x H1/\r x [] H1 Q
def HK(K:ax)(T:String)(r:V->List V->Hp->VK->Prop)(to:TE)(t:TA):TE:=λσ H Q=>to σ H λx H1=>zp K T x H1/\t σ H1 λxs H2=>r x xs H2 Q
variable{o e:aB}{es:List aB}{to:TE}{t:TA}{name:Str}{apos cpos:Pos}{T id:String}{r:V->List V->Hp->VK->Prop}
theorem HM(pa:PlainAttrs T)(slot:Slot T name id)(nt:typeOf (.builtin id)=pure (.type "method_descriptor"))(hm:wg X id r)(ho:PE X o to)(mf:kW o name X.env (aT o X.env)=aT o X.env:=by rfl) (mh:(apos.endLine == cpos.line)=ah:=by rfl):PE X (.Call (.Attribute o name apos) [] [] cpos) (LB X.K T r to):=by intro ag s σ H Q I h;refine wpAny_Call_method0_late mf mh (aV (ho ag s σ H _ I h) λv s1 ⟨x,H1,I1,r1,ty,q1⟩=>?_);obtain⟨h1,h2⟩:=BJ I1 r1 ty;exact⟨T,id,pa,slot,nt,h1,h2,zP rfl (PySem.evalArgs_none (hm ag s1 σ H1 x [] v [] Q I1 r1 .nil q1))⟩
theorem vN(pa:PlainAttrs T)(slot:Slot T name id)(nt:typeOf (.builtin id)=pure (.type "method_descriptor"))(hm:wg X id r)(ho:PE X o to)(ha:PA X (e::es) t)(mf:kW o name X.env (aT o X.env)=aT o X.env:=by rfl)(AI:((cL cpos (aL (e::es) X.env)).all (λx=>!x.1)&&(qy cpos (qz [] X.env)).all (λx=>x.1.isSome)&&decide ((e::es).length+([]:List jh).length+(if([]:List jh).isEmpty then 0 else 1)<30))=ah:=by rfl)(mh:(apos.endLine == cpos.line)=ah:=by rfl) (hs:aL (e::es) X.env=(aj,aT e X.env)::aL es X.env:=by rfl) (AD:(cL cpos (aL es X.env)).any (·.1)=aj:=by rfl):PE X (.Call (.Attribute o name apos) (e::es) [] cpos) (HK X.K T r to t):=by intro ag s σ H Q I h;refine wpAny_Call_method_late mf AI mh rfl (aV (ho ag s σ H _ I h) λv s1 ⟨x,H1,I1,r1,ty,q1⟩=>?_);obtain⟨h1,h2⟩:=BJ I1 r1 ty;refine⟨T,id,pa,slot,nt,h1,h2,?_⟩;have hA:=ha cpos ag s1 σ H1 _ I1 q1;rw[hs]at hA ⊢;refine zP (by show(aj||(cL cpos (aL es X.env)).any (·.1))=aj;rw[AD] <;> rfl) (zQ ?_);exact aV hA λus s2 ⟨vs,H2,I2,r2,q2⟩=>hm ag s2 σ H2 x vs v us Q I2 r1 r2 q2
end
def sQ(X:Cx)(id:String)(r:V->List V->Hp->VK->Prop):Prop :=
 ∀(ag:List (af×Obj)) (s:am) (σ:St) (H:Hp) (x:V) (xs:List V) (v:ai) (us:List ai) (Q:VK),Inv X ag σ H s->RelV x v->bn xs us->r x xs H Q ->
  aq (au X.prog X.w) X.A (call (.builtin id) (v::us)) (EP X ag σ Q) X.xe s
theorem bn.one:∀{x:V}{us:List ai},bn [x] us->∃u,us=[u]/\RelV x u
 |_,_,.cons r .nil=>⟨_,rfl,r⟩
theorem bn.zero:∀{us:List ai},bn [] us->us=[]
 |_,.nil=>rfl
theorem bn.rep{xs:List V}{us:List ai}(h:bn xs us):∀k:Nat,bn (bV k xs).flatten (bV k us).flatten
 |0=>.nil
 |k+1=>by rw[mY,mY,qA,qA];exact bn.append h (bn.rep h k)
theorem foldl_rep(its:List ai):∀(k:Nat) (aH:List ai), List.foldl (λx1 x2=>x1++x2) aH.toArray (bV k its.toArray)=(aH++(bV k its).flatten).toArray
 |0,aH=>by simp
 |k+1,aH=>by
  have e:aH.toArray++its.toArray=(aH++its).toArray:=by simp
  have e2:(aH++its)++(bV k its).flatten=aH++(bV (k+1) its).flatten:=by rw[mY,qA,qB]
  rw[←e2,←foldl_rep its k (aH++its),←e,mY,kX]
section
variable{X:Cx}{ag:List (af×Obj)}{σ:St}{H:Hp}{s:am}{l b:af}{xs ys zs:List V}
theorem Inv.lset{its its':List ai}{n:Nat}{f:Array ai->Array ai}{t':Nat}(I:Inv X ag σ H s)(hH:H l=aa (.lst xs))(e:s.heap.get? l=aa {cls:=.type "list",data:=.seq its.toArray n}) (hf:f its.toArray=its'.toArray) (hv:bn ys its') (hz:ys.length<=ba):Inv X ag σ (upd H l (.lst ys)) {s with heap:=s.heap.update l (jg f),toks:=t'}:=by have q:=PySem.IsL.update e f;rw[hf]at q;refine I.write (x:=l) (e:=l) (by rw[hH];exact trivial) (.inl rfl) (λb' u hb hu=>(mX s.heap (jg f) (ef hb)).trans hu) ⟨_,q⟩ ?_;exact⟨hz,its',_,hv,q⟩
theorem Inv.lnew{its:List ai}{t':Nat}(I:Inv X ag σ H s)(hv:bn ys its)(hz:ys.length<=ba):Inv X ag σ (upd H s.heap.objs.size (.lst ys)) {s with heap:=s.heap.push {cls:=.type "list",data:=.seq its.toArray},toks:=t'} :=I.laid (λ_ _ q=>bG _ q) (a_ _) ⟨hz,its,0,hv,c0 _ rfl⟩
theorem Inv.fresh(I:Inv X ag σ H s):H s.heap.objs.size=ae:=I.hok.fresh (a_ _)
theorem Inv.lstM(I:Inv X ag σ H s)(hH:H l=aa (.lst xs)):xs.length<=ba/\∃(its:List ai) (n:Nat),bn xs its/\xs.length=its.length/\s.heap.get? l=aa {cls:=.type "list",data:=.seq its.toArray n}:=by obtain⟨z,its,n,r,e⟩:=I.hok l _ hH;exact⟨z,its,n,r,r.length,e⟩
theorem LL{n:Nat}(h:n<=ba):EI n=aj:=by unfold EI;exact decide_eq_false ∅
end
section
variable{X:Cx}
def Ke:V->List V->Hp->VK->Prop:=λx vs H Q=>∃l xs y,x=.ref l/\vs=[y]/\H l=aa (.lst xs)/\xs.length<ba/\Q .non (upd H l (.lst (xs++[y])))
theorem CQ:sQ X "list.append" Ke:=by
 intro ag s σ H x vs v us Q I rx rv h;obtain⟨l,xs,y,rfl,rfl,hH,hz,q⟩:=h;cases rx;obtain⟨u,rfl,ru⟩:=rv.one;obtain⟨z,its,n,r,hl,e⟩:=I.lstM hH;refine qC F.slot_list_append ⟨_,e,rfl⟩ F.entry_list_append (F.args_list_append_2 _ _) (PySem.list_append l its.toArray n u (by rw[ce];lia)) ⟨e,?_⟩;refine⟨.non,_,I.lset (its':=its++[u]) hH e (by simp) (r.append (.cons ru .nil)) ?_,rfl,q⟩;rw[et,sV];lia
theorem yk{α:Type}(xs:List α)(k:Nat):(bV k xs).flatten.length=k*xs.length:=by
 induction k with
 |zero=>simp
 |succ k ih=>rw[mY,qA,et,ih,Nat.succ_mul,Nat.add_comm]
end
section
variable{κ:Type}[DecidableEq κ]
def i9(kvs:List (κ×V))(k:κ):Option V:=(kvs.find? λkv=>decide (kv.1=k)).map (·.2)
def iP(kvs:List (κ×V))(k:κ)(v:V):List (κ×V) :=if(kvs.any λkv=>decide (kv.1=k))=ah then kvs.map (λkv=>if kv.1=k then(kv.1,v)else kv)else kvs++[(k,v)]
theorem vz{p:κ×V}{r:List (κ×V)}{k:κ}(e:p.1=k):i9 (p::r) k=aa p.2:=by simp[i9,jD,e]
theorem u6{p:κ×V}{r:List (κ×V)}{k:κ}(e:¬p.1=k):i9 (p::r) k=i9 r k:=by simp[i9,jD,e]
theorem By(k:κ):∀kvs:List (κ×V),(kvs.any λkv=>decide (kv.1=k))=(i9 kvs k).isSome
 |[]=>rfl
 |p::r=>by
  rw[oE];by_cases e:p.1=k
  ·simp only[vz e,decide_eq_true e,Bool.true_or,Option.isSome_some]
  ·rw[u6 e,decide_eq_false e,Bool.false_or];exact By k r
theorem Eb(kvs:List (κ×V))(k:κ)(v:V):(iP kvs k v).length<=kvs.length+1:=by
 unfold iP;split
 ·rw[dw];lia
 ·rw[et,ff,mZ];lia
theorem mP.isSome_eq{o:Option V}{u:Option ai}(r:mP o u):o.isSome=u.isSome:=by
 cases o with
 |none=>cases u with
  |none=>rfl
  |some _=>exact(show False from r).elim
 |some _=>cases u with
  |none=>exact(show False from r).elim
  |some _=>rfl
theorem mP.getD{o:Option V}{u:Option ai}{d:V}{d':ai}(r:mP o u)(rd:RelV d d'):RelV (o.getD d) (u.getD d'):=by
 cases o with
 |none=>cases u with
  |none=>exact rd
  |some _=>exact(show False from r).elim
 |some _=>cases u with
  |none=>exact(show False from r).elim
  |some _=>exact r
theorem KV.val{kvs:List (κ×V)}{vs:List (κ×ai)}(r:KV kvs vs)(k:κ):mP (i9 kvs k) (qD vs k):=by
 unfold KV at r
 induction r with
 |nil=>exact True.intro
 |@cons p q ps qs h t ih=>
  obtain⟨h1,h2⟩:=h;by_cases e:p.1=k
  ·have e':q.1=k:=h1.symm.trans e;have b:qD (q::qs) k=aa q.2:=by simp[qD,jD,e']
   rw[vz e,b];exact h2
  ·have e':¬q.1=k:=λz=>e (h1.trans z);have b:qD (q::qs) k=qD qs k:=by simp[qD,jD,e']
   rw[u6 e,b];exact ih
theorem KV.any{kvs:List (κ×V)}{vs:List (κ×ai)}(r:KV kvs vs)(k:κ):(kvs.any λkv=>decide (kv.1=k))=vs.any λkv=>decide (kv.1=k):=by
 unfold KV at r
 induction r with
 |nil=>rfl
 |cons h t ih=>rw[oE,oE,ih,h.1]
theorem KV.repl{kvs:List (κ×V)}{vs:List (κ×ai)}(r:KV kvs vs)(k:κ){y:V}{u:ai}(ry:RelV y u):KV (kvs.map λkv=>if kv.1=k then(kv.1,y)else kv) (vs.map λkv=>if kv.1=k then(kv.1,u)else kv):=by
 unfold KV at r ⊢
 induction r with
 |nil=>exact .nil
 |@cons p q ps qs h t ih=>
  rw[eu,eu];refine .cons ?_ ih;obtain⟨h1,h2⟩:=h;by_cases e:p.1=k
  ·rw[if_pos e,if_pos (h1.symm.trans e)];exact⟨h1,ry⟩
  ·rw[if_neg e,if_neg (λz=>e (h1.trans z))];exact⟨h1,h2⟩
theorem KV.put{kvs:List (κ×V)}{vs:List (κ×ai)}(r:KV kvs vs)(k:κ){y:V}{u:ai}(ry:RelV y u):KV (iP kvs k y) (stored vs k u):=by
 unfold iP stored;rw[r.any k];by_cases e:(vs.any λkv=>decide (kv.1=k))=ah
 ·rw[if_pos e,if_pos e];exact r.repl k ry
 ·rw[if_neg e,if_neg e];exact Paired.snoc r ⟨rfl,ry⟩
theorem KV.length{kvs:List (κ×V)}{vs:List (κ×ai)}(r:KV kvs vs):kvs.length=vs.length:=Paired.length r
end
theorem we{P:aM}{w:aF}{k:aN}{u:ai}(r:RelV (kV k) u):(gQ P w).is k u=ah:=by
 cases k with
 |inl i=>obtain⟨t,e⟩:=(show ∃t,u=Value.int i t from r);subst e;exact FY P w i t
 |inr x=>obtain⟨t,e⟩:=(show ∃t,u=Value.str x t from r);subst e;exact HZ P w x t
theorem Bs{P:aM}{w:aF}:∀{ks:List aN}{us:List ai},bn (ks.map kV) us->ItemsAre (gQ P w) ks us
 |[],_,r=>by rw[List.map_nil]at r;cases r;exact .nil
 |k::ks,_,r=>by
  rw[eu]at r;cases r with
  |cons h t=>exact .cons (we h) (Bs t)
abbrev KT(H:Hp):List (List aN×V)->List (List aN×af×ai)->Prop:=kN λp q=>p.1=q.1/\H q.2.1=aa (.tup (p.1.map kV))/\RelV p.2 q.2.2
theorem KT.val{H:Hp}{kvs:List (List aN×V)}{xs:List (List aN×af×ai)}(r:KT H kvs xs)(k:List aN):mP (i9 kvs k) ((atKey xs k).map (·.2)):=by
 induction r with
 |nil=>exact True.intro
 |@cons p q ps qs h t ih=>
  obtain⟨h1,_,h2⟩:=h;by_cases e:p.1=k
  ·have e':q.1=k:=h1.symm.trans e;have b:atKey (q::qs) k=aa q.2:=by simp[atKey,jD,e']
   rw[vz e,b];exact h2
  ·have e':¬q.1=k:=λz=>e (h1.trans z);have b:atKey (q::qs) k=atKey qs k:=by simp[atKey,jD,e']
   rw[u6 e,b];exact ih
theorem KT.repl{H:Hp}{kvs:List (List aN×V)}{xs:List (List aN×af×ai)}(r:KT H kvs xs)(k:List aN){y:V}{u:ai}(ry:RelV y u):KT H (kvs.map λkv=>if kv.1=k then(kv.1,y)else kv) (xs.map (putAt k u)):=by
 induction r with
 |nil=>exact .nil
 |@cons p q ps qs h t ih=>
  rw[eu,eu];refine .cons ?_ ih;obtain⟨h1,h2,h3⟩:=h;unfold putAt;by_cases e:p.1=k
  ·rw[if_pos e,if_pos (h1.symm.trans e)];exact⟨h1,h2,ry⟩
  ·rw[if_neg e,if_neg (λz=>e (h1.trans z))];exact⟨h1,h2,h3⟩
theorem KT.put{H:Hp}{kvs:List (List aN×V)}{xs:List (List aN×af×ai)}(r:KT H kvs xs)(k:List aN){b:af}{y:V}{u:ai}(hb:H b=aa (.tup (k.map kV)))(ry:RelV y u):KT H (iP kvs k y) (storedH xs k b u):=by
 have e:(kvs.any λkv=>decide (kv.1=k))=(atKey xs k).isSome:=by rw[By,(r.val k).isSome_eq,Option.isSome_map]
 unfold iP storedH;rw[e];by_cases q:(atKey xs k).isSome=ah
 ·rw[if_pos q,if_pos q];exact r.repl k ry
 ·rw[if_neg q,if_neg q];exact Paired.snoc r ⟨rfl,hb,ry⟩
theorem KT.keeps{H H':Hp}{kvs:List (List aN×V)}{xs:List (List aN×af×ai)}(r:KT H kvs xs)(ht:∀b ys,H b=aa (.tup ys)->H' b=aa (.tup ys)):KT H' kvs xs :=Paired.mapP r λ_ _ z=>⟨z.1,ht _ _ z.2.1,z.2.2⟩
section
variable{P:aM}{w:aF}{H:Hp}{h:aA}{a:af}
theorem Dp{u:HO}(ok:cI P w H h)(e:Rd H a u):cG P w H h a u:=e.ok ok
theorem sP{kvs:List (aN×V)}(ok:cI P w H h)(e:Rd H a (.dK kvs)):kvs.length<=ba/\(a == lO)=aj/\∃vs,KV kvs vs/\h.DictOf (gQ P w) a vs :=show cG P w H h a (.dK kvs)from Dp ok e
theorem yF{kvs:List (aN×V)}(ok:cI P w H h)(e:H a=aa (.dK kvs)):kvs.length<=ba/\(a == lO)=aj/\∃vs,KV kvs vs/\h.DictOf (gQ P w) a vs:=sP ok (.inl e)
theorem vA{ks:List aN}(ok:cI P w H h)(e:H a=aa (.tup (ks.map kV))):(sR (gQ P w)).is h ks a:=by
 obtain⟨_,its,r,⟨o,h1,h2,n,h3⟩,_⟩:=(show cG P w H h a (.tup (ks.map kV))from ok a _ e)
 exact⟨o,its.toArray,n,h1,h2,h3,by simpa using Bs r⟩
theorem sF{kvs:List (List aN×V)}(ok:cI P w H h)(e:Rd H a (.dT kvs)):kvs.length<=ba/\(a == lO)=aj /\ ∃xs,KT H kvs xs/\h.DictOfH (sR (gQ P w)) a xs:=by
 obtain⟨z,y,xs,r,o,es,ep,h1,h2,h3,h4,h5⟩:=(show cG P w H h a (.dT kvs)from Dp ok e)
 refine⟨z,y,xs,r,o,es,ep,h1,h2,h3,h4,λx hx=>?_,h5⟩;have all:∀{l:List (List aN×V)}{m:List (List aN×af×ai)},KT H l m->∀x∈m,(sR (gQ P w)).is h x.1 x.2.1:=by
  intro l m q
  induction q with
  |nil=>intro x hx;exact nomatch hx
  |@cons p q ps qs hq t ih=>
   intro x hx;rcases bF.mp hx with e|hx
   ·subst e;exact vA ok (by rw[←hq.1];exact hq.2.1)
   ·exact ih x hx
 exact all r x hx
theorem Gq{kvs:List (List aN×V)}(ok:cI P w H h)(e:H a=aa (.dT kvs)):kvs.length<=ba/\(a == lO)=aj /\ ∃xs,KT H kvs xs/\h.DictOfH (sR (gQ P w)) a xs:=sF ok (.inl e)
end
def pD(H:Hp)(a:af)(y:V)(r:Option V):Prop :=(∃kvs k,Rd H a (.dK kvs)/\y=kV k/\r=i9 kvs k)\/∃kvs k b,Rd H a (.dT kvs)/\y=.ref b/\H b=aa (.tup (k.map kV))/\r=i9 kvs k
def zz(H:Hp)(a:af)(y v:V)(H':Hp):Prop :=
 (∃kvs k,H a=aa (.dK kvs)/\y=kV k/\kvs.length<ba/\H'=upd H a (.dK (iP kvs k v))) \/
 ∃kvs k b,H a=aa (.dT kvs)/\y=.ref b/\H b=aa (.tup (k.map kV))/\kvs.length<ba/\H'=upd H a (.dT (iP kvs k v))
theorem pD.k{H:Hp}{a:af}{kvs:List (aN×V)}{k:aN}(e:H a=aa (.dK kvs)):pD H a (kV k) (i9 kvs k):=.inl ⟨kvs,k,.inl e,rfl,rfl⟩
theorem zz.k{H:Hp}{a:af}{kvs:List (aN×V)}{k:aN}{v:V}(e:H a=aa (.dK kvs))(hl:kvs.length<ba):zz H a (kV k) v (upd H a (.dK (iP kvs k v))):=.inl ⟨kvs,k,e,rfl,hl,rfl⟩
section
variable{X:Cx}{ag:List (af×Obj)}{σ:St}{H:Hp}{s:am}{a:af}{y v:V}{u r:ai}{o:Option V}{A:aO}{E:ai->am->Prop}
theorem Inv.big(I:Inv X ag σ H s):lO<s.heap.objs.size:=by have h:bQ<s.heap.objs.size:=(I.mod.glob.keeps I.bk).lt;exact qE (by decide) h
theorem JE{Q:ai->am->Prop}(hu:A.units+1<cLine)(I:Inv X ag σ H s)(g:pD H a y (aa v))(ry:RelV y u)(h:∀w' s',Inv X ag σ H s'->RelV v w'->Q w' s'):aq (au X.prog X.w) A (oD (.ref a) u) Q E s:=by
 rcases g with⟨kvs,k,e,ey,l⟩|⟨kvs,k,b,e,ey,eb,l⟩
 ·subst ey;obtain⟨z,hd,vs,rel,dd⟩:=sP I.hok e;obtain⟨w',hw,rw'⟩:=mP.some_of (v:=v) (o:=qD vs k) (by rw[l];exact rel.val k);exact wpAny_getItem_of (we ry) dd.mapOf hw (h w' _ (I.tok _) rw')
 ·subst ey;cases (show u=Value.ref b from ry);obtain⟨z,hd,xs,rel,dd⟩:=sF I.hok e;obtain⟨w',hw,rw'⟩:=mP.some_of (v:=v) (o:=(atKey xs k).map (·.2)) (by rw[l];exact rel.val k);obtain⟨p,hp,d8⟩:=zR.mp hw;refine wpAny_getItem_heap (EJ hu) (vA I.hok eb) dd hp ?_;rw[d8];exact h w' _ (I.tok _) rw'
theorem A9{h':aA}{t':Nat}{ob:HO}(I:Inv X ag σ H s)(mu:rW (H a))(hs:jB a s.heap h')(he:∃q,h'.get? a=aa q)(new:cG X.prog X.w (upd H a ob) h' a ob):Inv X ag σ (upd H a ob) {s with heap:=h',toks:=t'} :=I.write (x:=a) (e:=a) mu (.inl rfl) (λb q hb z=>(hs.2 b hb).trans z) he new
theorem Gx{P:aM}{w:aF}{H':Hp}{h':aA}{kvs:List (aN×V)}{vs:List (aN×ai)}(z:kvs.length<=ba)(hd:(a == lO)=aj)(rel:KV kvs vs)(dd:h'.DictOf (gQ P w) a vs):cG P w H' h' a (.dK kvs):=⟨z,hd,vs,rel,dd⟩
theorem Im{H':Hp}{Q:Unit->am->Prop}(hu:A.units+1<cLine)(I:Inv X ag σ H s)(g:zz H a y v H')(ry:RelV y u)(rv:RelV v r)(h:∀s',Inv X ag σ H' s'->Q () s'):aq (au X.prog X.w) A (setItem (.ref a) u r) Q E s:=by
 rcases g with⟨kvs,k,e,ey,l,eH⟩|⟨kvs,k,b,e,ey,eb,l,eH⟩
 ·subst ey eH;obtain⟨z,hd,vs,rel,dd⟩:=yF I.hok e;have hz:vs.length<=ba:=by rw[←rel.length];exact z
  have hl:(iP kvs k v).length<=ba:=by have:=Eb kvs k v;lia
  refine wpAny_setItem_pairs (hsz:=hz) (we ry) dd λh' dd' hs=>h _ ?_;have he:∃q,h'.get? a=aa q:=let ⟨q,_,_,hq,_⟩:=dd';⟨q,hq⟩
  exact A9 I (by rw[e];exact True.intro) hs he (Gx hl hd (rel.put k rv) dd')
 ·subst ey eH;cases (show u=Value.ref b from ry);obtain⟨z,hd,xs,rel,dd⟩:=Gq I.hok e;have hz:xs.length<=ba:=by rw[←Paired.length rel];exact z
  have hl:(iP kvs k v).length<=ba:=by have:=Eb kvs k v;lia
  refine wpAny_setItem_heap (hsz:=hz) (EJ hu) (vA I.hok eb) dd λh' dd' hs=>h _ ?_;obtain⟨q,es,ep,hq,h2,h3,h4,_,h5⟩:=dd';refine A9 I (by rw[e];exact True.intro) hs ⟨q,hq⟩ ⟨hl,hd,_,(rel.put k eb rv).keeps λc ys ec=>?_,q,es,ep,hq,h2,h3,h4,h5⟩;rw[b7 (Gh ec e (λz=>nomatch z))];exact ec
end
def yo(i:aB):Prop:=∀ov iv,zO i aj ov iv=operate [ov,iv] (oD ov iv)
theorem M4{prog:aM}{w:aF}{A:aO}{E:ai->am->Prop}{s:am}{env:Env}{value slice:aB}{pos:Pos}{T id:String}{Q:ai->am->Prop}(hl:typeLookup (.type T) "__getitem__" = pure (aa (.builtin id))) (hs:yo slice)(h:aq (au prog w) A (aT value env) (λo s₁=>aq (au prog w) A (aT slice env) (λi s₂=>s₂.TypeIs o T/\aq (au prog w) A (oD o i) Q E s₂) E s₁) E s):aq (au prog w) A (aT (.Subscript value slice pos) env) Q E s:=by
 refine Subscript_ (dY h (λo s₁ h₁=>dY h₁ (λi s₂ h₂=>?_) λ_ _ x=>x) λ_ _ x=>x);obtain⟨hT,h₂⟩:=h₂;unfold subscriptTail;refine ap ?_;rw[getitemInPython_of_ne hT.not_modules];refine ap (sW hT hl ?_);have fin:aq (au prog w) A (zO slice aj o i) (λr s₃=>aq (au prog w) A (letTemporaryGo value o r >>= λ_=>pure r) Q E s₃) E s₂:=by rw[hs o i];exact wpAny_operating (dY h₂ (λr s₃ h₃=>ap (wpAny_letTemporaryGo (aD h₃))) λ_ _ x=>x)
 first
  |exact aD (ap fin)
  |exact ap (aD (ap fin))
  |exact ap fin
theorem Jy{X:Cx}{ag:List (af×Obj)}{σ:St}{H:Hp}{s:am}{a:af}{y:V}{o:Option V}(I:Inv X ag σ H s)(g:pD H a y o):s.TypeIs (.ref a) "dict":=by
 rcases g with⟨kvs,k,e,_,_⟩|⟨kvs,k,b,e,_,_,_⟩
 ·obtain⟨_,_,vs,_,dd⟩:=sP I.hok e;exact dd.typeIs
 ·obtain⟨_,_,xs,_,dd⟩:=sF I.hok e;exact dd.typeIs
def HL(td ty:TE):TE:=λσ H Q=>td σ H λx H1=>ty σ H1 λy H2=>∃a v,x=.ref a/\pD H2 a y (aa v)/\Q v H2
def HE(td ty tv:TE):TS:=λD σ H=>tv σ H λv H1=>td σ H1 λx H2=>ty σ H2 λy H3=>∃a H4,x=.ref a/\zz H3 a y v H4/\D.nx σ H4
section
variable{X:Cx}{o i e value:aB}{pos pos' tpos:Pos}{td ty tv:TE}
theorem FI(hu:X.A.units+1<cLine)(ho:PE X o td)(hi:PE X i ty)(hs:yo i):PE X (.Subscript o i pos) (HL td ty):=by intro ag s σ H Q I h;refine M4 PySem.F.slot_dict_getitem.lookup hs (aV (ho ag s σ H _ I h) λu s1 ⟨x,H1,I1,rx,q1⟩=>aV (hi ag s1 σ H1 _ I1 q1) λiv s2 ⟨y,H2,I2,ry,a,v,ex,g,q2⟩=>?_);subst ex;obtain rfl:u=Value.ref a:=rx;exact⟨Jy I2 g,JE hu I2 g ry λw' s3 I3 rw'=>⟨v,H2,I3,rw',q2⟩⟩
theorem G6(hu:X.A.units+1<cLine)(ho:PE X o td)(hi:PE X i ty)(hv:PE X value tv)(hs:kR value (aa (.Subscript o i pos')) pos.line X.env=pure aj):PS X (.Assign [.Subscript o i pos'] value pos) (HE td ty tv):=by intro ag s σ H D I h;refine wpAny_Assign_Subscript (aV (hv ag s σ H _ I h) λr s1 ⟨v,H1,I1,rv,q1⟩=>aV (ho ag s1 σ H1 _ I1 q1) λu s2 ⟨x,H2,I2,rx,q2⟩=>aV (hi ag s2 σ H2 _ I2 q2) λiv s3 ⟨y,H3,I3,ry,a,H4,ex,g,q3⟩=>?_) hs;subst ex;obtain rfl:u=Value.ref a:=rx;exact Im hu I3 g ry rv λs4 I4=>⟨σ,H4,I4,q3⟩
end
theorem Iz{P:aM}{w:aF}{H:Hp}(h:aA)(hb:lO<h.objs.size):cG P w H (h.push {cls:=.type "dict",data:=.dict #[]}) h.objs.size (.dK []) :=⟨kY _,beq_eq_false_iff_ne.mpr (ef (cR hb)),[],.nil,Heap.DictOf.new h⟩
def K0:TE:=λ_ H Q=>∀p,H p=ae->Q (.ref p) (upd H p (.dK []))
section
variable{X:Cx}{pos:Pos}
theorem Ia:PE X (.Dict [] [] pos) K0:=λag s σ H Q I h=>wpAny_Dict_empty ⟨.ref s.heap.objs.size,_,I.laid (a:=s.heap.objs.size) (o:=.dK []) (t':=s.toks) (λ_ _ q=>bG _ q) (a_ _) (Iz s.heap I.big),rfl,h _ (I.hok.fresh (a_ _))⟩
end
abbrev VV:List (V×V)->List (ai×ai)->Prop:=kN λp q=>RelV p.1 q.1/\RelV p.2 q.2
structure M2(X:Cx)(o:aB)(m:Str)(apos:Pos)(e f:aB)(cpos:Pos):Prop where
 base:kW o m X.env (aT o X.env)=aT o X.env
 few:((cL cpos (aL [e,f] X.env)).all (λx=>!x.1)&&(qy cpos (qz [] X.env)).all (λx=>x.1.isSome)&&decide (([e,f]:List aB).length+([]:List jh).length+(if([]:List jh).isEmpty then 0 else 1)<30))=ah
 line:(apos.endLine == cpos.line)=ah
 trees:cL cpos (aL [e,f] X.env)=[(aj,aT e X.env),(aj,aT f X.env)]
def Bp(H:Hp)(a:af):Prop:=(∃kvs,Rd H a (.dK kvs))\/∃kvs,Rd H a (.dT kvs)
theorem Kv{X:Cx}{ag:List (af×Obj)}{σ:St}{H:Hp}{s:am}{a:af}(I:Inv X ag σ H s)(d:Bp H a):s.TypeIs (.ref a) "dict"/\(∀b,Value.ref a=.ref b->∃ob,s.heap.get? b=aa ob/\ob.dict=ae)/\(a == lO)=aj:=by
 rcases d with⟨kvs,e⟩|⟨kvs,e⟩
 ·obtain⟨_,hd,vs,_,dd⟩:=sP I.hok e;refine⟨dd.typeIs,λb q=>?_,hd⟩;cases q;obtain⟨ob,_,_,h1,h2,_⟩:=dd;exact⟨ob,h1,h2.2.1⟩
 ·obtain⟨_,hd,xs,_,dd⟩:=sF I.hok e;refine⟨dd.typeIs,λb q=>?_,hd⟩;cases q;obtain⟨ob,_,_,h1,h2,_⟩:=dd;exact⟨ob,h1,h2.2.1⟩
section
variable{X:Cx}{ag:List (af×Obj)}{σ:St}{H:Hp}{s:am}{a:af}{y d:V}{u r:ai}{o:Option V}{A:aO}{E:ai->am->Prop}
theorem Hz{Q:ai->am->Prop}(hu:A.units+1<cLine)(I:Inv X ag σ H s)(g:pD H a y o)(ry:RelV y u)(rd:RelV d r)(h:∀w' s',Inv X ag σ H s'->RelV (o.getD d) w'->Q w' s'):aq (au X.prog X.w) A (call (.builtin "dict.get") [.ref a,u,r]) Q E s:=by
 rcases g with⟨kvs,k,e,ey,l⟩|⟨kvs,k,b,e,ey,eb,l⟩
 ·subst ey;obtain⟨z,hd,vs,rel,dd⟩:=sP I.hok e;refine call_meetsIn EK dd.typeIs PySem.F.entry_dict_get (PySem.F.args_dict_get_3 _ _ _) (meets_dict_get_default (gQ X.prog X.w) a (we ry) hd r) ⟨_,dd.mapOf,h _ _ (I.tok _) ?_⟩;rw[l];exact(rel.val k).getD rd
 ·subst ey;cases (show u=Value.ref b from ry);obtain⟨z,hd,xs,rel,dd⟩:=sF I.hok e;refine call_meetsIn EK dd.typeIs PySem.F.entry_dict_get (PySem.F.args_dict_get_3 _ _ _) (meetsH_dict_get_default (sR (gQ X.prog X.w)) a b hd r) ⟨EJ hu,k,xs,vA I.hok eb,dd,h _ _ (I.tok _) ?_⟩;rw[l];exact(rel.val k).getD rd
end
def LD(td ty tx:TE):TE:=λσ H Q=>td σ H λx H1=>∃a,x=.ref a/\Bp H1 a/\ty σ H1 λy H2=>tx σ H2 λz H3=>∃o,pD H3 a y o/\Q (o.getD z) H3
section
variable{X:Cx}{o e f:aB}{apos cpos:Pos}{td ty tx:TE}
theorem Ii(hu:X.A.units+1<cLine)(ho:PE X o td)(he:PE X e ty)(hf:PE X f tx)(m:M2 X o "get" apos e f cpos):PE X (.Call (.Attribute o "get" apos) [e,f] [] cpos) (LD td ty tx):=by intro ag s σ H Q I h;refine wpAny_Call_method m.base m.few m.line PySem.F.plainAttrs_dict EK PySem.F.type_dict_get (aV (ho ag s σ H _ I h) λu s1 ⟨x,H1,I1,rx,a,ex,d,q1⟩=>?_);subst ex;obtain rfl:u=Value.ref a:=rx;obtain⟨t1,t2,_⟩:=Kv I1 d;refine⟨t1,t2,?_⟩;rw[m.trees];refine zP rfl (zQ (zI (aV (he ag s1 σ H1 _ I1 q1) λiv s2 ⟨y,H2,I2,ry,q2⟩=>zI (aV (hf ag s2 σ H2 _ I2 q2) λfv s3 ⟨z,H3,I3,rz,ov,g,q3⟩=>EC ?_))));exact Hz hu I3 g ry rz λw' s4 I4 rw'=>⟨_,H3,I4,rw',q3⟩
end
end L2
namespace Att
open PySem PySem.W PySem.Calls PyProof.Rows
theorem Mm{P:Params}{h:aA}:∀(ns:List Int) (vs:List ai),WellAll P h vs (ns.map WData.int)->IntsAre vs ns:=by
 intro ns
 induction ns with
 |nil=>
  intro vs w;rw[List.map_nil]at w;cases w;exact .nil
 |cons n ns ih=>
  intro vs w;rw[eu]at w;cases w with
  |cons a b=>
   cases a;exact .cons _ _ (ih _ b)
theorem Np{l:OpenLaw}{n:Nat}(hn:l.most=aa n){P:Params}{h:aA}{args:List WData}{vals:List ai}(wZ:l.row.toRowW.claim.pre args=ah) (hwl:WellAll P h vals args):∃a vs ns,vals=[Value.ref a]/\args=[WData.list (ns.map WData.int)]/\h.get? a=aa {cls:=.type "list",data:=.seq vs.toArray}/\IntsAre vs ns/\ns.length<=n:=by
 have hsh:WShape.hasAll [] args [.list .int]=ah:=(pre_splitW wZ).1;have hc:l.pre.holds [] {args:=args}=ah:=(pre_splitW wZ).2;obtain⟨d,r,rfl,h1,h2⟩:=hasAllW_cons hsh;obtain rfl:=hasAllW_nil h2;obtain⟨xs,rfl,h3⟩:=hasW_list h1;obtain⟨ns,rfl⟩:=items_int h3;have bw:ns.length<=n:=by
  unfold OpenLaw.pre at hc;have h4:(WTm.not (.lt (.lit (.int (n:Int))) (.len (.arg 0)))).holds [] {args:=[.list (ns.map .int)]}=ah:=by have h4:=(holds_andW hc).1;rw[hn]at h4;exact h4
  have h5:=condW_of h4 (w_not (w_lt w_lit (w_len_list (w_arg rfl))));rw[dw]at h5;refine Nat.le_of_not_lt λq=>?_;have q':(n:Int)<((ns.length:Nat):Int):=∅
  first
   | (rw[decide_eq_true q']at h5;exact absurd h5 (by decide))
   | (simp at h5;lia)
 cases hwl with
 |cons w1 w2=>
  cases w2;cases w1 with
  |list ho fg=>exact⟨_,_,ns,rfl,rfl,ho,Mm ns _ fg,bw⟩
theorem Ki(l:OpenLaw)(args:List WData):l.row.toRowW.claim.post args (.bool ah) args=ah :=
 postW_of (r:=l.row.toRowW) (X:=(ah == ah))
  (show WShape.has [] (.bool ah) .bool=ah by first|rfl|decide|simp[WShape.has,WShape.arms,WShape.armsAll])
  (show(WTm.eq .res (.lit (.bool ah))).value [] {args:=args,res:=aa (.bool ah),after:=args}=aa (.bool (ah == ah))from w_eq_bool (w_res rfl) w_lit) rfl
theorem attach_call{l:OpenLaw}{n:Nat}{q:aM}{loose:List Str}{XP:(Str->Option ai)->aA->Prop}{YP:aF->aA->Prop}{d:DefRec}(hn:l.most=aa n) (oU:d.params.defaults=[])(call:∀(w:aF) (s₀ s₁:am) (mg mb:Str->Option ai) (fa:af) (o:Obj) (pm cd doc:ai) (a:af) (vs:List ai) (ns:List Int),Ground q loose [] XP w s₀ mg mb s₁.heap->YP w s₁.heap -> s₁.heap.get? fa=aa o->o.data=.func (docDef d.name d.params d.body d.scope pm cd doc)->s₁.heap.CodeRec cd d.name->mg d.name=aa (.ref fa) -> s₁.heap.get? a=aa {cls:=.type "list",data:=.seq vs.toArray}->IntsAre vs ns->ns.length<=n->s₁.gens=#[] -> kU (au l.prog w) qF (.call (.ref fa) ⟨[.ref a],[]⟩) (λr s'=>r=.ok (.ret (.bool ah))/\OldK s₁.heap s'.heap/\s'.os=s₁.os/\lQ s'.gens) s₁):WalkO q loose XP YP l.row.toRowW d [] (λf vs=>PySem.call f vs):=by intro w s₀ s₁ mg mb G Y fa o pm cd doc dV kV ho hd bS hD tP hg args vals as wZ hlay hrd hwl hlo;obtain rfl:dV=.none:=Dflts.none hD oU;obtain rfl:kV=.none:=Dflts.noKw hD;obtain⟨a,vs,ns,rfl,rfl,AJ,AF,bw⟩:=Np hn wZ hwl;refine enter_call (oA (call w s₀ s₁ mg mb fa o pm cd doc a vs ns G Y ho (fd_plain hd) bS tP AJ AF bw hg) λr s' hq=>?_);obtain⟨rfl,h2,h3,h4⟩:=hq;exact⟨.inl ⟨.bool ah,.bool ah,[],rfl,λ_=>rfl,.bool ah,Ki l _,λ_=>⟨List.Pairwise.nil,λ_ hm=>(nomatch hm)⟩⟩,h2,h3,h4⟩
end Att
namespace L2
theorem AX:∀{vs:List ai}{ns:List Int},IntsAre vs ns->bn (ns.map V.int) vs
 |_,_,.nil=>.nil
 |_,_,.cons n t h=>.cons ⟨t,rfl⟩ (AX h)
def yX(H:Hp):Prop:=∀b,H b=ae\/(∃o xs,H b=aa (.frz o (.lst xs)))\/∃q,H b=aa (.tbl q)
def i5(K:ax):Hp:=λb=>match ot K "road" with
 |some (_,P)=>if b=P then aa (.tbl "road.<locals>.<lambda>")else ae
 |none=>ae
theorem n4{K:ax}{b:af}{u:HO}(h:i5 K b=aa u):u=.tbl "road.<locals>.<lambda>"/\∃c,ot K "road" = aa (c,b):=by
 unfold i5 at h;split at h
 ·rename_i c P e;split at h
  ·rename_i hb;subst hb;cases h;exact⟨rfl,c,e⟩
  ·cases h
 ·cases h
theorem Bt{K:ax}{c P:af}(h:ot K "road" = aa (c,P)):i5 K P=aa (.tbl "road.<locals>.<lambda>"):=by unfold i5;rw[h];exact if_pos rfl
def Ba(K:ax)(h:aA):Prop:=∀c P,ot K "road" = aa (c,P)->PySem.W.codeHdIn K c P=ah/\K.lookup P=ae/\h.get? P=aa {cls:=.none,data:=.fields #[]}
theorem J_{P:aM}{w:aF}{K:ax}{mg mb:Str->Option ai}{CX:fE}{k:Nat}{fa a:af}{fd:f8}{x:Str}{sp:Sp}{s₁:am}{vs:List ai}{ns:List Int}(KX:K.In s₁.heap) (q8:s₁.heap.Ns bQ mg) (hb:s₁.heap.Ns oq mb) (hbb:∀x:Str,x≠"__name__"->mb x=eB x) (hlim:s₁.heap.NoLimit) (hbm:∃bm ob,mg "__builtins__" = aa (.ref bm)/\bm≠oq/\s₁.heap.get? bm=aa ob/\ob.cls=.type "module"/\ob.dict=aa oq/\ob.data=.plain) (nu:Ba K s₁.heap) (hg:s₁.gens=#[])(ha:s₁.heap.get? a=aa {cls:=.type "list",data:=.seq vs.toArray}) (hi:IntsAre vs ns) (hl:ns.length<=ba) (hr:eX k qF)(F:∀base:aA,K.In base->base.Ns bQ mg->jM P w K mg base CX k fa fd [x] sp) (N2:∀(s:am) (u:ai),BindsTo s fd ⟨[u],[]⟩ [(x,u)])(gc:∀H:Hp,yX H->cc K H a (ns.map V.int)->sp [.ref a] H (λv _=>v=.bl ah) λ_ _ _=>False)(hCX:∀H e s',CX [] H s₁ (λ_ _ _=>False) e s'->False):kU (au P w) qF (.call (.ref fa) ⟨[.ref a],[]⟩) (λr s'=>r=.ok (.ret (.bool ah))/\OldK s₁.heap s'.heap/\s'.os=s₁.os/\lQ s'.gens) s₁:=by
 have rv:=AX hi;have lenV:=hi.length;have core:∀H:Hp,yX H->cc K H a (ns.map V.int)->cI P w H s₁.heap->(∀b,H b≠ae->b=a\/∃c,ot K "road" = aa (c,b))->(H a≠ae->K.lookup a=ae)->uA K H ->
   kU (au P w) qF (.call (.ref fa) ⟨[.ref a],[]⟩) (λr s'=>r=.ok (.ret (.bool ah))/\OldK s₁.heap s'.heap/\s'.os=s₁.os/\lQ s'.gens) s₁:=by
  intro H hO hS hok hA hK hTH;have base_of:∀{b:af}{o:Obj},s₁.heap.get? b=aa o->H b=ae->(lB s₁.heap H).get? b=aa o:=λe n=>JA e n;have noA:∀{b:af}{o:Obj}{es:Array DictEntry}{ep:Nat},s₁.heap.get? b=aa o->o.data=.dict es ep->H b=ae:=λ{b o es ep} e d=>by
   cases q:H b with
   |none=>rfl
   |some u=>
    rcases hA b (by rw[q];simp)with e'|⟨c,e'⟩
    ·subst e';rw[ha]at e;cases e;have d':Data.seq vs.toArray _=Data.dict es ep:=d;cases d'
    ·rw[(nu c b e').2.2]at e;cases e;cases d
  have nsK:∀{b:af}{m:Str->Option ai},s₁.heap.Ns b m->(lB s₁.heap H).Ns b m:=λ{b m} ⟨o,es,ep,e,d,r⟩=>⟨o,es,ep,base_of e (noA e d),d,r⟩
  have hKb:K.In (lB s₁.heap H):=λb o e=>base_of (KX b o e) (by
   cases q:H b with
   |none=>rfl
   |some u=>
    rcases hA b (by rw[q];simp)with e'|⟨c,e'⟩
    ·subst e';rw[hK (by rw[q];simp)]at e;cases e
    ·rw[(nu c b e').2.1]at e;cases e)
  have hM:Mod K mg (lB s₁.heap H):=⟨hKb,nsK q8,⟨mb,nsK hb,hbb⟩,(let ⟨mc,h1,h2⟩:=hlim;⟨mc,nsK h1,h2⟩),by
   obtain⟨bm,ob,b1,b2,b3,b4,b5,b6⟩:=hbm;refine⟨bm,ob,b1,b2,base_of b3 ?_,b4,b5,b6⟩;cases q:H bm with
   |none=>rfl
   |some u=>
    rcases hA bm (by rw[q];simp)with e'|⟨c,e'⟩
    ·subst e';rw[ha]at b3;cases b3;simp at b4
    ·rw[(nu c bm e').2.2]at b3;cases b3;simp at b4⟩
  have e0:pJ P w K mg (lB s₁.heap H) qF [] s₁ H:=⟨rfl,hM,λb o e=>NM e,lV (FE _ _),trivial,λb hb=>absurd (show b∈([]:List af)from hb) (by simp),hok,.of_eq hg,hTH⟩
  refine oA ((F _ hKb (nsK q8)).run qF [] s₁ H ⟨[.ref a],[]⟩ [.ref a] [.ref a] _ _ hr e0 (N2 s₁ (.ref a)) (.cons rfl .nil) (gc H hO hS)) λr s' h=>?_;cases r with
  |error e=>exact(hCX H e s' h).elim
  |ok fl=>
   cases fl with
   |next=>exact f9 h
   |brk=>exact f9 h
   |cont=>exact f9 h
   |ret u=>
    obtain⟨v,H',os,bare,un,Fm,r',q⟩:=h;have q':v=.bl ah:=q;subst q';obtain rfl:u=Value.bool ah:=r';refine⟨rfl,⟨λb o e=>?_,λb o e=>un.there b o e (by simp)⟩,os,bare⟩;cases q:H b with
    |none=>exact .inl (un.keep b o e q (by intro z;exact absurd (show b∈([]:List af)from z) (by simp)) (by simp))
    |some u=>
     rcases hO b with z|⟨ob,xs,z⟩|⟨qn,z⟩
     ·rw[q]at z;cases z
     ·have z2:=un.frzs b ob _ z;obtain⟨e1,_⟩:=hok b _ z;obtain⟨e2,_⟩:=Fm b _ z2;rw[e]at e1;cases e1;exact .inl e2
     ·rcases hA b (by rw[q];simp)with e'|⟨c,e'⟩
      ·subst e';obtain⟨ps,e1,_⟩:=hok b _ z;rw[ha]at e1;cases e1
      ·obtain⟨k1,k2,k3⟩:=nu c b e';rw[k3]at e;cases e;obtain⟨oc,vs',_,_,_,_,_,_,_,f1,f2,f3,f4,_⟩:=PySem.W.codeHd_of_K KX k1;obtain⟨ps,e1,_⟩:=Fm b _ (un.tbls b _ z);exact .inr (.inl ⟨⟨c,oc,vs',f1,f2,f3,f4⟩,rfl,#[],ps,rfl,by rw[e1];simp⟩)
 cases hk:K.lookup a with
 |some o=>
  have e:=KX a o hk;rw[ha]at e;cases e;have tH:∀b u,i5 K b=aa u->cG P w (i5 K) s₁.heap b u:=λb u z=>by
   obtain⟨rfl,c,e⟩:=n4 z;exact⟨#[],(nu c b e).2.2,trivial,λpos cv h=>by cases h⟩
  refine core (i5 K) (λb=>?_) (.inr ⟨_,vs.toArray,_,hk,rfl,rfl,rfl,by rw[ce,lenV];exact hl,by simpa using rv⟩) tH (λb z=>?_) (λz=>?_) λx hx c P e=>?_
  ·cases q:i5 K b with
   |none=>exact .inl rfl
   |some u=>exact .inr (.inr ⟨_,congrArg aa (n4 q).1⟩)
  ·cases q:i5 K b with
   |none=>exact absurd q z
   |some u=>exact .inr (n4 q).2
  ·cases q:i5 K a with
   |none=>exact absurd q z
   |some u=>
    obtain⟨_,c,e'⟩:=n4 q;rw[(nu c a e').2.2]at ha;cases ha
  ·obtain rfl:x = "road":=by simpa[zk]using hx
   exact Bt e
 |none=>
  have ta:∀c P,ot K "road" = aa (c,P)->P≠a:=λc P e z=>by subst z;rw[(nu c P e).2.2]at ha;cases ha
  refine core (λb=>if b=a then aa (.frz {cls:=.type "list",data:=.seq vs.toArray} (.lst (ns.map V.int)))else i5 K b) (λb=>?_) (.inl (.inr ⟨{cls:=.type "list",data:=.seq vs.toArray},if_pos rfl⟩)) (λb u z=>?_) (λb z=>?_) (λ_=>hk) λx hx c P e=>?_
  ·by_cases hb:b=a
   ·exact .inr (.inl ⟨_,_,if_pos hb⟩)
   ·cases q:i5 K b with
    |none=>exact .inl ((if_neg hb).trans q)
    |some u=>exact .inr (.inr ⟨_,(if_neg hb).trans (q.trans (congrArg aa (n4 q).1))⟩)
  ·by_cases hb:b=a
   ·have z':=(if_pos hb).symm.trans z;cases z';subst hb;exact⟨ha,by rw[dw];exact hl,vs,_,rv,ha⟩
   ·obtain⟨rfl,c,e⟩:=n4 ((if_neg hb).symm.trans z);exact⟨#[],(nu c b e).2.2,trivial,λpos cv h=>by cases h⟩
  ·by_cases hb:b=a
   ·exact .inl hb
   ·cases q:i5 K b with
    |none=>exact absurd ((if_neg hb).trans q) z
    |some u=>exact .inr (n4 q).2
  ·obtain rfl:x = "road":=by simpa[zk]using hx
   exact(if_neg (ta c P e)).trans (Bt e)
theorem Oy{l:zS}{n k:Nat}{q:aM}{loose:List Str}{XP:(Str->Option ai)->aA->Prop}{YP:aF->aA->Prop}{d:DefRec}{K:Params->ax}{CX:aF->fE}{sp:aF->Sp}{x:Str}(hn:l.most=aa n) (hn2:n<=ba) (oU:d.params.defaults=[]) (hr:eX k qF)(hY:∀(w:aF) (h:aA),YP w h->(K w.params).In h/\Ba (K w.params) h)(F:∀(w:aF) (mg:Str->Option ai) (fa:af) (h:aA),(K w.params).In h->h.Ns bQ mg->mg d.name=aa (.ref fa) -> ∃fd:f8,(∀(s:am) (u:ai),BindsTo s fd ⟨[u],[]⟩ [(x,u)]) /\ ∀base:aA,(K w.params).In base->base.Ns bQ mg->jM l.prog w (K w.params) mg base (CX w) k fa fd [x] (sp w))(gc:∀(w:aF) (H:Hp) (a:af) (ns:List Int),ns.length<=n->yX H->cc (K w.params) H a (ns.map V.int)->sp w [.ref a] H (λv _=>v=.bl ah) λ_ _ _=>False)(hCX:∀(w:aF) (H:Hp) (s:am) (e:ai) (s':am),CX w [] H s (λ_ _ _=>False) e s'->False):PySem.W.WalkO q loose XP YP l.row.toRowW d [] (λf vs=>PySem.call f vs):=by refine Att.attach_call hn oU λw s₀ s₁ mg mb fa o pm cd doc a vs ns G Y ho hd bS tP AJ AF bw hg=>?_;have KX:=(hY w _ Y).1;obtain⟨fd,hb,hF⟩:=F w mg fa _ KX G.T.g tP;exact J_ KX G.T.g G.T.b G.T.builtins G.T.nolimit G.T.bmain (hY w _ Y).2 hg AJ AF (cS bw hn2) hr hF hb (λH hO hS=>gc w H a ns bw hO hS) λH e s'=>hCX w H s₁ e s'
def i7(s:a6):Arguments:=match s with
 |.FunctionDef _ a _ _ _ _ _ _ _ _=>a
 |_=>{posonlyargs:=[],args:=[],vararg:=ae,kwonlyargs:=[],kw_defaults:=[],kwarg:=ae,defaults:=[]}
def fz(s:a6):List a6:=match s with
 |.FunctionDef _ _ b _ _ _ _ _ _ _=>b
 |_=>[]
def aX(s:a6):dX:=match s with
 |.FunctionDef _ _ _ _ _ _ sc _ _ _=>sc
 |_=>{kind:=.function,names:=[],isGenerator:=aj,isCoroutine:=aj}
abbrev xW:fE:=λ_ _ _ _ _ _=>False
abbrev E0:XK:=λ_ _ _=>False
structure nR(K:ax)(x qual:Str)(st:a6)(f:af)(fd:f8):Prop where
 ex:∃(oc:ai) (od:Option af) (kV doc pm:ai) (an:Option af) (aJ ct:ai) (osl:Array (Option ai)),
  fd=hG x qual (i7 st) (fz st) (aX st) .none kV doc pm an aJ ct/\K.lookup f=aa ⟨oc,od,.func fd,osl⟩/\sT K aJ qual=ah
 kp:oB K (.ref f)=ah
section
variable{P:aM}{w:aF}{K:ax}{mg:Str->Option ai}{base:aA}
theorem nR.binds{x qual:Str}{st:a6}{f:af}{fd:f8}{ps:List Str}(F:nR K x qual st f fd)(h:∀(kV doc pm:ai) (an:Option af) (aJ ct:ai) (us:List ai),us.length=ps.length->fA (hG x qual (i7 st) (fz st) (aX st) .none kV doc pm an aJ ct) ⟨us,[]⟩=pure (ps.zip us)):Binds K fd ps []:=by obtain⟨oc,od,kV,doc,pm,an,aJ,ct,osl,rfl,lk,bS⟩:=F.ex;exact .all (h kV doc pm an aJ ct)
theorem Du{x qual:Str}{st:a6}{f:af}{oc:ai}{od an:Option af}{osl:Array (Option ai)}{kV doc pm aJ ct:ai}(l:K.lookup f=aa ⟨oc,od,.func (hG x qual (i7 st) (fz st) (aX st) .none kV doc pm an aJ ct),osl⟩)(c:sT K aJ qual=ah) (k:oB K (.ref f)=ah):nR K x qual st f (hG x qual (i7 st) (fz st) (aX st) .none kV doc pm an aJ ct):=⟨⟨oc,od,kV,doc,pm,an,aJ,ct,osl,rfl,l,c⟩,k⟩
end
theorem Lx{n:Nat}(h:n<=1000):n<ba:=oF h (by decide)
section
variable{X:Cx}
theorem pv(i:Nat){x:Str}{pos:Pos}(hN:X.N[i]?=aa x:=by rfl)(hv:fF X.env.scope x:=by first|exact Or.inl rfl|exact Or.inr (Or.inl rfl)|exact Or.inr (Or.inr rfl))(hd:(x == ("__debug__" : Str))=aj:=by decide)(bS:(x == ("__classdict__" : Str))=aj:=by decide):PE X (.Name x pos) (DY i):=gP hN hv hd bS
end
theorem pG{A B:Prop}(h:B):if aj=ah then A else B:=by rw[if_neg eR];exact h
theorem pX{A B:Prop}(h:A):if ah=ah then A else B:=by rw[if_pos rfl];exact h
def Same(H H':Hp):Prop:=∀b o,H b=aa o->H' b=aa o
theorem Same.refl(H:Hp):Same H H:=λ_ _ h=>h
theorem Same.trans{H H1 H2:Hp}(a:Same H H1)(b:Same H1 H2):Same H H2:=λc o h=>b c o (a c o h)
theorem Same.free{H H':Hp}(e:Same H H'){l:af}(h:H' l=Option.none):H l=Option.none:=by
 cases q:H l with
 |none=>rfl
 |some o=>
  rw[e l o q]at h;cases h
end L2
set_option maxHeartbeats 4000000
namespace L2
def gn(env:Env):List (Str×fM)->List (Str×af)->List (Str×af)
 |[],cs=>cs
 | (n,k)::r,cs=>if k == .free then gn env r ((n,(env.cells.lookup n).getD 0)::cs)else gn env r cs
theorem Mz{env:Env}{y:Str}{c:af}(names:List (Str×fM))(cs:List (Str×af))(hh:∀x∈names,x.2=.free->∃c,env.cells.lookup x.1=aa c)(h:(gn env names cs).lookup y=aa c):cs.lookup y=aa c\/env.cells.lookup y=aa c:=by
 induction names generalizing cs with
 |nil=>exact .inl h
 |cons a r ih=>
  obtain⟨n,k⟩:=a;unfold gn at h;have hr:∀x∈r,x.2=.free->∃c,env.cells.lookup x.1=aa c:=λx hx=>hh x (dI _ hx);split at h
  ·rename_i hk;obtain⟨c',eD⟩:=hh (n,k) (eN ..) (by simpa using hk);rcases ih _ hr h with q|q
   ·rw[jE]at q;split at q
    ·rename_i hb;have e:y=n:=by simpa using hb
     subst e;rw[eD]at q;exact .inr (by rw[eD];exact q)
    ·exact .inl q
   ·exact .inr q
  ·exact ih _ hr h
theorem Dm{α:Type}{n:Str}{v:α}{l:List (Str×α)}:((n,v)::l).lookup n=aa v:=by rw[jE];simp
theorem CK{α:Type}{n y:Str}{v:α}{l:List (Str×α)}(h:∃c,l.lookup y=aa c):∃c,((n,v)::l).lookup y=aa c:=by
 rw[jE];split
 ·exact⟨_,rfl⟩
 ·exact h
theorem yI{env:Env}{y:Str}:∀(names:List (Str×fM)) (cs:List (Str×af)),(∃c,cs.lookup y=aa c)->∃c,(gn env names cs).lookup y=aa c
 |[],cs,h=>h
 | (n,k)::r,cs,h=>by
  unfold gn;split
  ·exact yI r _ (CK h)
  ·exact yI r _ h
theorem xg{env:Env}{y:Str}:∀(names:List (Str×fM)) (cs:List (Str×af)),(∃x∈names,x.1=y/\x.2=.free)->∃c,(gn env names cs).lookup y=aa c
 |[],cs,⟨_,h,_⟩=>by simp at h
 | (n,k)::r,cs,⟨x,hx,e1,e2⟩=>by
  unfold gn;rcases bF.mp hx with e|hx
  ·subst e;simp only at e1 e2;subst e1 e2;simp only[beq_self_eq_true,if_true];exact yI r _ ⟨_,Dm⟩
  ·split
   ·exact xg r _ ⟨x,hx,e1,e2⟩
   ·exact xg r _ ⟨x,hx,e1,e2⟩
theorem yV{env:Env}:∀(names:List (Str×fM)) (cs:List (Str×af)),(∀x∈names,x.2=.free->∃c,env.cells.lookup x.1=aa c) -> (forIn (m:=Sem) names cs λx r=>match x with | (name,kind)=>if(kind == NameKind.free)=ah then do let c ←cellOf env name;pure (ForInStep.yield ((name,c)::r))else pure (ForInStep.yield r))=pure (gn env names cs)
 |[],cs,_=>rfl
 | (n,k)::r,cs,h=>by
  have hr:∀x∈r,x.2=.free->∃c,env.cells.lookup x.1=aa c:=λx hx=>h x (dI _ hx);rw[List.forIn_cons];unfold gn;by_cases hk:(k == NameKind.free)=ah
  ·obtain⟨c,hc⟩:=h (n,k) (eN ..) (by simpa using hk);simp only[hk,if_true];have e:cellOf env n=pure c:=by unfold cellOf;rw[hc]
   rw[e];simp only[pure_bind];rw[yV r _ hr,hc];rfl
  ·simp only[hk,if_false,pure_bind];exact yV r _ hr
theorem MU{scope:dX}{env:Env}(h:∀x∈scope.names,x.2=.free->∃c,env.cells.lookup x.1=aa c):closureFor scope env=pure (gn env scope.names []):=by unfold closureFor;have q:=yV scope.names [] h;simp only[bind_pure_comp]at q ⊢;rw[q];rfl
theorem vY{n c:Nat}(h1:n+1<=c)(h2:c<n):False:=∅
theorem xl:∀(names:List (Str×fM)) (n:Nat) (a b:List (Str×af)),eT n names (a++b)=eT n names a++b
 |[],_,_,_=>rfl
 | (x,k)::r,n,a,b=>by
  unfold eT;split
  ·exact xl r (n+1) ((x,n)::a) b
  ·exact xl r n a b
theorem uI{y:Str}{c:af}:∀(names:List (Str×fM)) (n:Nat) (a:List (Str×af)),(y,c)∈eT n names a->(y,c)∈a\/(y,.cell)∈names
 |[],_,_,h=>.inl h
 | (x,k)::r,n,a,h=>by
  unfold eT at h;split at h
  ·rename_i hk;rcases uI r _ _ h with z|z
   ·rcases bF.mp z with z|z
    ·cases z;have e:k=.cell:=by simpa using hk
     subst e;exact .inr (eN ..)
    ·exact .inl z
   ·exact .inr (dI _ z)
  ·rcases uI r _ _ h with z|z
   ·exact .inl z
   ·exact .inr (dI _ z)
theorem zi{y:Str}:∀(names:List (Str×fM)) (n:Nat) (a:List (Str×af)),(∃c,a.lookup y=aa c)->∃c,(eT n names a).lookup y=aa c
 |[],_,_,h=>h
 | (x,k)::r,n,a,h=>by
  unfold eT;split
  ·exact zi r _ _ (CK h)
  ·exact zi r _ _ h
theorem wj{y:Str}:∀(names:List (Str×fM)) (n:Nat) (a:List (Str×af)),(y,.cell)∈names->∃c,(eT n names a).lookup y=aa c
 | (x,k)::r,n,a,h=>by
  unfold eT;rcases bF.mp h with e|h
  ·cases e;exact zi r _ _ ⟨_,Dm⟩
  ·split
   ·exact wj r _ _ h
   ·exact wj r _ _ h
def kr(X:Cx)(scope:dX)(C:af):List (Str×af):=eT (C+1) scope.names (gn X.env scope.names [])
theorem yz(X:Cx)(scope:dX)(C:af):kr X scope C=eT (C+1) scope.names []++gn X.env scope.names []:=xl scope.names (C+1) [] _
theorem JU{M:Model}{A:aO}{E:ai->am->Prop}{s:am}{scope:dX}{globals:af}{cl:List (Str×af)}{qual:Str}{env:Env}{Q:Env->am->Prop}(hQ:Q (newEnv scope s.heap.objs.size globals (eT (s.heap.objs.size+1) scope.names cl) qual ae .none (aa env) oq) {s with heap:=pushCells (s.heap.push {cls:=.type "dict",data:=.dict #[]}) scope.names}):aq M A (newFunctionEnv scope globals cl [] qual ae .none (aa env)) Q E s:=by
 simp only[newFunctionEnv,Option.isSome_some,if_true];refine ap (wpAny_alloc ?_);refine ap (wpAny_layCells _ (λname kind cells=>by cases hkc:kind == NameKind.cell <;> simp[hkc]) _ _ _ _ ?_);rw[show({s with heap:=s.heap.push {cls:=.type "dict",data:=.dict #[]}}:am).heap.objs.size=s.heap.objs.size+1 from zT ..];refine ap ?_;rw[List.forIn_nil];exact aD (aD hQ)
theorem BL{s:am}{names:List (Str×fM)}{y:Str}{c:af}(h:(y,c)∈eT (s.heap.objs.size+1) names []):(pushCells (s.heap.push {cls:=.type "dict",data:=.dict #[]}) names).IsCell c ae/\s.heap.objs.size+1<=c/\∀z,(z,c)∈eT (s.heap.objs.size+1) names []->y=z:=by have ok:=cellsFrom_ok names (s.heap.push {cls:=.type "dict",data:=.dict #[]}) (s.heap.objs.size+1) [] ⟨λ_ _ hm=>(nomatch hm),List.Pairwise.nil⟩ (by rw[zT];exact a_ _);rw[zT]at ok;exact⟨(ok.empty y c h).1,(ok.empty y c h).2,λz hz=>name_of_addr ok.apart h hz⟩
def cP(X:Cx)(scope:dX)(N':List Str)(C:af)(s₀:am)(H₀:Hp)(ex:List af)(pn:List (af×Obj)):Cx where
 prog:=X.prog
 w:=X.w
 K:=X.K
 mg:=X.mg
 base:=X.base
 A:=X.A
 N:=N'
 s₀:=s₀
 H₀:=H₀
 env:=compEnvC scope (kr X scope C) C X.env
 outer:=X.stack
 stack:=X.stack
 ex:=ex
 fn:=λy=>scope.names.lookup y == aa .cell
 calm:=X.calm
 pn:=X.pn++pn
 xe:=λ_ _=>False
def iK(σ:St)(cap:List Nat):St:=cap.map λi=>(σ[i]?).join
structure jO(X:Cx)(scope:dX)(x:Str)(N':List Str)(cap:List Nat):Prop where
 kind:scope.kind=.function
 cells:∀y∈scope.names,y.2=.cell->scope.names.lookup y.1=aa .cell
 names:∀y∈scope.names,y.2=.local->scope.names.lookup y.1=aa .local
 loc:scope.names.lookup x=aa .local\/scope.names.lookup x=aa .cell
 free:∀y∈scope.names,y.2=.free->X.env.kindOf y.1=aa .cell\/X.env.kindOf y.1=aa .free
 nd:N'.Nodup
 hd:N'.head?=aa x
 len:N'.length=cap.length+1
 caps:∀i j y,N'[i+1]?=aa y->cap[i]?=aa j->X.N[j]?=aa y/\scope.names.lookup y=aa .free
theorem Kq{names:List (Str×fM)}{y:Str}{k:fM}(h:names.lookup y=aa k):∃x∈names,x.1=y/\x.2=k:=⟨(y,k),j0 h,rfl,rfl⟩
theorem yd{env:Env}{x:Str}:∀{names:List (Str×fM)}{k:fM}, (names.map λ(n,k)=>if(k == NameKind.free&&env.scope.kind == .function&&env.kindOf n == aa .cell)then(n,NameKind.cell)else(n,k)).lookup x=aa k -> ∃k',names.lookup x=aa k'/\(k=k'\/(k'=.free/\k=.cell))
 |[],_,h=>by simp at h
 | (n,k0)::r,k,h=>by
  change zU x ((if(k0 == NameKind.free&&env.scope.kind == .function&&env.kindOf n == aa .cell)=ah then(n,NameKind.cell)else(n,k0))::_)=_ at h;rw[jE];by_cases hc:(k0 == NameKind.free&&env.scope.kind == .function&&env.kindOf n == aa .cell)=ah
  ·rw[if_pos hc,jE]at h;split at h
   ·rename_i hb;cases h;have:k0=.free:=by simp at hc;exact hc.1.1
    exact⟨k0,rfl,.inr ⟨this,rfl⟩⟩
   ·exact yd h
  ·rw[if_neg hc,jE]at h;split at h
   ·rename_i hb;cases h;exact⟨k0,rfl,.inl rfl⟩
   ·exact yd h
theorem zl{env:Env}{x:Str}:∀{names:List (Str×fM)},names.lookup x=aa .free -> let q:=(names.map λ(n,k)=>if(k == NameKind.free&&env.scope.kind == .function&&env.kindOf n == aa .cell)then(n,NameKind.cell)else(n,k)).lookup x
  q=aa .cell\/q=aa .free
 |[],h=>by simp at h
 | (n,k0)::r,h=>by
  show zU x ((if(k0 == NameKind.free&&env.scope.kind == .function&&env.kindOf n == aa .cell)=ah then(n,NameKind.cell)else(n,k0))::_)=_\/zU x ((if(k0 == NameKind.free&&env.scope.kind == .function&&env.kindOf n == aa .cell)=ah then(n,NameKind.cell)else(n,k0))::_)=_;rw[jE]at h;by_cases hc:(k0 == NameKind.free&&env.scope.kind == .function&&env.kindOf n == aa .cell)=ah
  ·rw[if_pos hc,jE];cases hb:x == n with
   |true=>exact .inl rfl
   |false=>rw[hb]at h;exact zl h
  ·rw[if_neg hc,jE];cases hb:x == n with
   |true=>rw[hb]at h;cases h;exact .inr rfl
   |false=>rw[hb]at h;exact zl h
theorem ye{env:Env}{x:Str}:∀{names:List (Str×fM)},names.lookup x=aa .cell -> (names.map λ(n,k)=>if(k == NameKind.free&&env.scope.kind == .function&&env.kindOf n == aa .cell)then(n,NameKind.cell)else(n,k)).lookup x=aa .cell
 |[],h=>by simp at h
 | (n,k0)::r,h=>by
  show zU x ((if(k0 == NameKind.free&&env.scope.kind == .function&&env.kindOf n == aa .cell)=ah then(n,NameKind.cell)else(n,k0))::_)=_;rw[jE]at h;by_cases hc:(k0 == NameKind.free&&env.scope.kind == .function&&env.kindOf n == aa .cell)=ah
  ·rw[if_pos hc,jE];cases hb:x == n with
   |true=>rfl
   |false=>rw[hb]at h;exact ye h
  ·rw[if_neg hc,jE];cases hb:x == n with
   |true=>rw[hb]at h;cases h;rfl
   |false=>rw[hb]at h;exact ye h
section
variable{X:Cx}{ag:List (af×Obj)}{σ:St}{H:Hp}{s:am}{scope:dX}{x:Str}{N':List Str}{cap:List Nat}
theorem Inv.freeHas(I:Inv X ag σ H s)(B:jO X scope x N' cap):∀y∈scope.names,y.2=.free->∃c,X.env.cells.lookup y.1=aa c:=λy hy e=>I.ok.has y.1 (B.free y hy e)
theorem Inv.clIn(I:Inv X ag σ H s)(B:jO X scope x N' cap){y:Str}{c:af}(h:(gn X.env scope.names []).lookup y=aa c):X.env.cells.lookup y=aa c:=by
 rcases Mz scope.names [] (I.freeHas B) h with q|q
 ·simp at q
 ·exact q
theorem Inv.cbIn(I:Inv X ag σ H s)(B:jO X scope x N' cap){C:af}{y:Str}{c:af}(h:(kr X scope C).lookup y=aa c):((y,c)∈eT (C+1) scope.names []/\scope.names.lookup y=aa .cell)\/((gn X.env scope.names []).lookup y=aa c/\X.env.cells.lookup y=aa c):=by
 rw[yz,EL]at h;cases e:(eT (C+1) scope.names []).lookup y with
 |none=>rw[e]at h;exact .inr ⟨h,I.clIn B h⟩
 |some c'=>
  rw[e]at h;cases h;have m:=j0 e;rcases uI _ _ _ m with z|z
  ·cases z
  ·exact .inl ⟨m,B.cells _ z rfl⟩
theorem Inv.cbOld(I:Inv X ag σ H s)(B:jO X scope x N' cap){C:af}{y:Str}{c:af}(h:(gn X.env scope.names []).lookup y=aa c)(hk:scope.names.lookup y=aa .free):(kr X scope C).lookup y=aa c:=by
 rw[yz,EL];cases e:(eT (C+1) scope.names []).lookup y with
 |none=>exact h
 |some c'=>
  rcases uI _ _ _ (j0 e)with z|z
  ·cases z
  ·have:=B.cells _ z rfl;rw[hk]at this;cases this
theorem Inv.block{fp:List af}{h₁:aA}{m:Str->Option ai}{t':Nat}(hh:h₁=pushCells (s.heap.push {cls:=.type "dict",data:=.dict #[]}) scope.names)(I:Inv X ag σ H s)(B:jO X scope x N' cap)(tQ:∀b∈fp,jU X ag H b)(hfo:∀b∈fp,∃o,s.heap.get? b=aa o)(q8:h₁.Ns s.heap.objs.size m)(old:∀b o,s.heap.get? b=aa o->h₁.get? b=aa o):Inv (cP X scope N' s.heap.objs.size s H fp ag) [] (ae::iK σ cap) H {s with heap:=h₁,toks:=t'}:=by
 have ltC:∀x c,X.env.cells.lookup x=aa c->c<s.heap.objs.size:=λx c e=>(I.cell x c e).elim λv q=>q.lt;have ncell:∀{y:Str}{c:af},(y,c)∈eT (s.heap.objs.size+1) scope.names []->h₁.IsCell c ae/\s.heap.objs.size+1<=c/\∀z,(z,c)∈eT (s.heap.objs.size+1) scope.names []->y=z:=λh=>by rw[hh];exact BL h
 have lk:∀y k,(compEnvC scope (kr X scope s.heap.objs.size) s.heap.objs.size X.env).kindOf y=aa k->∃k',scope.names.lookup y=aa k'/\(k=k'\/(k'=.free/\k=.cell)):=λy k h=>yd h;have fhas:∀y,scope.names.lookup y=aa .free->∃c,(gn X.env scope.names []).lookup y=aa c:=λy h=>xg scope.names [] (Kq h);have nfs:∀b∈eF X.stack,b≠s.heap.objs.size:=λb hb e=>by
  rcases bF.mp (I.stkSub b hb)with z|z
  ·exact absurd I.lt (by rw[←z,e];exact fc _)
  ·exact I.nofs (lV e.symm) z
 refine⟨⟨I.ok.mod,B.kind,I.ok.glob,I.ok.blt,a_ _,λy z c h1 h2=>?_,λy hy=>?_,λy c h tR=>?_,I.ok.hd,I.ok.frames,.inl rfl,λb hb=>?_,λb o e=>I.bs b o e,cS I.ok.bsz I.sz,λb o e hb=>?_,λb hb hf=>?_,I.stack,(λb hb=>I.stkFree b hb),I.tab⟩,rfl,I.bare,Un.kept old,⟨m,q8,λi y v e1 e2 e3=>?_⟩,λy c h=>?_,I.hok.fresh (a_ _),λy c h=>?_,λp hp=>?_,I.hok.kept old,?_⟩
 ·-- inj
  rcases I.cbIn B h1 with⟨a1,a2⟩|⟨a1,a2⟩ <;> rcases I.cbIn B h2 with⟨b1,b2⟩|⟨b1,b2⟩
  ·exact(ncell a1).2.2 z b1
  ·exact(vY (ncell a1).2.1 (ltC _ _ b2)).elim
  ·exact(vY (ncell b1).2.1 (ltC _ _ a2)).elim
  ·exact I.ok.inj y z c a2 b2
 ·-- has
  show ∃c,(kr X scope s.heap.objs.size).lookup y=aa c;have lg:scope.names.lookup y=aa .free->∃c,(kr X scope s.heap.objs.size).lookup y=aa c:=λq=>(fhas y q).imp λc hc=>I.cbOld B hc q;rcases hy with hy|hy
  ·obtain⟨k',q,z|⟨z,_⟩⟩:=lk y _ hy
   ·subst z;exact wj _ _ _ (j0 q)
   ·subst z;exact lg q
  ·obtain⟨k',q,z|⟨_,z⟩⟩:=lk y _ hy
   ·subst z;exact lg q
   ·cases z
 ·-- cab
  have hk:scope.names.lookup y=aa .cell:=by simpa using(show(scope.names.lookup y == aa .cell)=ah from h)
  show s.heap.objs.size<=c;rcases I.cbIn B tR with⟨a1,a2⟩|⟨a1,a2⟩
  ·have:=(ncell a1).2.1;lia
  ·obtain⟨c',eD⟩:=wj (n:=s.heap.objs.size+1) (a:=[]) _ (j0 hk);have e:(kr X scope s.heap.objs.size).lookup y=aa c':=by rw[yz,EL,eD];rfl
   have e2:(kr X scope s.heap.objs.size).lookup y=aa c:=tR;rw[e]at e2;cases e2;have:=(ncell (j0 eD)).2.1;lia
 ·-- exf
  obtain⟨f0,f1,f2,f3,f4,f5⟩:=tQ b hb;obtain⟨o,ho⟩:=hfo b hb;refine⟨λe=>absurd (bu ho) (by rw[e];exact fc _),λy c h=>?_⟩;rcases I.cbIn B h with⟨a1,a2⟩|⟨a1,a2⟩
  ·rintro rfl;exact vY (ncell a1).2.1 (bu ho)
  ·exact f4 y c a2
 ·-- noex
  obtain⟨f0,f1,f2,f3,f4,f5⟩:=tQ b hb;rcases f3 with z|z
  ·exact I.ok.noex b o e z
  ·exact absurd (fL (bu e) (cS I.ok.bsz z)) (fc _)
 ·-- exfs
  obtain⟨f0,f1,f2,f3,f4,f5⟩:=tQ b hb;rcases bF.mp (I.stkSub b hf)with z|z
  ·exact f1 z
  ·exact f2 z
 ·-- loc
  cases i with
  |zero=>simp at e2
  |succ i=>
   have kb:(iK σ cap)[i]?=aa (aa v):=by simpa using e2
   unfold iK at kb;rw[jC]at kb;cases hj:cap[i]? with
   |none=>rw[hj]at kb;cases kb
   |some j=>
    rw[hj]at kb;have e4:(σ[j]?).join=aa v:=dW kb;have e5:σ[j]?=aa (aa v):=by
     cases hq:σ[j]? with
     |none=>rw[hq]at e4;cases e4
     |some o=>rw[hq]at e4;exact congrArg aa e4
    obtain⟨b1,b2⟩:=B.caps i j y e1 hj;obtain⟨mm,hn,hl⟩:=I.loc;have tK:=B.free _ (j0 b2) rfl;have vis:fF X.env.scope y:=by
     rcases tK with z|z
     ·exact .inr (.inl z)
     ·exact .inr (.inr z)
    obtain⟨u,r,l⟩:=hl j y v b1 e5 vis;refine⟨u,r,.inr ⟨zl b2,?_⟩⟩;rcases l with⟨l,_⟩|⟨_,c,hc,wU⟩
    ·rcases tK with z|z
     ·rw[l]at z;cases z
     ·rw[l]at z;cases z
    ·obtain⟨c',eD⟩:=fhas y b2;have e6:=I.clIn B eD;rw[hc]at e6;cases e6;obtain⟨oo,ho,hd⟩:=wU;exact⟨c,I.cbOld B eD b2,oo,old c oo ho,hd⟩
 ·rcases I.cbIn B h with⟨a1,a2⟩|⟨a1,a2⟩
  ·exact⟨ae,(ncell a1).1⟩
  ·obtain⟨v,oo,ho,hd⟩:=I.cell y c a2;exact⟨v,oo,old c oo ho,hd⟩
 ·rcases I.cbIn B h with⟨a1,a2⟩|⟨a1,a2⟩
  ·exact I.hok.fresh (cS (sX _) (ncell a1).2.1)
  ·exact I.freeC y c a2
 ·have c8:p∈X.pn++ag:=by simpa[cP]using hp
  obtain⟨e,n,ne,nf,d⟩:=I.pin p c8;refine⟨old _ _ e,n,cR (bu e),λhf=>?_,d⟩;rcases bF.mp (I.stkSub p.1 hf)with z|z
  ·exact ne z
  ·exact nf z
 ·show(ae::iK σ cap).length=N'.length;rw[B.len];simp[iK]
end
def sk(X:Cx)(ifs:List aB)(t:TT):Prop :=
 ∀(ag:List (af×Obj)) (s:am) (σ:St) (H:Hp) (Q:Bool->Hp->Prop),Inv X ag σ H s->t σ H Q ->
  aq (au X.prog X.w) X.A (forIn ifs ah λc r=>if r=ah then do let ok ←lR c X.env (aT c X.env);pure (ForInStep.yield ok)else pure (ForInStep.yield r)) (TP X ag σ Q) X.xe s
theorem Ie{P:aM}{w:aF}{A:aO}{R:Result->am->Prop}{s:am}{elt tg iter:aB}{ifs:List aB}{scope:dX}{pos:Pos}{it aH:ai}{env:Env}(J:Nat->am->Prop)(turn:∀k s1,J k s1->aq (au P w) A (pyNext it) (λr s2=>match r with
   |none=>R (.ok .next) s2
   |some v=>aq (au P w) A (zG tg it v) (λ_ s3=>aq (au P w) A (mQ tg env v) (λ_ s4=>aq (au P w) A (forIn ifs ah λc r=>if r=ah then do let ok ←lR c env (aT c env);pure (ForInStep.yield ok)else pure (ForInStep.yield r)) (λb s5=>if b=ah then aq (au P w) A (aT elt env) (λy s6=>aq (au P w) A (call (.builtin "list.append") [aH,y]) (λ_ s7=>∃j,j<k/\J j s7) (λ_ _=>False) s6) (λ_ _=>False) s5 else ∃j,j<k/\J j s5) (λ_ _=>False) s4) (λ_ _=>False) s3) (λ_ _=>False) s2) (λ_ _=>False) s1) (k:Nat) (h:J k s) :
  kU (au P w) A (.compLoop (.ListComp elt [⟨tg,iter,ifs,0⟩] scope pos) 0 it aH env) R s:=by
 refine codeAny_loop rfl J (λj s1 hJ=>?_) k h;show aq _ A (Sem.onRaise (compTurn (.ListComp elt [⟨tg,iter,ifs,0⟩] scope pos) 0 it aH env) (λx=>do noteFrame x env;theTreesLotGoes x)) _ _ s1;refine wpAny_noted ?_;rw[compTurn_list];have no:∀(E':ai->am->Prop) (a:ai) (b:am),False->E' a b:=λ_ _ _ f=>f.elim;refine ap (wpAny_standAt (ap (dY (turn j s1 hJ) (λr s2 h2=>?_) (no _))));cases r with
 |none=>exact aD h2
 |some v=>
  refine ap (dY h2 (λ_ s3 h3=>ap (dY h3 (λ_ s4 h4=>ap (dY h4 (λb s5 h5=>?_) (no _))) (no _))) (no _));cases b with
  |true=>exact ap (ap (dY h5 (λy s6 h6=>ap (dY h6 (λ_ s7 h7=>aD (aD ⟨rfl,h7⟩)) (no _))) (no _)))
  |false=>exact aD ⟨rfl,h5⟩
def HF:TT:=λ_ H Q=>Q ah H
theorem IU{X:Cx}:sk X [] HF:=λ_ _ _ H _ I h=>wpAny_tests_nil ⟨H,I,h⟩
theorem NG{X:Cx}{c:aB}{t:TT}(h:PT X c t):sk X [c] t:=λag s σ H Q I hw=>wpAny_tests_one (h ag s σ H Q I hw)
def wc(wi:TI)(ts:TT)(te:TE)(cap:List Nat):TE:=λσ H Q=>wi σ H λJ H1=>∀l,H1 l=ae->∃W:Nat->Nat->List V->Hp->Prop,(∃m,W 0 m [] (upd H1 l (.lst [])))/\∀i m ys H,W i m ys H ->
 (J.stop i H/\Q (.ref l) H)\/(J.go i H/\∀v H',J.yld i H v H'->ts (aa v::iK σ cap) H' λb H2=>if b=ah then te (aa v::iK σ cap) H2 λy H3=>H3 l=aa (.lst ys)/\ys.length<ba/\∃m',m'<m/\W (i+1) m' (ys++[y]) (upd H3 l (.lst (ys++[y]))) else ∃m',m'<m/\W (i+1) m' ys H2)
section
variable{X:Cx}{ag:List (af×Obj)}{σ:St}{H:Hp}{s:am}{scope:dX}{x:Str}{N':List Str}{cap:List Nat}
theorem Inv.unblock{fp:List af}{H':Hp}{σ':St}{s':am}{lh:aA}(I:Inv X ag σ H s)(tQ:∀b∈fp,jU X ag H b)(I':Inv (cP X scope N' s.heap.objs.size s H fp ag) [] σ' H' s') (sb:jB s.heap.objs.size s'.heap lh):Inv X ag σ H' {s' with heap:=lh}:=by
 have k:∀b o,b≠s.heap.objs.size->s'.heap.get? b=aa o->lh.get? b=aa o:=λb o hb e=>(sb.2 b hb).trans e;have nC:∀b o,s.heap.get? b=aa o->b≠s.heap.objs.size:=λb o e=>cR (bu e);have un:Un (eF X.stack) fp H H' s.heap lh:=by
  refine⟨λb o e n hb hx=>k b o (nC b o e) (I'.base.keep b o e n hb hx),λb o e n hb hx=>?_,λb o e n hx=>I'.base.free b o e n hx,λb o e hx=>?_,I'.base.tups,I'.base.frzs,I'.base.tbls⟩
  ·obtain⟨sl,q⟩:=I'.base.slot b o e n hb hx;exact⟨sl,k b _ (nC b o e) q⟩
  ·obtain⟨o',q⟩:=I'.base.there b o e hx;exact⟨o',k b o' (nC b o e) q⟩
 have hok:cI X.prog X.w H' lh:=λb u e=>by
  have hCn:H' s.heap.objs.size=ae:=I'.free;refine(I'.hok b u e).stay (λc v hc q=>k c v ?_ q) (λ_ q=>q) λ_ _ q=>q;rintro rfl;rcases hc with z|z
  ·rw[←z,hCn]at e;cases e
  ·rw[hCn]at z;cases z
 refine I.call' (s':={s' with heap:=lh}) (ch:=fp) I'.os un hok I'.bare λb hb=>?_;obtain⟨f0,f1,f2,f3,f4,f5⟩:=tQ b hb;exact⟨f3,f1,f4,f5⟩
theorem Dz{elt iter:aB}{px pos pos':Pos}{ifs:List aB}{wi:TI}{ts:TT}{te:TE}{use:Option (ai->Sem Unit)}{Q:ai->am->Prop}{Qp:VK}(B:jO X scope x N' cap)(hc:X.calm=ah)(hi:PI X (.Name x px) iter wi)(ht:∀C s₀ H₀ ex pn,sk (cP X scope N' C s₀ H₀ ex pn) ifs ts) (he:∀C s₀ H₀ ex pn,PE (cP X scope N' C s₀ H₀ ex pn) elt te) (hs:∀x,qt iter X.env x=pure x) (I:Inv X ag σ H s) (h:wc wi ts te cap σ H Qp)(fin:∀{s3 s6:am}{H3 H5:Hp}{fp σ5 a f},Inv X ag σ H3 s3->(∀b∈fp,jU X ag H3 b)->Inv (cP X scope N' s3.heap.objs.size s3 H3 fp ag) [] σ5 H5 s6->Qp (.ref a) H5->compPost (au X.prog X.w) X.A X.xe use Q (.ref a) s3.heap.objs.size (.ok f) s6):aq (au X.prog X.w) X.A (comprehension (.ListComp elt [⟨.Name x px,iter,ifs,0⟩] scope pos) scope X.env pos' (newList []) aj (aT iter X.env) use) Q X.xe s:=by
 refine wpAny_comprehension_free (use:=use) rfl hs (MU (I.freeHas B)) B.kind B.names (aV (hi ag s σ H _ I h) λv s1 h1=>aV h1 λitv s2 h2=>?_);obtain⟨it,fp,tn,J,H2,e,I2,T,aZ,f2,h2⟩:=h2;subst e;refine lU ?_;have I3:Inv X ag σ (upd H2 s2.heap.objs.size (.lst [])) {s2 with heap:=s2.heap.push {cls:=.type "list",data:=.seq ([]:List ai).toArray},toks:=s2.toks}:=I2.lnew (its:=[]) (t':=s2.toks) .nil (kY _);obtain⟨W,⟨m0,w0⟩,turn⟩:=h2 s2.heap.objs.size I2.fresh;generalize nv:({s2 with heap:=s2.heap.push {cls:=.type "list",data:=.seq ([]:List ai).toArray},toks:=s2.toks}:am)=s3 at I3;have hs3':({s2 with heap:=s2.heap.push {cls:=.type "list",data:=.seq ([]:List ai).toArray}}:am)=s3:=nv;generalize hH3:upd H2 s2.heap.objs.size (.lst [])=H3 at I3 w0;have nl:∀b∈fp,b≠s2.heap.objs.size:=λb hb e=>by obtain⟨o,ho,_⟩:=T.obj _ _ aZ b hb;exact absurd (bu ho) (by rw[e];exact fc _)
 have k3:∀b o,s2.heap.get? b=aa o->s3.heap.get? b=aa o:=λb o e=>by rw[←nv];exact bG _ e
 have f3:∀b∈fp,jU X ag H3 b:=λb hb=>⟨by rw[←hH3,b7 (nl b hb)];exact(f2 b hb).1,(f2 b hb).2⟩
 have bq:tn 0 s3.heap:=T.keep _ _ _ aZ λb _ o e=>k3 b o e;have fo3:∀b∈fp,∃o,s3.heap.get? b=aa o:=λb hb=>(T.obj _ _ bq b hb).imp λo q=>q.1;refine JU ?_;generalize hh:pushCells (s3.heap.push {cls:=.type "dict",data:=.dict #[]}) scope.names=h₁;have old:∀b o,s3.heap.get? b=aa o->h₁.get? b=aa o:=λb o e=>hh ▸ pushCells_keeps _ _ b o (bG _ e);have q8:h₁.Ns s3.heap.objs.size (λ_=>ae):=hh ▸ (Heap.Ns.new s3.heap (.type "dict")).keeps (pushCells_keeps _ _);have I4:=Inv.block (t':=s3.toks) hh.symm I3 B f3 fo3 q8 old;have bH:tn 0 h₁:=T.keep _ _ _ bq λb _ o e=>old b o e;have statB:∀{H':Hp},(∀b∈fp,H' b=ae)->∀b∈fp,jU (cP X scope N' s3.heap.objs.size s3 H3 fp ag) [] H' b:=λhn b hb=>by
  obtain⟨f0,f1,f2',f3',f4,f5⟩:=f3 b hb;refine⟨hn b hb,λe=>?_,λhf=>?_,.inl hb,λy c h=>?_,λp hp=>f5 p (by simpa[cP]using hp)⟩
  ·obtain⟨o,ho⟩:=fo3 b hb;exact absurd (bu ho) (by rw[show b=s3.heap.objs.size from e];exact fc _)
  ·rcases bF.mp (I3.stkSub b hf)with z|z
   ·exact f1 z
   ·exact f2' z
  ·rcases I3.cbIn B h with⟨a1,a2⟩|⟨a1,a2⟩
   ·rintro rfl;obtain⟨o,ho⟩:=fo3 _ hb;exact vY (BL a1).2.1 (bu ho)
   ·exact f4 y c a2
 have N3:Loc (cP X scope N' s3.heap.objs.size s3 H3 fp ag).env.scope x:=B.loc.elim (λh=>.inl (lookup_relabel_local h)) (λh=>.inr (ye h));have hfnx:(cP X scope N' s3.heap.objs.size s3 H3 fp ag).fn x=ah\/(cP X scope N' s3.heap.objs.size s3 H3 fp ag).env.scope.names.lookup x=aa .local:=B.loc.elim (λh=>.inr (lookup_relabel_local h)) (λh=>.inl (by show(scope.names.lookup x == aa .cell)=ah;rw[h];rfl));have hN0:(cP X scope N' s3.heap.objs.size s3 H3 fp ag).N[0]?=aa x:=by show N'[0]?=aa x;rw[←List.head?_eq_getElem?];exact B.hd
 have loop:kU (au X.prog X.w) X.A (.compLoop (.ListComp elt [⟨.Name x px,iter,ifs,0⟩] scope pos) 0 (.ref it) (.ref s2.heap.objs.size) (compEnvC scope (kr X scope s3.heap.objs.size) s3.heap.objs.size X.env))
   (compPost (au X.prog X.w) X.A X.xe use Q (.ref s2.heap.objs.size) s3.heap.objs.size) {s3 with heap:=h₁,toks:=s3.toks}:=by
  refine Ie (λn s'=>∃i ys σ' H',(∃v0,σ'=v0::iK σ cap)/\Inv (cP X scope N' s3.heap.objs.size s3 H3 fp ag) [] σ' H' s'/\tn i s'.heap/\(∀b∈fp,H' b=ae)/\W i n ys H') ?_ m0
   ⟨0,[],_,H3,⟨ae,rfl⟩,I4,bH,λb hb=>(f3 b hb).1,w0⟩
  rintro n s5 ⟨i,ys,σ5,H5,⟨v0,rfl⟩,I5,bY,fr5,w5⟩;rcases turn i n ys H5 w5 with⟨stop,q⟩|⟨go,step⟩
  ·refine dY (T.done (cP X scope N' s3.heap.objs.size s3 H3 fp ag) rfl rfl rfl hc i [] s5 _ H5 (λ_ _=>False) I5 (statB fr5) bY stop) (λr s6 ⟨hr,I6⟩=>?_) (λ_ _ f=>f.elim);subst hr;exact fin I3 f3 I6 q
  ·refine dY (T.item (cP X scope N' s3.heap.objs.size s3 H3 fp ag) rfl rfl rfl hc i [] s5 _ H5 (λ_ _=>False) I5 (statB fr5) bY go) (λr s6 ⟨u,hr,h6⟩=>?_) (λ_ _ f=>f.elim);subst hr;refine dY h6 (λ_ s7 ⟨v,H7,I7,r7,y7,st7,fr7⟩=>?_) (λ_ _ f=>f.elim);have I7':=I7.pinned (statB fr7) (T.obj _ _ st7);have back:∀{σ8:St}{H8:Hp}{s8:am},Inv (cP X scope N' s3.heap.objs.size s3 H3 fp ag) ([]++sA fp s7.heap) σ8 H8 s8->tn (i+1) s8.heap/\(∀b∈fp,H8 b=ae):=λ{σ8 H8 s8} I8=>⟨T.keep _ _ _ st7 λb hb o e=>(I8.pin (b,o) (kT _ (kT _ (vC hb e)))).1,λb hb=>by obtain⟨o,e,d⟩:=T.obj _ _ st7 b hb;exact(I8.pin (b,o) (kT _ (kT _ (vC hb e)))).2.1⟩
   refine Ex (sr (v:=v) I7' B.nd hN0 N3 r7 (λs8 I8=>?_) hfnx);refine aV (ht _ _ _ _ _ _ s8 _ H7 _ I8 (step v H7 y7)) λb s9 ⟨H9,I9,q9⟩=>?_;cases b with
   |false=>
    obtain⟨m',hm,w9⟩:=(show ∃m',m'<n/\W (i+1) m' ys H9 from q9)
    exact⟨m',hm,i+1,ys,_,H9,⟨aa v,rfl⟩,I9.unpinned,(back I9).1,(back I9).2,w9⟩
   |true=>refine aV (he _ _ _ _ _ _ s9 _ H9 _ I9 q9) λu10 s10 ⟨y,H10,I10,r10,hl10,hz10,m',hm,w10⟩=>?_;refine aV (CQ _ s10 _ H10 (.ref s2.heap.objs.size) [y] _ [u10] (λz H11=>H11=upd H10 s2.heap.objs.size (.lst (ys++[y]))) I10 rfl (.cons r10 .nil) ⟨_,ys,y,rfl,rfl,hl10,hz10,rfl⟩) λ_ s11 ⟨_,H11,I11,_,e11⟩=>?_;subst e11;exact⟨m',hm,i+1,ys++[y],_,_,⟨aa v,rfl⟩,I11.unpinned,(back I11).1,(back I11).2,w10⟩
 exact codeAny_compStart_list loop (T.self _ 0 _ _ _ bH loop)
theorem JB{elt iter:aB}{px pos:Pos}{ifs:List aB}{wi:TI}{ts:TT}{te:TE}(B:jO X scope x N' cap)(hc:X.calm=ah)(hi:PI X (.Name x px) iter wi)(ht:∀C s₀ H₀ ex pn,sk (cP X scope N' C s₀ H₀ ex pn) ifs ts) (he:∀C s₀ H₀ ex pn,PE (cP X scope N' C s₀ H₀ ex pn) elt te) (hs:∀x,qt iter X.env x=pure x:=by intro _;rfl):PE X (.ListComp elt [⟨.Name x px,iter,ifs,0⟩] scope pos) (wc wi ts te cap):=by intro ag s σ H Q I h;rw[eval_ListComp];exact Dz (use:=ae) B hc hi ht he hs I h λI3 f3 I6 q=>by obtain⟨mm,hn6,_⟩:=I6.loc;exact⟨mm,hn6,λlh sb=>⟨.ref _,_,I3.unblock f3 I6 sb,rfl,q⟩⟩
end
def Walk(J:It)(xs:List V)(R:Hp->Prop):Prop :=
 ∀H,R H->∀i,(∀x,xs[i]?=aa x->J.go i H/\∀y H',J.yld i H y H'->H'=H/\y=x)/\(i=xs.length->J.stop i H)
theorem Kf{K:ax}{a:af}{xs:List V}:Walk (xy K a) xs (λH=>cc K H a xs):=λH h i=>⟨λx hx=>⟨⟨xs,x,h,hx⟩,λy H' z=>⟨z.1,by have:=z.2 xs h;rw[hx]at this;exact(dW this).symm⟩⟩,λhi=>⟨xs,h,lV hi.symm⟩⟩
theorem Gi{K:ax}{a:af}{xs:List V}:Walk (yK K a) xs (λH=>cB K H a xs):=λH h i=>⟨λx hx=>⟨⟨xs,x,h,hx⟩,λy H' z=>⟨z.1,by have:=z.2 xs h;rw[hx]at this;exact(dW this).symm⟩⟩,λhi=>⟨xs,h,lV hi.symm⟩⟩
def pM(lo:Int)(n:Nat):List V:=(bX n).map λi=>V.int (lo+(i:Nat))
theorem xJ(lo:Int)(n:Nat):(pM lo n).length=n:=by simp[pM]
theorem IX{lo:Int}{n:Nat}:Walk (vh lo n) (pM lo n) (λ_=>True):=λH _ i=>by
 refine⟨λx hx=>?_,λhi=>by rw[xJ]at hi;exact lV hi.symm⟩;have bb:i<n:=by have:=(c_.mp hx).1;rw[xJ]at this;exact this
 refine⟨bb,λy H' z=>⟨z.1,?_⟩⟩;unfold pM at hx;rw[jC,wq bb]at hx;have q_:V.int (lo+(i:Nat))=x:=dW hx;rw[z.2,←q_]
def sg(c:Nat):V:=.str ⟨#[c]⟩
def sJ(z:Str):It:=⟨λi _=>i<z.cps.size,λi H x H'=>H'=H/\∃c,z.cps[i]?=aa c/\x=sg c,λi _=>i=z.cps.size⟩
theorem KY{z:Str}:Walk (sJ z) (z.cps.toList.map sg) (λ_=>True):=λH _ i=>by
 refine⟨λx hx=>?_,λhi=>by show i=z.cps.size;simpa using hi⟩;rw[jC]at hx;cases e:z.cps.toList[i]? with
 |none=>rw[e]at hx;cases hx
 |some c=>
  rw[e]at hx;have bb:i<z.cps.size:=by have:=(c_.mp e).1;simpa using this
  refine⟨bb,λy H' w=>⟨w.1,?_⟩⟩;obtain⟨c',e',rfl⟩:=w.2;have:z.cps[i]?=aa c:=by simpa using e
  rw[this]at e';cases e';exact(dW hx)
section
variable{X:Cx}{tg:aB}
theorem LW{P:aM}{w:aF}{K:ax}{z:Str}{it:af}{St':Nat->aA->Prop} (nt:∀i h,St' i h->∃o n vs,h.get? it=aa o/\o.cls=.type n/\o.data=.fields vs /\ ["enumerate","zip","dict_itemiterator","dict_reverseitemiterator","odict_iterator","itertools.zip_longest","itertools.pairwise"].contains n=aj)(N4:∀(A:aO) (i:Nat) (s:am) (Q:ai->am->Prop) (E:ai->am->Prop),St' i s.heap->Q (.ref it) s->aq (au P w) A (mR (.ref it)) Q E s)(hW:∀A:aO,A.handled=ae->Walks P w A it [it] [it] z.cps.size (SignAt z) St'):rV P w K tg (sJ z) [it] it St' where
 mem:=by simp
 obj:=λi h st b hb=>by
  have e:b=it:=by simpa using hb
  subst e;obtain⟨o,n,vs,h1,_,h3,_⟩:=nt i h st;exact⟨o,h1,λv q=>by rw[h3]at q;cases q⟩
 keep:=λi h h' st k=>by exact(hW ({}:aO) rfl).frame i h h' st k
 item:=by intro X hP hw hK hc i ag s σ H E I hf st hg;subst hP hw hK;obtain⟨f0,f1,f2,f3,f4,f5⟩:=hf it (by simp);refine(hW X.A (I.ok.hd hc)).item i s _ _ hg st λv h' tk hv ay k=>?_;have I1:Inv X ag σ H {s with heap:=h',toks:=tk}:=I.turned (t':=tk) (λb o hb e=>k b o (by simpa using hb) e) f0 f1 f3 f4 f5;obtain⟨o,n,vs,h1,h2,h3,h4⟩:=nt _ _ ay;obtain⟨c,u,e1,rfl⟩:=hv;exact⟨_,rfl,uD (s:={s with heap:=h',toks:=tk}) h1 h2 h3 h4 ⟨sg c,H,I1,⟨u,rfl⟩,⟨rfl,c,e1,rfl⟩,ay,λb hb=>(hf b hb).1⟩⟩
 done:=by intro X hP hw hK hc i ag s σ H E I hf st hg;subst hP hw hK;obtain⟨f0,f1,f2,f3,f4,f5⟩:=hf it (by simp);have kc:i=z.cps.size:=hg;subst kc;exact(hW X.A (I.ok.hd hc)).done s _ _ st λh' tk k=>⟨rfl,I.turned (t':=tk) (λb o hb e=>k b o (by simpa using hb) e) f0 f1 f3 f4 f5⟩
 self:=N4
theorem Ln{J:It}{xs:List V}{R:Hp->Prop}{g:TG}{tb:TS}{D:jQ}{σ:St}{H:Hp}(hJ:Walk J xs R)(Pv:Nat->St->Hp->Prop)(h0:Pv 0 σ H)(hl:∀i σ H,i<=xs.length->Pv i σ H->R H)(hs:∀i x σ H,xs[i]?=aa x->Pv i σ H->g x σ H λσ2 H2=>tb {D with nx:=Pv (i+1),ct:=Pv (i+1),bk:=D.nx} σ2 H2) (hd:∀σ H,Pv xs.length σ H->D.nx σ H):∃W:Nat->Nat->St->Hp->Prop,(∃m,W 0 m σ H)/\∀i m σ H,W i m σ H -> (J.stop i H/\D.nx σ H)\/(J.go i H/\∃N:St->Hp->Prop,(∀σ' H',N σ' H'->∃m',m'<m/\W (i+1) m' σ' H')/\∀x H',J.yld i H x H'->g x σ H' λσ2 H2=>tb {D with nx:=N,ct:=N,bk:=D.nx} σ2 H2):=by
 refine⟨λi m σ H=>m=xs.length-i/\i<=xs.length/\Pv i σ H,⟨xs.length,by simp,kY _,h0⟩,?_⟩;rintro i m σ H ⟨rfl,hi,p⟩;have q:=hJ H (hl i σ H hi p) i;by_cases bb:i<xs.length
 ·have hx:xs[i]?=aa xs[i]:=by simp[bb]
  obtain⟨go,yl⟩:=q.1 xs[i] hx;refine .inr ⟨go,Pv (i+1),λσ' H' p'=>⟨xs.length-(i+1),∅,rfl,bb,p'⟩,λx H' y=>?_⟩;obtain⟨rfl,rfl⟩:=yl x H' y;exact hs i _ σ _ hx p
 ·have e:i=xs.length:=∅
  subst e;exact .inl ⟨q.2 rfl,hd σ H p⟩
theorem M_{α:Type}(l:List α)(f:α->Bool)(d:Nat->Bool)(hd:∀i x,l[i]?=aa x->d i=f x):(bX l.length).all d=l.all f:=by
 induction l generalizing d with
 |nil=>rfl
 |cons x r ih=>rw[ff,zV,qx,wt,qx,hd 0 x rfl];congr 1;exact ih _ λi y h=>hd (i+1) y (by simpa using h)
theorem Nr{bs:List Bool}{us:List ai}(r:bn (bs.map V.bl) us){i:Nat}{v:ai}(h:us.toArray[i]?=aa v):v=.bool (bs.getD i aj):=by
 have hl:=r.length;rw[dw]at hl;have hi:i<us.length:=by have:=(kZ.mp h).1;simpa using this
 have e:(bs.map V.bl)[i]?=aa (.bl (bs.getD i aj)):=by rw[jC,d7 ∅];simp[List.getD,d7 (show i<bs.length by lia)]
 obtain⟨u,e1,e2⟩:=r.get e;have:us[i]?=aa v:=by simpa using h
 rw[this]at e1;cases e1;exact e2
theorem uy{A:aO}(h:A.handled=ae):A.in1.handled=ae:=h
theorem y_(hc:X.calm=ah):eA X (.builtin "all") (λxs H Q=>∃(p:af) (bs:List Bool),xs=[.ref p]/\cc X.K H p (bs.map V.bl)/\Q (.bl (bs.all id)) H):=by
 intro ag s σ H xs us Q I r h;obtain⟨p,bs,rfl,hq,q⟩:=h;obtain⟨u,rfl,ru⟩:=vals1 r;cases ru;obtain⟨its,rv,pl,hz⟩:=I.list hq;have hl:=rv.length;rw[dw]at hl;refine call_all_walk (EM pl.isList ?_);have dj:p≠s.heap.objs.size:=by obtain⟨o,ho,_⟩:=pl.isList;exact cR (bu ho)
 refine⟨s.heap.objs.size,_,_,_,_,_,λi=>bs.getD i aj,rfl,Walks.list (uy (I.ok.hd hc)) s.heap.objs.size p dj its.toArray,⟨⟨_,c0 _ rfl,rfl,rfl⟩,?_⟩,λi v s' Q' E' hv hQ=>?_,λh' tk k=>?_⟩
 ·obtain⟨o,ho,hc,hd⟩:=pl.isList;exact⟨o,bG _ ho,hc,hd⟩
 ·rw[Nr rv hv];exact ou hQ
 ·have e:(bX its.toArray.size).all (λi=>bs.getD i aj)=bs.all id:=by
   rw[ce,←hl];exact M_ bs id _ λi x hx=>by simp[List.getD,hx]
  rw[e];have I1:Inv X ag σ H {s with heap:=s.heap.push {cls:=.type "list_iterator",data:=.fields #[.ref p,.int 0 0]},toks:=s.toks}:=I.kept (t':=s.toks) λb o e=>bG _ e;exact⟨.bl _,H,Inv.turned (t':=tk) I1 (it:=s.heap.objs.size) (λb o hb e=>k b o (by simpa using hb) e) I.fresh (qr I.lt) (.inr I.sz) (λx c e z=>by obtain⟨v,qq⟩:=I.cell x c e;exact absurd qq.lt (by rw[z];exact fc _)) (λpp hp z=>absurd (bu (I.pin pp hp).1) (by rw[z];exact fc _)),rfl,q⟩
end
section
variable{X:Cx}
def kB(z:Str)(lo hi:Option Int):Str:=⟨((z.cps.toList.drop (HT.sIx z.length 0 lo)).take (HT.sIx z.length z.length hi-HT.sIx z.length 0 lo)).toArray⟩
theorem Lm(a b:Nat):sliceRange (a:Int) (b:Int) 1=(bX (b-a)).map λk=>a+k:=by
 unfold sliceRange;have e:(if(1:Int) > 0 then(if(a:Int)<(b:Int)then((b:Int)-a+1-1) / 1 else 0)else(if(a:Int) > b then((a:Int)-b-1-1) / (-1)else 0)).toNat=b-a:=by
  rw[if_pos (by decide)];split
  ·rw[Int.ediv_one];lia
  ·have:b-a=0:=∅
   rw[this];rfl
 show(bX (if(1:Int) > 0 then(if(a:Int)<(b:Int)then((b:Int)-a+1-1) / 1 else 0)else(if(a:Int) > b then((a:Int)-b-1-1) / (-1)else 0)).toNat).map _=_;rw[e];refine lW λk _=>?_;lia
theorem GZ(lo hi:Option Int)(n:Nat):Builtin.Str.strSliceIndices lo hi 1 n=(bX (HT.sIx n n hi-HT.sIx n 0 lo)).map λk=>HT.sIx n 0 lo+k:=by
 rw[←Lm];have p:(1:Int) > 0:=by decide
 cases lo <;> cases hi <;> (unfold Builtin.Str.strSliceIndices HT.sIx;simp only[p,if_true];congr 1 <;> (try split) <;> lia)
theorem Iw{α:Type}(l:List α)(a k:Nat):((bX k).map λj=>a+j).filterMap (λi=>l[i]?)=(l.drop a).take k:=by
 induction k with
 |zero=>simp
 |succ k ih=>
  rw[oG,m8,List.filterMap_append,ih,List.take_succ];congr 1;simp[kQ];cases l[a+k]? <;> rfl
theorem Ir(z:Str)(t:Tok)(l u:Option (Int×Tok)):∃m,sliceMade z t l u ae=m/\(m=.val (.str z t)/\kB z (l.map (·.1)) (u.map (·.1))=z\/m=.str (kB z (l.map (·.1)) (u.map (·.1)))):=by
 refine⟨_,rfl,?_⟩;unfold sliceMade slicePicked;have e:=GZ (l.map (·.1)) (u.map (·.1)) z.length;simp only[Option.map_none,EG];rw[e];have pk:=Iw z.cps.toList (HT.sIx z.length 0 (l.map (·.1))) (HT.sIx z.length z.length (u.map (·.1))-HT.sIx z.length 0 (l.map (·.1)));have pk':(((bX (HT.sIx z.length z.length (u.map (·.1))-HT.sIx z.length 0 (l.map (·.1)))).map λk=>HT.sIx z.length 0 (l.map (·.1))+k).filterMap (z.cps[·]?)).toArray=(kB z (l.map (·.1)) (u.map (·.1))).cps:=by unfold kB;rw[←pk];simp
 split
 ·rename_i h;left;refine⟨rfl,?_⟩;simp only[beq_self_eq_true,Bool.true_and,dw,EN,beq_iff_eq]at h;have h0:HT.sIx z.length z.length (u.map (·.1))<=z.length:=HT.sIx_le _ _ (a_ _) _;have hl:z.cps.toList.length=z.length:=by simp[Str.length]
  have h1:HT.sIx z.length 0 (l.map (·.1))=0\/z.length=0:=∅
  unfold kB;rw[h];rcases h1 with h1|h1
  ·rw[h1,wu,wv ∅]
  ·have:z.cps.toList=[]:=oH ∅;rw[this];cases z;rename_i c;simp at this;subst this;simp
 ·right;rw[show(⟨(((bX (HT.sIx z.length z.length (u.map (·.1))-HT.sIx z.length 0 (l.map (·.1)))).map λk=>HT.sIx z.length 0 (l.map (·.1))+k).filterMap (z.cps[·]?)).toArray⟩:Str)=kB z (l.map (·.1)) (u.map (·.1))from by rw[pk']]
def CB:V->Option Int->Option Int->Hp->VK->Prop:=λx lo hi H Q=>∃z,x=.str z/\z.length<=ba/\Q (.str (kB z lo hi)) H
theorem MI(z:Str)(lo hi:Option Int):(kB z lo hi).length<=z.length:=by unfold kB Str.length;simp;lia
theorem part_of{v:ai}{o:Option Int}(p:lT v o):∃q:Option (Int×Tok),v=partValue q/\q.map (·.1)=o:=by
 cases p with
 |none=>exact⟨ae,rfl,rfl⟩
 |int i t=>exact⟨aa (i,t),rfl,rfl⟩
theorem Od:lz X CB:=by
 intro ag s σ H x v vl vu lo hi sl Q I rx hs pl pu h;obtain⟨z,rfl,hz,q⟩:=h;obtain⟨t,rfl⟩:=rx;obtain⟨l,rfl,rfl⟩:=part_of pl;obtain⟨u,rfl,rfl⟩:=part_of pu;refine⟨"str",_,F.slot_str_getitem.lookup,typeIs_str s z t,?_⟩;obtain⟨m,em,hm⟩:=Ir z t l u;refine getItem_meets (typeIs_str s z t) (by decide) F.slot_str_getitem F.entry_str_getitem (F.args_str_getitem_2 _ _) (meets_str_getitem_slice z t sl l u ae (by decide)) ⟨hs,?_⟩;rw[em];rcases hm with⟨rfl,e⟩|rfl
 ·exact⟨.str z,H,I,⟨t,rfl⟩,by rw[e]at q;exact q⟩
 ·exact⟨cS (MI z _ _) hz,⟨.str _,H,I.tok _,⟨_,rfl⟩,q⟩⟩
def gM(K:ax)(H:Hp)(d:Nat)(x y:V)(k:Bool):Prop :=
 ∀(X:Cx),X.K=K->∀(ag:List (af×Obj)) (σ:St) (s:am) (u v:ai) (A:aO),Inv X ag σ H s->RelV x u->RelV y v->A.units+d<cLine->sU A s u v k
theorem G3{K:ax}{H:Hp}{d:Nat}{x y:V}(fx:eZ x=ah)(fy:eZ y=ah):gM K H d x y (dy x y):=λ_ _ _ _ _ _ _ _ _ rx ry _=>B9 rx ry fx fy
def fo(e:Nat->Bool)(n m:Nat):Bool:=(bX (min n m)).all e&&n == m
theorem Eo{A:aO}:A.in1.units=A.units+1:=rfl
theorem yj{H:Hp}{d:Nat}{a b:af}{xs ys:List V}{e:Nat->Bool}{ag:List (af×Obj)}{σ:St}{s:am}{A:aO}(I:Inv X ag σ H s)(ha:cc X.K H a xs)(hb:cc X.K H b ys)(he:∀(j:Nat) x y,xs[j]?=aa x->ys[j]?=aa y->gM X.K H d x y (e j)) (hu:A.units+(d+1)<cLine):SeqAt.RcAt A s (.ref a) (.ref b) (fo e xs.length ys.length)/\SeqAt.RcNeAt A s (.ref a) (.ref b) (!fo e xs.length ys.length):=by
 obtain⟨us,ru,pu,_⟩:=I.list ha;obtain⟨vs,rv,pv',_⟩:=I.list hb;have tT:=ru.length;have jH:=rv.length;have hE:∀j (h1:j<us.toArray.size) (h2:j<vs.toArray.size),sU A.in1 s us.toArray[j] vs.toArray[j] (e j):=λj h1 h2=>by
  have eE:j<us.length:=by simpa using h1
  have cU:j<vs.length:=by simpa using h2
  have e1:xs[j]?=aa xs[j]:=d7 ∅;have e2:ys[j]?=aa ys[j]:=d7 ∅;obtain⟨u,q1,r1⟩:=ru.get e1;obtain⟨v,q2,r2⟩:=rv.get e2;have f1:us[j]=u:=by rw[d7 eE]at q1;exact dW q1
  have f2:vs[j]=v:=by rw[d7 cU]at q2;exact dW q2
  have:=he j xs[j] ys[j] e1 e2 X rfl ag σ s u v A.in1 I r1 r2 (by rw[Eo];lia);simpa[f1,f2]using this
 by_cases hsz:xs.length=ys.length
 ·have hs:us.toArray.size=vs.toArray.size:=by simp;lia
  have e1:fo e xs.length ys.length=(bX us.toArray.size).all e:=by unfold fo;rw[hsz,Nat.min_self,beq_self_eq_true,Bool.and_true,ce,←tT,hsz]
  rw[e1];exact⟨.lists pu.isList pv'.isList hs ∅ hE,.lists pu.isList pv'.isList hs ∅ hE⟩
 ·have e1:fo e xs.length ys.length=aj:=by
   unfold fo;rw[beq_false_of_ne hsz,ww]
  have hs:(us.toArray.size != vs.toArray.size)=ah:=by simp;lia
  rw[e1];exact⟨.lists_lengths pu.isList pv'.isList hs ∅,.lists_lengths pu.isList pv'.isList hs ∅⟩
theorem zm{H:Hp}{d:Nat}{a b:af}{xs ys:List V}{e:Nat->Bool}{ag:List (af×Obj)}{σ:St}{s:am}{A:aO}(I:Inv X ag σ H s)(ha:cB X.K H a xs)(hb:cB X.K H b ys)(he:∀(j:Nat) x y,xs[j]?=aa x->ys[j]?=aa y->gM X.K H d x y (e j)) (hu:A.units+(d+1)<cLine):SeqAt.RcAt A s (.ref a) (.ref b) (fo e xs.length ys.length)/\SeqAt.RcNeAt A s (.ref a) (.ref b) (!fo e xs.length ys.length):=by
 obtain⟨us,ru,pu,_⟩:=I.tuple ha;obtain⟨vs,rv,pv',_⟩:=I.tuple hb;have tT:=ru.length;have jH:=rv.length;have hE:∀j (h1:j<us.toArray.size) (h2:j<vs.toArray.size),sU A.in1 s us.toArray[j] vs.toArray[j] (e j):=λj h1 h2=>by
  have eE:j<us.length:=by simpa using h1
  have cU:j<vs.length:=by simpa using h2
  have e1:xs[j]?=aa xs[j]:=d7 ∅;have e2:ys[j]?=aa ys[j]:=d7 ∅;obtain⟨u,q1,r1⟩:=ru.get e1;obtain⟨v,q2,r2⟩:=rv.get e2;have f1:us[j]=u:=by rw[d7 eE]at q1;exact dW q1
  have f2:vs[j]=v:=by rw[d7 cU]at q2;exact dW q2
  have:=he j xs[j] ys[j] e1 e2 X rfl ag σ s u v A.in1 I r1 r2 (by rw[Eo];lia);simpa[f1,f2]using this
 have e1:fo e xs.length ys.length=((bX (min us.toArray.size vs.toArray.size)).all e&&us.toArray.size == vs.toArray.size):=by unfold fo;rw[ce,ce,←tT,←jH]
 rw[e1];exact⟨.tuples pu pv' ∅ hE,.tuples pu pv' ∅ hE⟩
theorem FP{K:ax}{H:Hp}{d:Nat}{a b:af}{xs ys:List V}{e:Nat->Bool}(ha:cc K H a xs)(hb:cc K H b ys)(dj:a≠b)(he:∀(j:Nat) x y,xs[j]?=aa x->ys[j]?=aa y->gM K H d x y (e j)):gM K H (d+1) (.ref a) (.ref b) (fo e xs.length ys.length):=λX hK ag σ s u v A I ru rv hu=>by
 subst hK;cases ru;cases rv;exact .of_refs dj (yj I ha hb he hu).1
theorem HN{K:ax}{H:Hp}{d:Nat}{a b:af}{xs ys:List V}{e:Nat->Bool}(ha:cB K H a xs)(hb:cB K H b ys)(dj:a≠b)(he:∀(j:Nat) x y,xs[j]?=aa x->ys[j]?=aa y->gM K H d x y (e j)):gM K H (d+1) (.ref a) (.ref b) (fo e xs.length ys.length):=λX hK ag σ s u v A I ru rv hu=>by
 subst hK;cases ru;cases rv;exact .of_refs dj (zm I ha hb he hu).1
theorem Bb{K:ax}{H:Hp}{d:Nat}{a:af}:gM K H d (.ref a) (.ref a) ah:=λX hK ag σ s u v A I ru rv hu=>by
 cases ru;cases rv;exact .same _
def rR(K:ax)(neg:Bool):R2:=λx y H Q=>∃a b xs ys d e,x=.ref a/\y=.ref b/\((cc K H a xs/\cc K H b ys)\/(cB K H a xs/\cB K H b ys))/\d<=8 /\
 (∀(j:Nat) x y,xs[j]?=aa x->ys[j]?=aa y->gM K H d x y (e j))/\Q (.bl (if neg then !fo e xs.length ys.length else fo e xs.length ys.length)) H
theorem Gb(hu:X.A.units+64<cLine):bT X (eh .Eq) (rR X.K aj):=by
 intro ag s σ H x y v u Q I rx ry h;obtain⟨a,b,xs,ys,d,e,rfl,rfl,hs,hd,he,q⟩:=h;cases rx;cases ry;rcases hs with⟨h1,h2⟩|⟨h1,h2⟩
 ·exact(yj I h1 h2 he ∅).1 _ _ _ _ ⟨.bl _,H,I,rfl,q⟩
 ·exact(zm I h1 h2 he ∅).1 _ _ _ _ ⟨.bl _,H,I,rfl,q⟩
theorem Lc(hu:X.A.units+64<cLine):bT X (eh .NotEq) (rR X.K ah):=by
 intro ag s σ H x y v u Q I rx ry h;obtain⟨a,b,xs,ys,d,e,rfl,rfl,hs,hd,he,q⟩:=h;cases rx;cases ry;rcases hs with⟨h1,h2⟩|⟨h1,h2⟩
 ·exact(yj I h1 h2 he ∅).2 _ _ _ _ ⟨.bl _,H,I,rfl,q⟩
 ·exact(zm I h1 h2 he ∅).2 _ _ _ _ ⟨.bl _,H,I,rfl,q⟩
def IK(K:ax):V->List V->Hp->VK->Prop:=λx vs H Q=>∃(p:af) (xs:List V) (y:V),x=.ref p/\vs=[y]/\H p=aa (.lst xs)/\eZ y=ah/\xs.all eZ=ah/\Q (.int ((xs.countP λz=>dy z y:Nat):Int)) H
theorem y8{y:V}:∀{xs:List V}{us:List ai},bn xs us->xs.all eZ=ah->us.countP (iM y)=xs.countP λz=>dy z y
 |_,_,.nil,_=>rfl
 |z::xs,u::us,.cons r t,f=>by rw[qx,fB]at f;rw[List.countP_cons,List.countP_cons,uR r f.1,y8 t f.2]
theorem Ib:sQ X "list.count" (IK X.K):=by
 intro ag s σ H x vs v us Q I rx rv h;obtain⟨p,xs,y,rfl,rfl,hH,fy,fx,q⟩:=h;cases rx;obtain⟨u,rfl,ru⟩:=rv.one;obtain⟨z,its,n,r,hl,e⟩:=I.lstM hH;refine qC F.slot_list_count ⟨_,e,rfl⟩ F.entry_list_count (F.args_list_count_2 _ _) (SeqAt.list_countAt p its.toArray n ae #[] u (iM y)) ⟨e,λw hw=>ph ru fy r fx w (by simpa using hw),?_⟩;exact⟨.int _,H,I.tok _,⟨_,by rw[wx,y8 r fx]⟩,q⟩
def IC(K:ax):V->List V->Hp->VK->Prop:=λx vs H Q=>∃(p:af) (xs:List V) (y:V),x=.ref p/\vs=[y]/\cB K H p xs/\eZ y=ah/\xs.all eZ=ah/\Q (.int ((xs.countP λz=>dy z y:Nat):Int)) H
theorem FF:sQ X "tuple.count" (IC X.K):=by
 intro ag s σ H x vs v us Q I rx rv h;obtain⟨p,xs,y,rfl,rfl,hH,fy,fx,q⟩:=h;cases rx;obtain⟨u,rfl,ru⟩:=rv.one;obtain⟨its,r,⟨⟨cls,dd,data,sl⟩,e,hc,n,hd⟩,hz⟩:=I.tuple hH;simp only at hc hd;subst hc hd;refine qC F.slot_tuple_count ⟨_,e,rfl⟩ F.entry_tuple_count (F.args_tuple_count_2 _ _) (SeqAt.tuple_countAt p its.toArray n dd sl u (iM y)) ⟨e,λw hw=>ph ru fy r fx w (by simpa using hw),?_⟩;exact⟨.int _,H,I.tok _,⟨_,by rw[wx,y8 r fx]⟩,q⟩
def J8:V->List V->Hp->VK->Prop:=λx vs H Q=>∃(p:af) (xs:List V) (y:V) (j:Nat),x=.ref p/\vs=[y]/\H p=aa (.lst xs)/\eZ y=ah/\xs.all eZ=ah/\j<xs.length /\
 (∀z,xs[j]?=aa z->dy z y=ah)/\(∀(i:Nat) z,i<j->xs[i]?=aa z->dy z y=aj)/\Q (.int j) H
theorem KO:sQ X "list.index" J8:=by
 intro ag s σ H x vs v us Q I rx rv h;obtain⟨p,xs,y,j,rfl,rfl,hH,fy,fx,hj,h1,h2,q⟩:=h;cases rx;obtain⟨u,rfl,ru⟩:=rv.one;obtain⟨z,its,n,r,hl,e⟩:=I.lstM hH;have hz:=pL;have at':∀(i:Nat) (hi:i<its.toArray.size),∃w,xs[i]?=aa w/\iM y its.toArray[i]=dy w y:=λi hi=>by
  have gF:i<its.length:=by simpa using hi
  have e1:xs[i]?=aa xs[i]:=d7 ∅;obtain⟨w,q1,r1⟩:=r.get e1;have f1:its[i]=w:=by rw[d7 gF]at q1;exact dW q1
  refine⟨_,e1,?_⟩;have fl:eZ xs[i]=ah:=k6.mp fx _ (sY _);rw[←uR r1 fl];simp[f1]
 refine qC F.slot_list_index ⟨_,e,rfl⟩ F.entry_list_index (F.args_list_index_2 _ _) (SeqAt.list_indexAt p its.toArray n ae #[] u (iM y) j (by simp;lia) ∅ ?_ ?_) ⟨e,λw hw=>ph ru fy r fx w (by simpa using hw),?_⟩
 ·obtain⟨w,q1,q2⟩:=at' j (by simp;lia);rw[q2];exact h1 w q1
 ·intro m hm hmj;obtain⟨w,q1,q2⟩:=at' m hm;rw[q2];exact h2 m w hmj q1
 ·exact⟨.int _,H,I.tok _,⟨_,rfl⟩,q⟩
end
abbrev Tx:=List Nat
def tS(l:Tx):Str:=⟨l.toArray⟩
def tV(l:Tx):V:=.str (tS l)
def dA(ls:List Tx):List V:=ls.map tV
theorem lI(l:Tx):(tS l).cps.toList=l:=by simp[tS]
theorem kE(l:Tx):(tS l).length=l.length:=by simp[tS,Str.length]
theorem ym(z:Str):tS z.cps.toList=z:=by cases z;simp[tS]
theorem uX{a b:Tx}(h:tS a=tS b):a=b:=by rw[←lI a,h,lI]
theorem yW(ls:List Tx):(dA ls).length=ls.length:=dw _
def cZ(a b:Tx):Bool:=decide (a<=b)
def aY(ls:List Tx):List Tx:=ls.mergeSort cZ
theorem BY(a b c:Tx)(h1:cZ a b=ah)(h2:cZ b c=ah):cZ a c=ah:=by simp only[cZ,decide_eq_true_eq]at *;exact List.le_trans h1 h2
theorem Ip(a b:Tx):(cZ a b||cZ b a)=ah:=by simp only[cZ,zW,decide_eq_true_eq];exact List.le_total a b
theorem Lg{a b:Tx}(h1:cZ a b=ah)(h2:cZ b a=ah):a=b:=by simp only[cZ,decide_eq_true_eq]at *;exact List.le_antisymm h1 h2
theorem jK(ls:List Tx):(aY ls).Perm ls:=EO _ _
theorem sw(ls:List Tx):(aY ls).Pairwise (λa b=>cZ a b=ah):=List.pairwise_mergeSort BY Ip _
theorem vB(ls:List Tx):(aY ls).length=ls.length:=(jK ls).length_eq
theorem vF{ls ms:List Tx}(hp:ms.Perm ls)(hs:ms.Pairwise (λa b=>cZ a b=ah)):ms=aY ls :=List.Perm.eq_of_pairwise (le:=λa b=>cZ a b=ah) (λ_ _ _ _ h1 h2=>Lg h1 h2) hs (sw ls) (hp.trans (jK ls).symm)
theorem vH{ls:List Tx}(hs:ls.Pairwise (λa b=>cZ a b=ah)):aY ls=ls:=(vF (qG ls) hs).symm
theorem GS{ls ms:List Tx}(hp:ls.Perm ms):aY ls=aY ms:=vF ((jK ls).trans hp) (sw ls)
theorem BX:∀(p:Str) (l:List Str),risingS p l=ah->(p::l).Pairwise (λa b=>cZ a.cps.toList b.cps.toList=ah)
 |p,[],_=>List.pairwise_singleton _ _
 |p,x::r,h=>by
  have h':(!ltCps x.cps.toList p.cps.toList&&risingS x r)=ah:=h;rw[fB,ltCps_eq]at h';have q:=BX x r h'.2;have px:cZ p.cps.toList x.cps.toList=ah:=by simp only[cZ,decide_eq_true_eq];intro bb;simp[bb]at h'
  refine List.pairwise_cons.mpr ⟨λy hy=>?_,q⟩;rcases bF.mp hy with rfl|hy
  ·exact px
  ·exact BY _ _ _ px (List.rel_of_pairwise_cons q hy)
theorem Na{ss:List Str}(h:sortedS ss=ah):(ss.map λz=>z.cps.toList).Pairwise (λa b=>cZ a b=ah):=by
 rw[wy];cases ss with
 |nil=>exact List.Pairwise.nil
 |cons x r=>exact BX x r h
theorem ux:∀{ls:List Tx}{us:List ai},bn (dA ls) us->df us (ls.map tS)
 |[],_,.nil=>.nil
 |l::ls,_::_,.cons ⟨t,e⟩ r=>by subst e;exact .cons _ t (ux (ls:=ls) r)
theorem C4:∀{ss:List Str}{us:List ai},df us ss->bn (dA (ss.map λz=>z.cps.toList)) us
 |_,_,.nil=>.nil
 |_,_,.cons y t h=>.cons ⟨t,by rw[ym]⟩ (C4 h)
section
variable{X:Cx}
theorem Jp(z:Tx)(n:Nat):Txt.mul (tS z) (n:Int)=tS (bV n z).flatten:=by
 unfold Txt.mul;cases n with
 |zero=>simp[tS,je]
 |succ n=>
  rw[if_neg ∅];split
  ·rename_i h;simp only[zW,beq_iff_eq]at h;rcases h with h|h
   ·have:n=0:=∅
    subst this;simp
   ·rw[kE]at h;have:z=[]:=oH h;subst this;simp
  ·unfold tS;congr 1;have gen:∀(k:Nat) (aH:Array Nat),(bV k z.toArray).foldl (·++·) aH=aH++(bV k z).flatten.toArray:=by
    intro k
    induction k with
    |zero=>intro aH;simp
    |succ k ih=>intro aH;rw[mY,kX,ih,mY,qA];simp[Array.append_assoc]
   have e:=gen (n+1) #[];simp only[mV];simpa using e
theorem KG:bT X (iS .Mult) (λx y H Q=>∃(z:Tx) (n:Nat),x=tV z/\y=.int n/\n<=100/\z.length<=100/\Q (tV (bV n z).flatten) H):=by
 intro ag s σ H x y v u Q I rx ry h;obtain⟨z,n,rfl,rfl,hn,hz,q⟩:=h;obtain⟨t,rfl⟩:=rx;obtain⟨t',rfl⟩:=ry;refine SB.mul ?_ λt2 k=>?_
 ·have hp:z.length*n<=10000:=cS (zX hz hn) (by decide);refine⟨by rw[Bool.or_eq_false_iff];constructor <;> (apply decide_eq_false;lia),λh1 _=>?_,λh1 _=>?_⟩
  ·rw[kE];intro hgt;have h2:(2^63-1:Int) / n ≥ (2^63-1) / 100:=by
    have hn0:(0:Int)<n:=∅
    apply (Int.le_ediv_iff_mul_le hn0).mpr;have:((2^63-1:Int) / 100)*n<=((2^63-1) / 100)*100:=Int.mul_le_mul_of_nonneg_left ∅ (by decide);refine Int.le_trans this (by decide)
   have h3:((2^63-1:Int) / 100) > 1000:=by decide
   lia
  ·rw[kE,mV];unfold Builtin.Str.tooLong;apply decide_eq_false;have:10000<ba:=by rw[oy];decide
   lia
 ·rw[Jp];exact⟨tV _,H,I.tok _,⟨_,rfl⟩,q⟩
end
theorem Jv(t:bR)(j:Nat):(t.put j).1.led=t.led/\(t.put j).1.plain=t.plain:=⟨rfl,rfl⟩
theorem FU(t:bR)(n:Nat):(t.orStandIn n).led=t.led/\((t.orStandIn n).plain=t.plain\/(t.orStandIn n).plain=aj):=by
 unfold SetTable.orStandIn;split
 ·exact⟨rfl,.inl rfl⟩
 ·exact⟨rfl,.inr rfl⟩
theorem GX(t:bR)(es:Array (Int×ai))(h:Int)(x:ai):(layNew t es h x).2.1.led=t.led/\((layNew t es h x).2.1.plain=t.plain\/(layNew t es h x).2.1.plain=aj):=by
 unfold layNew;split
 ·rename_i slot wasDummy _;have h1:=Jv t slot;have h2:=FU (t.put slot).1 (oI es (t.put slot).2 (h,x)).size;exact⟨h2.1.trans h1.1,by rw[←h1.2];exact h2.2⟩
 ·exact⟨rfl,.inr rfl⟩
theorem Ko(t:bR)(es:Array (Int×ai))(wanted:Nat)(hp:t.plain=aj):(qH t es wanted).2.1.led=t.led/\(qH t es wanted).2.1.plain=aj:=by
 unfold qH;split
 ·rename_i t' order e;have q:t'.led=t.led/\t'.plain=t.plain:=by
   unfold SetTable.relaid zY at e;cases q:zZ (EQ wanted-1) (es.map (·.1))with
   |none=>rw[q]at e;cases e
   |some ow=>rw[q]at e;cases e;exact⟨rfl,rfl⟩
  dsimp only;split
  ·exact⟨q.1,q.2.trans hp⟩
  ·exact⟨rfl,rfl⟩
 ·exact⟨rfl,rfl⟩
def dv(w:aF):Bool:=w.params.followText "set-order"
structure jz(P:aM)(w:aF)(h:aA)(a:af)(ks:List Str):Prop where
 ex:∃(es:Array (Int×ai)) (ep:Nat) (t:bR) (ss:List Str),h.get? a=aa {cls:=.type "set",dict:=ae,data:=.set es ep t}/\df (es.toList.map (·.2)) ss/\ss.Perm ks/\ElemsOf (eU P w) es.toList /\
  es.size<4090/\t.fits es.size=ah/\t.led=(!dv w)/\(ks≠[]->t.plain=aj)
theorem jz.at{P:aM}{w:aF}{h h':aA}{a:af}{ks:List Str}(S:jz P w h a ks)(k:∀o,h.get? a=aa o->h'.get? a=aa o):jz P w h' a ks:=by obtain⟨es,ep,t,ss,e,r⟩:=S.ex;exact⟨es,ep,t,ss,k _ e,r⟩
theorem Dg:∀{vs:List ai}{ss:List Str},df vs ss->∀x,x∈ss↔∃t,Value.str x t∈vs
 |_,_,.nil,x=>by simp
 |_,_,.cons y t h,x=>by
  rw[bF,Dg h x];constructor
  ·rintro(rfl|⟨t',q⟩)
   ·exact⟨t,eN ..⟩
   ·exact⟨t',dI _ q⟩
  ·rintro⟨t',q⟩;rcases bF.mp q with q|q
   ·cases q;exact .inl rfl
   ·exact .inr ⟨t',q⟩
theorem xP:∀{us vs:List ai},us.Perm vs->∀{ss:List Str},df vs ss->∃aI,df us aI/\aI.Perm ss:=by intro us vs p ss h;refine⟨us.map strOf,strsAre_map us λv hv=>h.all v (p.mem_iff.mp hv),?_⟩;have:=p.map strOf;rwa[h.strs]at this
section
variable{P:aM}{w:aF}{A:aO}{E:ai->am->Prop}{s:am}
def ja(ks:List Str)(x:Str):List Str:=if x∈ks then ks else ks++[x]
theorem jz.put{h:aA}{a:af}{es es':Array (Int×ai)}{ep:Nat}{t t':bR}(e:h.get? a=aa {cls:=.type "set",dict:=ae,data:=.set es ep t}):(h.update a (Obj.putSet es' t')).get? a=aa {cls:=.type "set",dict:=ae,data:=.set es' (ep+1) t'}:=by have:=mW (Obj.putSet es' t') e (by rw[putSet_of es' t' rfl];rfl);rw[putSet_of es' t' rfl]at this;exact this
theorem G5{a:af}{ks:List Str}{x:Str}{tk:Tok}{Q:Bool->am->Prop}(S:jz P w s.heap a ks)(hn:ks.length<4000)(h:∀h' b,jB a s.heap h'->jz P w h' a (ja ks x)->Q b {s with heap:=h'}):aq (au P w) A (z5 a (.str x tk) ((eU P w).hash x)) Q E s:=by
 obtain⟨es,ep,t,ss,ho,hS,hp,hel,hsz,hf,j_,cT⟩:=S.ex;have isD:∀y t',(eU P w).is x (.str y t')=decide (y=x):=λy t'=>by
  show om x (.str y t')=_;rw[jY];simp[om]
  try exact eq_comm
 have jG:(eU P w).is x (.str x tk)=ah:=by rw[isD];simp
 have hb:es.size<scanBound:=qE hsz (by decide);unfold z5 setAddHashedIn;refine iw (ap (j4 ho rfl hf ?_));dsimp only;rw[byScan_of (knd:=eU P w) (x:=.str x tk) rfl hb hel];simp only[if_true];unfold setAddByScan;refine ap (ap (lX (ap (wpAny_setScan_of jG ho rfl hf hel ?_))));have memx:x∈ks↔∃e∈es.toList,(eU P w).is x e.2=ah:=by
  rw[←hp.mem_iff,Dg hS x];constructor
  ·rintro⟨t',q⟩;obtain⟨e,he,ee⟩:=bO.mp q;exact⟨e,he,by rw[ee,isD];simp⟩
  ·rintro⟨e,he,q⟩;obtain⟨y,t',ey⟩:=hS.all e.2 (bO.mpr ⟨e,he,rfl⟩);rw[ey,isD]at q;have:y=x:=of_decide_eq_true q;subst this;exact⟨t',bO.mpr ⟨e,he,ey⟩⟩
 have klen:ks.length=es.size:=by
  have e1:=hp.length_eq;have e2:ss.length=es.size:=by rw[←hS.strs];simp
  lia
 cases hr:List.findIdx? (λe=>(eU P w).is x e.2) es.toList with
 |some j=>dsimp only;obtain⟨hj,hpj,_⟩:=NQ.mp hr;have hx:x∈ks:=memx.mpr ⟨_,sY hj,hpj⟩;refine aD (aD ?_);exact h s.heap _ (ER a s.heap) (by unfold ja;rw[if_pos hx];exact S)
 |none=>
  dsimp only;have hx:¬x∈ks:=λhm=>by obtain⟨e,he,q⟩:=memx.mp hm;have:=List.findIdx?_eq_none_iff.mp hr e he;rw[q]at this;exact Bool.noConfusion this
  have hgw:∀(b:Bool) {s₁:am}{Q':Unit->am->Prop},Q' () s₁->aq (au P w) A (match b with|ah=>rule "set.scan.the-table-gave-way" |aj=>pure ()) Q' E s₁ :=
   λb s₁ Q' hq=>by cases b <;> first|exact aD hq|exact lX hq
  have wW:=layNew_perm t es ((eU P w).hash x) (.str x tk);have wX:=layNew_fits t es ((eU P w).hash x) (.str x tk);have tU:=GX t es ((eU P w).hash x) (.str x tk);generalize hL:layNew t es ((eU P w).hash x) (.str x tk)=L at wW wX tU ⊢;obtain⟨es1,t1,wasDummy,gave⟩:=L;dsimp only at wW wX tU ⊢;rw[qI]at wW;have hel1:ElemsOf (eU P w) es1.toList:=(hel.push jG rfl).perm wW;have AK:es1.size=es.size+1:=by have:=wW.length_eq;simpa using this
  have hS1:∃tW,df (es1.toList.map (·.2)) tW/\tW.Perm (ja ks x):=by
   have p1:=wW.map (λe:Int×ai=>e.2);rw[m8]at p1;have q1:df (es.toList.map (·.2)++[Value.str x tk]) (ss++[x]):=by
    have gen:∀{vs:List ai}{zs:List Str},df vs zs->df (vs++[Value.str x tk]) (zs++[x]):=by
     intro vs zs hh
     induction hh with
     |nil=>exact .cons x tk .nil
     |cons y t _ ih=>exact .cons y t ih
    exact gen hS
   obtain⟨tW,r1,r2⟩:=xP p1 q1;refine⟨tW,r1,r2.trans ?_⟩;unfold ja;rw[if_neg hx];exact hp.append_right _
  obtain⟨tW,r1,r2⟩:=hS1;have dj:ja ks x≠[]:=by unfold ja;rw[if_neg hx];simp
  have tail:∀t2:bR,t2.fits es1.size=ah->t2.led=(!dv w)->t2.plain=aj->aq (au P w) A (do
    storeSet a es1 t2
    if(!wasDummy&&t2.tooFull)=ah then do
      (match (qH t2 es1 (lY es1.size)).2.2 with|ah=>rule "set.scan.the-table-gave-way" |aj=>pure ())
      storeSet a (qH t2 es1 (lY es1.size)).1 (qH t2 es1 (lY es1.size)).2.1
      pure (aa ah)
     else pure (aa ah)) (λr s'=>∃h',r=aa ah/\s'={s with heap:=h'}/\jB a s.heap h'/\jz P w h' a (ja ks x)) E s:=by
   intro t2 hf2 jH d8;refine ap (z6 ho rfl ?_ (z7 (qE (show es1.size<4090 by lia) (by decide))));have o1:=jz.put (es':=es1) (t':=t2) ho;have gG:=qJ s.heap a (Obj.putSet es1 t2);split
   ·have fh:=relayAll_perm t2 es1 (lY es1.size);have hf3:=relayAll_fits t2 es1 (lY es1.size);have hm3:=Ko t2 es1 (lY es1.size) d8;generalize hRl:qH t2 es1 (lY es1.size)=Rl at fh hf3 hm3 ⊢;obtain⟨es2,t3,gave2⟩:=Rl;dsimp only at fh hf3 hm3 ⊢;have hsz2:es2.size=es1.size:=by have:=fh.length_eq;simpa using this
    refine ap (hgw _ ?_);refine ap (z6 o1 rfl ?_ (z7 (qE (show es2.size<4090 by lia) (by decide))));obtain⟨ss2,u1,u2⟩:=xP (fh.map (λe:Int×ai=>e.2)) r1;refine aD ⟨_,rfl,rfl,gG.trans (qJ _ a _),⟨es2,_,t3,ss2,jz.put o1,u1,u2.trans r2,hel1.perm fh,∅,hf3,hm3.1.trans jH,λ_=>hm3.2⟩⟩
   ·exact aD ⟨_,rfl,rfl,gG,⟨es1,_,t2,tW,o1,r1,r2,hel1,∅,hf2,jH,λ_=>d8⟩⟩
  have Fi:t1.led=(!dv w):=tU.1.trans j_;refine ap (hgw _ ?_);split
  ·refine ap ?_;rw[hashByValue_scannable 8 (x:=.str x tk) rfl];refine aD ?_;have hk:plainKind (.str x tk)=aj:=rfl;rw[hk];simp only[eC,if_false];refine aV (tail {t1 with plain:=aj} (SetTable.fits_plain_off wX) Fi rfl) λr s' ⟨h',e1,e2,e3,e4⟩=>?_;subst e1 e2;exact aD (h h' _ e3 e4)
  ·rename_i AL;refine ap (aD ?_);simp only[if_true];refine aV (tail t1 wX Fi (by simpa using AL)) λr s' ⟨h',e1,e2,e3,e4⟩=>?_;subst e1 e2;exact aD (h h' _ e3 e4)
end
def met(val:Nat->Str)(i:Nat):List Str:=((bX i).map val).foldl ja []
theorem Df(val:Nat->Str)(i:Nat):met val (i+1)=ja (met val i) (val i):=by unfold met;rw[oG,m8,ES];rfl
theorem Cc(val:Nat->Str){i:Nat}:∀{j:Nat},i<=j->(met val i).length<=(met val j).length
 |0,h=>by rw[show i=0 by lia];exact a_ _
 |j+1,h=>by
  by_cases e:i=j+1
  ·subst e;exact a_ _
  ·refine cS (Cc val (j:=j) ∅) ?_;rw[Df];unfold ja;split
   ·exact a_ _
   ·simp
section
variable{P:aM}{w:aF}{A:aO}{R:Result->am->Prop}{I:af}{fp wr:List af}{G:Array GenState->Array GenState->Prop}{n:Nat}{Pv:Nat->ai->Prop}{St:Nat->am->Prop}
theorem IB(W:WalksS P w A.in1 I fp wr G n Pv St)(S:af)(hSf:S∉fp){J:Nat->aA->Prop}(hJ:∀i h h',J i h->(∀b o,b∉wr->h.get? b=aa o->h'.get? b=aa o)->J i h')(k9:∀(i:Nat) (v:ai) (s:am) (E:ai->am->Prop) (Q:Bool->am->Prop),i<n->Pv i v->J i s.heap->(∀h' tk b,s.toks<=tk->jB S s.heap h'->J (i+1) h'->Q b {s with heap:=h',toks:=tk})->aq (au P w) A.in1 (setAdd S v) Q E s):∀(k i:Nat) (s:am),n-i=k->i<=n->St i s->J i s.heap -> (∀s',Moved (S::wr) G s s'->J n s'.heap->R (.ok (.ret .none)) s')->kU (au P w) A (.builtin "set.update.loop" ⟨[.ref S,.ref I],[]⟩) R s:=by
 have hSw:S∉wr:=λh=>hSf (W.sub _ h);have nq:∀b∈wr,b∈S::wr:=λb hb=>dI _ hb;intro k
 induction k with
 |zero=>
  intro i s hk hi dE hS hR;obtain rfl:i=n:=∅
  refine sZ NR ?_;rw[wz ET _];show aq _ A.in1 (pyNext (.ref I) >>= _) _ _ s;refine ap (W.done s _ _ dE λs' hm=>?_);show aq _ A.in1 (ret Value.none) _ _ s';exact aD (hR s' (hm.mono nq) (hJ _ _ _ hS λb o hb e=>hm.heap b o hb e))
 |succ k ih=>
  intro i s hk hi dE hS hR;have bb:i<n:=∅
  refine sZ NR ?_;rw[wz ET _];show aq _ A.in1 (pyNext (.ref I) >>= _) _ _ s;refine ap (W.item i s _ _ bb dE λv s' hP hst' hm=>?_);show aq _ A.in1 (jX [v] (setAdd S v) >>= _) _ _ s';refine ap (iw (k9 i v s' _ _ bb hP (hJ _ _ _ hS λb o hb e=>hm.heap b o hb e) λh' tk b oR iU li=>?_));refine aD ⟨z8 ET _,ih (i+1) _ ∅ bb (W.frame _ s' _ _ hst' oR λb hb o e=>?_) li λs'' hm'' hS''=>?_⟩
  ·rw[iU.2 b (λh:b=S=>hSf (by rw[←h];exact hb))];exact e
  ·refine hR s'' (Moved.trans W.gtrans ((hm.mono nq).then_heap oR λb o hb e=>?_) hm'') hS'';rw[iU.2 b (λh:b=S=>hb (by rw[h];exact eN))];exact e
end
section
variable{P:aM}{w:aF}{A:aO}{E:ai->am->Prop}{s:am}
theorem Jb(a:ai){Q:ai->am->Prop} (h:jz P w (s.heap.push {cls:=.type "set",dict:=ae,data:=.set #[] 0 (.fresh 0 0 (!dv w))}) s.heap.objs.size [] -> Q (.ref s.heap.objs.size) {s with heap:=s.heap.push {cls:=.type "set",dict:=ae,data:=.set #[] 0 (.fresh 0 0 (!dv w))}}):kU (au P w) A (.call (.builtin "set.__new__") ⟨[.type "set",a],[]⟩) (wants Q E) s:=by
 refine codeAny_of_tree ?_;show aq _ A.in1 (do EU "set.__new__" ⟨[.type "set",a],[]⟩;again (.builtin "set.__new__" ⟨[.type "set",a],[]⟩)) _ _ s;refine ap (oJ (PySem.F.newCall_set_1 a) (aD ⟨z8 F.plain_set_new _,sZ F.entry_set_new ?_⟩));rw[wz F.plain_set_new _];unfold Builtin.«set.__new__» Builtin.Frozenset.newClass;have nq:=sub_set_self;obtain⟨hp,g,d,tk,os⟩:=s;dsimp only
 wp_walk
 refine qK (aD ?_);dsimp only;simp only[newObj];refine ap (wpAny_alloc (aD ?_));refine aD (h ⟨#[],0,_,[],c0 _ rfl,.nil,qG _,λe he=>by simp at he,by decide,rfl,rfl,λh=>absurd rfl h⟩)
end
end L2
set_option maxHeartbeats 8000000
namespace L2
theorem FR:entryFor table "set.__iter__" = aa Builtin.«frozenset.__iter__»:=entryFor_alias (id':="frozenset.__iter__") (by kernel_rfl) rfl (by decide +kernel) (by kernel_rfl)
theorem BH:Slot "set_iterator" "__next__" "set_iterator.__next__" :=
 .of (owner:="set_iterator") (n:="__next__") (by rw[typeLookup_type,builtinLookup_eq_fast];kernel_rfl) (by decide +kernel) (by decide +kernel) (by decide +kernel) (by first|exact .inl (by decide +kernel)|exact .inr (by decide +kernel)) (by rw[isSubtype_type];kernel_rfl)
theorem Jm:entryFor table "set_iterator.__next__" = aa Builtin.«set_iterator.__next__»:=entryFor_of_fast (by kernel_rfl)
theorem J2(a:ai):argsOk "set_iterator.__next__" ⟨[a],[]⟩:=by unfold argsOk;kernel_rfl
theorem AT:Slot "set_iterator" "__iter__" "set_iterator.__iter__" :=
 .of (owner:="set_iterator") (n:="__iter__") (by rw[typeLookup_type,builtinLookup_eq_fast];kernel_rfl) (by decide +kernel) (by decide +kernel) (by decide +kernel) (by first|exact .inl (by decide +kernel)|exact .inr (by decide +kernel)) (by rw[isSubtype_type];kernel_rfl)
theorem J1:entryFor table "set_iterator.__iter__" = aa Builtin.«dict_keyiterator.__iter__»:=entryFor_alias (id':="dict_keyiterator.__iter__") (by kernel_rfl) rfl (by decide +kernel) (by kernel_rfl)
theorem Fy(a:ai):argsOk "set_iterator.__iter__" ⟨[a],[]⟩:=by unfold argsOk;kernel_rfl
def ic(first:ai)(i:Nat)(a:af)(n ep:Nat):Obj:={cls:=.type "set_iterator",data:=.fields #[first,.int i 0,.ref a,.int n 0,.int ep 0]}
section
variable{P:aM}{w:aF}{A:aO}{E:ai->am->Prop}{s:am}
theorem ut{I a:af}{first:ai}{i n ep:Nat}{Q:ai->am->Prop}(h:s.heap.get? I=aa (ic first i a n ep))(hQ:Q (.ref I) s):aq (au P w) A (mR (.ref I)) Q E s:=by
 have hT:s.TypeIs (.ref I) "set_iterator":=⟨_,h,rfl⟩
 refine wpAny_pyIter_slot hT AT (qu AT hT J1 ?_ (Fy _));show aq _ _ (ret (.ref I)) _ _ s;exact aD ⟨_,rfl,"set_iterator",_,hT,BH.lookup,hQ⟩
theorem nU{I a:af}{first:ai}{i:Nat}{es:Array (Int×ai)}{ep:Nat}{t:bR}{Q:Option ai->am->Prop}(ha:s.heap.get? a=aa {cls:=.type "set",dict:=ae,data:=.set es ep t})(hf:t.fits es.size=ah)(hI:s.heap.get? I=aa (ic first i a es.size ep))(h:aq (au P w) A.in1 (if let .int slot _:=first then do
    match ←lZ a slot.toNat (i:Int).toNat (ep:Int).toNat with
    |some (x,next)=>do
     l0 (.ref I) 0 (dZ next)
     l0 (.ref I) 1 (dZ ((i:Int)+1))
     ret x
    |none=>do l0 (.ref I) 2 .none;raiseNew (←newExc (.type "StopIteration") [])
   else do
    let aa places ←seqItems? first|j5 "internal:set_iterator"
    match places[(i:Int).toNat]? with
    |some (.int place _)=>do
     let x ←setNextDrawn a place.toNat (ep:Int).toNat
     l0 (.ref I) 1 (dZ ((i:Int)+1))
     ret x
    |some _=>j5 "internal:set_iterator"
    |none=>do l0 (.ref I) 0 (dZ 0);l0 (.ref I) 2 .none;raiseNew (←newExc (.type "StopIteration") []))
   (λfin s'=>∃r,fin=.done (.ret r)/\Q (aa r) s') (λe s'=>aq (au P w) A (do if ←wA e (.type "StopIteration")then pure ae else throw e) Q E s') s) :
  aq (au P w) A (pyNext (.ref I)) Q E s:=by
 have hT:s.TypeIs (.ref I) "set_iterator":=⟨_,hI,rfl⟩
 unfold pyNext;refine ap (wpAny_attempt (wpAny_callSpecial?_slot (name:=Str.ofString "__next__") hT BH (qu BH hT Jm ?_ (J2 _))));unfold Builtin.«set_iterator.__next__» slotArgs;refine ap (aD ?_);refine ap (wpAny_fieldsOf hI rfl ?_);show aq _ _ (setEntries a >>= _) _ _ s;refine ap (wpAny_setEntries_of ha rfl hf ?_);have e0:(((es.size:Nat):Int) != ((es.size:Nat):Int))=aj:=by simp
 rw[e0];simp only[eC,if_false];refine dY ?_ (λfin s' q=>?_) (λe s' q=>q) (Q:=λfin s'=>∃r,fin=.done (.ret r)/\Q (aa r) s') (E:=λe s'=>aq (au P w) A (do if ←wA e (.type "StopIteration")then pure ae else throw e) Q E s')
 ·exact h
 ·obtain⟨r,e1,e2⟩:=q;exact⟨r,e1,aD e2⟩
end
theorem zd{α:Type}:∀{l:List α}{i:Nat} (h:i<l.length),(l[i]::l.eraseIdx i).Perm l
 |[],i,h=>by simp at h
 |x::r,0,h=>by simp
 |x::r,i+1,h=>by have q:=zd (l:=r) (i:=i) (by simpa using h);simp only[List.getElem_cons_succ,List.eraseIdx_cons_succ];exact(List.Perm.swap x _ _).trans (List.Perm.cons x q)
theorem BZ{α:Type}(next:Nat->Nat):∀(bP k:Nat) (left:List α) (out:Array α),bP=left.length->(pickOrder.go next bP k left out).toList.Perm (out.toList++left)
 |0,k,left,out,h=>by have:left=[]:=oH h.symm;subst this;simp[pickOrder.go]
 |bP+1,k,left,out,h=>by
  have bb:next k % left.length<left.length:=l5 _ ∅
  unfold pickOrder.go;rw[d7 bb];dsimp only;have ih:=BZ next bP (k+1) (left.eraseIdx (next k % left.length)) (out.push left[next k % left.length]) (by rw[List.length_eraseIdx,if_pos bb];lia)
  refine ih.trans ?_;rw[qI,qB];exact EV _ (zd bb)
theorem BQ{α:Type}(next:Nat->Nat)(xs:Array α):(s_ next xs).toList.Perm xs.toList:=by
 have:=BZ next xs.size 0 xs.toList #[] (by simp)
 simpa[s_]using this
section
variable{P:aM}{w:aF}{A:aO}{E:ai->am->Prop}{s:am}
theorem K9{src:Source}{n:Nat}{Q:Nat->am->Prop}(hn:n≠0)(h:∀k d,k<n->Q k {s with drawn:=d}):aq (au P w) A (choose src n) Q E s:=λΓ p hΓ=>by unfold choose;rw[Sem.wp_choose];refine⟨hn,?_⟩;exact h _ _ (l5 _ (Nat.pos_of_ne_zero hn))
theorem BU{α:Type}:∀(n:Nat) (xs:List α) (s:am) (Q:List α->am->Prop),n=xs.length->(∀ys d,ys.Perm xs->Q ys {s with drawn:=d})->aq (au P w) A (drawOrder n xs) Q E s
 |0,[],s,Q,_,h=>by unfold drawOrder;exact aD (h [] s.drawn (qG _))
 |0,x::xs,s,Q,hn,h=>by simp at hn
 |n+1,[],s,Q,hn,h=>by simp at hn
 |n+1,x::xs,s,Q,hn,h=>by unfold drawOrder;refine ap (K9 (by simp) λk d hk=>?_);rw[d7 hk];dsimp only;refine ap (BU n ((x::xs).eraseIdx k) _ _ (by rw[List.length_eraseIdx,if_pos hk];lia) λys d' hy=>?_);refine aD (h _ d' ?_);exact(List.Perm.cons _ hy).trans (zd hk)
theorem uE{Q:Option ai->am->Prop}{R:Fin->am->Prop}(hh:A.handled=ae)(hQ:∀h',(∀b o,s.heap.get? b=aa o->h'.get? b=aa o)->Q ae {s with heap:=h'}):aq (au P w) A.in1 (do raiseNew (←newExc (.type "StopIteration") [])) R (λe s'=>aq (au P w) A (do if ←wA e (.type "StopIteration")then pure ae else throw e) Q E s') s:=by
 refine ap ?_;simp only[newExc,newTuple];refine ap (lU ?_ (by size_fits));refine ap (m:=firstArgMember _ _) (oJ (a:=Value.none) (by first|rfl | (simp only[firstArgMember];rfl)) ?_);refine lU ?_ (by size_fits);simp only[raiseNew];refine ap (wpAny_handled ?_);rw[show A.in1.handled=ae from hh];refine ap (aD (wpAny_throw ?_));refine ap (EW (T:="StopIteration") (b:=ah) ⟨_,c0 _ rfl,rfl⟩ isSubtype_stop ?_);exact aD (hQ _ λb o e=>bG _ (bG _ e))
theorem yM{I a:af}{first f':ai}{i n ep:Nat}{Q:Unit->am->Prop}(hI:s.heap.get? I=aa (ic first i a n ep))(h:∀h',jB I s.heap h'->h'.get? I=aa (ic f' i a n ep)->Q () {s with heap:=h'}):aq (au P w) A (l0 (.ref I) 0 f') Q E s:=by refine qL hI rfl (by simp[ic]) (h _ (qJ ..) ?_);rw[mW _ hI (by rfl)];rfl
theorem xQ{I a:af}{first:ai}{i n ep:Nat}{Q:Unit->am->Prop}(hI:s.heap.get? I=aa (ic first i a n ep))(h:∀h',jB I s.heap h'->h'.get? I=aa (ic first (i+1) a n ep)->Q () {s with heap:=h'}):aq (au P w) A (l0 (.ref I) 1 (dZ ((i:Int)+1))) Q E s:=by refine qL hI rfl (by simp[ic]) (h _ (qJ ..) ?_);rw[mW _ hI (by rfl)];rfl
theorem uZ{I a:af}{first:ai}{i n ep:Nat}{Q:Unit->am->Prop}(hI:s.heap.get? I=aa (ic first i a n ep))(h:∀h',jB I s.heap h'->(∃o,h'.get? I=aa o)->Q () {s with heap:=h'}):aq (au P w) A (l0 (.ref I) 2 .none) Q E s:=by refine qL hI rfl (by simp[ic]) (h _ (qJ ..) ⟨_,mW _ hI (by rfl)⟩)
abbrev n9(es:Array (Int×ai))(ep:Nat)(t:bR):Obj:={cls:=.type "set",dict:=ae,data:=.set es ep t}
theorem KJ{I a:af}{es:Array (Int×ai)}{ep:Nat}{t:bR}(dj:a≠I)(hf:t.fits es.size=ah)(hb:dv w=ah)(hh:A.handled=ae):Walks P w A I [I,a] [I] es.size (λi v=>((s_ (w.params.setOrder a ep) es).toList.map (·.2))[i]?=aa v) (λi h=>h.get? I=aa (ic (dZ 0) i a es.size ep)/\h.get? a=aa (n9 es ep t)):=by
 have hsz:(s_ (w.params.setOrder a ep) es).size=es.size:=by have:=(BQ (w.params.setOrder a ep) es).length_eq;simpa using this
 have body:∀(s:am) (i:Nat) (Q:Option (ai×Nat)->am->Prop) (E:ai->am->Prop),s.heap.get? a=aa (n9 es ep t) ->
   Q (((s_ (w.params.setOrder a ep) es)[i]?).map λe=>(e.2,0)) s->aq (au P w) A.in1 (lZ a (0:Int).toNat (i:Int).toNat (ep:Int).toNat) Q E s:=λs i Q E ha hq=>by
  unfold lZ;refine ap (j4 ha rfl hf ?_);unfold wB;refine ap (ap (qK (aD ?_)));show aq _ _ (if dv w=ah then _ else _) _ _ s;rw[if_pos hb];simp only[mV,bne_self_eq_false,eC,if_false];unfold setWalk;refine ap (ap (j4 ha rfl hf ?_));unfold wB;refine ap (ap (qK (aD ?_)));show aq _ _ (if dv w=ah then _ else _) _ _ s;rw[if_pos hb];refine ap (qK (aD (aD ?_)));exact hq
 refine⟨λb hb=>by simp at hb;simp[hb],λi h h' st k=>⟨k I (by simp) _ st.1,k a (by simp) _ st.2⟩,λi s Q E hi st hQ=>?_,λs Q E st hQ=>?_,λi s Q E st hQ=>ut st.1 hQ⟩
 ·refine nU st.2 hf st.1 ?_;refine ap (body s i _ _ st.2 ?_);have bb:i<(s_ (w.params.setOrder a ep) es).size:=∅
  rw[ji bb];dsimp only[wC];refine ap (yM st.1 λh1 gG e1=>?_);refine ap (xQ (s:={s with heap:=h1}) e1 λh2 ke e2=>?_);refine aD ⟨_,rfl,hQ _ h2 s.toks ?_ ⟨e2,?_⟩ λb o hb e=>?_⟩
  ·rw[jC];simp[ji bb]
  ·exact(ke.2 a dj).trans ((gG.2 a dj).trans st.2)
  ·exact(ke.2 b (by simpa using hb)).trans ((gG.2 b (by simpa using hb)).trans e)
 ·refine nU st.2 hf st.1 ?_;refine ap (body s es.size _ _ st.2 ?_);rw[Array.getElem?_eq_none ∅];dsimp only[Option.map_none];refine ap (uZ st.1 λh1 gG _=>?_);exact uE (s:={s with heap:=h1}) hh λh2 k2=>hQ h2 s.toks λb o hb e=>k2 b o ((gG.2 b (by simpa using hb)).trans e)
theorem ND{I a T:af}{es:Array (Int×ai)}{ep:Nat}{t:bR}{ord:List Nat}(dj:a≠I)(hT:T≠I)(hf:t.fits es.size=ah)(hp:ord.Perm (bX es.size))(hh:A.handled=ae):Walks P w A I [I,a,T] [I] es.size (λi v=>(ord.filterMap λj=>(es[j]?).map (·.2))[i]?=aa v) (λi h=>h.get? I=aa (ic (.ref T) i a es.size ep)/\h.get? a=aa (n9 es ep t)/\h.get? T=aa {cls:=.type "tuple",data:=.seq (ord.map λ(k:Nat)=>dZ k).toArray}):=by
 have hol:ord.length=es.size:=by simpa using hp.length_eq
 have hmem:∀j∈ord,j<es.size:=λj hj=>by simpa using hp.mem_iff.mp hj
 have fm:∀(l:List Nat),(∀j∈l,j<es.size)->∀(i j:Nat),l[i]?=aa j->∃e:Int×ai,es[j]?=aa e/\(l.filterMap λj=>(es[j]?).map (·.2))[i]?=aa e.2:=by
  intro l
  induction l with
  |nil=>intro _ i j h;simp at h
  |cons x r ih=>
   intro hl i j h;have hx:x<es.size:=hl x (eN ..);have ex:es[x]?=aa es[x]:=ji hx;cases i with
   |zero=>simp at h;subst h;exact⟨_,ex,by rw[kQ,ex];rfl⟩
   |succ i=>obtain⟨e,q1,q2⟩:=ih (λj hj=>hl j (dI _ hj)) i j (by simpa using h);exact⟨e,q1,by rw[kQ,ex];simpa using q2⟩
 have tupR:∀(s:am) (Q:Option (Array ai)->am->Prop) (E:ai->am->Prop),s.heap.get? T=aa {cls:=.type "tuple",data:=.seq (ord.map λ(k:Nat)=>dZ k).toArray}->Q (aa (ord.map λ(k:Nat)=>dZ k).toArray) s->aq (au P w) A.in1 (seqItems? (.ref T)) Q E s:=λs Q E ht hq=>by exact z9 ht rfl hq
 refine⟨λb hb=>by simp at hb;simp[hb],λi h h' st k=>⟨k I (by simp) _ st.1,k a (by simp) _ st.2.1,k T (by simp) _ st.2.2⟩,λi s Q E hi st hQ=>?_,λs Q E st hQ=>?_,λi s Q E st hQ=>ut st.1 hQ⟩
 ·refine nU st.2.1 hf st.1 ?_;refine ap (tupR s _ _ st.2.2 ?_);have bb:i<ord.length:=∅
  have e1:((ord.map λ(k:Nat)=>dZ k).toArray)[(i:Int).toNat]?=aa (dZ (ord[i]:Nat)):=by simp[bb]
  dsimp only;rw[e1];obtain⟨e,q1,q2⟩:=fm ord hmem i ord[i] (d7 bb);show aq _ _ (setNextDrawn a _ _ >>= _) _ _ s;refine ap ?_;unfold setNextDrawn;refine ap (j4 st.2.1 rfl hf ?_);simp only[mV,bne_self_eq_false,eC,if_false];rw[q1];refine aD ?_;refine ap (xQ st.1 λh2 ke e2=>?_);refine aD ⟨_,rfl,hQ _ h2 s.toks q2 ⟨e2,(ke.2 a dj).trans st.2.1,(ke.2 T hT).trans st.2.2⟩ λb o hb e=>(ke.2 b (by simpa using hb)).trans e⟩
 ·refine nU st.2.1 hf st.1 ?_;refine ap (tupR s _ _ st.2.2 ?_);have e1:((ord.map λ(k:Nat)=>dZ k).toArray)[(es.size:Int).toNat]?=ae:=by simp[hol]
  dsimp only;rw[e1];refine ap (yM st.1 λh1 gG e1=>?_);refine ap (uZ (s:={s with heap:=h1}) e1 λh2 ke _=>?_);exact uE (s:={s with heap:=h2}) hh λh3 k3=>hQ h3 s.toks λb o hb e=>k3 b o ((ke.2 b (by simpa using hb)).trans ((gG.2 b (by simpa using hb)).trans e))
theorem GJ(j k:Nat):gA #[j] k=if j<k then 1 else 0:=by
 unfold gA;simp only[ce,ff,mZ];unfold qM;simp;split
 ·rename_i h;unfold qM;simp
 ·unfold qM;simp
theorem GY{I a:af}{es:Array (Int×ai)}{ep:Nat}{t:bR}(dj:a≠I)(hf:t.fits es.size=ah)(hb:dv w=aj)(j_:t.led=ah)(h1:es.size=1)(hh:A.handled=ae):Walks P w A I [I,a] [I] 1 (λi v=>(es.toList.map (·.2))[i]?=aa v) (λi h=>h.get? I=aa (ic (dZ (if i=0 then 0 else((t.place.getD 0 0:Nat):Int)+1)) i a es.size ep)/\h.get? a=aa (n9 es ep t)):=by
 have hps:t.place.size=1:=by simp only[SetTable.fits,fB,beq_iff_eq]at hf;lia
 obtain⟨j,hj⟩:∃j,t.place=#[j]:=by
  match hq:t.place,hps with
  |⟨[j]⟩,_=>exact⟨j,rfl⟩
 have gj:((t.place.getD 0 0:Nat):Int)=(j:Int):=by rw[hj];rfl
 obtain⟨e,he⟩:∃e,es=#[e]:=by
  match hq:es,h1 with
  |⟨[e]⟩,_=>exact⟨e,rfl⟩
 have body:∀(s:am) (slot:Nat) (i:Nat) (Q:Option (ai×Nat)->am->Prop) (E:ai->am->Prop),s.heap.get? a=aa (n9 es ep t) ->
   Q (if j<slot then ae else aa (e.2,j+1)) s->aq (au P w) A.in1 (lZ a slot i ep) Q E s:=λs slot i Q E ha hq=>by
  unfold lZ;refine ap (j4 ha rfl hf ?_);unfold wB;refine ap (ap (qK (aD ?_)));show aq _ _ (if dv w=ah then _ else _) _ _ s;rw[if_neg (by rw[hb];decide)];refine wD (λhc=>absurd (show(!t.plain&&decide (es.size > 1))=ah from hc) (by rw[h1];simp)) (λ_=>?_);refine ap ?_;refine dY (Q:=λ_ s'=>s'=s) (E:=E) ?_ (λ_ s' ny=>?_) (λ_ _ x=>x)
  ·refine wD (λhc=>absurd (show(!t.led&&!es.isEmpty)=ah from hc) (by rw[j_];simp)) (λ_=>aD rfl)
  ·subst ny;rw[hj,GJ,he];by_cases bb:j<slot
   ·rw[if_pos bb]at hq ⊢;exact aD hq
   ·rw[if_neg bb]at hq ⊢;exact aD hq
 refine⟨λb hb=>by simp at hb;simp[hb],λi h h' st k=>⟨k I (by simp) _ st.1,k a (by simp) _ st.2⟩,λi s Q E hi st hQ=>?_,λs Q E st hQ=>?_,λi s Q E st hQ=>ut st.1 hQ⟩
 ·obtain rfl:i=0:=∅
  refine nU st.2 hf st.1 ?_;show aq _ _ (lZ a (0:Int).toNat ((0:Nat):Int).toNat (ep:Int).toNat >>= _) _ _ s;simp only[mV,Int.toNat_zero];refine ap (body s 0 0 _ _ st.2 ?_);rw[if_neg (l6 j)];dsimp only;refine ap (yM st.1 λh1 gG e1=>?_);refine ap (xQ (s:={s with heap:=h1}) e1 λh2 ke e2=>?_);refine aD ⟨_,rfl,hQ _ h2 s.toks ?_ ⟨?_,?_⟩ λb o hb e=>?_⟩
  ·rw[he];rfl
  ·rw[e2,if_neg (by decide),gj];rfl
  ·exact(ke.2 a dj).trans ((gG.2 a dj).trans st.2)
  ·exact(ke.2 b (by simpa using hb)).trans ((gG.2 b (by simpa using hb)).trans e)
 ·refine nU st.2 hf st.1 ?_;rw[if_neg (by decide),gj];show aq _ _ (lZ a ((j:Int)+1).toNat ((1:Nat):Int).toNat (ep:Int).toNat >>= _) _ _ s;have e1:((j:Int)+1).toNat=j+1:=∅
  rw[e1,mV,mV];refine ap (body s (j+1) 1 _ _ st.2 ?_);rw[if_pos (m_ j)];dsimp only;refine ap (uZ st.1 λh1 gG _=>?_);exact uE (s:={s with heap:=h1}) hh λh2 k2=>hQ h2 s.toks λb o hb e=>k2 b o ((gG.2 b (by simpa using hb)).trans e)
theorem vm:∀{vs:List ai}{ss:List Str} (i:Nat) (v:ai),df vs ss->vs[i]?=aa v->∃t,v=.str (ss.getD i je) t
 |_,_,i,v,.nil,h=>by simp at h
 |_,_,0,v,.cons y t _,h=>by simp at h;exact⟨t,by rw[←h];rfl⟩
 |_,_,i+1,v,.cons y t hr,h=>by simp only[List.getElem?_cons_succ]at h;obtain⟨t',e⟩:=vm i v hr h;exact⟨t',by rw[e];rfl⟩
set_option maxRecDepth 100000 in
theorem El{l:af}{items:Array ai}{Q:ai->am->Prop}(hh:A.handled=ae)(hl:s.heap.IsList l items){J:Nat->aA->Prop}(hJ:∀i h h',J i h->(∀b o,b<=s.heap.objs.size->h.get? b=aa o->h'.get? b=aa o)->J i h') (hJ0:J 0 (s.heap.push {cls:=.type "set",dict:=ae,data:=.set #[] 0 (.fresh 0 0 (!dv w))}))(k9:∀(i:Nat) (v:ai) (s1:am) (E:ai->am->Prop) (Q:Bool->am->Prop),i<items.size->items[i]?=aa v->J i s1.heap->(∀h' tk b,s1.toks<=tk->jB s.heap.objs.size s1.heap h'->J (i+1) h'->Q b {s1 with heap:=h',toks:=tk})->aq (au P w) A.in1.in1.in1 (setAdd s.heap.objs.size v) Q E s1)(h:∀(h':aA) (tk:Nat),J items.size h'->(∀b o,b<s.heap.objs.size->s.heap.get? b=aa o->h'.get? b=aa o)->Q (.ref s.heap.objs.size) {s with heap:=h',toks:=tk}):aq (au P w) A (call (.type "set") [.ref l]) Q E s:=by
 obtain⟨c,tl,hmro⟩:=F.called_set.mro;have hmade:=F.called_set.made;have nq:=F.called_set.sub;refine wn (codeAny_of_tree ?_);show aq _ _ (callAny (.type "set") _) _ _ _;refine aD ⟨Code.quiet_builtin _ (by decide +kernel),sZ F.entry_type_call ?_⟩;rw[Around.under_plain (weight_type_call_type "set" [.ref l] []) rfl];have h1:=F.called_set.notType;have h2:=F.called_set.canCreate;have hct:=PySem.F.typeCall_set_1 (.ref l)
 repeat any_goals (first|assumption|wp_step)
 refine oA (Jb (P:=P) (w:=w) (.ref l) (E:=E) (Q:=λobj s1=>obj=.ref s.heap.objs.size/\s1={s with heap:=s.heap.push {cls:=.type "set",dict:=ae,data:=.set #[] 0 (.fresh 0 0 (!dv w))}}/\True) λS0=>⟨rfl,rfl,trivial⟩) λr s1 hr=>?_;cases r with
 |error e=>exact hr
 |ok fl=>
  cases fl with
  |ret obj=>
   obtain⟨rfl,rfl,S0⟩:=hr;have hS:=c0 (h:=s.heap) (o:=({cls:=.type "set",dict:=ae,data:=.set #[] 0 (.fresh 0 0 (!dv w))}:Obj));have hS':(s.heap.push {cls:=.type "set",dict:=ae,data:=.set #[] 0 (.fresh 0 0 (!dv w))}).get? s.heap.objs.size=aa {cls:=.type "set",dict:=ae,data:=.set #[] 0 (.fresh 0 0 (!dv w))}:=c0 _ rfl;have hT:Shared.TypeIs {s with heap:=s.heap.push {cls:=.type "set",dict:=ae,data:=.set #[] 0 (.fresh 0 0 (!dv w))}} (.ref s.heap.objs.size) "set":=⟨_,hS',rfl⟩
   have hli:=F.called_set.init.lookup;have hbi:=F.called_set.init.bind (.ref s.heap.objs.size)
   repeat any_goals (first|assumption|wp_step)
   refine oA (codeAny_call_builtin (R:=wants (λr s2=>r=.none/\∃h' tk,s2={s with heap:=h',toks:=tk}/\J items.size h' /\ (∀b o,b<s.heap.objs.size->s.heap.get? b=aa o->h'.get? b=aa o)) E) F.called_set.init.plain F.entry_set_init (check_set_init_1 hT ?_)) λr2 s2 re=>?_
   ·obtain⟨⟨ocls,odict,odata,oslots⟩,hol,tR,nl,hdl⟩:=hl;simp only at tR hdl;subst tR;subst hdl;have hol':(s.heap.push {cls:=.type "set",dict:=ae,data:=.set #[] 0 (.fresh 0 0 (!dv w))}).get? l=aa {cls:=.type "list",dict:=odict,data:=.seq items nl,slots:=oslots}:=bG _ hol;have hsls:=PySem.F.sub_list_set;have hslf:=PySem.F.sub_list_frozenset;have dj:(Value.type "list" == Value.type "dict")=aj:=by decide
    have tT:(s.heap.push {cls:=.type "set",dict:=ae,data:=.set #[] 0 (.fresh 0 0 (!dv w))}).IsList l items:=⟨_,hol',rfl,nl,rfl⟩
    unfold Builtin.«set.__init__» noKeywords Builtin.Frozenset.updateFrom;generalize hPI:mR=PI
    wp_walk
    subst hPI;refine EM tT (ap (wpAny_runValue ?_));have hlS:l<s.heap.objs.size:=bu hol;have hh3:A.in1.in1.in1.handled=ae:=by simp[hh]
    have hsz:(s.heap.push {cls:=.type "set",dict:=ae,data:=.set #[] 0 (.fresh 0 0 (!dv w))}).objs.size=s.heap.objs.size+1:=zT ..;have hneI:l≠(s.heap.push {cls:=.type "set",dict:=ae,data:=.set #[] 0 (.fresh 0 0 (!dv w))}).objs.size:=by rw[hsz];exact cR (j6 hlS)
    have hSf:s.heap.objs.size∉[(s.heap.push {cls:=.type "set",dict:=ae,data:=.set #[] 0 (.fresh 0 0 (!dv w))}).objs.size,l]:=by rw[hsz];simp only[bF,hU,f_,or_false,not_or];exact⟨cR (m_ _),qr hlS⟩
    refine IB ((Walks.list hh3 _ l hneI items).toS) s.heap.objs.size hSf (λi h h' hj k=>hJ i h h' hj λb o hb e=>k b o (by rw[hsz];simp only[hU];exact cR (Nat.lt_succ_of_le hb)) e) (λi v s1 E Q hi hv hj hq=>k9 i v s1 E Q hi hv hj hq) (items.size-0) 0 _ ∅ (kY _)
     ⟨⟨_,c0 _ rfl,rfl,rfl⟩,(tT.push _)⟩ (hJ 0 _ _ hJ0 λb o _ e=>bG _ e) ?_
    intro s' hm li;obtain⟨h',g',d',tk',os'⟩:=s';obtain rfl:g'=s.gens:=hm.gens;obtain rfl:d'=s.drawn:=hm.drawn;obtain rfl:os'=s.os:=hm.os;show aq _ _ _ _ _ _;refine aD ?_;show aq _ _ (ret Value.none) _ _ _;refine aD ⟨rfl,h',tk',rfl,li,λb o hb e=>hm.heap b o ?_ (bG _ (bG _ e))⟩;rw[hsz];simp only[bF,hU,f_,or_false,not_or];exact⟨cR hb,cR (j6 hb)⟩
   ·cases r2 with
    |error e=>exact re
    |ok fl2=>
     cases fl2 with
     |ret r=>
      obtain⟨rfl,h',tk,rfl,li,mj⟩:=re
      repeat any_goals (first|assumption|wp_step)
      exact h _ _ li mj
     |_=>exact re.elim
  |_=>exact hr.elim
theorem JK{l:af}{items:Array ai}{ss:List Str}{Q:ai->am->Prop}(hh:A.handled=ae)(hl:s.heap.IsList l items)(hi:df items.toList ss)(hb:(met (λi=>ss.getD i je) items.size).length<4000)(h:∀(h':aA) (tk:Nat),jz P w h' s.heap.objs.size (met (λi=>ss.getD i je) items.size)->(∀b o,b<s.heap.objs.size->s.heap.get? b=aa o->h'.get? b=aa o)->Q (.ref s.heap.objs.size) {s with heap:=h',toks:=tk}):aq (au P w) A (call (.type "set") [.ref l]) Q E s:=by
 refine El hh hl (J:=λi h=>jz P w h s.heap.objs.size (met (λi=>ss.getD i je) i)) (λi h h' S k=>S.at λo e=>k _ o (a_ _) e)
  ⟨#[],0,_,[],c0 _ rfl,.nil,qG _,λe he=>by simp at he,by decide,rfl,rfl,λh=>absurd rfl h⟩ (λi v s1 E Q gF hv S q=>?_) h
 obtain⟨t,rfl⟩:=vm i v hi (by rw[wE];exact hv);unfold setAdd;refine iw ?_;have jG:(eU P w).is (ss.getD i je) (.str (ss.getD i je) t)=ah:=by show om _ (.str _ t)=ah;simp[om]
 refine ap ((eU P w).pyHash (k:=ss.getD i je) jG ?_);refine G5 (s:={s1 with toks:=s1.toks+1}) S (oF (Cc _ (jW gF)) hb) λh' b iU li=>?_;rw[←Df (λi=>ss.getD i je)]at li;exact q h' _ b (sX _) iU li
end
theorem DV{n:Nat}(h:n<=4096):n<ba:=oF h (by decide)
theorem Ly:typeLookup (.type "set") "__len__" = pure (aa (.builtin "set.__len__")):=F.slot_set_len.lookup
section
variable{P:aM}{w:aF}{A:aO}{E:ai->am->Prop}{s:am}
def pK(w:aF)(h:aA)(a:af)(es:Array (Int×ai)):Prop:=∃(ep:Nat) (t:bR),h.get? a=aa {cls:=.type "set",dict:=ae,data:=.set es ep t}/\es.size<4090/\t.fits es.size=ah/\t.led=(!dv w)/\(es.size≠0->t.plain=aj)
theorem pK.at{w:aF}{h h':aA}{a:af}{es:Array (Int×ai)}(S:pK w h a es)(k:∀o,h.get? a=aa o->h'.get? a=aa o):pK w h' a es:=by obtain⟨ep,t,e,r⟩:=S;exact⟨ep,t,k _ e,r⟩
theorem jz.e{h:aA}{a:af}{ks:List Str}(S:jz P w h a ks):∃es ss,pK w h a es/\df (es.toList.map (·.2)) ss/\ss.Perm ks:=by
 obtain⟨es,ep,t,ss,ho,hS,hp,hel,hsz,hf,j_,cT⟩:=S.ex;refine⟨es,ss,⟨ep,t,ho,hsz,hf,j_,λh0=>cT λz=>h0 ?_⟩,hS,hp⟩;have e1:=hp.length_eq;have e2:ss.length=es.size:=by rw[←hS.strs];simp
 rw[z,mZ]at e1;lia
structure C1(P:aM)(w:aF)(s s':am)(a I:af)(es:Array (Int×ai))(fp:List af)(n:Nat)(Pv:Nat->ai->Prop)(St:Nat->aA->Prop):Prop where
 wk:∀A:aO,A.handled=ae->Walks P w A I fp [I] n Pv St
 st:St 0 s'.heap
 old:∀b o,s.heap.get? b=aa o->s'.heap.get? b=aa o
 new:s.heap.objs.size<=I
 lt:∀b∈fp,b<s'.heap.objs.size
 rest:s'={s with heap:=s'.heap,drawn:=s'.drawn}
 ord:∀aH:Array ai,ItemsOf Pv aH n->aH.toList.Perm (es.toList.map (·.2))
 len:n<4090
 fps:∀b∈fp,b=a\/s.heap.objs.size<=b
theorem vk{l:List ai}{aH:Array ai}{n:Nat}(hl:l.length=n)(h:ItemsOf (λi v=>l[i]?=aa v) aH n):aH.toList=l:=by
 refine tf λi=>?_;by_cases hi:i<n
 ·have:i<aH.size:=by rw[h.1];exact hi
  have q:=h.2 i aH[i] (ji this);rw[q];simp[this]
 ·rw[nc (by rw[g9,h.1];lia),nc ∅]
theorem Ho{I a:af}{es:Array (Int×ai)}{ep:Nat}{t:bR}(dj:a≠I)(hf:t.fits es.size=ah)(hb:dv w=aj)(h1:es.size=0)(hh:A.handled=ae):Walks P w A I [I,a] [I] 0 (λi v=>(es.toList.map (·.2))[i]?=aa v) (λi h=>h.get? I=aa (ic (dZ 0) 0 a es.size ep)/\h.get? a=aa (n9 es ep t)):=by
 have he:es=#[]:=Array.eq_empty_of_size_eq_zero h1;have body:∀(s:am) (slot:Nat) (i:Nat) (Q:Option (ai×Nat)->am->Prop) (E:ai->am->Prop),s.heap.get? a=aa (n9 es ep t) ->
   Q ae s->aq (au P w) A.in1 (lZ a slot i ep) Q E s:=λs slot i Q E ha hq=>by
  unfold lZ;refine ap (j4 ha rfl hf ?_);unfold wB;refine ap (ap (qK (aD ?_)));show aq _ _ (if dv w=ah then _ else _) _ _ s;rw[if_neg (by rw[hb];decide)];refine wD (λhc=>absurd (show(!t.plain&&decide (es.size > 1))=ah from hc) (by rw[h1];simp)) (λ_=>?_);refine ap ?_;refine dY (Q:=λ_ s'=>s'=s) (E:=E) ?_ (λ_ s' ny=>?_) (λ_ _ x=>x)
  ·refine wD (λhc=>absurd (show(!t.led&&!es.isEmpty)=ah from hc) (by rw[he];simp)) (λ_=>aD rfl)
  ·subst ny;rw[he];have e2:∀k:Nat,(#[]:Array (Int×ai))[k]?=ae:=λk=>by simp
   dsimp only;rw[e2];exact aD hq
 refine⟨λb hb=>by simp at hb;simp[hb],λi h h' st k=>⟨k I (by simp) _ st.1,k a (by simp) _ st.2⟩,λi s Q E hi st hQ=>absurd hi (l6 i),λs Q E st hQ=>?_,λi s Q E st hQ=>ut st.1 hQ⟩;refine nU st.2 hf st.1 ?_;show aq _ _ (lZ a (0:Int).toNat ((0:Nat):Int).toNat (ep:Int).toNat >>= _) _ _ s;simp only[mV,Int.toNat_zero];refine ap (body s 0 0 _ _ st.2 ?_);dsimp only;refine ap (uZ st.1 λh1 gG _=>?_);exact uE (s:={s with heap:=h1}) hh λh2 k2=>hQ h2 s.toks λb o hb e=>k2 b o ((gG.2 b (by simpa using hb)).trans e)
theorem Jw{a:af}{es:Array (Int×ai)}{Q:ai->am->Prop}(S:pK w s.heap a es)(h:∀s' I fp n Pv St,C1 P w s s' a I es fp n Pv St->Q (.ref I) s'):aq (au P w) A (mR (.ref a)) Q E s:=by
 obtain⟨ep,t,ho,hsz,hf,j_,cT⟩:=S;have hT:s.TypeIs (.ref a) "set":=⟨_,ho,rfl⟩
 have ltA:=bu ho;refine wpAny_pyIter_slot hT F.slot_set_iter (qu F.slot_set_iter hT FR ?_ (F.args_set_iter_1 _));unfold Builtin.«frozenset.__iter__» Builtin.Frozenset.slot0 slotArgs Builtin.Frozenset.addrOf Builtin.Frozenset.sizeOf;refine ap (aD ?_);refine ap (ap (wpAny_setEntries_of ho rfl hf (aD ?_)));unfold setDrawn;refine ap (ap (j4 ho rfl hf ?_));unfold wB;refine ap (ap (qK (aD ?_)));refine aD ?_;have fin:∀(first:ai) (s1:am) (fp:List af) (n:Nat) (Pv:Nat->ai->Prop) (St:Nat->aA->Prop),s1.heap.get? a=aa {cls:=.type "set",dict:=ae,data:=.set es ep t} ->
   C1 P w s {s1 with heap:=s1.heap.push (ic first 0 a es.size ep)} a s1.heap.objs.size es fp n Pv St ->
   aq (au P w) A.in1 (do
    let e ←setEpoch a
    let f ←newFields "set_iterator" [first,dZ 0,Value.ref a,dZ (es.size:Nat),dZ (e:Nat)]
    ret f) (λfin s'=>∃v,fin=Fin.done (Flow.ret v)/\∃T' r,s'.TypeIs v T'/\typeLookup (Value.type T') (Str.ofString "__next__")=pure (aa r)/\Q v s') E s1:=λfirst s1 fp n Pv St ha W=>by
  refine ap (wpAny_setEpoch_of ha rfl hf ?_);refine ap (lU ?_);exact aD ⟨_,rfl,"set_iterator",_,⟨_,c0 _ rfl,rfl⟩,BH.lookup,h _ _ fp n Pv St W⟩
 refine wD (λhc=>?_) (λhc=>?_)
 ·have eD:(!dv w&&(!t.plain&&decide (es.size > 1)))=ah:=hc;refine ap (BU es.size (bX es.size) s _ (by simp) λys d hy=>?_);refine ap (wpAny_newTuple ?_ (hsz:=by rw[dw,hy.length_eq,EN];exact jW (DV ∅)));refine fin _ _ _ _ _ _ (bG _ ho) ⟨λA' hA=>ND (T:=s.heap.objs.size) (cR (by rw[iT];exact j6 ltA)) (cR (by rw[iT];exact m_ _)) hf hy hA,⟨c0 _ rfl,?_,?_⟩,?_,?_,?_,rfl,?_,hsz,?_⟩
  ·exact bG _ (bG _ ho)
  ·exact bG _ (c0 _ rfl)
  ·exact λb o e=>bG _ (bG _ e)
  ·rw[iT];exact sX _
  ·intro b hb;simp only[bF,f_,or_false]at hb;rw[iT,iT];rcases hb with rfl|rfl|rfl
   ·rw[iT];exact m_ _
   ·exact j6 (j6 ltA)
   ·exact j6 (m_ _)
  ·intro aH k_;have e0:(ys.filterMap λj=>(es[j]?).map (·.2))=(ys.filterMap λj=>es[j]?).map (·.2):=by rw[EX]
   have pl:(ys.filterMap λj=>es[j]?).Perm es.toList:=by have:=hy.filterMap λj=>es[j]?;rwa[filterMap_getElem?_range]at this
   rw[e0]at k_;rw[vk (by rw[dw,pl.length_eq];simp) k_];exact pl.map _
  ·intro b hb;simp only[bF,f_,or_false]at hb;rcases hb with rfl|rfl|rfl
   ·rw[iT];exact .inr (sX _)
   ·exact .inl rfl
   ·exact .inr (a_ _)
 ·have eD:¬(!dv w&&(!t.plain&&decide (es.size > 1)))=ah:=hc;refine ap (aD ?_);cases hb:dv w with
  |true=>
   refine fin _ _ _ _ _ _ ho ⟨λA' hA=>KJ (cR ltA) hf hb hA,⟨c0 _ rfl,bG _ ho⟩,λb o e=>bG _ e,a_ _,?_,rfl,?_,hsz,λb hb=>?_⟩
   ·intro b hb;simp only[bF,f_,or_false]at hb;rw[iT];rcases hb with rfl|rfl
    ·exact m_ _
    ·exact j6 ltA
   ·intro aH k_;have pl:=BQ (w.params.setOrder a ep) es;rw[vk (by rw[dw,pl.length_eq];simp) k_];exact pl.map _
   ·simp only[bF,f_,or_false]at hb;exact hb.elim (λz=>.inr (lV z.symm)) .inl
  |false=>
   have h01:es.size=1\/es.size=0:=by
    by_cases hk:es.size=0
    ·exact .inr hk
    ·rw[hb,cT hk]at eD;simp at eD;lia
   rcases h01 with h1|h1
   ·refine fin _ _ _ _ _ _ ho ⟨λA' hA=>GY (cR ltA) hf hb (by rw[j_,hb];rfl) h1 hA,⟨c0 _ rfl,bG _ ho⟩,λb o e=>bG _ e,a_ _,?_,rfl,?_,by decide,λb hb=>?_⟩
    ·intro b hb;simp only[bF,f_,or_false]at hb;rw[iT];rcases hb with rfl|rfl
     ·exact m_ _
     ·exact j6 ltA
    ·intro aH k_;rw[vk (by simp[h1]) k_]
    ·simp only[bF,f_,or_false]at hb;exact hb.elim (λz=>.inr (lV z.symm)) .inl
   ·refine fin _ _ _ _ _ _ ho ⟨λA' hA=>Ho (cR ltA) hf hb h1 hA,⟨c0 _ rfl,bG _ ho⟩,λb o e=>bG _ e,a_ _,?_,rfl,?_,by decide,λb hb=>?_⟩
    ·intro b hb;simp only[bF,f_,or_false]at hb;rw[iT];rcases hb with rfl|rfl
     ·exact m_ _
     ·exact j6 ltA
    ·intro aH k_;rw[vk (by simp[h1]) k_]
    ·simp only[bF,f_,or_false]at hb;exact hb.elim (λz=>.inr (lV z.symm)) .inl
theorem A5{a:af}{es:Array (Int×ai)}{Q:List ai->am->Prop}(hh:A.handled=ae)(S:pK w s.heap a es)(h:∀(s':am) (vs:List ai),vs.Perm (es.toList.map (·.2))->(∀b o,s.heap.get? b=aa o->s'.heap.get? b=aa o)->s'.gens=s.gens->s'.os=s.os->Q vs s'):aq (au P w) A (collect (.ref a)) Q E s:=by
 obtain⟨ep,t,ho,hsz,_⟩:=id S;have ltA:=bu ho;unfold collect;refine ap (wpAny_runValue (sZ F.entry_proto_collect ?_));rw[wz F.plain_proto_collect _];show aq _ A.in1 (newList [] >>= λl=>again (.builtin "list.__iadd__" ⟨[l,.ref a],[]⟩)) _ _ s;refine ap (lU ?_);refine aD ⟨z8 F.plain_list_iadd _,sZ F.entry_list_iadd ?_⟩;rw[wz F.plain_list_iadd _];show aq _ A.in1 (Builtin.List.listExtendWith (.ref s.heap.objs.size) (.ref a) (.ref s.heap.objs.size)) _ _ _;unfold Builtin.List.listExtendWith;have hT:∀s1:am,s1.heap.get? a=aa {cls:=.type "set",dict:=ae,data:=.set es ep t}->s1.TypeIs (.ref a) "set":=λs1 e=>⟨_,e,rfl⟩
 have tX:(s.heap.push {cls:=.type "list",data:=.seq ([]:List ai).toArray}).get? a=aa {cls:=.type "set",dict:=ae,data:=.set es ep t}:=bG _ ho;refine ap (zM (hT _ tX) ?_);have h1:Builtin.List.listSameRef (.ref s.heap.objs.size) (.ref a)=aj:=by have:¬(s.heap.objs.size=a):=qr ltA;simp[Builtin.List.listSameRef,this]
 rw[if_neg (by rw[h1];decide)];refine ap (Jw (S.at λo e=>bG _ e) λs2 I fp n Pv St W=>?_);have jl:=W.old a _ tX;refine ap (iw ?_);unfold Builtin.List.listLengthHint;refine ap (sW (hT _ jl) Ly ?_)
 wp_delta
 refine ap (EW (T:="set") (b:=ah) (hT _ jl) (by rw[isSubtype_type];kernel_rfl) ?_);show aq _ A.in1 (typeOf (Value.ref a) >>= _) _ _ _;refine ap (zM (T:="set") (hT _ jl) ?_);refine aD ?_;rw[if_pos (by decide)];refine ap (lX ?_);have hL:(s.heap.push {cls:=.type "list",data:=.seq ([]:List ai).toArray}).get? s.heap.objs.size=aa {cls:=.type "list",data:=.seq ([]:List ai).toArray}:=c0 _ rfl;have hL2:=W.old _ _ hL;unfold Builtin.List.listTouch;refine ap (ap (z_ hL2 rfl ?_ (by decide) (by show 1<=ba+1;decide)));have hL3:=get?_update_seq hL2 (λa:Array ai=>a.push Value.none);refine z_ hL3 rfl ?_ (by show 1<=ba;decide) (by show 0<=ba+1;decide);have hL4:=get?_update_seq hL3 (λa:Array ai=>a.pop);have Fo:s.heap.objs.size∉fp:=λz=>by
  rcases W.fps _ z with q|q
  ·exact absurd ltA (by rw[←q];exact fc _)
  ·rw[iT]at q;exact absurd (m_ _) (Nat.not_lt.mpr q)
 have k4:∀b o,b≠s.heap.objs.size->s2.heap.get? b=aa o->(((s2.heap.update s.heap.objs.size (jg λa=>a.push Value.none)).update s.heap.objs.size (jg λa=>a.pop))).get? b=aa o:=λb o hb e=>by rw[EY _ _ _ _ hb,EY _ _ _ _ hb];exact e
 have bH:St 0 (((s2.heap.update s.heap.objs.size (jg λa=>a.push Value.none)).update s.heap.objs.size (jg λa=>a.pop))):=(W.wk A.in1 hh).frame 0 _ _ W.st λb hb o e=>k4 b o (λz=>Fo (z ▸ hb)) e;refine aD ⟨z8 F.plain_extend_loop _,codeAny_extend_loopS (W.wk A.in1 hh).toS (jW (DV (by have:=W.len;lia))) _ Fo _ n 0 _ _ _ rfl (kY _) bH hL4 (ItemsOf.nil _) λs' acc' c' hm hS' k_=>?_⟩;show aq _ A (load s.heap.objs.size >>= _) _ _ s';refine ap (wpAny_load hS' ?_);refine aD (h s' acc'.toList (W.ord acc' k_) (λb o e=>?_) ?_ ?_)
 ·have bb:=bu e;refine hm.heap b o (λhb=>?_) (k4 b o (cR bb) (W.old b o (bG _ e)));rcases bF.mp hb with z|z
  ·exact absurd bb (by rw[z];exact fc _)
  ·rw[hU.mp z]at bb;have:=W.new;rw[iT]at this;exact absurd bb (Nat.not_lt.mpr (Nat.le_of_succ_le this))
 ·rw[hm.gens,W.rest]
 ·rw[hm.os,W.rest]
theorem JJ{a:af}{ks:List Str}{Q:List ai->am->Prop}(hh:A.handled=ae)(S:jz P w s.heap a ks)(h:∀(s':am) (vs:List ai) (ss:List Str),df vs ss->ss.Perm ks->vs.length<4090->(∀b o,s.heap.get? b=aa o->s'.heap.get? b=aa o)->s'.gens=s.gens->s'.os=s.os->Q vs s'):aq (au P w) A (collect (.ref a)) Q E s:=by
 obtain⟨es,ss,S,hS,hp⟩:=S.e;have hsz:es.size<4090:=by obtain⟨_,_,_,z,_⟩:=S;exact z
 refine A5 hh S λs' vs pv k1 k2 k3=>?_;obtain⟨aI,q1,q2⟩:=xP pv hS;exact h s' vs aI q1 (q2.trans hp) (by have:=pv.length_eq;simp at this;lia) k1 k2 k3
end
def ft(ls:List Tx):List Tx:=ls.foldl (λks x=>if x∈ks then ks else ks++[x]) []
theorem Bi(ls:List Tx):met (λi=>(ls.map tS).getD i je) ls.length=(ft ls).map tS:=by
 have gen:∀(l:List Tx) (aH:List Tx),(l.map tS).foldl ja (aH.map tS)=(l.foldl (λks x=>if x∈ks then ks else ks++[x]) aH).map tS:=by
  intro l
  induction l with
  |nil=>intro aH;rfl
  |cons x r ih=>
   intro aH;rw[eu,kX,kX];have:ja (aH.map tS) (tS x)=(if x∈aH then aH else aH++[x]).map tS:=by
    unfold ja;have hm:tS x∈aH.map tS↔x∈aH:=by rw[bO];exact⟨λ⟨y,hy,e⟩=>by rw[←uX e];exact hy,λh=>⟨x,h,rfl⟩⟩
    by_cases h:x∈aH
    ·rw[if_pos h,if_pos (hm.mpr h)]
    ·rw[if_neg h,if_neg (λz=>h (hm.mp z)),m8];rfl
   rw[this,ih]
 have e:(bX ls.length).map (λi=>(ls.map tS).getD i je)=ls.map tS:=by
  refine tf λi=>?_;rw[jC];by_cases hi:i<ls.length
  ·rw[wq hi];simp[hi]
  ·rw[nc (by simpa using hi),nc (by simpa using hi)];rfl
 unfold met;rw[e];exact gen ls []
theorem CO(l aH:List Tx):(aH.Nodup->(l.foldl (λks x=>if x∈ks then ks else ks++[x]) aH).Nodup)/\∀x,x∈l.foldl (λks x=>if x∈ks then ks else ks++[x]) aH↔x∈aH\/x∈l:=by
 induction l generalizing aH with
 |nil=>exact⟨λh=>h,λx=>by simp⟩
 |cons y r ih=>
  rw[kX];obtain⟨h1,h2⟩:=ih (if y∈aH then aH else aH++[y]);refine⟨λh=>h1 ?_,λx=>?_⟩
  ·split
   ·exact h
   ·rename_i hy;rw[List.nodup_append];exact⟨h,by simp,λa ha b hb=>by simp at hb;subst hb;exact λe=>hy (e ▸ ha)⟩
  ·rw[h2 x,bF];split
   ·rename_i hy;constructor
    ·rintro(h|h)
     ·exact .inl h
     ·exact .inr (.inr h)
    ·rintro(h|rfl|h)
     ·exact .inl h
     ·exact .inl hy
     ·exact .inr h
   ·rw[fZ,hU,or_assoc]
theorem Ng(l:List Tx):(ft l).Nodup:=(CO l []).1 List.nodup_nil
theorem u8(l:List Tx)(x:Tx):x∈ft l↔x∈l:=by rw[ft,(CO l []).2 x];simp
theorem Lj(l:List Tx):(ft l).length<=l.length:=by
 have gen:∀(l aH:List Tx),(l.foldl (λks x=>if x∈ks then ks else ks++[x]) aH).length<=aH.length+l.length:=by
  intro l
  induction l with
  |nil=>intro aH;simp
  |cons x r ih=>intro aH;rw[kX];refine cS (ih _) ?_;split <;> simp <;> lia
 simpa[ft]using gen l []
section
variable{X:Cx}
def nJ(X:Cx)(a:af)(ls:List Tx):HO:=.ext λh=>jz X.prog X.w h a (ls.map tS)
theorem IP(hc:X.calm=ah):eA X (.type "set") (λxs H Q=>∃(p:af) (ls:List Tx),xs=[.ref p]/\cc X.K H p (dA ls)/\(ft ls).length<4000/\∀a,H a=ae->Q (.ref a) (upd H a (nJ X a (ft ls)))):=by
 intro ag s σ H xs us Q I r h;obtain⟨p,ls,rfl,hq,h60,q⟩:=h;obtain⟨u,rfl,ru⟩:=vals1 r;cases ru;obtain⟨its,rv,pl,hz⟩:=I.list hq;have hl:=rv.length;rw[yW]at hl;refine JK (P:=X.prog) (w:=X.w) (I.ok.hd hc) pl.isList (by simpa using ux rv) (by rw[ce,show its.length=ls.length by lia,Bi,dw];exact h60) λh' tk S k=>?_;have S':jz X.prog X.w h' s.heap.objs.size ((ft ls).map tS):=by
  have e:its.toArray.size=ls.length:=by rw[ce];lia
  rw[e,Bi]at S;exact S
 refine⟨.ref s.heap.objs.size,_,I.laid (t':=tk) (o:=nJ X s.heap.objs.size (ft ls)) (λb o e=>k b o (bu e) e) (a_ _) ?_,rfl,q _ I.fresh⟩;obtain⟨es,ep,t,ss,e,_⟩:=S'.ex;exact⟨S',⟨_,e⟩,λh1 h2 q1 q2=>q1.at q2⟩
end
structure cn(K:ax)(mg:Str->Option ai)(x:Str)(st:a6):Prop where
 ex:∃f fd,mg x=aa (.ref f)/\nR K x x st f fd
theorem Dc{H:Hp}{p:af}{o:HO}(h:H p=ae):Same H (upd H p o):=λb u q=>by rw[b7 (jL q h)];exact q
theorem Dd{α:Type}{xs:List α}{k:Int}(h0:0<=k)(h:k.toNat<xs.length):fW xs k=aa xs[k.toNat]:=by
 have e:((k.toNat:Nat):Int)=k:=∅
 have q:=LC (xs:=xs) (j:=k.toNat) (v:=xs[k.toNat]) (by simp[h]);rwa[e]at q
def BK(N:List Str)(sc scope:dX)(x:Str)(N':List Str)(cap:List Nat):Bool :=
 decide (scope.kind=.function)&&scope.names.all (λy=>(decide (y.2≠.cell)||decide (scope.names.lookup y.1=aa .cell))&&(decide (y.2≠.local)||decide (scope.names.lookup y.1=aa .local))&&(decide (y.2≠.free)||decide (sc.names.lookup y.1=aa .cell)||decide (sc.names.lookup y.1=aa .free)))
 && (decide (scope.names.lookup x=aa .local)||decide (scope.names.lookup x=aa .cell))&&decide N'.Nodup&&decide (N'.head?=aa x)&&decide (N'.length=cap.length+1)&&(cap.zip N'.tail).all λp=>decide (N[p.1]?=aa p.2)&&decide (scope.names.lookup p.2=aa .free)
theorem jO.of{X:Cx}{scope:dX}{x:Str}{N':List Str}{cap:List Nat}(N:List Str)(sc:dX)(hN:X.N=N)(hsc:X.env.scope=sc)(h:BK N sc scope x N' cap=ah):jO X scope x N' cap:=by
 subst hN hsc;simp only[BK,fB,decide_eq_true_eq,k6,zW]at h;obtain⟨⟨⟨⟨⟨⟨h1,h2⟩,h3⟩,h4⟩,h5⟩,h6⟩,h7⟩:=h;refine⟨h1,λy hy e=>(h2 y hy).1.1.elim (λz=>absurd e z) λz=>z,λy hy e=>?_,h3,λy hy e=>?_,h4,h5,h6,λi j y e1 e2=>?_⟩
 ·rcases(h2 y hy).1.2 with z|z
  ·exact absurd e z
  ·exact z
 ·rcases(h2 y hy).2 with(z|z)|z
  ·exact absurd e z
  ·exact .inl z
  ·exact .inr z
 ·have hm:(j,y)∈cap.zip N'.tail:=by
   refine List.mem_iff_getElem?.mpr ⟨i,?_⟩;rw[Aa];refine⟨e2,?_⟩;rw[←List.drop_one,EZ,Nat.add_comm];exact e1
  exact h7 _ hm
theorem Nd(a b:Tx):dy (tV a) (tV b)=decide (a=b):=by show(tS a == tS b)=_;rw[jY];simp only[beq_iff_eq,decide_eq_true_eq];exact⟨uX,λh=>by rw[h]⟩
theorem Hq(ls:List Tx)(x:Tx):((dA ls).countP λz=>dy z (tV x))=ls.count x:=by unfold dA List.count;rw[List.countP_map];refine List.countP_congr λy _=>?_;simp only[Function.comp_apply,Nd,decide_eq_true_eq,beq_iff_eq]
end L2
namespace Pu
open L2
abbrev St:=L2.St
inductive PV where
 |non|bl (b:Bool)|int (i:Int)|str (x:Tx)|tup (xs:List PV)|lst (xs:List PV)|raw (v:V)|exc (c:ai)
def lx(a:af)(c:ai):HO:=.ext λh=>∃o vs,h.get? a=aa o/\o.cls=c/\o.data=.fields vs/\o.dict=ae
def cq:Nat:=1000000
theorem lA:cq<=ba:=by rw[oy];decide
def dQ:HO->Prop
 |.lst _=>True
 |.dK _=>True
 |.dT _=>True
 |.ins _ _ _=>True
 |.own _=>True
 |_=>False
mutual
def aS(K:ax)(H:Hp)(F:af->Prop):PV->V->Prop
 |.non,v=>v=.non
 |.bl b,v=>v=.bl b
 |.int i,v=>v=.int i
 |.str x,v=>v=tV x/\x.length<=cq
 |.tup xs,v=>∃a vs,v=.ref a/\H a=aa (.tup vs)/\Reps K H F xs vs
 |.lst xs,v=>∃a vs,v=.ref a/\Rd H a (.lst vs)/\F a/\Reps K H F xs vs
 |.raw u,v=>v=u
 |.exc c,v=>∃a,v=.ref a/\H a=aa (lx a c)
def Reps(K:ax)(H:Hp)(F:af->Prop):List PV->List V->Prop
 |[],vs=>vs=[]
 |x::xs,vs=>∃v r,vs=v::r/\aS K H F x v/\Reps K H F xs r
end
section
variable{K:ax}{H H':Hp}{F F':af->Prop}
mutual
theorem aS.mono(hF:∀a,F a->F' a)(hL:∀a xs,F a->Rd H a (.lst xs)->Rd H' a (.lst xs))(hT:∀a o,H a=aa o->¬dQ o->H' a=aa o):∀(x:PV) (v:V),aS K H F x v->aS K H' F' x v
 |.non,_,h=>h
 |.bl _,_,h=>h
 |.int _,_,h=>h
 |.str _,_,h=>h
 |.raw _,_,h=>h
 |.exc _,_,⟨a,e,h⟩=>⟨a,e,hT a _ h id⟩
 |.tup xs,_,⟨a,vs,e,h1,h2⟩=>⟨a,vs,e,hT a _ h1 id,Reps.mono hF hL hT xs vs h2⟩
 |.lst xs,_,⟨a,vs,e,h1,h0,h2⟩=>⟨a,vs,e,hL a vs h0 h1,hF a h0,Reps.mono hF hL hT xs vs h2⟩
theorem Reps.mono(hF:∀a,F a->F' a)(hL:∀a xs,F a->Rd H a (.lst xs)->Rd H' a (.lst xs))(hT:∀a o,H a=aa o->¬dQ o->H' a=aa o):∀(xs:List PV) (vs:List V),Reps K H F xs vs->Reps K H' F' xs vs
 |[],_,h=>h
 |x::xs,_,⟨v,r,e,h1,h2⟩=>⟨v,r,e,aS.mono hF hL hT x v h1,Reps.mono hF hL hT xs r h2⟩
end
theorem Reps.len:∀{xs:List PV}{vs:List V},Reps K H F xs vs->vs.length=xs.length
 |[],_,h=>by rw[show _=[] from h];rfl
 |_::_,_,⟨_,_,e,_,h2⟩=>by rw[e,ff,ff,Reps.len h2]
theorem Reps.get:∀{xs:List PV}{vs:List V}{i:Nat}{x:PV},Reps K H F xs vs->xs[i]?=aa x->∃v,vs[i]?=aa v/\aS K H F x v
 |[],_,_,_,_,e=>by simp at e
 |x::xs,_,0,y,⟨v,r,e,h1,_⟩,q=>by simp at q;subst q;subst e;exact⟨v,rfl,h1⟩
 |x::xs,_,i+1,y,⟨v,r,e,_,h2⟩,q=>by obtain⟨w,a,b⟩:=Reps.get (i:=i) (x:=y) h2 (by simpa using q);subst e;exact⟨w,by simpa using a,b⟩
theorem Reps.back:∀{xs:List PV}{vs:List V}{i:Nat}{v:V},Reps K H F xs vs->vs[i]?=aa v->∃x,xs[i]?=aa x/\aS K H F x v
 |[],_,_,_,h,e=>by rw[show _=[] from h]at e;simp at e
 |x::xs,_,0,y,⟨v,r,e,h1,_⟩,q=>by subst e;simp at q;subst q;exact⟨x,rfl,h1⟩
 |x::xs,_,i+1,y,⟨v,r,e,_,h2⟩,q=>by subst e;obtain⟨w,a,b⟩:=Reps.back (i:=i) (v:=y) h2 (by simpa using q);exact⟨w,by simpa using a,b⟩
theorem Reps.app:∀{xs ys:List PV}{vs ws:List V},Reps K H F xs vs->Reps K H F ys ws->Reps K H F (xs++ys) (vs++ws)
 |[],_,_,_,h,g=>by rw[show _=[] from h];exact g
 |x::xs,_,_,_,⟨v,r,e,h1,h2⟩,g=>by subst e;exact⟨v,_,rfl,h1,Reps.app h2 g⟩
theorem Reps.one{x:PV}{v:V}(h:aS K H F x v):Reps K H F [x] [v]:=⟨v,[],rfl,h,rfl⟩
theorem Reps.drop:∀(n:Nat) {xs:List PV}{vs:List V},Reps K H F xs vs->Reps K H F (xs.drop n) (vs.drop n)
 |0,_,_,h=>h
 |_+1,[],_,h=>by rw[show _=[] from h];rfl
 |n+1,_::_,_,⟨_,_,e,_,h2⟩=>by subst e;exact Reps.drop n h2
theorem Reps.take:∀(n:Nat) {xs:List PV}{vs:List V},Reps K H F xs vs->Reps K H F (xs.take n) (vs.take n)
 |0,_,_,_=>by rw[Ab,Ab];rfl
 |_+1,[],_,h=>by rw[show _=[] from h];rfl
 |n+1,_::_,_,⟨v,_,e,h1,h2⟩=>by subst e;exact⟨v,_,rfl,h1,Reps.take n h2⟩
theorem Reps.set{x:PV}{v:V}(hx:aS K H F x v):∀(n:Nat) {xs:List PV}{vs:List V},Reps K H F xs vs->Reps K H F (xs.set n x) (vs.set n v)
 |_,[],_,h=>by rw[show _=[] from h];rfl
 |0,_::_,_,⟨_,r,e,_,h2⟩=>by subst e;exact⟨v,r,rfl,hx,h2⟩
 |n+1,_::_,_,⟨w,_,e,h1,h2⟩=>by subst e;exact⟨w,_,rfl,h1,Reps.set hx n h2⟩
end
structure bp(O O' F F':af->Prop)(H H':Hp):Prop where
 fro:∀a,F a->F' a
 keep:∀b o,H b=aa o->¬O b->H' b=aa o
 there:∀b o,H b=aa o->∃o',H' b=aa o'
 fnew:∀a,F' a->F a\/H a=ae\/O a
 onew:∀a,O' a->O a\/H a=ae
theorem bp.refl(O F:af->Prop)(H:Hp):bp O O F F H H:=⟨λ_ h=>h,λ_ _ h _=>h,λ_ o h=>⟨o,h⟩,λ_ h=>.inl h,λ_ h=>.inl h⟩
theorem bp.trans{O O1 O2 F F1 F2:af->Prop}{H H1 H2:Hp}(g:bp O O1 F F1 H H1)(k:bp O1 O2 F1 F2 H1 H2):bp O O2 F F2 H H2 where
 fro:=λa h=>k.fro a (g.fro a h)
 keep:=λb o h n=>k.keep b o (g.keep b o h n) λz=>(g.onew b z).elim n λq=>by rw[q]at h;cases h
 there:=λb o h=>let ⟨o',h'⟩:=g.there b o h;k.there b o' h'
 fnew:=λa h=>by
  have back:H1 a=ae->H a=ae\/O a:=λz=>by
   cases q:H a with
   |none=>exact .inl rfl
   |some o=>obtain⟨o',h'⟩:=g.there a o q;rw[z]at h';cases h'
  rcases k.fnew a h with z|z|z
  ·exact g.fnew a z
  ·exact .inr (back z)
  ·exact .inr ((g.onew a z).symm)
 onew:=λa h=>by
  rcases k.onew a h with z|z
  ·exact g.onew a z
  ·cases q:H a with
   |none=>exact .inr rfl
   |some o=>obtain⟨o',h'⟩:=g.there a o q;rw[z]at h';cases h'
def mD(O F:af->Prop)(H:Hp):Prop:=∀b,O b->¬F b/\∃o,H b=aa o/\dQ o
section
variable{K:ax}{O O' F F':af->Prop}{H H':Hp}
theorem bp.imm(g:bp O O' F F' H H')(f:mD O F H){a:af}{o:HO}(h:H a=aa o)(n:¬dQ o):H' a=aa o :=
 g.keep _ _ h λz=>by
  obtain⟨_,o',e',n'⟩:=f a z;rw[h]at e';cases e';exact n n'
theorem bp.lst(g:bp O O' F F' H H')(f:mD O F H){a:af}{xs:List V}(hF:F a)(h:Rd H a (.lst xs)):Rd H' a (.lst xs):=by
 have no:¬O a:=λz=>(f a z).1 hF;rcases h with h|⟨o,h⟩
 ·exact .inl (g.keep _ _ h no)
 ·exact .inr ⟨o,g.keep _ _ h no⟩
theorem aS.grow(g:bp O O' F F' H H')(f:mD O F H){x:PV}{v:V}(h:aS K H F x v):aS K H' F' x v:=aS.mono g.fro (λ_ _ hF q=>g.lst f hF q) (λ_ _ q n=>g.imm f q n) x v h
theorem Reps.grow(g:bp O O' F F' H H')(f:mD O F H){x:List PV}{v:List V}(h:Reps K H F x v):Reps K H' F' x v:=Reps.mono g.fro (λ_ _ hF q=>g.lst f hF q) (λ_ _ q n=>g.imm f q n) x v h
end
theorem _root_.L2.Same.rd{H H':Hp}{a:af}{u:HO}(e:Same H H')(h:Rd H a u):Rd H' a u:=h.elim (λz=>.inl (e _ _ z)) λ⟨o,z⟩=>.inr ⟨o,e _ _ z⟩
structure Al(F F':af->Prop)(H H':Hp):Prop where
 fro:∀a,F a->F' a
 same:Same H H'
 fnew:∀a,F' a->F a\/(H a=ae/\∃o,H' a=aa o)
theorem Al.refl(F:af->Prop)(H:Hp):Al F F H H:=⟨λ_ h=>h,Same.refl H,λ_ h=>.inl h⟩
theorem Al.grow{F F' O:af->Prop}{H H':Hp}(a:Al F F' H H'):bp O O F F' H H' :=⟨a.fro,λb o h _=>a.same b o h,λb o h=>⟨o,a.same b o h⟩,λb h=>(a.fnew b h).imp id λz=>.inl z.1,λ_ h=>.inl h⟩
theorem Al.rep{K:ax}{F F':af->Prop}{H H':Hp}(a:Al F F' H H'){x:PV}{v:V}(h:aS K H F x v):aS K H' F' x v:=aS.mono a.fro (λ_ _ _ q=>a.same.rd q) (λ_ _ q _=>a.same _ _ q) x v h
theorem Al.reps{K:ax}{F F':af->Prop}{H H':Hp}(a:Al F F' H H'){x:List PV}{v:List V}(h:Reps K H F x v):Reps K H' F' x v:=Reps.mono a.fro (λ_ _ _ q=>a.same.rd q) (λ_ _ q _=>a.same _ _ q) x v h
theorem Al.trans{F F1 F2:af->Prop}{H H1 H2:Hp}(a:Al F F1 H H1)(b:Al F1 F2 H1 H2):Al F F2 H H2 :=
 ⟨λc h=>b.fro c (a.fro c h),a.same.trans b.same,λc h=>by
  rcases b.fnew c h with z|⟨z,w⟩
  ·rcases a.fnew c z with y|⟨y,o,q⟩
   ·exact .inl y
   ·exact .inr ⟨y,o,b.same _ _ q⟩
  ·exact .inr ⟨a.same.free z,w⟩⟩
theorem Al.new{F:af->Prop}{H:Hp}{l:af}{o:HO}(h:H l=ae):Al F (λa=>F a\/a=l) H (upd H l o) :=⟨λ_ h=>.inl h,Dc h,λa z=>z.imp id λe=>by subst e;exact⟨h,o,cC⟩⟩
theorem Al.new0{F:af->Prop}{H:Hp}{l:af}{o:HO}(h:H l=ae):Al F F H (upd H l o):=⟨λ_ h=>h,Dc h,λa z=>.inl z⟩
inductive PO where
 |lst (xs:List PV)|dK (kvs:List (aN×PV))|lls (iV:List (List PV))|ins (C:af) (fs:List (Str×PV))|dT (kvs:List (List aN×PV))|inl (C:af) (fs:List (Str×PV)) (y:Str) (xs:List PV)
def gr:PO->Bool
 |.lls _=>aj
 |.inl ..=>aj
 |_=>ah
inductive Slot where
 |none|val (v:PV)|own (o:PO)
abbrev ak:=List Slot
def g7(K:ax)(H:Hp)(F:af->Prop)(kvs:List (aN×PV))(ws:List (aN×V)):Prop:=kN (λ(p:aN×PV) (q:aN×V)=>p.1=q.1/\aS K H F p.2 q.2) kvs ws
def rY(K:ax)(H:Hp)(F:af->Prop)(fs:List (Str×PV))(ws:List (Str×V)):Prop:=kN (λ(p:Str×PV) (q:Str×V)=>p.1=q.1/\aS K H F p.2 q.2) fs ws
def vQ(K:ax)(H:Hp)(F:af->Prop)(kvs:List (List aN×PV))(ws:List (List aN×V)):Prop:=kN (λ(p:List aN×PV) (q:List aN×V)=>p.1=q.1/\aS K H F p.2 q.2) kvs ws
def v9(K:ax)(H:Hp)(F:af->Prop)(iV:List (List PV))(as:List af):Prop:=kN (λ(xs:List PV) (b:af)=>∃vs,H b=aa (.lst vs)/\Reps K H F xs vs) iV as
def eP(K:ax)(H:Hp)(F:af->Prop)(po:PO)(a:af)(S:af->Prop):Prop :=
 match po with
 |.lst xs=>(∃vs,H a=aa (.lst vs)/\Reps K H F xs vs)/\∀b,S b↔b=a
 |.dK kvs=>(∃ws,H a=aa (.dK ws)/\g7 K H F kvs ws)/\∀b,S b↔b=a
 |.lls iV=>∃as,H a=aa (.lst (as.map .ref))/\v9 K H F iV as/\as.Nodup/\a∉as/\∀b,S b↔b=a\/b∈as
 |.ins C fs=>(∃dx ws,H a=aa (.ins C dx ws)/\rY K H F fs ws)/\∀b,S b↔b=a
 |.dT kvs=>(∃ws,H a=aa (.dT ws)/\vQ K H F kvs ws)/\∀b,S b↔b=a
 |.inl C fs y xs=>∃dx ws b vs,H a=aa (.ins C dx (ws++[(y,.ref b)]))/\rY K H F fs ws/\fs.lookup y=ae/\H b=aa (.lst vs)/\Reps K H F xs vs/\a≠b/\∀c,S c↔c=a\/c=b
structure aP(K:ax)(F:af->Prop)(S:Nat->af->Prop)(ε:ak)(σ:St)(H:Hp):Prop where
 len:ε.length=σ.length
 ex:∀a,F a->∃o,H a=aa o
 val:∀(i:Nat) (pv:PV),ε[i]?=aa (.val pv)->∃v,σ[i]?=aa (aa v)/\aS K H F pv v
 own:∀(i:Nat) (po:PO),ε[i]?=aa (.own po)->∃a,σ[i]?=aa (aa (.ref a))/\eP K H F po a (S i)
 foot:∀(i:Nat) (b:af),S i b->(∃po,ε[i]?=aa (.own po))/\¬F b/\∃o,H b=aa o/\dQ o
 dist:∀(i j:Nat) (b:af),S i b->S j b->i=j
def U(S:Nat->af->Prop)(b:af):Prop:=∃i,S i b
section
variable{K:ax}{F F':af->Prop}{S:Nat->af->Prop}{ε:ak}{σ:St}{H H':Hp}
theorem aP.fit(r:aP K F S ε σ H):mD (U S) F H:=λb ⟨i,h⟩=>(r.foot i b h).2
theorem g7.mono{kvs:List (aN×PV)}{ws:List (aN×V)}(hF:∀x v,aS K H F x v->aS K H' F' x v)(h:g7 K H F kvs ws):g7 K H' F' kvs ws:=by
 unfold g7 at h ⊢
 induction h with
 |nil=>exact .nil
 |cons r _ ih=>exact .cons ⟨r.1,hF _ _ r.2⟩ ih
theorem rY.mono{fs:List (Str×PV)}{ws:List (Str×V)}(hF:∀x v,aS K H F x v->aS K H' F' x v)(h:rY K H F fs ws):rY K H' F' fs ws:=by
 unfold rY at h ⊢
 induction h with
 |nil=>exact .nil
 |cons r _ ih=>exact .cons ⟨r.1,hF _ _ r.2⟩ ih
theorem vQ.mono{kvs:List (List aN×PV)}{ws:List (List aN×V)}(hF:∀x v,aS K H F x v->aS K H' F' x v)(h:vQ K H F kvs ws):vQ K H' F' kvs ws:=by
 unfold vQ at h ⊢
 induction h with
 |nil=>exact .nil
 |cons r _ ih=>exact .cons ⟨r.1,hF _ _ r.2⟩ ih
theorem v9.mono{iV:List (List PV)}{as:List af}(tY:∀x v,Reps K H F x v->Reps K H' F' x v)(ha:∀b o,b∈as->H b=aa o->H' b=aa o)(h:v9 K H F iV as):v9 K H' F' iV as:=by
 unfold v9 at h ⊢
 induction h with
 |nil=>exact .nil
 |cons r _ ih=>obtain⟨vs,h1,h2⟩:=r;exact .cons ⟨vs,ha _ _ (by simp) h1,tY _ _ h2⟩ (ih λb o hb=>ha b o (by simp[hb]))
theorem eP.mono{po:PO}{a:af}{Sa:af->Prop}(hF:∀x v,aS K H F x v->aS K H' F' x v)(tY:∀x v,Reps K H F x v->Reps K H' F' x v)(ha:∀b o,Sa b->H b=aa o->H' b=aa o)(h:eP K H F po a Sa):eP K H' F' po a Sa:=by
 cases po with
 |lst xs=>obtain⟨⟨vs,e,q⟩,w⟩:=h;exact⟨⟨vs,ha a _ ((w a).mpr rfl) e,tY _ _ q⟩,w⟩
 |dK kvs=>obtain⟨⟨ws,e,q⟩,w⟩:=h;exact⟨⟨ws,ha a _ ((w a).mpr rfl) e,q.mono hF⟩,w⟩
 |lls iV=>obtain⟨as,e,q,n1,n2,w⟩:=h;exact⟨as,ha a _ ((w a).mpr (.inl rfl)) e,q.mono tY λb o hb=>ha b o ((w b).mpr (.inr hb)),n1,n2,w⟩
 |ins C fs=>obtain⟨⟨dx,ws,e,q⟩,w⟩:=h;exact⟨⟨dx,ws,ha a _ ((w a).mpr rfl) e,q.mono hF⟩,w⟩
 |dT kvs=>obtain⟨⟨ws,e,q⟩,w⟩:=h;exact⟨⟨ws,ha a _ ((w a).mpr rfl) e,q.mono hF⟩,w⟩
 |inl C fs y xs=>obtain⟨dx,ws,b,vs,e,q,n,e2,q2,ne,w⟩:=h;exact⟨dx,ws,b,vs,ha a _ ((w a).mpr (.inl rfl)) e,q.mono hF,n,ha b _ ((w b).mpr (.inr rfl)) e2,tY _ _ q2,ne,w⟩
theorem aP.al(r:aP K F S ε σ H)(a:Al F F' H H'):aP K F' S ε σ H' where
 len:=r.len
 ex:=λb h=>(a.fnew b h).elim (λz=>let ⟨o,q⟩:=r.ex b z;⟨o,a.same _ _ q⟩) λz=>z.2
 val:=λi pv e=>let ⟨v,h1,h2⟩:=r.val i pv e;⟨v,h1,a.rep h2⟩
 own:=λi po e=>let ⟨b,h1,h2⟩:=r.own i po e;⟨b,h1,h2.mono (λ_ _ q=>a.rep q) (λ_ _ q=>a.reps q) λc o _ q=>a.same _ _ q⟩
 foot:=λi b h=>by
  obtain⟨h1,h2,o,h3,h4⟩:=r.foot i b h;refine⟨h1,λz=>?_,o,a.same _ _ h3,h4⟩;rcases a.fnew b z with y|⟨y,_⟩
  ·exact h2 y
  ·rw[h3]at y;cases y
 dist:=r.dist
end
inductive R(α:Type) where
 |ok (a:α) (ε:ak)|er (c:ai) (ε:ak)|no
def R.bind{α β:Type}(r:R α)(k:α->ak->R β):R β:=match r with
 |.ok a ε=>k a ε
 |.er c ε=>.er c ε
 |.no=>.no
def bh{α:Type}(o:Option α)(ε:ak):R α:=match o with
 |some a=>.ok a ε
 |none=>.no
@[simp] theorem R.bind_ok{α β:Type}(a:α)(ε:ak)(k:α->ak->R β):(R.ok a ε).bind k=k a ε:=rfl
@[simp] theorem R.bind_er{α β:Type}(c:ai)(ε:ak)(k:α->ak->R β):(R.er c ε:R α).bind k=.er c ε:=rfl
@[simp] theorem R.bind_no{α β:Type}(k:α->ak->R β):(R.no:R α).bind k=.no:=rfl
@[simp] theorem eK{α:Type}(a:α)(ε:ak):bh (aa a) ε=.ok a ε:=rfl
@[simp] theorem Oq{α:Type}(ε:ak):bh (ae:Option α) ε=.no:=rfl
def Ok(K:ax)(E:XK)(σ:St)(F:af->Prop)(S:Nat->af->Prop)(H:Hp){α:Type}(r:R α)(C:α->ak->(af->Prop)->(Nat->af->Prop)->Hp->Prop):Prop:=match r with
 |.ok a ε'=>∀F' S' H',aP K F' S' ε' σ H'->bp (U S) (U S') F F' H H'->C a ε' F' S' H'
 |.er c ε'=>∀x F' S' H',aP K F' S' ε' σ H'->bp (U S) (U S') F F' H H'->E c x H'
 |.no=>False
section
variable{K:ax}{E:XK}{σ:St}{F:af->Prop}{S:Nat->af->Prop}{H:Hp}{α β:Type}{C C':α->ak->(af->Prop)->(Nat->af->Prop)->Hp->Prop}{D:β->ak->(af->Prop)->(Nat->af->Prop)->Hp->Prop}
theorem Ok.imp{r:R α}(h:Ok K E σ F S H r C)(f:∀a ε' F' S' H',aP K F' S' ε' σ H'->bp (U S) (U S') F F' H H'->C a ε' F' S' H'->C' a ε' F' S' H'):Ok K E σ F S H r C':=by
 cases r with
 |ok a ε'=>exact λF' S' H' r g=>f a ε' F' S' H' r g (h F' S' H' r g)
 |er c ε'=>exact h
 |no=>exact h
theorem Ok.from{r:R β}{F1:af->Prop}{S1:Nat->af->Prop}{H1:Hp}(h:Ok K E σ F S H r D)(g:bp (U S) (U S1) F F1 H H1):Ok K E σ F1 S1 H1 r D:=by
 cases r with
 |ok a ε'=>exact λF' S' H' r' g'=>h F' S' H' r' (g.trans g')
 |er c ε'=>exact λx F' S' H' r' g'=>h x F' S' H' r' (g.trans g')
 |no=>exact h
theorem Ok.bind{r:R α}{k:α->ak->R β}(h:Ok K E σ F S H (r.bind k) D):Ok K E σ F S H r (λa ε1 F1 S1 H1=>Ok K E σ F1 S1 H1 (k a ε1) D):=by
 cases r with
 |ok a ε'=>exact λF' S' H' r g=>Ok.from h g
 |er c ε'=>exact h
 |no=>exact h
end
structure Bx(p:Prop):Prop where
 run:p
def iJ(X:Cx)(e:aB):TE:=λσ H Q=>Bx (∀ag s,Inv X ag σ H s->aq (au X.prog X.w) X.A (aT e X.env) (EP X ag σ Q) X.xe s)
def xk(X:Cx)(e:aB):TT:=λσ H Q=>Bx (∀ag s,Inv X ag σ H s->aq (au X.prog X.w) X.A (lR e X.env (aT e X.env)) (TP X ag σ Q) X.xe s)
def wpS(X:Cx)(st:a6):TS:=λD σ H=>Bx (∀ag s,Inv X ag σ H s->aq (au X.prog X.w) X.A (exec st X.env) (SP X ag D) X.xe s)
def nX(X:Cx)(st:List a6):TS:=λD σ H=>Bx (∀ag s,Inv X ag σ H s->aq (au X.prog X.w) X.A (execs st X.env) (SP X ag D) X.xe s)
section
variable{X:Cx}{e:aB}{st:a6}{sts:List a6}
theorem bK:PE X e (iJ X e):=λag s _ _ _ I h=>h.run ag s I
theorem pQ:PT X e (xk X e):=λag s _ _ _ I h=>h.run ag s I
theorem BM:PS X st (wpS X st):=λag s _ _ _ I h=>h.run ag s I
theorem sv:kL X sts (nX X sts):=λag s _ _ _ I h=>h.run ag s I
theorem b9{t:TE}(h:PE X e t){σ:St}{H:Hp}{Q:VK}(q:t σ H Q):iJ X e σ H Q:=⟨λag s I=>h ag s σ H Q I q⟩
theorem v3{t:TT}(h:PT X e t){σ:St}{H:Hp}{Q:Bool->Hp->Prop}(q:t σ H Q):xk X e σ H Q:=⟨λag s I=>h ag s σ H Q I q⟩
theorem gT{t:TS}(h:PS X st t){σ:St}{H:Hp}{D:jQ}(q:t D σ H):wpS X st D σ H:=⟨λag s I=>h ag s σ H D I q⟩
theorem yT{t:TS}(h:kL X sts t){σ:St}{H:Hp}{D:jQ}(q:t D σ H):nX X sts D σ H:=⟨λag s I=>h ag s σ H D I q⟩
end
def DE(X:Cx)(E:XK)(e:aB)(d:ak->R PV):Prop :=
 ∀F S ε σ H Q,aP X.K F S ε σ H->Ok X.K E σ F S H (d ε) (λpv _ F' _ H'=>∀v,aS X.K H' F' pv v->Q v H')->iJ X e σ H Q
def DN(X:Cx)(E:XK)(e:aB)(d:ak->R PO):Prop :=
 ∀F S ε σ H Q,aP X.K F S ε σ H->Ok X.K E σ F S H (d ε) (λpo _ F' S' H'=>∀a Sa,eP X.K H' F' po a Sa->(∀b,Sa b->H b=ae/\¬F' b/\¬U S' b/\∃o,H' b=aa o/\dQ o)->Q (.ref a) H')->iJ X e σ H Q
def DT(X:Cx)(E:XK)(e:aB)(d:ak->R Bool):Prop :=
 ∀F S ε σ H Q,aP X.K F S ε σ H->Ok X.K E σ F S H (d ε) (λb _ _ _ H'=>Q b H')->xk X e σ H Q
end Pu
namespace Pu
open L2
section
variable{X:Cx}{E:XK}{a b c:aB}{da db dc:ak->R PV}{pos:Pos}
def dC(pv:PV):ak->R PV:=λε=>.ok pv ε
theorem aU{i j pos}:DE X E (.Constant (.int i) j pos) (dC (.int i)):=λF S ε σ H Q r h=>b9 M6 (h F S H r (bp.refl ..) _ rfl)
theorem n0{i j pos}:DE X E (.Constant (.bool i) j pos) (dC (.bl i)):=λF S ε σ H Q r h=>b9 Kx (h F S H r (bp.refl ..) _ rfl)
theorem F9{j pos}:DE X E (.Constant .none j pos) (dC .non):=λF S ε σ H Q r h=>b9 KM (h F S H r (bp.refl ..) _ rfl)
theorem dz(l:Tx){x:Str}{j pos}(hx:x=tS l:=by decide +kernel)(hl:l.length<=cq:=by decide):DE X E (.Constant (.str x) j pos) (dC (.str l)):=λF S ε σ H Q r h=>b9 JI (h F S H r (bp.refl ..) _ (by rw[hx];exact⟨rfl,hl⟩))
def dV(i:Nat):ak->R PV:=λε=>match ε[i]? with
 |some (.val pv)=>.ok pv ε
 |_=>.no
theorem aw(i:Nat){x:Str}{pos:Pos}(hN:X.N[i]?=aa x:=by rfl)(hv:fF X.env.scope x:=by first|exact Or.inl rfl|exact Or.inr (Or.inl rfl)|exact Or.inr (Or.inr rfl))(hd:(x == ("__debug__" : Str))=aj:=by decide)(bS:(x == ("__classdict__" : Str))=aj:=by decide):DE X E (.Name x pos) (dV i):=λF S ε σ H Q r h=>by
 unfold dV at h;split at h
 ·rename_i p e;obtain⟨v,e1,e2⟩:=r.val i p e;exact b9 (gP hN hv hd bS) ⟨v,e1,h F S H r (bp.refl ..) v e2⟩
 ·exact h.elim
theorem sD{x:Str}{i:Int}{pos:Pos}(h:∃t,X.mg x=aa (.int i t))(hg:Gl X x:=by rfl)(hd:(x == ("__debug__" : Str))=aj:=by decide):DE X E (.Name x pos) (dC (.int i)):=λF S ε σ H Q r q=>by obtain⟨t,e⟩:=h;exact b9 (yC (v:=.int i) hg e ⟨t,rfl⟩ hd) (q F S H r (bp.refl ..) _ rfl)
theorem zb{x:Str}{l:Tx}{pos:Pos}(h:∃t,X.mg x=aa (.str (tS l) t))(hg:Gl X x:=by rfl)(hl:l.length<=cq:=by decide)(hd:(x == ("__debug__" : Str))=aj:=by decide):DE X E (.Name x pos) (dC (.str l)):=λF S ε σ H Q r q=>by obtain⟨t,e⟩:=h;exact b9 (yC (v:=tV l) hg e ⟨t,rfl⟩ hd) (q F S H r (bp.refl ..) _ ⟨rfl,hl⟩)
def aP.frz{K:ax}{F:af->Prop}{S:Nat->af->Prop}{ε:ak}{σ:St}{H:Hp}{i:Nat}{xs:List PV}(r:aP K F S ε σ H)(e:ε[i]?=aa (.own (.lst xs))):∃a F' S',aP K F' S' (ε.set i (.val (.lst xs))) σ H/\bp (U S) (U S') F F' H H/\σ[i]?=aa (aa (.ref a))/\aS K H F' (.lst xs) (.ref a):=by
 obtain⟨a,e1,⟨vs,ha,hr⟩,hS⟩:=r.own i _ e;have hi:i<ε.length:=(c_.mp e).1;have sub:∀b,F b->F b\/b=a:=λb h=>.inl h;have mono:∀x v,aS K H F x v->aS K H (λb=>F b\/b=a) x v:=aS.mono sub (λ_ _ _ q=>q) (λ_ _ q _=>q);have monos:∀x v,Reps K H F x v->Reps K H (λb=>F b\/b=a) x v:=Reps.mono sub (λ_ _ _ q=>q) (λ_ _ q _=>q);have rp:aS K H (λb=>F b\/b=a) (.lst xs) (.ref a):=⟨a,vs,rfl,.inl ha,.inr rfl,monos _ _ hr⟩
 refine⟨a,λb=>F b\/b=a,λj b=>S j b/\j≠i,⟨by rw[fC];exact r.len,λb h=>?_,λj pv q=>?_,λj po q=>?_,λj b h=>?_,λj k b h1 h2=>r.dist j k b h1.1 h2.1⟩,?_,e1,rp⟩
 ·rcases h with h|rfl
  ·exact r.ex b h
  ·exact⟨_,ha⟩
 ·by_cases hj:i=j
  ·subst hj;rw[fe hi]at q;cases q;exact⟨_,e1,rp⟩
  ·rw[dJ hj]at q;obtain⟨v,q1,q2⟩:=r.val j pv q;exact⟨v,q1,mono _ _ q2⟩
 ·by_cases hj:i=j
  ·subst hj;rw[fe hi]at q;cases q
  ·rw[dJ hj]at q;obtain⟨v,q1,q2⟩:=r.own j po q;refine⟨v,q1,?_⟩;have q3:=q2.mono (H':=H) mono monos λ_ _ _ z=>z;have eS:(λb=>S j b/\j≠i)=S j:=by funext b;simp[ef hj]
   rw[eS];exact q3
 ·obtain⟨⟨po,q1⟩,q2,q3⟩:=r.foot j b h.1;refine⟨⟨po,by rw[dJ (ef h.2)];exact q1⟩,λz=>?_,q3⟩;rcases z with z|rfl
  ·exact q2 z
  ·exact h.2 (r.dist j i b h.1 ((hS b).mpr rfl))
 ·refine⟨λ_ h=>.inl h,λb o h _=>h,λb o h=>⟨o,h⟩,λb h=>?_,λb ⟨j,h⟩=>.inl ⟨j,h.1⟩⟩;rcases h with h|rfl
  ·exact .inl h
  ·exact .inr (.inr ⟨i,(hS b).mpr rfl⟩)
def dM(i:Nat):ak->R PV:=λε=>match ε[i]? with
 |some (.own (.lst xs))=>.ok (.lst xs) (ε.set i (.val (.lst xs)))
 |_=>.no
theorem Nl(i:Nat){x:Str}{pos:Pos}(hN:X.N[i]?=aa x:=by rfl)(hv:fF X.env.scope x:=by first|exact Or.inl rfl|exact Or.inr (Or.inl rfl)|exact Or.inr (Or.inr rfl))(hd:(x == ("__debug__" : Str))=aj:=by decide)(bS:(x == ("__classdict__" : Str))=aj:=by decide):DE X E (.Name x pos) (dM i):=λF S ε σ H Q r h=>by
 unfold dM at h;split at h
 ·rename_i p e;obtain⟨a,F',S',r',g,e1,e2⟩:=r.frz e;exact b9 (gP hN hv hd bS) ⟨_,e1,h F' S' H r' g _ e2⟩
 ·exact h.elim
def P2(K:ax)(r:R2)(f:PV->PV->Option PV):Prop:=∀(F:af->Prop) (H:Hp) (x y:PV) (v u:V) (Q:VK) (pv:PV),aS K H F x v->aS K H F y u->f x y=aa pv->(∀w F' H',Al F F' H H'->aS K H' F' pv w->Q w H')->r v u H Q
def d2(f:PV->PV->Option PV)(da db:ak->R PV):ak->R PV:=λε=>(da ε).bind λx ε1=>(db ε1).bind λy ε2=>bh (f x y) ε2
theorem vS{r:R2}{f:PV->PV->Option PV}(hp:P2 X.K r f)(ha:DE X E a da)(hb:DE X E b db){F:af->Prop}{S:Nat->af->Prop}{ε:ak}{σ:St}{H:Hp}{Q:VK}(rl:aP X.K F S ε σ H)(h:Ok X.K E σ F S H (d2 f da db ε) (λpv _ F' _ H'=>∀v,aS X.K H' F' pv v->Q v H')):iJ X a σ H λx H1=>iJ X b σ H1 λy H2=>r x y H2 Q:=by
 refine ha F S ε σ H _ rl ((Ok.bind h).imp λx ε1 F1 S1 H1 r1 g1 h1 v rv=>?_);refine hb F1 S1 ε1 σ H1 _ r1 ((Ok.bind h1).imp λy ε2 F2 S2 H2 r2 g2 h2 u ru=>?_);cases e:f x y with
 |none=>rw[e]at h2;exact h2.elim
 |some pv=>rw[e]at h2;exact hp F2 H2 x y v u Q pv (rv.grow g2 r1.fit) ru e λw F' H' al rw'=>h2 F' S2 H' (r2.al al) al.grow w rw'
theorem bZ{op:Operator}{r:R2}{f:PV->PV->Option PV}(ho:bT X (iS op) r)(hp:P2 X.K r f)(ha:DE X E a da)(hb:DE X E b db):DE X E (.BinOp a op b pos) (d2 f da db):=λF S ε σ H Q rl h=>b9 (FD ho bK bK) (vS hp ha hb rl h)
theorem qe{op:CmpOp}{r:R2}{f:PV->PV->Option PV}(ho:bT X (eh op) r)(hp:P2 X.K r f)(ha:DE X E a da)(hb:DE X E b db)(hm:zH op b=aj):DE X E (.Compare a [op] [b] pos) (d2 f da db):=λF S ε σ H Q rl h=>b9 (LF ho bK bK hm) (vS hp ha hb rl h)
def lq:PV->Option Bool
 |.bl b=>aa b
 |_=>ae
def dB(d:ak->R PV):ak->R Bool:=λε=>(d ε).bind λx ε1=>bh (lq x) ε1
theorem D3{K:ax}{H:Hp}{F:af->Prop}{x:PV}{v:V}{k:Bool}(h:aS K H F x v)(e:lq x=aa k):v=.bl k:=by
 cases x <;> simp[lq]at e;subst e;exact h
theorem uF{F:af->Prop}{S:Nat->af->Prop}{ε:ak}{σ:St}{H:Hp}{Q:Bool->Hp->Prop}{d:ak->R PV}(h:Ok X.K E σ F S H (dB d ε) (λk _ _ _ H'=>Q k H')):Ok X.K E σ F S H (d ε) (λpv _ F' _ H'=>∀v,aS X.K H' F' pv v->∃k,v=.bl k/\Q k H'):=by
 refine(Ok.bind h).imp λx ε1 F1 S1 H1 r1 g1 h1 v rv=>?_;cases e:lq x with
 |none=>rw[e]at h1;exact h1.elim
 |some k=>rw[e]at h1;exact⟨k,D3 rv e,h1 F1 S1 H1 r1 (bp.refl ..)⟩
theorem iI{op:CmpOp}{r:R2}{f:PV->PV->Option PV}(ho:bT X (eh op) r)(hp:P2 X.K r f)(ha:DE X E a da)(hb:DE X E b db)(hm:zH op b=aj):DT X E (.Compare a [op] [b] pos) (dB (d2 f da db)):=λF S ε σ H Q rl h=>v3 (IN ho bK bK hm) (vS (Q:=λx H'=>∃k,x=.bl k/\Q k H') hp ha hb rl (uF h))
theorem lN{e:aB}{d:ak->R PV}(hd:DE X E e d)(he:∀gC,lR e X.env gC=(do let v ←gC;standAt e.pos;jX [v] (truthy v)):=by intro _;rfl):DT X E e (dB d):=λF S ε σ H Q rl h=>v3 (LM bK he) (hd F S ε σ H _ rl (uF h))
def kG(f g:PV->PV->Option PV)(da db dc:ak->R PV):ak->R PV:=λε=>(da ε).bind λx ε1=>(db ε1).bind λy ε2=>(bh ((f x y).bind lq) ε2).bind λk ε2=>
 match k with
 |true=>(dc ε2).bind λz ε3=>bh (g y z) ε3
 |false=>.ok (.bl aj) ε2
theorem DP{r r':R2}{f g:PV->PV->Option PV}(hp:P2 X.K r f)(c8:P2 X.K r' g)(ha:DE X E a da)(hb:DE X E b db)(hc:DE X E c dc){F:af->Prop}{S:Nat->af->Prop}{ε:ak}{σ:St}{H:Hp}{Q:VK}(rl:aP X.K F S ε σ H)(h:Ok X.K E σ F S H (kG f g da db dc ε) (λpv _ F' _ H'=>∀v,aS X.K H' F' pv v->Q v H')):xD r r' (iJ X a) (iJ X b) (iJ X c) σ H Q:=by
 refine ha F S ε σ H _ rl ((Ok.bind h).imp λx ε1 F1 S1 H1 r1 g1 h1 v rv=>?_);refine hb F1 S1 ε1 σ H1 _ r1 ((Ok.bind h1).imp λy ε2 F2 S2 H2 r2 g2 h2 u ru=>?_);cases e:f x y with
 |none=>rw[e]at h2;exact h2.elim
 |some pv=>
  rw[e]at h2;refine hp F2 H2 x y v u _ pv (rv.grow g2 r1.fit) ru e λw F' H' al rw'=>?_;cases e2:lq pv with
  |none=>rw[iy,e2]at h2;exact h2.elim
  |some k=>
   rw[iy,e2]at h2;refine⟨k,D3 rw' e2,?_⟩;have r3:=r2.al al;cases k with
   |false=>exact pG (Ok.from h2 al.grow F' S2 H' r3 (bp.refl ..) _ rfl)
   |true=>
    have h3:Ok X.K E σ F2 S2 H2 ((dc ε2).bind λz ε3=>bh (g y z) ε3) (λpv _ F' _ H'=>∀v,aS X.K H' F' pv v->Q v H'):=h2;refine pX (hc F' S2 ε2 σ H' _ r3 ((Ok.bind (Ok.from h3 al.grow)).imp λz ε4 F4 S4 H4 r4 g4 h4 u4 ru4=>?_));cases e4:g y z with
    |none=>rw[e4]at h4;exact h4.elim
    |some pz=>rw[e4]at h4;exact c8 F4 H4 y z u u4 Q pz ((al.rep ru).grow g4 r3.fit) ru4 e4 λw5 F5 H5 al5 rw5=>h4 F5 S4 H5 (r4.al al5) al5.grow w5 rw5
theorem D_{op op':CmpOp}{r r':R2}{f g:PV->PV->Option PV}(ho:bT X (eh op) r)(gb:bT X (eh op') r')(hp:P2 X.K r f)(c8:P2 X.K r' g)(ha:DE X E a da)(hb:DE X E b db)(hc:DE X E c dc)(hm:lastMarks [op,op'] [b,c]=aj:=by with_unfolding_all rfl):DE X E (.Compare a [op,op'] [b,c] pos) (kG f g da db dc):=λF S ε σ H Q rl h=>b9 (KI ho gb bK bK bK hm) (DP hp c8 ha hb hc rl h)
theorem Bn{op op':CmpOp}{r r':R2}{f g:PV->PV->Option PV}(ho:bT X (eh op) r)(gb:bT X (eh op') r')(hp:P2 X.K r f)(c8:P2 X.K r' g)(ha:DE X E a da)(hb:DE X E b db)(hc:DE X E c dc)(hm:lastMarks [op,op'] [b,c]=aj:=by with_unfolding_all rfl):DT X E (.Compare a [op,op'] [b,c] pos) (dB (kG f g da db dc)):=λF S ε σ H Q rl h=>v3 (Le ho gb bK bK bK hm) (DP (Q:=λx H'=>∃k,x=.bl k/\Q k H') hp c8 ha hb hc rl (uF h))
variable{ta tb:ak->R Bool}{rest:List aB}
def DW(X:Cx)(E:XK)(e:aB)(d:ak->R Bool):Prop:=∀F S ε σ H Q,aP X.K F S ε σ H->Ok X.K E σ F S H (d ε) (λb _ _ _ H'=>Q b H')->∀(gC:Sem ai) ag s,Inv X ag σ H s->aq (au X.prog X.w) X.A (lR e X.env gC) (TP X ag σ Q) X.xe s
def HS(X:Cx)(e:aB):TT:=λσ H Q=>∀(gC:Sem ai) ag s,Inv X ag σ H s->aq (au X.prog X.w) X.A (lR e X.env gC) (TP X ag σ Q) X.xe s
theorem Mr{e:aB}:PW X e (HS X e):=λgC ag s _ _ _ I h=>h gC ag s I
theorem DW.dt{e:aB}{d:ak->R Bool}(h:DW X E e d):DT X E e d:=λF S ε σ H Q rl q=>⟨λag s I=>h F S ε σ H Q rl q _ ag s I⟩
def xv(ta tb:ak->R Bool):ak->R Bool:=λε=>(ta ε).bind λk ε1=>match k with
 |true=>tb ε1
 |false=>.ok aj ε1
def nE(ta tb:ak->R Bool):ak->R Bool:=λε=>(ta ε).bind λk ε1=>match k with
 |true=>.ok ah ε1
 |false=>tb ε1
def iD(ta:ak->R Bool):ak->R Bool:=λε=>(ta ε).bind λk ε1=>.ok (!k) ε1
theorem xt(h:DT X E a ta):DW X E (.BoolOp .Or [a] pos) ta:=λF S ε σ H Q rl q gC ag s I=>Jx pQ gC ag s σ H Q I (h F S ε σ H Q rl q)
theorem xx(ha:DT X E a ta)(hb:DW X E (.BoolOp .Or (b::rest) pos) tb):DW X E (.BoolOp .Or (a::b::rest) pos) (nE ta tb):=λF S ε σ H Q rl q gC ag s I=>by
 refine KH pQ Mr gC ag s σ H Q I (ha F S ε σ H _ rl ((Ok.bind q).imp λk ε1 F1 S1 H1 r1 g1 h1=>?_));cases k with
 |true=>exact pX (h1 F1 S1 H1 r1 (bp.refl ..))
 |false=>exact pG (hb F1 S1 ε1 σ H1 Q r1 h1)
theorem kt(ha:DT X E a ta):DT X E (.UnaryOp .Not a pos) (iD ta):=λF S ε σ H Q rl q=>v3 (HA pQ) (ha F S ε σ H _ rl ((Ok.bind q).imp λk ε1 F1 S1 H1 r1 g1 h1=>h1 F1 S1 H1 r1 (bp.refl ..)))
def jJ(da db:ak->R PV):ak->R PV:=λε=>(dB da ε).bind λk ε1=>match k with
 |true=>db ε1
 |false=>.ok (.bl aj) ε1
def yx(da db:ak->R PV):ak->R PV:=λε=>(dB da ε).bind λk ε1=>match k with
 |true=>.ok (.bl ah) ε1
 |false=>db ε1
def sE(da:ak->R PV):ak->R PV:=λε=>(dB da ε).bind λk ε1=>.ok (.bl (!k)) ε1
theorem DQ{d:ak->R PV}{β:Type}{D:β->ak->(af->Prop)->(Nat->af->Prop)->Hp->Prop}{k:Bool->ak->R β}{F:af->Prop}{S:Nat->af->Prop}{ε:ak}{σ:St}{H:Hp}{P:Bool->Hp->Prop}(h:Ok X.K E σ F S H ((dB d ε).bind k) D) (f:∀c ε1 F1 S1 H1,aP X.K F1 S1 ε1 σ H1->bp (U S) (U S1) F F1 H H1->Ok X.K E σ F1 S1 H1 (k c ε1) D->P c H1):Ok X.K E σ F S H (d ε) (λpv _ F' _ H'=>∀v,aS X.K H' F' pv v->∃c,v=.bl c/\P c H'):=by have h2:=(Ok.bind h).imp (C':=λc ε1 F1 S1 H1=>P c H1) λc ε1 F1 S1 H1 r1 g1 h1=>f c ε1 F1 S1 H1 r1 g1 h1;exact uF h2
theorem rF{op}{d:ak->R PV}(h:DE X E a d):DE X E (.BoolOp op [a] pos) d:=λF S ε σ H Q rl q=>b9 (ID bK) (h F S ε σ H Q rl q)
theorem og(ha:DE X E a da)(hb:DE X E (.BoolOp .And (b::rest) pos) db):DE X E (.BoolOp .And (a::b::rest) pos) (jJ da db):=λF S ε σ H Q rl q=>by
 refine b9 (FQ bK bK) (ha F S ε σ H _ rl (DQ q λk ε1 F1 S1 H1 r1 g1 h1=>?_));cases k with
 |true=>exact pX (hb F1 S1 ε1 σ H1 Q r1 h1)
 |false=>exact pG (h1 F1 S1 H1 r1 (bp.refl ..) _ rfl)
theorem LJ(ha:DE X E a da):DE X E (.UnaryOp .Not a pos) (sE da):=λF S ε σ H Q rl q=>b9 (Ma bK) (ha F S ε σ H _ rl (DQ q λk ε1 F1 S1 H1 r1 g1 h1=>h1 F1 S1 H1 r1 (bp.refl ..) _ rfl))
def dP{α:Type}(t:ak->R Bool)(da db:ak->R α):ak->R α:=λε=>(t ε).bind λk ε1=>match k with
 |true=>da ε1
 |false=>db ε1
theorem C0(hc:DT X E c ta)(ha:DE X E a da)(hb:DE X E b db):DE X E (.IfExp c a b pos) (dP ta da db):=λF S ε σ H Q rl q=>by
 refine b9 (Jq pQ bK bK) (hc F S ε σ H _ rl ((Ok.bind q).imp λk ε1 F1 S1 H1 r1 g1 h1=>?_));cases k with
 |true=>exact pX (ha F1 S1 ε1 σ H1 Q r1 h1)
 |false=>exact pG (hb F1 S1 ε1 σ H1 Q r1 h1)
def P1(K:ax)(r:V->Hp->VK->Prop)(f:PV->Option PV):Prop:=∀(F:af->Prop) (H:Hp) (x:PV) (v:V) (Q:VK) (pv:PV),aS K H F x v->f x=aa pv->(∀w F' H',Al F F' H H'->aS K H' F' pv w->Q w H')->r v H Q
def d1(f:PV->Option PV)(da:ak->R PV):ak->R PV:=λε=>(da ε).bind λx ε1=>bh (f x) ε1
theorem KW{r:V->Hp->VK->Prop}{f:PV->Option PV}(hp:P1 X.K r f)(ha:DE X E a da){F:af->Prop}{S:Nat->af->Prop}{ε:ak}{σ:St}{H:Hp}{Q:VK}(rl:aP X.K F S ε σ H)(h:Ok X.K E σ F S H (d1 f da ε) (λpv _ F' _ H'=>∀v,aS X.K H' F' pv v->Q v H')):iJ X a σ H λx H1=>r x H1 Q:=by
 refine ha F S ε σ H _ rl ((Ok.bind h).imp λx ε1 F1 S1 H1 r1 g1 h1 v rv=>?_);cases e:f x with
 |none=>rw[e]at h1;exact h1.elim
 |some pv=>rw[e]at h1;exact hp F1 H1 x v Q pv rv e λw F' H' al rw'=>h1 F' S1 H' (r1.al al) al.grow w rw'
theorem CN{op:UnaryOp}{r:V->Hp->VK->Prop}{f:PV->Option PV}(ho:wf X (unaryOp op) r)(hp:P1 X.K r f)(ha:DE X E a da):DE X E (.UnaryOp op a pos) (d1 f da):=λF S ε σ H Q rl h=>b9 (LY ho bK) (KW hp ha rl h)
end
def nH(X:Cx)(es:List aB):TA:=λσ H Q=>Bx (∀pos ag s,Inv X ag σ H s->aq (au X.prog X.w) X.A (spliced (cL pos (aL es X.env))) (AP X ag σ Q) X.xe s)
def DA(X:Cx)(E:XK)(es:List aB)(d:ak->R (List PV)):Prop :=
 ∀F S ε σ H Q,aP X.K F S ε σ H->Ok X.K E σ F S H (d ε) (λpvs _ F' _ H'=>∀vs,Reps X.K H' F' pvs vs->Q vs H')->nH X es σ H Q
section
variable{X:Cx}{E:XK}{a b c e:aB}{es:List aB}{da db dc d:ak->R PV}{ds:ak->R (List PV)}{pos:Pos}
theorem gy{es:List aB}:PA X es (nH X es):=λpos ag s _ _ _ I h=>h.run pos ag s I
theorem nQ{t:TA}(h:PA X es t){σ:St}{H:Hp}{Q:List V->Hp->Prop}(q:t σ H Q):nH X es σ H Q:=⟨λpos ag s I=>h pos ag s σ H Q I q⟩
def aC:ak->R (List PV):=λε=>.ok [] ε
def ar(d:ak->R PV)(ds:ak->R (List PV)):ak->R (List PV):=λε=>(d ε).bind λx ε1=>(ds ε1).bind λxs ε2=>.ok (x::xs) ε2
theorem aG:DA X E [] aC:=λF S ε σ H Q rl h=>nQ jt (h F S H rl (bp.refl ..) _ rfl)
theorem JG(ha:DE X E e d)(hr:DA X E es ds)(hs:aL (e::es) X.env=(aj,aT e X.env)::aL es X.env:=by rfl):DA X E (e::es) (ar d ds):=λF S ε σ H Q rl h=>by refine nQ (ij bK gy hs) (ha F S ε σ H _ rl ((Ok.bind h).imp λx ε1 F1 S1 H1 r1 g1 h1 v rv=>?_));refine hr F1 S1 ε1 σ H1 _ r1 ((Ok.bind h1).imp λxs ε2 F2 S2 H2 r2 g2 h2 vs kf=>?_);exact h2 F2 S2 H2 r2 (bp.refl ..) _ ⟨v,vs,rfl,rv.grow g2 r1.fit,kf⟩
theorem aP.more{K:ax}{F N:af->Prop}{S:Nat->af->Prop}{ε:ak}{σ:St}{H:Hp}(r:aP K F S ε σ H)(hn:∀b,N b->¬U S b/\∃o,H b=aa o):aP K (λb=>F b\/N b) S ε σ H:=by
 have mono:∀x v,aS K H F x v->aS K H (λb=>F b\/N b) x v:=aS.mono (λ_ h=>.inl h) (λ_ _ _ q=>q) (λ_ _ q _=>q);have monos:∀x v,Reps K H F x v->Reps K H (λb=>F b\/N b) x v:=Reps.mono (λ_ h=>.inl h) (λ_ _ _ q=>q) (λ_ _ q _=>q);refine⟨r.len,λb h=>h.elim (r.ex b) λz=>(hn b z).2,λi pv e=>?_,λi po e=>?_,λi b h=>?_,r.dist⟩
 ·obtain⟨v,h1,h2⟩:=r.val i pv e;exact⟨v,h1,mono _ _ h2⟩
 ·obtain⟨v,h1,h2⟩:=r.own i po e;exact⟨v,h1,h2.mono mono monos λ_ _ _ z=>z⟩
 ·obtain⟨h1,h2,h3⟩:=r.foot i b h;exact⟨h1,λz=>z.elim h2 λw=>(hn b w).1 ⟨i,h⟩,h3⟩
def uO:PO->Option PV
 |.lst xs=>aa (.lst xs)
 |_=>ae
def dF(d:ak->R PO):ak->R PV:=λε=>(d ε).bind λpo ε1=>bh (uO po) ε1
theorem DN.de{d:ak->R PO}(h:DN X E e d):DE X E e (dF d):=λF S ε σ H Q rl q=>by
 unfold dF at q;refine h F S ε σ H Q rl ?_;cases e0:d ε with
 |no=>rw[e0]at q;exact q.elim
 |er c ε'=>rw[e0]at q;exact q
 |ok po ε1=>
  rw[e0]at q;intro F1 S1 H1 r1 g1 a Sa ow fr;cases po with
  |dK kvs=>exact q.elim
  |lls iV=>exact q.elim
  |ins C fs=>exact q.elim
  |dT kvs=>exact q.elim
  |inl C fs y xs=>exact q.elim
  |lst xs=>
   have hN:∀b,Sa b->¬U S1 b/\∃o,H1 b=aa o:=λb z=>let ⟨_,_,x3,o,x4,_⟩:=fr b z;⟨x3,o,x4⟩
   obtain⟨⟨vs,ha,hr⟩,hS⟩:=ow;have g2:bp (U S) (U S1) F (λb=>F1 b\/Sa b) H H1:=⟨λb z=>.inl (g1.fro b z),g1.keep,g1.there,λb z=>z.elim (g1.fnew b) λw=>.inr (.inl (fr b w).1),g1.onew⟩
   exact q _ S1 H1 (r1.more hN) g2 _ ⟨a,vs,rfl,.inl ha,.inr ((hS a).mpr rfl),Reps.mono (λ_ z=>.inl z) (λ_ _ _ z=>z) (λ_ _ z _=>z) _ _ hr⟩
def bi(xs:List PV):Option PV:=if xs.length<=1000 then aa (.tup xs)else ae
def eI(xs:List PV):Option PO:=if xs.length<=1000 then aa (.lst xs)else ae
def dL{α:Type}(f:List PV->Option α)(ds:ak->R (List PV)):ak->R α:=λε=>(ds ε).bind λxs ε1=>bh (f xs) ε1
def PL(K:ax)(r:List V->Hp->VK->Prop)(f:List PV->Option PV):Prop:=∀(F:af->Prop) (H:Hp) (xs:List PV) (vs:List V) (Q:VK) (pv:PV),Reps K H F xs vs->f xs=aa pv->(∀w F' H',Al F F' H H'->aS K H' F' pv w->Q w H')->r vs H Q
def kw(K:ax)(r:List V->Hp->VK->Prop)(f:List PV->Option PO):Prop:=∀(F:af->Prop) (H:Hp) (xs:List PV) (vs:List V) (Q:VK) (po:PO),(∀a,F a->∃o,H a=aa o)->Reps K H F xs vs->f xs=aa po ->
 (∀a F' H' Sa,Al F F' H H'->eP K H' F' po a Sa->(∀b,Sa b->H b=ae/\¬F' b/\∃o,H' b=aa o/\dQ o)->Q (.ref a) H')->r vs H Q
theorem yJ{r:List V->Hp->VK->Prop}{f:List PV->Option PV}(hp:PL X.K r f)(hd:DA X E es ds){F:af->Prop}{S:Nat->af->Prop}{ε:ak}{σ:St}{H:Hp}{Q:VK}(rl:aP X.K F S ε σ H)(h:Ok X.K E σ F S H (dL f ds ε) (λpv _ F' _ H'=>∀v,aS X.K H' F' pv v->Q v H')):nH X es σ H λxs H1=>r xs H1 Q:=by
 refine hd F S ε σ H _ rl ((Ok.bind h).imp λxs ε1 F1 S1 H1 r1 g1 h1 vs kf=>?_);cases e:f xs with
 |none=>rw[e]at h1;exact h1.elim
 |some pv=>rw[e]at h1;exact hp F1 H1 xs vs Q pv kf e λw F' H' al rw'=>h1 F' S1 H' (r1.al al) al.grow w rw'
theorem mC{O O' F F':af->Prop}{H H':Hp}(g:bp O O' F F' H H'){b:af}(h:H' b=ae):H b=ae:=by
 cases q:H b with
 |none=>rfl
 |some o=>obtain⟨o',e⟩:=g.there b o q;rw[h]at e;cases e
theorem r_{r:List V->Hp->VK->Prop}{f:List PV->Option PO}(hp:kw X.K r f)(hd:DA X E es ds){F:af->Prop}{S:Nat->af->Prop}{ε:ak}{σ:St}{H:Hp}{Q:VK}(rl:aP X.K F S ε σ H)(h:Ok X.K E σ F S H (dL f ds ε) (λpo _ F' S' H'=>∀a Sa,eP X.K H' F' po a Sa->(∀b,Sa b->H b=ae/\¬F' b/\¬U S' b/\∃o,H' b=aa o/\dQ o)->Q (.ref a) H')):nH X es σ H λxs H1=>r xs H1 Q:=by
 refine hd F S ε σ H _ rl ((Ok.bind h).imp λxs ε1 F1 S1 H1 r1 g1 h1 vs kf=>?_);cases e:f xs with
 |none=>rw[e]at h1;exact h1.elim
 |some po=>
  rw[e]at h1;refine hp F1 H1 xs vs Q po r1.ex kf e λa F' H' Sa al ow fr=>h1 F' S1 H' (r1.al al) al.grow a Sa ow λb z=>?_;obtain⟨z1,z2,o,z3,z4⟩:=fr b z;refine⟨mC g1 z1,z2,λ⟨i,w⟩=>?_,o,z3,z4⟩;obtain⟨_,_,o',w1,_⟩:=r1.foot i b w;rw[z1]at w1;cases w1
theorem x0{n:Nat}(h:n<=1000):n<=ba:=jW (Lx h)
theorem IV{K:ax}:PL K (λxs H Q=>xs.length<=ba/\∀p,H p=ae->Q (.ref p) (upd H p (.tup xs))) bi:=λF H xs vs Q pv rs e q=>by
 unfold bi at e;split at e
 ·cases e;refine⟨by rw[rs.len];exact x0 (by assumption),λp hp=>q _ F _ (Al.new0 hp) ⟨p,vs,rfl,cC,(Al.new0 hp).reps rs⟩⟩
 ·cases e
theorem uW{K:ax}{F:af->Prop}{H:Hp}{l:af}{xs:List PV}{vs:List V}(hl:H l=ae)(rs:Reps K H F xs vs):eP K (upd H l (.lst vs)) F (.lst xs) l (λb=>b=l):=⟨⟨vs,cC,(Al.new0 hl).reps rs⟩,λb=>Iff.rfl⟩
theorem vc{F:af->Prop}{H:Hp}{l:af}{o:HO}(hl:H l=ae)(hF:∀a,F a->∃o,H a=aa o)(hn:dQ o):∀b,b=l->H b=ae/\¬F b/\∃o',(upd H l o) b=aa o'/\dQ o':=λb z=>by
 subst z;exact⟨hl,(λw=>by obtain⟨o,q⟩:=hF b w;rw[hl]at q;cases q),o,cC,hn⟩
theorem Mt{K:ax}:kw K (λxs H Q=>xs.length<=ba/\∀p,H p=ae->Q (.ref p) (upd H p (.lst xs))) eI:=λF H xs vs Q po hF rs e q=>by
 unfold eI at e;split at e
 ·cases e;exact⟨by rw[rs.len];exact x0 (by assumption),λp hp=>q p F _ _ (Al.new0 hp) (uW hp rs) (vc hp hF trivial)⟩
 ·cases e
theorem cr{x1}(h:DA X E es ds):DE X E (.Tuple es x1 pos) (dL bi ds):=λF S ε σ H Q rl q=>b9 (Hr gy) (yJ IV h rl q)
theorem pF(h:DA X E es ds):DN X E (.List es pos) (dL eI ds):=λF S ε σ H Q rl q=>b9 (MN gy) (r_ Mt h rl q)
theorem kK(h:DA X E es ds):DE X E (.List es pos) (dF (dL eI ds)):=(pF h).de
variable{x:Str}{p:Pos}{id T:String}{r:List V->Hp->VK->Prop}{f:List PV->Option PV}{fn:List PV->Option PO}
theorem cy(hc:eA X (.builtin id) r)(hp:PL X.K r f)(hm:X.mg x=ae)(hv:eB x=aa (.builtin id))(ha:DA X E (e::es) ds)(hg:Gl X x:=by rfl)(hn:x≠"__name__":=by decide)(gE:(x == ("__debug__" : Str))=aj:=by decide)(he:aL (e::es) X.env=(aj,aT e X.env)::aL es X.env:=by rfl) (cT:(cL pos (aL es X.env)).any (·.1)=aj:=by rfl):DE X E (.Call (.Name x p) (e::es) [] pos) (dL f ds):=λF S ε σ H Q rl q=>b9 (oj hc hg hm hv gy hn gE he cT) (yJ hp ha rl q)
theorem xz(hc:eA X (.builtin id) r)(hp:kw X.K r fn)(hm:X.mg x=ae)(hv:eB x=aa (.builtin id))(ha:DA X E (e::es) ds)(hg:Gl X x:=by rfl)(hn:x≠"__name__":=by decide)(gE:(x == ("__debug__" : Str))=aj:=by decide)(he:aL (e::es) X.env=(aj,aT e X.env)::aL es X.env:=by rfl) (cT:(cL pos (aL es X.env)).any (·.1)=aj:=by rfl):DN X E (.Call (.Name x p) (e::es) [] pos) (dL fn ds):=λF S ε σ H Q rl q=>b9 (oj hc hg hm hv gy hn gE he cT) (r_ hp ha rl q)
theorem zt(hc:eA X (.type T) r)(hp:PL X.K r f)(hm:X.mg x=ae)(hv:eB x=aa (.type T))(ha:DA X E (e::es) ds)(hg:Gl X x:=by rfl)(hn:x≠"__name__":=by decide)(gE:(x == ("__debug__" : Str))=aj:=by decide)(he:aL (e::es) X.env=(aj,aT e X.env)::aL es X.env:=by rfl) (cT:(cL pos (aL es X.env)).any (·.1)=aj:=by rfl):DE X E (.Call (.Name x p) (e::es) [] pos) (dL f ds):=λF S ε σ H Q rl q=>b9 (vE hc hg hm hv gy hn gE he cT) (yJ hp ha rl q)
theorem Ck(hc:eA X (.type T) r)(hp:kw X.K r fn)(hm:X.mg x=ae)(hv:eB x=aa (.type T))(ha:DA X E (e::es) ds)(hg:Gl X x:=by rfl)(hn:x≠"__name__":=by decide)(gE:(x == ("__debug__" : Str))=aj:=by decide)(he:aL (e::es) X.env=(aj,aT e X.env)::aL es X.env:=by rfl) (cT:(cL pos (aL es X.env)).any (·.1)=aj:=by rfl):DN X E (.Call (.Name x p) (e::es) [] pos) (dL fn ds):=λF S ε σ H Q rl q=>b9 (vE hc hg hm hv gy hn gE he cT) (r_ hp ha rl q)
theorem iE{r:R2}{f:PV->PV->Option PV}(hr:lm X r)(hp:P2 X.K r f)(ha:DE X E a da)(hb:DE X E b db)(hs:CW b:=by exact λ_ _=>rfl):DE X E (.Subscript a b pos) (d2 f da db):=λF S ε σ H Q rl h=>b9 (Jj hr bK bK hs) (vS hp ha hb rl h)
def yG(X:Cx)(e:Option aB):TO:=λσ H Q=>Bx (∀ag s,Inv X ag σ H s->aq (au X.prog X.w) X.A (evalPart e X.env) (λu s'=>∃o H',Inv X ag σ H' s'/\lT u o/\Q o H') X.xe s)
theorem A1{o:Option aB}:L2.PO X o (yG X o):=λag s _ _ _ I h=>h.run ag s I
theorem Ea{o:Option aB}{t:TO}(h:L2.PO X o t){σ:St}{H:Hp}{Q:Option Int->Hp->Prop}(q:t σ H Q):yG X o σ H Q:=⟨λag s I=>h ag s σ H Q I q⟩
def DO(X:Cx)(E:XK)(e:Option aB)(d:ak->R (Option Int)):Prop:=∀F S ε σ H Q,aP X.K F S ε σ H->Ok X.K E σ F S H (d ε) (λo _ _ _ H'=>Q o H')->yG X e σ H Q
def nO:ak->R (Option Int):=λε=>.ok ae ε
def vK:PV->Option Int
 |.int i=>aa i
 |_=>ae
def gq(d:ak->R PV):ak->R (Option Int):=λε=>(d ε).bind λx ε1=>bh ((vK x).map aa) ε1
theorem Cz:DO X E ae nO:=λF S ε σ H Q rl h=>Ea Jc (h F S H rl (bp.refl ..))
theorem pe(he:DE X E e d):DO X E (aa e) (gq d):=λF S ε σ H Q rl h=>by
 refine Ea (Kr bK) (he F S ε σ H _ rl ((Ok.bind h).imp λx ε1 F1 S1 H1 r1 g1 h1 v rv=>?_));cases x <;> first|exact(show False from h1).elim|skip
 rename_i i;exact⟨i,rv,h1 F1 S1 H1 r1 (bp.refl ..)⟩
def iZ{α:Type}(f:PV->Option Int->Option Int->Option α)(d:ak->R PV)(dl du:ak->R (Option Int)):ak->R α:=λε=>(d ε).bind λx ε1=>(dl ε1).bind λl ε2=>(du ε2).bind λu ε3=>bh (f x l u) ε3
def CH(K:ax)(r:V->Option Int->Option Int->Hp->VK->Prop)(f:PV->Option Int->Option Int->Option PV):Prop:=∀(F:af->Prop) (H:Hp) (x:PV) (lo hi:Option Int) (v:V) (Q:VK) (pv:PV),aS K H F x v->f x lo hi=aa pv->(∀w F' H',Al F F' H H'->aS K H' F' pv w->Q w H')->r v lo hi H Q
theorem vO{r:V->Option Int->Option Int->Hp->VK->Prop}{f:PV->Option Int->Option Int->Option PV}{lo hi:Option aB}{dl du:ak->R (Option Int)}{p2:Pos}(hr:lz X r)(hp:CH X.K r f)(he:DE X E e d)(hl:DO X E lo dl)(hu:DO X E hi du):DE X E (.Subscript e (.Slice lo hi ae p2) pos) (iZ f d dl du):=λF S ε σ H Q rl h=>by
 refine b9 (JO hr bK A1 A1) (he F S ε σ H _ rl ((Ok.bind h).imp λx ε1 F1 S1 H1 r1 g1 h1 v rv=>?_));refine hl F1 S1 ε1 σ H1 _ r1 ((Ok.bind h1).imp λl ε2 F2 S2 H2 r2 g2 h2=>?_);refine hu F2 S2 ε2 σ H2 _ r2 ((Ok.bind h2).imp λu ε3 F3 S3 H3 r3 g3 h3=>?_);cases e3:f x l u with
 |none=>rw[e3]at h3;exact h3.elim
 |some pv=>rw[e3]at h3;exact hp F3 H3 x l u v Q pv ((rv.grow g2 r1.fit).grow g3 r2.fit) e3 λw F' H' al rw'=>h3 F' S3 H' (r3.al al) al.grow w rw'
end
inductive aR where
 |next|ret (s:Slot)|brk|cont
def lH(K:ax)(H:Hp)(F:af->Prop)(s:Slot)(v:V)(Sr:af->Prop):Prop:=match s with
 |.val pv=>aS K H F pv v/\∀b,¬Sr b
 |.own po=>∃a,v=.ref a/\eP K H F po a Sr
 |.none=>False
def h_(pin:List Nat)(σ σ':St):Prop:=∀i∈pin,σ'[i]?=σ[i]?
theorem h_.refl(pin:List Nat)(σ:St):h_ pin σ σ:=λ_ _=>rfl
theorem h_.trans{pin:List Nat}{σ σ1 σ2:St}(a:h_ pin σ σ1)(b:h_ pin σ1 σ2):h_ pin σ σ2:=λi h=>(b i h).trans (a i h)
theorem h_.set{pin:List Nat}{σ:St}{i:Nat}{x:Option V}(h:i∉pin):h_ pin σ (σ.set i x):=λj hj=>by rw[dJ (by rintro rfl;exact h hj)]
def vV(F':af->Prop)(S':Nat->af->Prop)(H':Hp)(Sr:af->Prop):Prop:=∀b,Sr b->¬F' b/\¬U S' b/\∃o,H' b=aa o/\dQ o
def iu(K:ax)(E:XK)(pin:List Nat)(σ:St)(F:af->Prop)(S:Nat->af->Prop)(H:Hp)(r:R aR)(D:jQ):Prop:=match r with
 |.ok .next ε'=>∀F' S' σ' H',aP K F' S' ε' σ' H'->bp (U S) (U S') F F' H H'->h_ pin σ σ'->D.nx σ' H'
 |.ok .brk ε'=>∀F' S' σ' H',aP K F' S' ε' σ' H'->bp (U S) (U S') F F' H H'->h_ pin σ σ'->D.bk σ' H'
 |.ok .cont ε'=>∀F' S' σ' H',aP K F' S' ε' σ' H'->bp (U S) (U S') F F' H H'->h_ pin σ σ'->D.ct σ' H'
 |.ok (.ret s) ε'=>∀v F' S' σ' H' Sr,aP K F' S' ε' σ' H'->bp (U S) (λb=>U S' b\/Sr b) F F' H H'->h_ pin σ σ'->lH K H' F' s v Sr->vV F' S' H' Sr->D.rt v H'
 |.er c ε'=>∀x F' S' σ' H',aP K F' S' ε' σ' H'->bp (U S) (U S') F F' H H'->h_ pin σ σ'->E c x H'
 |.no=>False
def DS(X:Cx)(E:XK)(pin:List Nat)(st:a6)(d:ak->R aR):Prop:=∀F S ε σ H D,aP X.K F S ε σ H->iu X.K E pin σ F S H (d ε) D->wpS X st D σ H
def fU(X:Cx)(E:XK)(pin:List Nat)(st:List a6)(d:ak->R aR):Prop:=∀F S ε σ H D,aP X.K F S ε σ H->iu X.K E pin σ F S H (d ε) D->nX X st D σ H
section
variable{K:ax}{E:XK}{pin:List Nat}{σ σ1:St}{F F1:af->Prop}{S S1:Nat->af->Prop}{H H1:Hp}{D:jQ}
theorem iu.from{r:R aR}(h:iu K E pin σ F S H r D)(g:bp (U S) (U S1) F F1 H H1)(p:h_ pin σ σ1):iu K E pin σ1 F1 S1 H1 r D:=by
 cases r with
 |no=>exact h
 |er c ε'=>exact λx F' S' σ' H' r' g' p'=>h x F' S' σ' H' r' (g.trans g') (p.trans p')
 |ok f ε'=>
  cases f with
  |next=>exact λF' S' σ' H' r' g' p'=>h F' S' σ' H' r' (g.trans g') (p.trans p')
  |brk=>exact λF' S' σ' H' r' g' p'=>h F' S' σ' H' r' (g.trans g') (p.trans p')
  |cont=>exact λF' S' σ' H' r' g' p'=>h F' S' σ' H' r' (g.trans g') (p.trans p')
  |ret s=>exact λv F' S' σ' H' Sr r' g' p'=>h v F' S' σ' H' Sr r' (g.trans g') (p.trans p')
theorem iu.bindE{α:Type}{r:R α}{k:α->ak->R aR}(h:iu K E pin σ F S H (r.bind k) D):Ok K E σ F S H r (λa ε1 F1 S1 H1=>iu K E pin σ F1 S1 H1 (k a ε1) D):=by
 cases r with
 |no=>exact h
 |er c ε'=>exact λx F' S' H' r' g'=>h x F' S' σ H' r' g' (h_.refl _ _)
 |ok a ε'=>exact λF' S' H' r' g'=>h.from g' (h_.refl _ _)
end
section
variable{X:Cx}{E:XK}{pin:List Nat}{st:a6}{rest:List a6}{d d1 d2:ak->R aR}{e:aB}{de:ak->R PV}{pos:Pos}
def eQ:ak->R aR:=λε=>.ok .next ε
theorem gL:fU X E pin [] eQ:=λF S ε σ H D rl h=>yT G9 (h F S σ H rl (bp.refl ..) (h_.refl _ _))
def bd(d1 d2:ak->R aR):ak->R aR:=λε=>match d1 ε with
 |.ok .next ε1=>d2 ε1
 |r=>r
theorem bz(h1:DS X E pin st d1)(h2:fU X E pin rest d2):fU X E pin (st::rest) (bd d1 d2):=λF S ε σ H D rl h=>by
 refine yT (F6 BM sv) (h1 F S ε σ H {D with nx:=nX X rest D} rl ?_);unfold bd at h;split at h
 ·rename_i ε1 e1;rw[e1];exact λF' S' σ' H' r' g' p'=>h2 F' S' ε1 σ' H' D r' (h.from g' p')
 ·rename_i r dj;generalize d1 ε=r1 at h dj;cases r1 with
  |no=>exact h
  |er c ε'=>exact h
  |ok f ε'=>
   cases f with
   |next=>exact absurd rfl (dj ε')
   |brk=>exact h
   |cont=>exact h
   |ret s=>exact h
theorem bo(h1:DS X E pin st d1):fU X E pin [st] d1:=λF S ε σ H D rl h=>yT (G4 BM) (h1 F S ε σ H D rl h)
def sM(f:aR):ak->R aR:=λε=>.ok f ε
def ze(d:ak->R PV):ak->R aR:=λε=>(d ε).bind λ_ ε1=>.ok .next ε1
def cH(d:ak->R PV):ak->R aR:=λε=>(d ε).bind λx ε1=>.ok (.ret (.val x)) ε1
theorem bp.cup{O O' F F':af->Prop}{H H':Hp}(g:bp O O' F F' H H'):bp O (λb=>O' b\/False) F F' H H':=⟨g.fro,g.keep,g.there,g.fnew,λa h=>h.elim (g.onew a) f9⟩
theorem dS(he:DE X E e de):DS X E pin (.Return (aa e) pos) (cH de):=λF S ε σ H D rl h=>gT (uP bK) (he F S ε σ H _ rl (h.bindE.imp λx ε1 F1 S1 H1 r1 g1 h1 v rv=>h1 v F1 S1 σ H1 (λ_=>False) r1 (bp.refl ..).cup (h_.refl _ _) ⟨rv,λ_ z=>z⟩ λ_ z=>z.elim))
theorem MP:DS X E pin (.Return ae pos) (sM (.ret (.val .non))):=λF S ε σ H D rl h=>gT Nn (h _ F S σ H (λ_=>False) rl (bp.refl ..).cup (h_.refl _ _) ⟨rfl,λ_ z=>z⟩ λ_ z=>z.elim)
def mw(d:ak->R PO):ak->R aR:=λε=>(d ε).bind λx ε1=>.ok (.ret (.own x)) ε1
theorem yc{dn:ak->R PO}(he:DN X E e dn):DS X E pin (.Return (aa e) pos) (mw dn):=λF S ε σ H D rl h=>by
 refine gT (uP bK) (he F S ε σ H _ rl ?_);unfold mw at h;cases e0:dn ε with
 |no=>rw[e0]at h;exact h.elim
 |er c ε'=>rw[e0]at h;exact λx F' S' H' r' g'=>h x F' S' σ H' r' g' (h_.refl _ _)
 |ok po ε1=>rw[e0]at h;intro F1 S1 H1 r1 g1 a Sa ow fr;exact h _ F1 S1 σ H1 Sa r1 ⟨g1.fro,g1.keep,g1.there,g1.fnew,λb z=>z.elim (g1.onew b) λw=>.inr (fr b w).1⟩ (h_.refl _ _) ⟨a,rfl,ow⟩ λb z=>let ⟨_,x2,x3,x4⟩:=fr b z;⟨x2,x3,x4⟩
def pZ(i:Nat):ak->R aR:=λε=>match ε[i]? with
 |some (.own po)=>.ok (.ret (.own po)) (ε.set i .none)
 |_=>.no
theorem aP.drop{K:ax}{F:af->Prop}{S:Nat->af->Prop}{ε:ak}{σ:St}{H:Hp}(r:aP K F S ε σ H)(i:Nat):aP K F (λj b=>S j b/\j≠i) (ε.set i .none) σ H:=by
 have no:∀{j s},(ε.set i .none)[j]?=aa s->s≠.none->j≠i/\ε[j]?=aa s:=λ{j s} e hs=>by
  by_cases hj:i=j
  ·subst hj;by_cases hi:i<ε.length
   ·rw[fe hi]at e;exact absurd (dW e).symm hs
   ·rw[nc (by rw[fC];lia)]at e;cases e
  ·rw[dJ hj]at e;exact⟨ef hj,e⟩
 refine⟨by rw[fC];exact r.len,r.ex,λj pv e=>r.val j pv (no e (by intro z;cases z)).2,λj po e=>?_,λj b h=>?_,λj k b h1 h2=>r.dist j k b h1.1 h2.1⟩
 ·obtain⟨hj,e⟩:=no e (by intro z;cases z);obtain⟨a,h1,h2⟩:=r.own j po e;have eS:(λb=>S j b/\j≠i)=S j:=by funext b;simp[hj]
  exact⟨a,h1,by rw[eS];exact h2⟩
 ·obtain⟨⟨po,q1⟩,q2⟩:=r.foot j b h.1;exact⟨⟨po,by rw[dJ (ef h.2)];exact q1⟩,q2⟩
theorem C9(i:Nat){x:Str}{p:Pos}(hN:X.N[i]?=aa x:=by rfl)(hv:fF X.env.scope x:=by first|exact Or.inl rfl|exact Or.inr (Or.inl rfl)|exact Or.inr (Or.inr rfl))(hd:(x == ("__debug__" : Str))=aj:=by decide)(bS:(x == ("__classdict__" : Str))=aj:=by decide):DS X E pin (.Return (aa (.Name x p)) pos) (pZ i):=λF S ε σ H D rl h=>by
 unfold pZ at h;split at h
 ·rename_i po e;obtain⟨a,e1,ow⟩:=rl.own i po e;refine gT (uP (gP hN hv hd bS)) ⟨_,e1,h _ F (λj b=>S j b/\j≠i) σ H (S i) (rl.drop i) ⟨λ_ z=>z,λ_ _ z _=>z,λ_ o z=>⟨o,z⟩,λ_ z=>.inl z,λb z=>?_⟩ (h_.refl _ _) ⟨a,rfl,ow⟩ λb z=>?_⟩
  ·rcases z with⟨j,z,_⟩|z
   ·exact .inl ⟨j,z⟩
   ·exact .inl ⟨i,z⟩
  ·exact⟨(rl.foot i b z).2.1,λ⟨j,w,hj⟩=>hj (rl.dist j i b w z),(rl.foot i b z).2.2⟩
 ·exact h.elim
theorem aP.set{K:ax}{F:af->Prop}{S:Nat->af->Prop}{ε:ak}{σ:St}{H:Hp}{i:Nat}{pv:PV}{v:V}(r:aP K F S ε σ H)(h:aS K H F pv v):aP K F (λj b=>S j b/\j≠i) (ε.set i (.val pv)) (σ.set i (aa v)) H:=by
 have r0:=r.drop i;have len:(ε.set i (.val pv)).length=(σ.set i (aa v)).length:=by rw[fC,fC];exact r.len
 refine⟨len,r.ex,λj p e=>?_,λj po e=>?_,λj b h=>?_,r0.dist⟩
 ·by_cases hj:i=j
  ·subst hj;have hi:i<ε.length:=by have:=(c_.mp e).1;rw[fC]at this;exact this
   rw[fe hi]at e;cases e;exact⟨v,fe (by rw[←r.len];exact hi),h⟩
  ·rw[dJ hj]at e;obtain⟨w,h1,h2⟩:=r.val j p e;exact⟨w,by rw[dJ hj];exact h1,h2⟩
 ·have hj:i≠j:=by
   rintro rfl;have hi:i<ε.length:=by have:=(c_.mp e).1;rw[fC]at this;exact this
   rw[fe hi]at e;cases e
  rw[dJ hj]at e;obtain⟨a,h1,h2⟩:=r.own j po e;have eS:(λb=>S j b/\j≠i)=S j:=by funext b;simp[ef hj]
  exact⟨a,by rw[dJ hj];exact h1,by rw[eS];exact h2⟩
 ·obtain⟨⟨po,q1⟩,q2⟩:=r0.foot j b h;refine⟨⟨po,?_⟩,q2⟩;rw[dJ (ef h.2)]at q1 ⊢;exact q1
theorem bp.less{S:Nat->af->Prop}{F:af->Prop}{H:Hp}(i:Nat):bp (U S) (U λj b=>S j b/\j≠i) F F H H:=⟨λ_ z=>z,λ_ _ z _=>z,λ_ o z=>⟨o,z⟩,λ_ z=>.inl z,λb ⟨j,z⟩=>.inl ⟨j,z.1⟩⟩
theorem aP.setOwn{K:ax}{F:af->Prop}{S:Nat->af->Prop}{ε:ak}{σ:St}{H:Hp}{i:Nat}{po:PO}{a:af}{Sa:af->Prop}(r:aP K F S ε σ H)(hi:i<ε.length)(h:eP K H F po a Sa)(fr:vV F S H Sa):aP K F (λj b=>(S j b/\j≠i)\/(j=i/\Sa b)) (ε.set i (.own po)) (σ.set i (aa (.ref a))) H:=by
 have r0:=r.drop i;refine⟨by rw[fC,fC];exact r.len,r.ex,λj p e=>?_,λj po' e=>?_,λj b h=>?_,λj k b h1 h2=>?_⟩
 ·have hj:i≠j:=by rintro rfl;rw[fe hi]at e;cases e
  rw[dJ hj]at e;obtain⟨w,h1,h2⟩:=r.val j p e;exact⟨w,by rw[dJ hj];exact h1,h2⟩
 ·by_cases hj:i=j
  ·subst hj;rw[fe hi]at e;cases e;have eS:(λb=>(S i b/\i≠i)\/(i=i/\Sa b))=Sa:=by funext b;simp
   exact⟨a,fe (by rw[←r.len];exact hi),by rw[eS];exact h⟩
  ·rw[dJ hj]at e;obtain⟨a',h1,h2⟩:=r.own j po' e;have eS:(λb=>(S j b/\j≠i)\/(j=i/\Sa b))=S j:=by funext b;simp[ef hj]
   exact⟨a',by rw[dJ hj];exact h1,by rw[eS];exact h2⟩
 ·rcases h with h|⟨rfl,h⟩
  ·obtain⟨⟨po',q1⟩,q2⟩:=r0.foot j b h;refine⟨⟨po',?_⟩,q2⟩;rw[dJ (ef h.2)]at q1 ⊢;exact q1
  ·obtain⟨x1,x2,x3⟩:=fr b h;exact⟨⟨po,fe hi⟩,x1,x3⟩
 ·rcases h1 with h1|⟨rfl,h1⟩ <;> rcases h2 with h2|⟨rfl,h2⟩
  ·exact r.dist j k b h1.1 h2.1
  ·exact absurd ⟨j,h1.1⟩ (fr b h2).2.1
  ·exact absurd ⟨k,h2.1⟩ (fr b h1).2.1
  ·rfl
def cO(i:Nat)(d:ak->R PV):ak->R aR:=λε=>(d ε).bind λx ε1=>.ok .next (ε1.set i (.val x))
theorem gk(i:Nat){x:Str}{p:Pos}(hN:X.N.Nodup)(he:DE X E e de)(hp:i∉pin:=by decide)(hi:X.N[i]?=aa x:=by rfl)(hx:Loc X.env.scope x:=by first|exact Or.inl rfl|exact Or.inr rfl)(hs:kR e (aa (.Name x p)) pos.line X.env=pure aj:=by rfl)(hf:X.fn x=ah\/X.env.scope.names.lookup x=aa .local:=by first|exact .inl rfl|exact .inr rfl):DS X E pin (.Assign [.Name x p] e pos) (cO i de):=λF S ε σ H D rl h=>gT (D7 hN hi hx bK hs hf) (he F S ε σ H _ rl (h.bindE.imp λx ε1 F1 S1 H1 r1 g1 h1 v rv=>h1 F1 _ _ H1 (r1.set rv) (bp.less i) (h_.set hp)))
def ju(i:Nat)(d:ak->R PO):ak->R aR:=λε=>(d ε).bind λx ε1=>if i<ε1.length then .ok .next (ε1.set i (.own x))else .no
theorem p8(i:Nat){x:Str}{p:Pos}{dn:ak->R PO}(hN:X.N.Nodup)(he:DN X E e dn)(hp:i∉pin:=by decide)(hi:X.N[i]?=aa x:=by rfl)(hx:Loc X.env.scope x:=by first|exact Or.inl rfl|exact Or.inr rfl)(hs:kR e (aa (.Name x p)) pos.line X.env=pure aj:=by rfl)(hf:X.fn x=ah\/X.env.scope.names.lookup x=aa .local:=by first|exact .inl rfl|exact .inr rfl):DS X E pin (.Assign [.Name x p] e pos) (ju i dn):=λF S ε σ H D rl h=>by
 refine gT (D7 hN hi hx bK hs hf) (he F S ε σ H _ rl ?_);unfold ju at h;cases e0:dn ε with
 |no=>rw[e0]at h;exact h.elim
 |er c ε'=>rw[e0]at h;exact λx F' S' H' r' g'=>h x F' S' σ H' r' g' (h_.refl _ _)
 |ok po ε1=>
  rw[e0]at h;simp only[R.bind_ok]at h;intro F1 S1 H1 r1 g1 a Sa ow fr;by_cases hl:i<ε1.length
  ·rw[if_pos hl]at h;refine h F1 _ _ H1 (r1.setOwn hl ow λb z=>(fr b z).2) ⟨g1.fro,g1.keep,g1.there,g1.fnew,λb ⟨j,z⟩=>?_⟩ (h_.set hp);rcases z with z|⟨_,z⟩
   ·exact g1.onew b ⟨j,z.1⟩
   ·exact .inr (fr b z).1
  ·rw[if_neg hl]at h;exact h.elim
theorem gS{c:aB}{a b:List a6}{t:ak->R Bool}(hc:DT X E c t)(ha:fU X E pin a d1)(hb:fU X E pin b d2):DS X E pin (.If c a b pos) (dP t d1 d2):=λF S ε σ H D rl h=>by
 refine gT (MX pQ sv sv) (hc F S ε σ H _ rl (h.bindE.imp λk ε1 F1 S1 H1 r1 g1 h1=>?_));cases k with
 |true=>exact pX (ha F1 S1 ε1 σ H1 D r1 h1)
 |false=>exact pG (hb F1 S1 ε1 σ H1 D r1 h1)
def Cb:ak->R aR:=λ_=>.no
theorem MT{sts:List a6}:fU X E pin sts Cb:=λ_ _ _ _ _ _ _ h=>h.elim
def iL(r:R aR):R aR:=match r with
 |.er _ _=>.no
 |r=>r
theorem pH(h:DS X.nox E0 pin st d):DS X E pin st (λε=>iL (d ε)):=λF S ε σ H D rl q=>Bx.mk λag s I=>by
 have q:iu X.K E pin σ F S H (iL (d ε)) D:=q;have q':iu X.K E0 pin σ F S H (d ε) D:=by
  cases e:d ε with
  |no=>rw[e]at q;exact q
  |er c ε'=>rw[e]at q;exact q.elim
  |ok f ε'=>rw[e]at q;cases f <;> exact q
 exact dY ((h F S ε σ H D rl q').run ag s (I.wish _)) (λ_ _ z=>z.unwish) λ_ _ z=>z.elim
def qi(X:Cx)(tg iter:aB):TI:=λσ H Rr=>Bx (∀ag s,Inv X ag σ H s->aq (au X.prog X.w) X.A (aT iter X.env) (λv s1=>aq (au X.prog X.w) X.A (mR v) (uH X ag σ tg Rr) X.xe s1) X.xe s)
theorem zv{tg iter:aB}:PI X tg iter (qi X tg iter):=λag s _ _ _ I h=>h.run ag s I
theorem Iq{tg iter:aB}{t:TI}(h:PI X tg iter t){σ:St}{H:Hp}{Rr:It->Hp->Prop}(q:t σ H Rr):qi X tg iter σ H Rr:=⟨λag s I=>h ag s σ H Rr I q⟩
def DI(X:Cx)(E:XK)(tg iter:aB)(d:ak->R (List PV)):Prop:=∀F S ε σ H Rr,aP X.K F S ε σ H ->
 Ok X.K E σ F S H (d ε) (λpvs _ F' S' H'=>∀J vs RR,Reps X.K H' F' pvs vs->vs.length<=ba->Walk J vs RR->(∀S'' F'' H'',bp (U S') (U S'') F' F'' H' H''->RR H'')->Rr J H')->qi X tg iter σ H Rr
def jV(i:Nat)(db:ak->R aR):List PV->ak->R aR
 |[],ε=>.ok .next ε
 |x::xs,ε=>match db (ε.set i (.val x))with
  |.ok .next ε'=>jV i db xs ε'
  |.ok .cont ε'=>jV i db xs ε'
  |.ok .brk ε'=>.ok .next ε'
  |r=>r
def gm(i:Nat)(di:ak->R (List PV))(db:ak->R aR):ak->R aR:=λε=>(di ε).bind λxs ε1=>jV i db xs ε1
theorem nS(i:Nat){x:Str}{p:Pos}{iter:aB}{body:List a6}{di:ak->R (List PV)}{db:ak->R aR}(hpo:PassesOwn (au X.prog X.w) X.A X.env X.xe)(hc:X.calm=ah)(hN:X.N.Nodup)(hi:DI X E (.Name x p) iter di)(hb:fU X E pin body db)(hp:i∉pin:=by decide) (hx:X.N[i]?=aa x:=by rfl) (hl:Loc X.env.scope x:=by first|exact Or.inl rfl|exact Or.inr rfl) (hs:∀x,qt iter X.env x=pure x:=by intro _;rfl)(hf:X.fn x=ah\/X.env.scope.names.lookup x=aa .local:=by first|exact .inl rfl|exact .inr rfl):DS X E pin (.For (.Name x p) iter body [] pos) (gm i di db):=λF S ε σ H D rl h=>by
 refine gT (JR hpo hc zv (zx hN hx hl hf) sv hs) (hi F S ε σ H _ rl (h.bindE.imp λxs ε1 F1 S1 H1 r1 g1 h1 J vs RR rs hz hw keep=>?_));refine Ln hw (λk σ' H'=>∃F' S' ε',aP X.K F' S' ε' σ' H'/\bp (U S1) (U S') F1 F' H1 H'/\iu X.K E pin σ' F' S' H' (jV i db (xs.drop k) ε') D) ⟨F1,S1,ε1,r1,bp.refl ..,h1⟩ (λk σ' H' _ ⟨F',S',ε',_,g,_⟩=>keep S' F' H' g) ?_ ?_
 ·rintro k v σ' H' hv ⟨F',S',ε',r',g',q⟩;obtain⟨x,hx,rx⟩:=rs.back hv;have hk:k<xs.length:=(c_.mp hx).1;have ed:xs.drop k=x::xs.drop (k+1):=by rw[wF hk];congr 1;exact(c_.mp hx).2
  rw[ed]at q;have rx':=rx.grow g' r1.fit;have r2:=r'.set (i:=i) rx';have gl:bp (U S') (U λj b=>S' j b/\j≠i) F' F' H' H':=bp.less i;show nX X body _ (σ'.set i (aa v)) H';refine hb F' _ _ _ H' _ r2 ?_;unfold jV at q;have q:=q.from gl (h_.set (x:=aa v) hp);cases e:db (ε'.set i (.val x))with
  |no=>rw[e]at q;exact q
  |er c ε3=>rw[e]at q;exact q
  |ok f ε3=>
   rw[e]at q;cases f with
   |next=>exact λF3 S3 σ3 H3 r3 g3 p3=>⟨F3,S3,ε3,r3,(g'.trans gl).trans g3,q.from g3 p3⟩
   |cont=>exact λF3 S3 σ3 H3 r3 g3 p3=>⟨F3,S3,ε3,r3,(g'.trans gl).trans g3,q.from g3 p3⟩
   |brk=>exact q
   |ret s=>exact q
 ·rintro σ' H' ⟨F',S',ε',r',g',q⟩;have hl:vs.length=xs.length:=rs.len;rw[hl,List.drop_length]at q;exact q F' S' σ' H' r' (bp.refl ..) (h_.refl _ _)
end
def vM(K:ax)(E:XK)(vs:List V)(F:af->Prop)(S:Nat->af->Prop)(H:Hp)(r:R Slot)(Q:VK):Prop:=match r with
 |.ok s aI=>∀v F' S' H' Sr,aP K F' S' aI (vs.map aa) H'->bp (U S) (λb=>U S' b\/Sr b) F F' H H'->lH K H' F' s v Sr->vV F' S' H' Sr->(∀b,Sr b->H b=ae)->Q v H'
 |.er c aI=>∀x F' S' H',aP K F' S' aI (vs.map aa) H'->bp (U S) (U S') F F' H H'->E c x H'
 |.no=>False
def bE(K:ax)(g:ak->R Slot):Sp:=λvs H Q E=>∃F S ss,aP K F S ss (vs.map aa) H/\vM K E vs F S H (g ss) Q
structure cA(CX:fE)(P:aM)(w:aF)(K:ax)(mg:Str->Option ai)(base:aA)(x:Str)(k:Nat)(ps:List Str)(sp:Sp):Prop where
 ex:∃f fd,mg x=aa (.ref f)/\jM P w K mg base CX k f fd ps sp/\Binds K fd ps []/\oB K (.ref f)=ah
def back:ak->ak->Option ak
 |[],_=>aa []
 |.own _::ss,.own po::es=>(back ss es).map (.own po::·)
 |.own _::_,_=>ae
 |s::ss,_::es=>(back ss es).map (s::·)
 |_::_,[]=>ae
theorem u_:∀{ss es aI:ak},back ss es=aa aI->aI.length=ss.length/\∀(i:Nat) (s:Slot),aI[i]?=aa s->(∃po po',ss[i]?=aa (.own po)/\es[i]?=aa (.own po')/\s=.own po')\/(ss[i]?=aa s/\∀po,s≠.own po)
 |[],_,aI,h=>by cases h;exact⟨rfl,λi s e=>by simp at e⟩
 |.own po::ss,.own po'::es,aI,h=>by
  unfold back at h;cases e:back ss es with
  |none=>rw[e]at h;cases h
  |some r=>
   rw[e]at h;cases h;obtain⟨l,q⟩:=u_ e;refine⟨by simp[l],λi s hi=>?_⟩;cases i with
   |zero=>simp at hi;subst hi;exact .inl ⟨po,po',rfl,rfl,rfl⟩
   |succ i=>simpa using q i s (by simpa using hi)
 |.own po::ss,.none::es,aI,h=>by cases h
 |.own po::ss,.val _::es,aI,h=>by cases h
 |.own po::ss,[],aI,h=>by cases h
 |.none::ss,[],aI,h=>by cases h
 |.val _::ss,[],aI,h=>by cases h
 |.none::ss,x::es,aI,h=>by
  have h:(back ss es).map (Slot.none::·)=aa aI:=by unfold back at h;cases x <;> exact h
  cases e:back ss es with
  |none=>rw[e]at h;cases h
  |some r=>
   rw[e]at h;cases h;obtain⟨l,q⟩:=u_ e;refine⟨by simp[l],λi s hi=>?_⟩;cases i with
   |zero=>simp at hi;subst hi;exact .inr ⟨rfl,λ_ z=>by cases z⟩
   |succ i=>simpa using q i s (by simpa using hi)
 |.val pv::ss,x::es,aI,h=>by
  have h:(back ss es).map (Slot.val pv::·)=aa aI:=by unfold back at h;cases x <;> exact h
  cases e:back ss es with
  |none=>rw[e]at h;cases h
  |some r=>
   rw[e]at h;cases h;obtain⟨l,q⟩:=u_ e;refine⟨by simp[l],λi s hi=>?_⟩;cases i with
   |zero=>simp at hi;subst hi;exact .inr ⟨rfl,λ_ z=>by cases z⟩
   |succ i=>simpa using q i s (by simpa using hi)
def bC(n:Nat)(d:ak->R aR):ak->R Slot:=λss=>match d (ss++bV n .none)with
 |.ok (.ret r) ε'=>(bh (back ss ε') []).bind λaI _=>.ok r aI
 |.ok .next ε'=>(bh (back ss ε') []).bind λaI _=>.ok (.val .non) aI
 |.er c ε'=>(bh (back ss ε') []).bind λaI _=>.er c aI
 |_=>.no
section
variable{K:ax}{F F':af->Prop}{S S':Nat->af->Prop}{ss ε' aI:ak}{σ':St}{H H':Hp}{vs:List V}
theorem aP.start(r:aP K F S ss (vs.map aa) H)(n:Nat):aP K F S (ss++bV n .none) (vs.map aa++bV n ae) H:=by
 have hl:ss.length=(vs.map aa).length:=r.len;have no:∀{j:Nat}{s:Slot},(ss++bV n Slot.none)[j]?=aa s->s≠.none->ss[j]?=aa s:=λ{j s} e hs=>by
  by_cases hj:j<ss.length
  ·rw[gz hj]at e;exact e
  ·rw[mT ∅,List.getElem?_replicate]at e;split at e
   ·exact absurd (dW e).symm hs
   ·cases e
 have up:∀{j:Nat}{v:Option V},(vs.map aa)[j]?=aa v->(vs.map aa++bV n ae)[j]?=aa v:=λ{j v} e=>by rw[gz (c_.mp e).1];exact e
 refine⟨by simp[hl],r.ex,λj pv e=>?_,λj po e=>?_,λj b h=>?_,r.dist⟩
 ·obtain⟨v,h1,h2⟩:=r.val j pv (no e (by intro z;cases z));exact⟨v,up h1,h2⟩
 ·obtain⟨v,h1,h2⟩:=r.own j po (no e (by intro z;cases z));exact⟨v,up h1,h2⟩
 ·obtain⟨⟨po,q⟩,q2⟩:=r.foot j b h;exact⟨⟨po,by rw[gz (c_.mp q).1];exact q⟩,q2⟩
theorem BO{po:PO}{a:af}{Sa:af->Prop}(h:eP K H F po a Sa)(hf:gr po=ah):∀b,Sa b↔b=a:=by
 cases po with
 |lst xs=>exact h.2
 |dK kvs=>exact h.2
 |lls iV=>cases hf
 |ins C fs=>exact h.2
 |dT kvs=>exact h.2
 |inl C fs y xs=>cases hf
theorem Je{po:PO}{a:af}{Sa:af->Prop}(h:eP K H F po a Sa):Sa a:=by
 cases po with
 |lst xs=>exact(h.2 a).mpr rfl
 |dK kvs=>exact(h.2 a).mpr rfl
 |lls iV=>obtain⟨as,_,_,_,_,w⟩:=h;exact(w a).mpr (.inl rfl)
 |ins C fs=>exact(h.2 a).mpr rfl
 |dT kvs=>exact(h.2 a).mpr rfl
 |inl C fs y xs=>obtain⟨_,_,_,_,_,_,_,_,_,_,w⟩:=h;exact(w a).mpr (.inl rfl)
theorem aP.back{O':af->Prop}{pin:List Nat}{n:Nat}(r0:aP K F S ss (vs.map aa) H)(r:aP K F' S' ε' σ' H')(g:bp (U S) O' F F' H H')(p:h_ pin (vs.map aa++bV n ae) σ')(jk:∀(i:Nat) (po:PO),ss[i]?=aa (.own po)->i∈pin)(hb:back ss ε'=aa aI):∃S'',aP K F' S'' aI (vs.map aa) H'/\(∀b,U S'' b->U S' b)/\((∀(i:Nat) (po:PO),ss[i]?=aa (.own po)->gr po=ah)->∀b,U S b->U S'' b):=by
 obtain⟨hl,hg⟩:=u_ hb;have inj:∀(i:Nat) (po:PO),ss[i]?=aa (.own po)->∃a,(vs.map aa)[i]?=aa (aa (.ref a))/\σ'[i]?=aa (aa (.ref a))/\eP K H F po a (S i):=λi po e=>by obtain⟨a,h1,h2⟩:=r0.own i po e;refine⟨a,h1,?_,h2⟩;rw[p i (jk i po e),gz (c_.mp h1).1];exact h1
 have bk:∀(i:Nat) (po:PO),ss[i]?=aa (.own po)->∃po',aI[i]?=aa (.own po')/\ε'[i]?=aa (.own po'):=λi po e=>by
  have hi:i<aI.length:=by rw[hl];exact(c_.mp e).1
  rcases hg i aI[i] (by simp[hi])with⟨p1,p2,q1,q2,q3⟩|⟨q1,q2⟩
  ·exact⟨p2,by rw[d7 hi,q3],q2⟩
  ·rw[e]at q1;exact absurd (dW q1).symm (q2 po)
 refine⟨λi b=>S' i b/\∃po,ss[i]?=aa (.own po),⟨by rw[hl];exact r0.len,r.ex,λi pv e=>?_,λi po e=>?_,λi b h=>?_,λi j b h1 h2=>r.dist i j b h1.1 h2.1⟩,λb ⟨i,h⟩=>⟨i,h.1⟩,λlj b ⟨i,h⟩=>?_⟩
 ·rcases hg i _ e with⟨_,_,_,_,z⟩|⟨q1,_⟩
  ·cases z
  ·obtain⟨v,h1,h2⟩:=r0.val i pv q1;exact⟨v,h1,h2.grow g r0.fit⟩
 ·rcases hg i _ e with⟨p1,p2,q1,q2,q3⟩|⟨_,q2⟩
  ·cases q3;obtain⟨a,h1,h2,h3⟩:=inj i p1 q1;obtain⟨a',h4,h5⟩:=r.own i po q2;rw[h2]at h4;cases h4;refine⟨a,h1,?_⟩;have eS:(λb=>S' i b/\∃po,ss[i]?=aa (.own po))=S' i:=by funext b;exact propext ⟨λz=>z.1,λz=>⟨z,p1,q1⟩⟩
   rw[eS];exact h5
  ·exact absurd rfl (q2 po)
 ·obtain⟨po,q⟩:=h.2;obtain⟨po',z1,z2⟩:=bk i po q;exact⟨⟨po',z1⟩,(r.foot i b h.1).2⟩
 ·obtain⟨⟨po,q⟩,_⟩:=r0.foot i b h;obtain⟨a,h1,h2,h3⟩:=inj i po q;obtain⟨po',z1,z2⟩:=bk i po q;obtain⟨a',h4,h5⟩:=r.own i po' z2;rw[h2]at h4;cases h4;have e:b=a:=(BO h3 (lj i po q) b).mp h;exact⟨i,e ▸ Je h5,po,q⟩
end
theorem vG{K:ax}{E:XK}{vs:List V}{F:af->Prop}{S:Nat->af->Prop}{H:Hp}{r:R Slot}{Q:VK}(h:vM K E vs F S H r Q):r≠.no:=λz=>by rw[z]at h;exact h
theorem Bc{K:ax}{g:ak->R Slot}{m:Nat}(bw:∀ss,g ss≠.no->ss.length=m):∀vs H Q E,bE K g vs H Q E->vs.length=m:=λvs H Q E ⟨F,S,ss,rl,ok⟩=>by have:=bw ss (vG ok);have h2:=rl.len;rw[dw]at h2;lia
theorem Ec{X:Cx}{E:XK}{body:List a6}{N ps:List Str}{vs:List V}{H:Hp}{Q:VK}{n:Nat}{g:ak->R Slot}{d:ak->R aR}{pin:List Nat}(hn:N.length=ps.length+n)(bw:∀ss,g ss≠.no->ss.length=ps.length) (jk:∀ss,g ss≠.no->∀(i:Nat) po,ss[i]?=aa (.own po)->i∈pin) (lj:∀ss rs aI,g ss=.ok rs aI->(∃pv,rs=.val pv)\/∀(i:Nat) po,ss[i]?=aa (.own po)->gr po=ah) (hg:∀ss,g ss≠.no->bC n d ss=g ss)(hb:fU X E pin body d) (gc:bE X.K g vs H Q E):nX X body {nx:=λ_ H'=>Q .non H',rt:=Q} (L2.start N vs) H:=by
 obtain⟨F,S,ss,rl,ok⟩:=gc;have hl:=bw ss (vG ok);have h2:=rl.len;rw[dw]at h2;have es:L2.start N vs=vs.map aa++bV n ae:=by unfold L2.start;rw[show N.length-vs.length=n by lia]
 rw[es];refine hb F S _ _ H _ (rl.start n) ?_;have Fj:=jk ss (vG ok);have kc:=hg ss (vG ok);have w6:=lj ss;rw[←kc]at ok w6;unfold bC at ok w6;generalize d (ss++bV n .none)=r at ok w6 ⊢;cases r with
 |no=>exact ok
 |er c ε'=>
  intro x F' S' σ' H' r' g' p';have ok:vM X.K E vs F S H ((bh (back ss ε') []).bind λaI _=>.er c aI) Q:=ok;cases e:back ss ε' with
  |none=>rw[e]at ok;exact ok.elim
  |some aI=>rw[e]at ok;obtain⟨S'',r'',sub,_⟩:=rl.back r' g' p' Fj e;exact ok x F' S'' H' r'' ⟨g'.fro,g'.keep,g'.there,g'.fnew,λb z=>g'.onew b (sub b z)⟩
 |ok fl ε'=>
  have fin:∀(rs:Slot),(∀aI,back ss ε'=aa aI->(∃pv,rs=.val pv)\/∀(i:Nat) po,ss[i]?=aa (.own po)->gr po=ah)->vM X.K E vs F S H ((bh (back ss ε') []).bind λaI _=>.ok rs aI) Q->∀(v:V) F' S' σ' H' Sr,aP X.K F' S' ε' σ' H'->bp (U S) (λb=>U S' b\/Sr b) F F' H H'->h_ pin (vs.map aa++bV n ae) σ'->lH X.K H' F' rs v Sr->vV F' S' H' Sr->Q v H':=by
   intro rs hrs ok v F' S' σ' H' Sr r' g' p' hv lo;cases e:back ss ε' with
   |none=>rw[e]at ok;exact ok.elim
   |some aI=>
    rw[e]at ok;obtain⟨S'',r'',sub,up⟩:=rl.back r' g' p' Fj e;refine ok v F' S'' H' Sr r'' ⟨g'.fro,g'.keep,g'.there,g'.fnew,λb z=>g'.onew b (z.imp (sub b) id)⟩ hv (λb z=>⟨(lo b z).1,λw=>(lo b z).2.1 (sub b w),(lo b z).2.2⟩) λb z=>?_;rcases hrs aI e with⟨pv,rfl⟩|hf
    ·exact absurd z (hv.2 b)
    rcases g'.onew b (.inr z)with w|w
    ·exact absurd (sub b (up hf b w)) (lo b z).2.1
    ·exact w
  cases fl with
  |brk=>exact ok.elim
  |cont=>exact ok.elim
  |ret rs=>exact fin rs (λaI e=>w6 rs aI (by show(bh (back ss ε') []).bind _=_;rw[e];rfl)) ok
  |next=>exact λF' S' σ' H' r' g' p'=>fin (.val .non) (λ_ _=>.inl ⟨_,rfl⟩) ok .non F' S' σ' H' (λ_=>False) r' ⟨g'.fro,g'.keep,g'.there,g'.fnew,λb z=>z.elim (g'.onew b) f9⟩ p' ⟨rfl,λ_ z=>z⟩ λ_ z=>z.elim
theorem Gw{f:af}{fd:f8}{CX:fE}{P:aM}{w:aF}{K:ax}{mg:Str->Option ai}{base:aA}{x qual:Str}{st:a6}{N ps:List Str}{k n:Nat}{g:ak->R Slot}{d:ak->R aR}{pin:List Nat}(Fn:nR K x qual st f fd)(Sc:b_ N ps (aX st))(hn:N.length=ps.length+n)(hb:∀(kV doc pm:ai) (an:Option af) (aJ ct:ai) (us:List ai),us.length=ps.length->fA (hG x qual (i7 st) (fz st) (aX st) .none kV doc pm an aJ ct) ⟨us,[]⟩=pure (ps.zip us))(bw:∀ss,g ss≠.no->ss.length=ps.length) (jk:∀ss,g ss≠.no->∀(i:Nat) po,ss[i]?=aa (.own po)->i∈pin) (lj:∀ss rs aI,g ss=.ok rs aI->(∃pv,rs=.val pv)\/∀(i:Nat) po,ss[i]?=aa (.own po)->gr po=ah) (hg:∀ss,g ss≠.no->bC n d ss=g ss)(gD:∀(A:aO) (outer:List Env) (s:am) (H:Hp) (E:XK),eX k (A.deeper (ix qual (aX st) s.heap.objs.size f fd.code))->fU (ii CX P w K mg base N qual (aX st) f fd.code A outer s H E) E pin (fz st) d):jM P w K mg base CX (k+1) f fd ps (bE K g):=by obtain⟨oc,od,kV,doc,pm,an,aJ,ct,osl,rfl,lk,bS⟩:=Fn.ex;exact FS lk bS Sc (Bc bw) λA outer s H vs Q E hr gc=>⟨_,sv,Ec hn bw jk lj hg (gD A outer s H E hr) gc⟩
theorem CG{f:af}{fd:f8}{CX:fE}{P:aM}{w:aF}{K:ax}{mg:Str->Option ai}{base:aA}{x qual:Str}{st:a6}{N ps:List Str}{k n:Nat}{g:ak->R Slot}{d:ak->R aR}{pin:List Nat}(Fn:nR K x qual st f fd)(Sc:b_ N ps (aX st))(hn:N.length=ps.length+n)(hb:∀(kV doc pm:ai) (an:Option af) (aJ ct:ai) (us:List ai),us.length=ps.length->fA (hG x qual (i7 st) (fz st) (aX st) .none kV doc pm an aJ ct) ⟨us,[]⟩=pure (ps.zip us))(bw:∀ss,g ss≠.no->ss.length=ps.length) (jk:∀ss,g ss≠.no->∀(i:Nat) po,ss[i]?=aa (.own po)->i∈pin/\gr po=ah) (hg:∀ss,g ss≠.no->bC n d ss=g ss)(gD:∀(f:af) (aJ:ai) (A:aO) (outer:List Env) (s:am) (H:Hp) (E:XK),eX k (A.deeper (ix qual (aX st) s.heap.objs.size f aJ))->fU (ii CX P w K mg base N qual (aX st) f aJ A outer s H E) E pin (fz st) d):jM P w K mg base CX (k+1) f fd ps (bE K g):=Gw Fn Sc hn hb bw (λss h i po e=>(jk ss h i po e).1) (λss rs aI h=>.inr λi po e=>(jk ss (by rw[h];exact nofun) i po e).2) hg λA outer s H E=>gD f fd.code A outer s H E
theorem NB{CX:fE}{P:aM}{w:aF}{K:ax}{mg:Str->Option ai}{base:aA}{x:Str}{st:a6}{N ps:List Str}{k n:Nat}{g:ak->R Slot}{d:ak->R aR}{pin:List Nat}(D:cn K mg x st)(Sc:b_ N ps (aX st))(hn:N.length=ps.length+n)(hb:∀(kV doc pm:ai) (an:Option af) (aJ ct:ai) (us:List ai),us.length=ps.length->fA (hG x x (i7 st) (fz st) (aX st) .none kV doc pm an aJ ct) ⟨us,[]⟩=pure (ps.zip us))(bw:∀ss,g ss≠.no->ss.length=ps.length) (jk:∀ss,g ss≠.no->∀(i:Nat) po,ss[i]?=aa (.own po)->i∈pin/\gr po=ah) (hg:∀ss,g ss≠.no->bC n d ss=g ss)(gD:∀(f:af) (aJ:ai) (A:aO) (outer:List Env) (s:am) (H:Hp) (E:XK),eX k (A.deeper (ix x (aX st) s.heap.objs.size f aJ))->fU (ii CX P w K mg base N x (aX st) f aJ A outer s H E) E pin (fz st) d):cA CX P w K mg base x (k+1) ps (bE K g):=by obtain⟨f,fd,hm,Fn⟩:=D.ex;exact⟨f,fd,hm,CG Fn Sc hn hb bw jk hg gD,Fn.binds hb,Fn.kp⟩
abbrev bW:=Sum PV Nat
def hZ(K:ax)(σ:St)(F:af->Prop)(H:Hp):List bW->List V->Prop
 |[],vs=>vs=[]
 |.inl pv::as,vs=>∃v r,vs=v::r/\aS K H F pv v/\hZ K σ F H as r
 |.inr i::as,vs=>∃v r,vs=v::r/\σ[i]?=aa (aa v)/\hZ K σ F H as r
def DG(X:Cx)(E:XK)(es:List aB)(d:ak->R (List bW)):Prop :=
 ∀F S ε σ H Q,aP X.K F S ε σ H->Ok X.K E σ F S H (d ε) (λas _ F' _ H'=>∀vs,hZ X.K σ F' H' as vs->Q vs H')->nH X es σ H Q
section
variable{X:Cx}{E:XK}{e:aB}{es:List aB}{de:ak->R PV}{dg:ak->R (List bW)}{pos:Pos}
def bB:ak->R (List bW):=λε=>.ok [] ε
def gV(d:ak->R PV)(dg:ak->R (List bW)):ak->R (List bW):=λε=>(d ε).bind λx ε1=>(dg ε1).bind λxs ε2=>.ok (.inl x::xs) ε2
def gO(i:Nat)(dg:ak->R (List bW)):ak->R (List bW):=λε=>match ε[i]? with
 |some (.own _)=>(dg ε).bind λxs ε2=>.ok (.inr i::xs) ε2
 |_=>.no
theorem bM:DG X E [] bB:=λF S ε σ H Q rl h=>nQ jt (h F S H rl (bp.refl ..) _ rfl)
theorem Ha(ha:DE X E e de)(hr:DG X E es dg)(hs:aL (e::es) X.env=(aj,aT e X.env)::aL es X.env:=by rfl):DG X E (e::es) (gV de dg):=λF S ε σ H Q rl h=>by refine nQ (ij bK gy hs) (ha F S ε σ H _ rl ((Ok.bind h).imp λx ε1 F1 S1 H1 r1 g1 h1 v rv=>?_));refine hr F1 S1 ε1 σ H1 _ r1 ((Ok.bind h1).imp λxs ε2 F2 S2 H2 r2 g2 h2 vs kf=>?_);exact h2 F2 S2 H2 r2 (bp.refl ..) _ ⟨v,vs,rfl,rv.grow g2 r1.fit,kf⟩
theorem gK(i:Nat){x:Str}{p:Pos}(hr:DG X E es dg)(hN:X.N[i]?=aa x:=by rfl)(hv:fF X.env.scope x:=by first|exact Or.inl rfl|exact Or.inr (Or.inl rfl)|exact Or.inr (Or.inr rfl))(hd:(x == ("__debug__" : Str))=aj:=by decide)(bS:(x == ("__classdict__" : Str))=aj:=by decide) (hs:aL (.Name x p::es) X.env=(aj,aT (.Name x p) X.env)::aL es X.env:=by rfl):DG X E (.Name x p::es) (gO i dg):=λF S ε σ H Q rl h=>by
 unfold gO at h;split at h
 ·rename_i po e;obtain⟨a,e1,_⟩:=rl.own i po e;refine nQ (ij (gP hN hv hd bS) gy hs) ⟨_,e1,hr F S ε σ H _ rl ((Ok.bind h).imp λxs ε2 F2 S2 H2 r2 g2 h2 vs kf=>?_)⟩;exact h2 F2 S2 H2 r2 (bp.refl ..) _ ⟨_,vs,rfl,e1,kf⟩
 ·exact h.elim
end
def eM(ε:ak):List bW->Option ak
 |[]=>aa []
 |.inl pv::as=>(eM ε as).map (.val pv::·)
 |.inr i::as=>match ε[i]? with
  |some (.own po)=>(eM ε as).map (.own po::·)
  |_=>ae
def gi:ak->List bW->ak->ak
 |ε,.inl _::as,_::ss=>gi ε as ss
 |ε,.inr i::as,s::ss=>gi (ε.set i s) as ss
 |ε,_,_=>ε
def cx:List bW->List Nat
 |[]=>[]
 |.inl _::as=>cx as
 |.inr i::as=>i::cx as
theorem Cf:∀{as:List bW}{i:Nat},i∈cx as↔∃k:Nat,as[k]?=aa (.inr i)
 |[],i=>by simp[cx]
 |.inl _::as,i=>by
  unfold cx;rw[Cf];constructor
  ·rintro⟨k,h⟩;exact⟨k+1,by simpa using h⟩
  ·rintro⟨k,h⟩;cases k with
   |zero=>simp at h
   |succ k=>exact⟨k,by simpa using h⟩
 |.inr j::as,i=>by
  unfold cx;rw[bF,Cf];constructor
  ·rintro(rfl|⟨k,h⟩)
   ·exact⟨0,rfl⟩
   ·exact⟨k+1,by simpa using h⟩
  ·rintro⟨k,h⟩;cases k with
   |zero=>simp at h;exact .inl h.symm
   |succ k=>exact .inr ⟨k,by simpa using h⟩
theorem vt{ε:ak}:∀{as:List bW}{ss:ak},eM ε as=aa ss->ss.length=as.length/\∀(k:Nat) (s:Slot),ss[k]?=aa s->(∃pv,as[k]?=aa (.inl pv)/\s=.val pv)\/∃i po,as[k]?=aa (.inr i)/\ε[i]?=aa (.own po)/\s=.own po
 |[],ss,h=>by cases h;exact⟨rfl,λk s e=>by simp at e⟩
 |.inl pv::as,ss,h=>by
  unfold eM at h;cases e:eM ε as with
  |none=>rw[e]at h;cases h
  |some r=>
   rw[e]at h;cases h;obtain⟨l,q⟩:=vt e;refine⟨by simp[l],λk s hk=>?_⟩;cases k with
   |zero=>simp at hk;exact .inl ⟨pv,rfl,hk.symm⟩
   |succ k=>simpa using q k s (by simpa using hk)
 |.inr i::as,ss,h=>by
  unfold eM at h;split at h
  ·rename_i po ei;cases e:eM ε as with
   |none=>rw[e]at h;cases h
   |some r=>
    rw[e]at h;cases h;obtain⟨l,q⟩:=vt e;refine⟨by simp[l],λk s hk=>?_⟩;cases k with
    |zero=>simp at hk;exact .inr ⟨i,po,rfl,ei,hk.symm⟩
    |succ k=>simpa using q k s (by simpa using hk)
  ·cases h
theorem uN:∀(as:List bW) (ε ss:ak),(gi ε as ss).length=ε.length
 |[],ε,ss=>by cases ss <;> rfl
 |.inl _::as,ε,[]=>rfl
 |.inr _::as,ε,[]=>rfl
 |.inl _::as,ε,s::ss=>uN as ε ss
 |.inr i::as,ε,s::ss=>by show(gi (ε.set i s) as ss).length=_;rw[uN,fC]
theorem qf:∀(as:List bW) (ε ss:ak) (j:Nat),j∉cx as->(gi ε as ss)[j]?=ε[j]?
 |[],ε,ss,j,_=>by cases ss <;> rfl
 |.inl _::as,ε,[],j,_=>rfl
 |.inr _::as,ε,[],j,_=>rfl
 |.inl _::as,ε,s::ss,j,h=>qf as ε ss j h
 |.inr i::as,ε,s::ss,j,h=>by
  have h1:¬(j=i\/j∈cx as):=by simpa[cx]using h
  show(gi (ε.set i s) as ss)[j]?=_;rw[qf as _ ss j λz=>h1 (.inr z),dJ λz=>h1 (.inl z.symm)]
theorem rC:∀(as:List bW) (ε ss:ak) (j k:Nat) (s:Slot),(cx as).Nodup->j<ε.length->as[k]?=aa (.inr j)->ss[k]?=aa s->(gi ε as ss)[j]?=aa s
 |[],ε,ss,j,k,s,_,_,h,_=>by simp at h
 |_::as,ε,[],j,k,s,_,_,_,h=>by simp at h
 |.inl _::as,ε,t::ss,j,0,s,_,_,h,_=>by simp at h
 |.inl _::as,ε,t::ss,j,k+1,s,nd,hj,h,g=>rC as ε ss j k s nd hj (by simpa using h) (by simpa using g)
 |.inr i::as,ε,t::ss,j,0,s,nd,hj,h,g=>by simp at h g;subst h g;have nd':i∉cx as:=(jf.mp nd).1;show(gi (ε.set i t) as ss)[i]?=_;rw[qf as _ ss i nd',fe hj]
 |.inr i::as,ε,t::ss,j,k+1,s,nd,hj,h,g=>rC as (ε.set i t) ss j k s (jf.mp nd).2 (by rw[fC];exact hj) (by simpa using h) (by simpa using g)
theorem hZ.len{K:ax}{σ:St}{F:af->Prop}{H:Hp}:∀{as:List bW}{vs:List V},hZ K σ F H as vs->vs.length=as.length
 |[],_,h=>by rw[show _=[] from h];rfl
 |.inl _::as,_,⟨v,r,e,_,h⟩=>by rw[e,ff,ff,hZ.len h]
 |.inr _::as,_,⟨v,r,e,_,h⟩=>by rw[e,ff,ff,hZ.len h]
theorem hZ.val{K:ax}{σ:St}{F:af->Prop}{H:Hp}:∀{as:List bW}{vs:List V}{k:Nat}{pv:PV},hZ K σ F H as vs->as[k]?=aa (.inl pv)->∃v,vs[k]?=aa v/\aS K H F pv v
 |[],_,k,_,_,e=>by simp at e
 |.inl x::as,_,0,pv,⟨v,r,e,h,_⟩,q=>by simp at q;subst q e;exact⟨v,rfl,h⟩
 |.inr _::as,_,0,pv,_,q=>by simp at q
 |.inl x::as,_,k+1,pv,⟨v,r,e,_,h⟩,q=>by obtain⟨w,a,b⟩:=hZ.val (k:=k) h (by simpa using q);subst e;exact⟨w,by simpa using a,b⟩
 |.inr x::as,_,k+1,pv,⟨v,r,e,_,h⟩,q=>by obtain⟨w,a,b⟩:=hZ.val (k:=k) h (by simpa using q);subst e;exact⟨w,by simpa using a,b⟩
theorem hZ.own{K:ax}{σ:St}{F:af->Prop}{H:Hp}:∀{as:List bW}{vs:List V}{k i:Nat},hZ K σ F H as vs->as[k]?=aa (.inr i)->∃v,vs[k]?=aa v/\σ[i]?=aa (aa v)
 |[],_,k,_,_,e=>by simp at e
 |.inr x::as,_,0,pv,⟨v,r,e,h,_⟩,q=>by simp at q;subst q e;exact⟨v,rfl,h⟩
 |.inl _::as,_,0,pv,_,q=>by simp at q
 |.inl x::as,_,k+1,pv,⟨v,r,e,_,h⟩,q=>by obtain⟨w,a,b⟩:=hZ.own (k:=k) h (by simpa using q);subst e;exact⟨w,by simpa using a,b⟩
 |.inr x::as,_,k+1,pv,⟨v,r,e,_,h⟩,q=>by obtain⟨w,a,b⟩:=hZ.own (k:=k) h (by simpa using q);subst e;exact⟨w,by simpa using a,b⟩
section
variable{K:ax}{F F':af->Prop}{S S':Nat->af->Prop}{ε ss aI:ak}{σ:St}{H H':Hp}{as:List bW}{vs:List V}
def kH(as:List bW)(S:Nat->af->Prop)(k:Nat)(b:af):Prop:=∃i,as[k]?=aa (.inr i)/\S i b
theorem vf(b:af)(h:U (kH as S) b):U S b:=let ⟨_,i,_,h⟩:=h;⟨i,h⟩
theorem wd:∀{as:List bW}{i k l:Nat},(cx as).Nodup->as[k]?=aa (.inr i)->as[l]?=aa (.inr i)->k=l
 |[],_,_,_,_,h,_=>by simp at h
 |.inl _::as,i,0,_,_,h,_=>by simp at h
 |.inl _::as,i,_,0,_,_,h=>by simp at h
 |.inl _::as,i,k+1,l+1,nd,h1,h2=>by rw[wd (as:=as) (i:=i) (k:=k) (l:=l) nd (by simpa using h1) (by simpa using h2)]
 |.inr j::as,i,0,0,_,_,_=>rfl
 |.inr j::as,i,0,l+1,nd,h1,h2=>by simp at h1;subst h1;exact absurd (Cf.mpr ⟨l,by simpa using h2⟩) (jf.mp nd).1
 |.inr j::as,i,k+1,0,nd,h1,h2=>by simp at h2;subst h2;exact absurd (Cf.mpr ⟨k,by simpa using h1⟩) (jf.mp nd).1
 |.inr j::as,i,k+1,l+1,nd,h1,h2=>by rw[wd (as:=as) (i:=i) (k:=k) (l:=l) (jf.mp nd).2 (by simpa using h1) (by simpa using h2)]
theorem aP.cal(r:aP K F S ε σ H)(ha:hZ K σ F H as vs)(hs:eM ε as=aa ss)(nd:(cx as).Nodup):aP K F (kH as S) ss (vs.map aa) H:=by
 obtain⟨hl,hg⟩:=vt hs;have up:∀{k:Nat}{v:V},vs[k]?=aa v->(vs.map aa)[k]?=aa (aa v):=λ{k v} e=>by rw[jC,e];rfl
 refine⟨by rw[hl,dw,ha.len],r.ex,λk pv e=>?_,λk po e=>?_,λk b h=>?_,λk l b h1 h2=>?_⟩
 ·rcases hg k _ e with⟨p,q1,q2⟩|⟨_,_,_,_,z⟩
  ·cases q2;obtain⟨v,a1,a2⟩:=ha.val q1;exact⟨v,up a1,a2⟩
  ·cases z
 ·rcases hg k _ e with⟨_,_,z⟩|⟨i,p,q1,q2,q3⟩
  ·cases z
  ·cases q3;obtain⟨v,a1,a2⟩:=ha.own q1;obtain⟨a,b1,b2⟩:=r.own i po q2;rw[a2]at b1;cases b1;have eS:kH as S k=S i:=by
    funext b;exact propext ⟨λ⟨j,h1,h2⟩=>by rw[q1]at h1;cases h1;exact h2,λh=>⟨i,q1,h⟩⟩
   exact⟨a,up a1,by rw[eS];exact b2⟩
 ·obtain⟨i,h1,h2⟩:=h;obtain⟨⟨po,q⟩,q2⟩:=r.foot i b h2;have hk:k<ss.length:=by rw[hl];exact(c_.mp h1).1
  refine⟨?_,q2⟩;rcases hg k ss[k] (by simp[hk])with⟨_,z,_⟩|⟨j,p,z1,z2,z3⟩
  ·rw[h1]at z;cases z
  ·exact⟨p,by rw[d7 hk,z3]⟩
 ·obtain⟨i,a1,a2⟩:=h1;obtain⟨j,b1,b2⟩:=h2;have:=r.dist i j b a2 b2;subst this;exact wd nd a1 b1
theorem aP.called{O':af->Prop}(r:aP K F S ε σ H)(ha:hZ K σ F H as vs)(hs:eM ε as=aa ss)(nd:(cx as).Nodup)(r':aP K F' S' aI (vs.map aa) H')(g:bp (U (kH as S)) O' F F' H H')(hO:∀b,U S' b->O' b)(hso:∀(k:Nat) i,as[k]?=aa (.inr i)->∃po,aI[k]?=aa (.own po)):∃S2,aP K F' S2 (gi ε as aI) σ H'/\bp (U S) (U S2) F F' H H'/\∀b,U S2 b->U S' b\/U S b:=by
 have up:∀{k:Nat}{v:V},(vs.map aa)[k]?=aa (aa v)->vs[k]?=aa v:=λ{k v} e=>by
  rw[jC]at e;cases q:vs[k]? with
  |none=>rw[q]at e;cases e
  |some x=>rw[q]at e;cases e;rfl
 have fit:mD (U (kH as S)) F H:=λb h=>r.fit b (vf b h);have slen:∀i po,ε[i]?=aa (.own po)->i<ε.length:=λi po e=>(c_.mp e).1;have lt:∀(k:Nat) i,as[k]?=aa (.inr i)->i<ε.length:=λk i e=>by
  obtain⟨hl,hg⟩:=vt hs;have hk:k<ss.length:=by rw[hl];exact(c_.mp e).1
  rcases hg k ss[k] (by simp[hk])with⟨_,z,_⟩|⟨j,p,z1,z2,z3⟩
  ·rw[e]at z;cases z
  ·rw[e]at z1;cases z1;exact slen _ _ z2
 refine⟨λj b=>(∃k:Nat,as[k]?=aa (.inr j)/\S' k b)\/(j∉cx as/\S j b),⟨by rw[uN];exact r.len,r'.ex,λj pv e=>?_,λj po e=>?_,λj b h=>?_,λi j b h1 h2=>?_⟩,⟨g.fro,λb o e n=>g.keep b o e λz=>n (vf b z),g.there,λa z=>(g.fnew a z).imp id λw=>w.imp id (vf a),λb ⟨j,z⟩=>?_⟩,λb ⟨j,z⟩=>?_⟩
 ·by_cases hj:j∈cx as
  ·obtain⟨k,hk⟩:=Cf.mp hj;obtain⟨po,q⟩:=hso k j hk;rw[rC as ε aI j k _ nd (lt k j hk) hk q]at e;cases e
  ·rw[qf as ε aI j hj]at e;obtain⟨v,h1,h2⟩:=r.val j pv e;exact⟨v,h1,h2.grow g fit⟩
 ·by_cases hj:j∈cx as
  ·obtain⟨k,hk⟩:=Cf.mp hj;obtain⟨po',q⟩:=hso k j hk;rw[rC as ε aI j k _ nd (lt k j hk) hk q]at e;cases e;obtain⟨a,h1,h2⟩:=r'.own k po q;obtain⟨v,a1,a2⟩:=ha.own hk;rw[up h1]at a1;cases a1;have eS:(λb=>(∃k:Nat,as[k]?=aa (.inr j)/\S' k b)\/(j∉cx as/\S j b))=S' k:=by
    funext b;refine propext ⟨λz=>?_,λz=>.inl ⟨k,hk,z⟩⟩;rcases z with⟨l,z1,z2⟩|⟨z,_⟩
    ·rw[wd nd hk z1];exact z2
    ·exact absurd hj z
   exact⟨a,a2,by rw[eS];exact h2⟩
  ·rw[qf as ε aI j hj]at e;obtain⟨a,h1,h2⟩:=r.own j po e;have eS:(λb=>(∃k:Nat,as[k]?=aa (.inr j)/\S' k b)\/(j∉cx as/\S j b))=S j:=by
    funext b;refine propext ⟨λz=>?_,λz=>.inr ⟨hj,z⟩⟩;rcases z with⟨l,z1,z2⟩|⟨_,z⟩
    ·exact absurd (Cf.mpr ⟨l,z1⟩) hj
    ·exact z
   have h3:eP K H' F' po a (S j):=by refine h2.mono (λ_ _ q=>q.grow g fit) (λ_ _ q=>q.grow g fit) λb o z q=>g.keep b o q λ⟨l,i,w1,w2⟩=>?_;have:=r.dist i j b w2 z;subst this;exact hj (Cf.mpr ⟨l,w1⟩)
   exact⟨a,h1,by rw[eS];exact h3⟩
 ·rcases h with⟨k,h1,h2⟩|⟨h1,h2⟩
  ·obtain⟨⟨po,q⟩,q2⟩:=r'.foot k b h2;exact⟨⟨po,rC as ε aI j k _ nd (lt k j h1) h1 q⟩,q2⟩
  ·obtain⟨⟨po,q⟩,q2,o,q3,q4⟩:=r.foot j b h2;have no:¬U (kH as S) b:=λ⟨l,i,w1,w2⟩=>by have:=r.dist i j b w2 h2;subst this;exact h1 (Cf.mpr ⟨l,w1⟩)
   refine⟨⟨po,by rw[qf as ε aI j h1];exact q⟩,λz=>?_,o,g.keep b o q3 no,q4⟩;rcases g.fnew b z with w|w|w
   ·exact q2 w
   ·rw[q3]at w;cases w
   ·exact no w
 ·have cross:∀{i j:Nat}{b:af},(∃k:Nat,as[k]?=aa (.inr i)/\S' k b)->(j∉cx as/\S j b)->False:=λ{i j b} ⟨k,w1,w2⟩ ⟨w3,w4⟩=>by
   obtain⟨_,_,o,q3,_⟩:=r.foot j b w4;rcases g.onew b (hO b ⟨k,w2⟩)with⟨l,i',z1,z2⟩|z
   ·have:=r.dist i' j b z2 w4;subst this;exact w3 (Cf.mpr ⟨l,z1⟩)
   ·rw[q3]at z;cases z
  rcases h1 with h1|h1 <;> rcases h2 with h2|h2
  ·obtain⟨k,a1,a2⟩:=h1;obtain⟨l,b1,b2⟩:=h2;have:=r'.dist k l b a2 b2;subst this;rw[a1]at b1;cases b1;rfl
  ·exact(cross h1 h2).elim
  ·exact(cross h2 h1).elim
  ·exact r.dist i j b h1.2 h2.2
 ·rcases z with⟨k,_,z⟩|⟨_,z⟩
  ·rcases g.onew b (hO b ⟨k,z⟩)with w|w
   ·exact .inl (vf b w)
   ·exact .inr w
  ·exact .inl ⟨j,z⟩
 ·rcases z with⟨k,_,z⟩|⟨_,z⟩
  ·exact .inl ⟨k,z⟩
  ·exact .inr ⟨j,z⟩
end
def DR(X:Cx)(E:XK)(e:aB)(d:ak->R Slot):Prop :=
 ∀F S ε σ H Q,aP X.K F S ε σ H->Ok X.K E σ F S H (d ε) (λs _ F' S' H'=>∀v Sr,lH X.K H' F' s v Sr->(∀b,Sr b->H b=ae/\¬F' b/\¬U S' b/\∃o,H' b=aa o/\dQ o)->Q v H')->iJ X e σ H Q
def fY:List bW->ak->Bool
 |[],_=>ah
 |.inl _::as,_::ss=>fY as ss
 |.inr _::as,.own _::ss=>fY as ss
 |_,_=>aj
theorem lC:∀{as:List bW}{ss:ak},fY as ss=ah->∀(k:Nat) i,as[k]?=aa (.inr i)->∃po,ss[k]?=aa (.own po)
 |[],_,_,k,i,h=>by simp at h
 |.inl _::as,s::ss,q,0,i,h=>by simp at h
 |.inl _::as,s::ss,q,k+1,i,h=>by simpa using lC (as:=as) (ss:=ss) (by unfold fY at q;exact q) k i (by simpa using h)
 |.inr _::as,.own po::ss,q,0,i,h=>⟨po,rfl⟩
 |.inr _::as,.own po::ss,q,k+1,i,h=>by simpa using lC (as:=as) (ss:=ss) (by unfold fY at q;exact q) k i (by simpa using h)
 |.inr _::as,.val _::ss,q,k,i,h=>by cases q
 |.inr _::as,.none::ss,q,k,i,h=>by cases q
 |.inl _::as,[],q,k,i,h=>by cases q
 |.inr _::as,[],q,k,i,h=>by cases q
def fS{α:Type}(ε:ak)(as:List bW)(r:R α):R α:=match r with
 |.ok s aI=>if fY as aI then .ok s (gi ε as aI)else .no
 |.er c aI=>if fY as aI then .er c (gi ε as aI)else .no
 |.no=>.no
def a8(g:ak->R Slot)(dg:ak->R (List bW)):ak->R Slot:=λε=>(dg ε).bind λas ε1=>(bh (if(cx as).Nodup then eM ε1 as else ae) ε1).bind λss ε1=>fS ε1 as (g ss)
section
variable{CX:fE}{X:Cx}{E:XK}{pin:List Nat}{e:aB}{es:List aB}{dg:ak->R (List bW)}{pos:Pos}{x:Str}{k:Nat}{ps:List Str}{g:ak->R Slot}{p:Pos}{d:ak->R Slot}
theorem Dq{K:ax}{F0 F1:af->Prop}{S0 S1:Nat->af->Prop}{ε1:ak}{σ:St}{H H1:Hp}{as:List bW}{vs:List V}{Q:VK}(r1:aP K F1 S1 ε1 σ H1)(g1:bp (U S0) (U S1) F0 F1 H H1)(av:hZ K σ F1 H1 as vs)(q:Ok K E σ F1 S1 H1 ((bh (if(cx as).Nodup then eM ε1 as else ae) ε1).bind λss ε1=>fS ε1 as (g ss)) λs _ F' S' H'=>∀v Sr,lH K H' F' s v Sr->(∀b,Sr b->H b=ae/\¬F' b/\¬U S' b/\∃o,H' b=aa o/\dQ o)->Q v H'):bE K g vs H1 Q E:=by
 have q:=Ok.bind q;by_cases nd:(cx as).Nodup
 ·rw[if_pos nd]at q;cases es:eM ε1 as with
  |none=>rw[es]at q;exact q.elim
  |some ss=>
   rw[es]at q;have q:=q F1 S1 H1 r1 (bp.refl ..);dsimp only at q;refine⟨F1,kH as S1,ss,r1.cal av es nd,?_⟩;cases eg:g ss with
   |no=>rw[eg]at q;exact q.elim
   |er cv aI=>
    rw[eg]at q;intro y F' S' H' r' g';unfold fS at q;dsimp only at q;by_cases kp:fY as aI=ah
    ·rw[if_pos kp]at q;obtain⟨S2,r2,g2,_⟩:=r1.called av es nd r' g' (λ_ z=>z) (lC kp);exact q y F' S2 H' r2 g2
    ·rw[if_neg kp]at q;exact q.elim
   |ok s aI=>
    rw[eg]at q;intro v F' S' H' Sr r' g' rv lo fr;unfold fS at q;dsimp only at q;by_cases kp:fY as aI=ah
    ·rw[if_pos kp]at q;obtain⟨S2,r2,g2,u2⟩:=r1.called av es nd r' g' (λ_ z=>.inl z) (lC kp);refine q F' S2 H' r2 g2 v Sr rv λb z=>⟨mC g1 (fr b z),(lo b z).1,λw=>?_,(lo b z).2.2⟩
     rcases u2 b w with w|⟨i,w⟩
     ·exact(lo b z).2.1 w
     ·obtain⟨_,_,o,y1,_⟩:=r1.foot i b w;rw[fr b z]at y1;cases y1
    ·rw[if_neg kp]at q;exact q.elim
 ·rw[if_neg nd]at q;exact q.elim
theorem bU(c:cA CX X.prog X.w X.K X.mg X.base x k ps (bE X.K g))(hr:eX k X.A)(hx:pU CX X E)(ha:DG X E (e::es) dg)(hg:Gl X x:=by rfl)(hd:(x == ("__debug__" : Str))=aj:=by decide) (h1:aL (e::es) X.env=(aj,aT e X.env)::aL es X.env:=by rfl) (h2:(cL pos (aL es X.env)).any (·.1)=aj:=by rfl):DR X E (.Call (.Name x p) (e::es) [] pos) (a8 g dg):=λF S ε σ H Q rl h=>by obtain⟨f,fd,hm,Fn,hb,hk⟩:=c.ex;refine b9 (BB Fn hr hg hm hk hb .nil hx gy hd h1 h2) (ha F S ε σ H _ rl ((Ok.bind h).imp λas ε1 F1 S1 H1 r1 g1 q vs av=>?_));rw[g_];exact Dq r1 g1 av q
def vT:Slot->Option PV
 |.val pv=>aa pv
 |.own (.lst xs)=>aa (.lst xs)
 |_=>ae
def bj(d:ak->R Slot):ak->R PV:=λε=>(d ε).bind λs ε1=>bh (vT s) ε1
def vq:Slot->Option PO
 |.own po=>aa po
 |_=>ae
def mG(d:ak->R Slot):ak->R PO:=λε=>(d ε).bind λs ε1=>bh (vq s) ε1
theorem DR.dn(h:DR X E e d):DN X E e (mG d):=λF S ε σ H Q rl q=>by
 unfold mG at q;refine h F S ε σ H Q rl ?_;cases e0:d ε with
 |no=>rw[e0]at q;exact q.elim
 |er c ε'=>rw[e0]at q;exact q
 |ok s ε1=>
  rw[e0]at q;cases s with
  |none=>exact q.elim
  |val pv=>exact q.elim
  |own po=>intro F1 S1 H1 r1 g1 v Sr rv fr;obtain⟨a,rfl,ow⟩:=rv;exact q F1 S1 H1 r1 g1 a Sr ow fr
theorem DR.de(h:DR X E e d):DE X E e (bj d):=λF S ε σ H Q rl q=>by
 unfold bj at q;cases e0:d ε with
 |no=>rw[e0]at q;exact q.elim
 |er c ε'=>refine h F S ε σ H Q rl ?_;rw[e0]at q ⊢;exact q
 |ok s ε1=>
  cases s with
  |none=>rw[e0]at q;exact q.elim
  |val pv=>refine h F S ε σ H Q rl ?_;rw[e0]at q ⊢;exact λF1 S1 H1 r1 g1 v Sr rv fr=>q F1 S1 H1 r1 g1 v rv.1
  |own po=>
   refine h.dn.de F S ε σ H Q rl ?_;unfold dF mG;rw[e0]at q ⊢;cases po with
   |lst xs=>exact q
   |dK kvs=>exact q
   |lls iV=>exact q
   |ins C fs=>exact q
   |dT kvs=>exact q
   |inl C fs y xs=>exact q
def kq(d:ak->R Slot):ak->R aR:=λε=>(d ε).bind λs ε1=>.ok (.ret s) ε1
theorem rJ(he:DR X E e d):DS X E pin (.Return (aa e) pos) (kq d):=λF S ε σ H D rl h=>by
 refine gT (uP bK) (he F S ε σ H _ rl ?_);unfold kq at h;cases e0:d ε with
 |no=>rw[e0]at h;exact h.elim
 |er c ε'=>rw[e0]at h;exact λx F' S' H' r' g'=>h x F' S' σ H' r' g' (h_.refl _ _)
 |ok s ε1=>rw[e0]at h;intro F1 S1 H1 r1 g1 v Sr rv fr;exact h v F1 S1 σ H1 Sr r1 ⟨g1.fro,g1.keep,g1.there,g1.fnew,λb z=>z.elim (g1.onew b) λw=>.inr (fr b w).1⟩ (h_.refl _ _) rv λb z=>(fr b z).2
def jA(d:ak->R Slot):ak->R aR:=λε=>(d ε).bind λ_ ε1=>.ok .next ε1
theorem o_(he:DR X E e d)(hs:kR e ae pos.line X.env=pure aj:=by rfl):DS X E pin (.Expr e pos) (jA d):=λF S ε σ H D rl h=>gT (yv bK hs) (he F S ε σ H _ rl (h.bindE.imp λx ε1 F1 S1 H1 r1 g1 h1 v Sr rv fr=>h1 F1 S1 σ H1 r1 (bp.refl ..) (h_.refl _ _)))
end
end Pu
namespace L2
section
variable{X:Cx}{ag:List (af×Obj)}{σ:St}{H:Hp}{s:am}{scope:dX}{x:Str}{N':List Str}{cap:List Nat}
theorem MY{elt iter:aB}{y:Str}{px py pos spos:Pos}{i₀:Nat}{ifs:List aB}{wi:TI}{ts:TT}{te:TE}(B:jO X scope x N' cap)(hc:X.calm=ah)(hi:PI X (.Name x px) iter wi)(ht:∀C s₀ H₀ ex pn,sk (cP X scope N' C s₀ H₀ ex pn) ifs ts) (he:∀C s₀ H₀ ex pn,PE (cP X scope N' C s₀ H₀ ex pn) elt te) (hN:X.N.Nodup) (hiy:X.N[i₀]?=aa y) (hxy:Loc X.env.scope y) (hsw:kR (.ListComp elt [⟨.Name x px,iter,ifs,0⟩] scope pos) (aa (.Name y py)) spos.line X.env=pure ah) (hf:X.fn y=ah\/X.env.scope.names.lookup y=aa .local) (hs:∀x,qt iter X.env x=pure x):PS X (.Assign [.Name y py] (.ListComp elt [⟨.Name x px,iter,ifs,0⟩] scope pos) spos) (λD σ H=>wc wi ts te cap σ H λv H'=>D.nx (σ.set i₀ (aa v)) H'):=by
 intro ag s σ H D I h;rw[exec_Assign_Name_used _ _ _ _ hsw];refine ap (wpAny_standAt (ap ?_));show aq _ X.A (do let _ ←comprehension (.ListComp elt [⟨.Name x px,iter,ifs,0⟩] scope pos) scope X.env _ (newList []) aj (aT iter X.env) (aa (mQ (.Name y py) X.env))) _ _ s;refine ap (dY (?_:aq _ X.A _ (λ_ s'=>SP X ag D .next s') X.xe s) (λ_ s' hq=>aD (aD hq)) λ_ _ e=>e);refine Dz (use:=aa (mQ (.Name y py) X.env)) B hc hi ht he hs I h λ{s3 s6 H3 H5 fp σ5 a f} I3 f3 I6 q=>?_;obtain⟨mm,hn6,_⟩:=I6.loc;have J6:Inv X ag σ _ _:=I3.unblock f3 I6 (ER _ _);have nlc:s3.heap.objs.size≠X.env.locals:=λe=>absurd I3.lt (by rw[←e];exact fc _);have nce:∀z c,X.env.cells.lookup z=aa c->c≠s3.heap.objs.size:=λz c e e2=>by obtain⟨vv,oo,ho,_⟩:=I3.cell z c e;exact absurd (bu ho) (by rw[e2];exact fc _)
 refine Ex (Dr (v:=.ref a) J6 hN hiy hxy rfl (λs7 I7 ⟨a7,sb7,ha7⟩=>?_) hf);have na7:s3.heap.objs.size≠a7:=by
  rcases ha7 with z|z
  ·rw[z];exact nlc
  ·exact(nce _ _ z).symm
 refine⟨mm,hn6.sameBut sb7 na7,λlh sb=>⟨_,_,?_,q⟩⟩;have hC5:H5 s3.heap.objs.size=ae:=I6.free;refine I7.call' (s':={s7 with heap:=lh}) (ch:=[s3.heap.objs.size]) rfl ⟨λb o e n hb hx=>?_,λb o e n hb hx=>?_,λb o e n hx=>n,λb o e hx=>?_,λb xs e=>e,λb o u e=>e,λb ps e=>e⟩ ?_ I7.bare λb hb=>?_
 ·exact(sb.2 b (by simpa using hx)).trans e
 ·exact⟨o.slots,(sb.2 b (by simpa using hx)).trans (by simpa using e)⟩
 ·exact⟨o,(sb.2 b (by simpa using hx)).trans e⟩
 ·intro b u e;refine(I7.hok b u e).stay (λc v hc q=>(sb.2 c ?_).trans q) (λ_ q=>q) λ_ _ q=>q;rintro rfl;rcases hc with z|z
  ·rw[←z,hC5]at e;cases e
  ·rw[hC5]at z;cases z
 ·have e:b=s3.heap.objs.size:=by simpa using hb
  subst e;refine⟨.inr I3.sz,nlc,nce,λp hp e2=>?_⟩;obtain⟨e3,_⟩:=I3.pin p hp;exact absurd (bu e3) (by rw[e2];exact fc _)
end
end L2
namespace Pu
open L2
def cN(ε:ak):List Nat->Option (List bW)
 |[]=>aa []
 |j::cap=>match ε[j]? with
  |some (.val pv)=>(cN ε cap).map (.inl pv::·)
  |some (.own _)=>(cN ε cap).map (.inr j::·)
  |_=>ae
def cX{α:Type}(cap:List Nat)(d:ak->R α)(x:PV):ak->R α:=λε=>(bh (cN ε cap) ε).bind λas _=>(bh (if(cx as).Nodup then eM ε (.inl x::as)else ae) ε).bind λss _=>fS ε (.inl x::as) (d ss)
def bN{α:Type}(r:R α):R α:=match r with
 |.er _ _=>.no
 |r=>r
def im(cap:List Nat)(dt:ak->R Bool)(de:ak->R PV):List PV->List PV->ak->R (List PV)
 |[],aH,ε=>.ok aH ε
 |x::xs,aH,ε=>(bN (cX cap dt x ε)).bind λk ε1=>match k with
  |true=>(bN (cX cap de x ε1)).bind λy ε2=>im cap dt de xs (aH++[y]) ε2
  |false=>im cap dt de xs aH ε1
def cz(cap:List Nat)(di:ak->R (List PV))(dt:ak->R Bool)(de:ak->R PV):ak->R PO:=λε=>(di ε).bind λxs ε1=>(im cap dt de xs [] ε1).bind λys ε2=>.ok (.lst ys) ε2
theorem xj{K:ax}{F:af->Prop}{S:Nat->af->Prop}{ε:ak}{σ:St}{H:Hp}(r:aP K F S ε σ H):∀{cap:List Nat}{as:List bW},cN ε cap=aa as->∃vs,hZ K σ F H as vs/\iK σ cap=vs.map aa
 |[],as,h=>by cases h;exact⟨[],rfl,rfl⟩
 |j::cap,as,h=>by
  unfold cN at h;split at h
  ·rename_i pv e;cases q:cN ε cap with
   |none=>rw[q]at h;cases h
   |some bs=>
    rw[q]at h;cases h;obtain⟨vs,h1,h2⟩:=xj r q;obtain⟨v,e1,e2⟩:=r.val j pv e;refine⟨v::vs,⟨v,vs,rfl,e2,h1⟩,?_⟩;show(σ[j]?).join::iK σ cap=_;rw[e1,h2];rfl
  ·rename_i po e;cases q:cN ε cap with
   |none=>rw[q]at h;cases h
   |some bs=>
    rw[q]at h;cases h;obtain⟨vs,h1,h2⟩:=xj r q;obtain⟨a,e1,e2⟩:=r.own j po e;refine⟨.ref a::vs,⟨_,vs,rfl,e1,h1⟩,?_⟩;show(σ[j]?).join::iK σ cap=_;rw[e1,h2];rfl
  ·cases h
theorem Bd{K:ax}{E:XK}{F:af->Prop}{S:Nat->af->Prop}{ε:ak}{σ:St}{H:Hp}{α:Type}{cap:List Nat}{d:ak->R α}{x:PV}{v:V}{C:α->ak->(af->Prop)->(Nat->af->Prop)->Hp->Prop}(r:aP K F S ε σ H) (rx:aS K H F x v) (h:Ok K E σ F S H (bN (cX cap d x ε)) C):∃Sb ss,aP K F Sb ss (aa v::iK σ cap) H/\Ok K E0 (aa v::iK σ cap) F Sb H (d ss) (λa _ F' _ H'=>∃ε' S',aP K F' S' ε' σ H'/\bp (U S) (U S') F F' H H'/\C a ε' F' S' H'):=by
 unfold cX at h;cases ec:cN ε cap with
 |none=>rw[ec]at h;exact h.elim
 |some as=>
  rw[ec]at h;simp only[eK,R.bind_ok]at h;by_cases nd:(cx as).Nodup
  ·rw[if_pos nd]at h;cases es:eM ε (.inl x::as)with
   |none=>rw[es]at h;exact h.elim
   |some ss=>
    rw[es]at h;simp only[eK,R.bind_ok]at h;obtain⟨vs,av,ev⟩:=xj r ec;have av':hZ K σ F H (.inl x::as) (v::vs):=⟨v,vs,rfl,rx,av⟩
    have eσ:aa v::iK σ cap=(v::vs).map aa:=by rw[ev];rfl
    have nd':(cx (.inl x::as)).Nodup:=nd;refine⟨kH (.inl x::as) S,ss,by rw[eσ];exact r.cal av' es nd',?_⟩;rw[eσ];cases ed:d ss with
    |no=>rw[ed]at h;exact h.elim
    |er c aI=>
     rw[ed]at h;unfold fS at h;dsimp only at h;by_cases kp:fY (.inl x::as) aI=ah
     ·rw[if_pos kp]at h;exact h.elim
     ·rw[if_neg kp]at h;exact h.elim
    |ok a aI=>
     rw[ed]at h;intro F' S' H' r' g';unfold fS at h;dsimp only at h;by_cases kp:fY (.inl x::as) aI=ah
     ·rw[if_pos kp]at h;obtain⟨S2,r2,g2,_⟩:=r.called av' es nd' r' g' (λ_ z=>z) (lC kp);exact⟨_,S2,r2,g2,h F' S2 H' r2 g2⟩
     ·rw[if_neg kp]at h;exact h.elim
  ·rw[if_neg nd]at h;exact h.elim
def vi(X:Cx)(ifs:List aB):TT:=λσ H Q=>Bx (∀ag s,Inv X ag σ H s->aq (au X.prog X.w) X.A (forIn ifs ah λc r=>if r=ah then do let ok ←lR c X.env (aT c X.env);pure (ForInStep.yield ok)else pure (ForInStep.yield r)) (TP X ag σ Q) X.xe s)
def DF(X:Cx)(E:XK)(ifs:List aB)(d:ak->R Bool):Prop:=∀F S ε σ H Q,aP X.K F S ε σ H->Ok X.K E σ F S H (d ε) (λb _ _ _ H'=>Q b H')->vi X ifs σ H Q
def dH:ak->R Bool:=λε=>.ok ah ε
theorem nL{X:Cx}{E:XK}:DF X E [] dH:=λF S ε σ H Q rl h=>⟨λag s I=>IU ag s σ H Q I (h F S H rl (bp.refl ..))⟩
theorem vg{X:Cx}{E:XK}{c:aB}{d:ak->R Bool}(h:DT X E c d):DF X E [c] d:=λF S ε σ H Q rl q=>⟨λag s I=>NG pQ ag s σ H Q I (h F S ε σ H Q rl q)⟩
theorem Ok.bindB{K:ax}{E:XK}{σ:St}{F F1:af->Prop}{S S1:Nat->af->Prop}{H H1:Hp}{α β:Type}{D:β->ak->(af->Prop)->(Nat->af->Prop)->Hp->Prop}{r:R α}{k:α->ak->R β}(h:Ok K E σ F S H (r.bind k) D)(g:bp (U S) (U S1) F F1 H H1):Ok K E σ F1 S1 H1 r (λa ε1 _ _ _=>Ok K E σ F S H (k a ε1) D):=by
 cases r with
 |no=>exact h
 |er c ε'=>exact λx F' S' H' r' g'=>h x F' S' H' r' (g.trans g')
 |ok a ε'=>exact λF' S' H' r' g'=>h
section
variable{X:Cx}{E:XK}{scope:dX}{x:Str}{N':List Str}{cap:List Nat}
theorem bp.stay{O O' F F':af->Prop}{H H':Hp}(g:bp O O' F F' H H'){l:af}{o:HO}(e:H l=aa o)(n:¬O l)(nF:¬F l):H' l=aa o/\¬F' l/\¬O' l :=
 ⟨g.keep l o e n,λz=>(g.fnew l z).elim nF λw=>w.elim (λq=>by rw[e]at q;cases q) n,λz=>(g.onew l z).elim n λq=>by rw[e]at q;cases q⟩
theorem Ct{elt iter:aB}{px:Pos}{ifs:List aB}{di:ak->R (List PV)}{dt:ak->R Bool}{de:ak->R PV}(hi:DI X E (.Name x px) iter di)(ht:∀C s₀ H₀ ex pn,DF (cP X scope N' C s₀ H₀ ex pn) E0 ifs dt) (he:∀C s₀ H₀ ex pn,DE (cP X scope N' C s₀ H₀ ex pn) E0 elt de){F:af->Prop}{S:Nat->af->Prop}{ε:ak}{σ:St}{H:Hp}{Q:VK} (rl:aP X.K F S ε σ H) (h:Ok X.K E σ F S H (cz cap di dt de ε) (λpo _ F' S' H'=>∀a Sa,eP X.K H' F' po a Sa->(∀b,Sa b->H b=ae/\¬F' b/\¬U S' b/\∃o,H' b=aa o/\dQ o)->Q (.ref a) H')):wc (qi X (.Name x px) iter) (λσ H Q=>∀C s₀ H₀ ex pn,vi (cP X scope N' C s₀ H₀ ex pn) ifs σ H Q) (λσ H Q=>∀C s₀ H₀ ex pn,iJ (cP X scope N' C s₀ H₀ ex pn) elt σ H Q) cap σ H Q:=by
 refine hi F S ε σ H _ rl ((Ok.bind h).imp λxs ε1 F1 S1 H1 r1 g1 h1 J vs RR rs hz hw keep l hl=>?_);have h1:=h1.bind;have hvl:vs.length=xs.length:=rs.len;have a0:Al F1 F1 H1 (upd H1 l (.lst [])):=Al.new0 hl;have nF1:¬F1 l:=λz=>by obtain⟨o,q⟩:=r1.ex l z;rw[hl]at q;cases q
 have nS1:¬U S1 l:=λ⟨i,z⟩=>by obtain⟨_,_,o,q,_⟩:=r1.foot i l z;rw[hl]at q;cases q
 have hH:H l=ae:=mC g1 hl;refine⟨λi m ys H'=>m=xs.length-i/\i<=xs.length/\∃F' S' ε' aH,aP X.K F' S' ε' σ H'/\bp (U S1) (U S') F1 F' H1 H'/\H' l=aa (.lst ys)/\¬F' l/\¬U S' l/\Reps X.K H' F' aH ys/\ys.length<=i /\ Ok X.K E σ F1 S1 H1 (im cap dt de (xs.drop i) aH ε') (λys' ε2 F2 S2 H2=>Ok X.K E σ F2 S2 H2 (R.ok (PO.lst ys') ε2) (λpo _ F' S' H'=>∀a Sa,eP X.K H' F' po a Sa->(∀b,Sa b->H b=ae/\¬F' b/\¬U S' b/\∃o,H' b=aa o/\dQ o)->Q (.ref a) H')),⟨_,rfl,kY _,F1,S1,ε1,[],r1.al a0,a0.grow,cC,nF1,nS1,rfl,a_ _,h1⟩,?_⟩;rintro i m ys H2 ⟨rfl,hi,F2,S2,ε2,aH,r2,g2,el,nF2,nS2,racc,hyl,q2⟩;have RH:=keep S2 F2 H2 g2;by_cases bb:i<xs.length
 ·obtain⟨v,hv⟩:∃v,vs[i]?=aa v:=⟨_,d7 ∅⟩
  obtain⟨go,yl⟩:=(hw H2 RH i).1 v hv;refine .inr ⟨go,λv' H' y=>?_⟩;obtain⟨e1,e2⟩:=yl v' H' y;subst e1 e2;obtain⟨px',hx,rx⟩:=rs.back hv;have ed:xs.drop i=px'::xs.drop (i+1):=by rw[wF bb];congr 1;exact(c_.mp hx).2
  rw[ed]at q2;have rx2:=rx.grow g2 r1.fit;have q3:=Ok.bindB q2 g2;obtain⟨Sb,ss,rb,okb⟩:=Bd r2 rx2 q3;intro C s₀ H₀ ex pn;refine ht C s₀ H₀ ex pn F2 Sb ss _ H' _ rb (okb.imp λb _ F3 _ H3 _ _ ⟨ε3,S3,r3,g3,q4⟩=>?_);obtain⟨el3,nF3,nS3⟩:=g3.stay el nS2 nF2;cases b with
  |false=>exact pG ⟨_,∅,rfl,bb,F3,S3,ε3,aH,r3,g2.trans g3,el3,nF3,nS3,racc.grow g3 r2.fit,∅,q4⟩
  |true=>
   refine pX ?_;have q5:Ok X.K E σ F1 S1 H1 ((bN (cX cap de px' ε3)).bind λy ε2=>im cap dt de (xs.drop (i+1)) (aH++[y]) ε2) _:=q4;obtain⟨Sc,sc,rc,okc⟩:=Bd r3 (rx2.grow g3 r2.fit) (Ok.bindB q5 (g2.trans g3));intro C s₀ H₀ ex pn;refine he C s₀ H₀ ex pn F3 Sc sc _ H3 _ rc (okc.imp λy _ F4 _ H4 _ _ ⟨ε4,S4,r4,g4,q6⟩ u ru=>?_);obtain⟨el4,nF4,nS4⟩:=g4.stay el3 nS3 nF3;have racc4:=(racc.grow g3 r2.fit).grow g4 r3.fit;have gl:bp (λb=>U S4 b\/b=l) (U S4) F4 F4 H4 (upd H4 l (.lst (ys++[u]))):=⟨λ_ z=>z,λb o e n=>by rw[b7 λz=>n (.inr z)];exact e,λb o e=>by
    by_cases hb:b=l
    ·subst hb;exact⟨_,cC⟩
    ·exact⟨o,by rw[b7 hb];exact e⟩,λ_ z=>.inl z,λ_ z=>.inl (.inl z)⟩
   have fit4:mD (λb=>U S4 b\/b=l) F4 H4:=λb z=>by
    rcases z with z|rfl
    ·exact r4.fit b z
    ·exact⟨nF4,_,el4,trivial⟩
   have r5:aP X.K F4 S4 ε4 σ (upd H4 l (.lst (ys++[u]))):=by
    refine⟨r4.len,λb z=>let ⟨o,q⟩:=r4.ex b z;gl.there b o q,λj pv e=>?_,λj po e=>?_,λj b z=>?_,r4.dist⟩
    ·obtain⟨w,x1,x2⟩:=r4.val j pv e;exact⟨w,x1,x2.grow gl fit4⟩
    ·obtain⟨w,x1,x2⟩:=r4.own j po e;refine⟨w,x1,x2.mono (λ_ _ q=>q.grow gl fit4) (λ_ _ q=>q.grow gl fit4) λb o z q=>?_⟩;rw[b7 (by rintro rfl;exact nS4 ⟨j,z⟩)];exact q
    ·obtain⟨x1,x2,o,x3,x4⟩:=r4.foot j b z;exact⟨x1,x2,o,by rw[b7 (by rintro rfl;exact nS4 ⟨j,z⟩)];exact x3,x4⟩
   have g5:bp (U S1) (U S4) F1 F4 H1 (upd H4 l (.lst (ys++[u]))):=by
    have gg:=(g2.trans g3).trans g4;refine⟨gg.fro,λb o e n=>?_,λb o e=>?_,gg.fnew,gg.onew⟩
    ·rw[b7 (by rintro rfl;rw[hl]at e;cases e)];exact gg.keep b o e n
    ·obtain⟨o',q⟩:=gg.there b o e;exact gl.there b o' q
   refine⟨el4,?_,_,∅,rfl,bb,F4,S4,ε4,aH++[y],r5,g5,cC,nF4,nS4,(racc4.grow gl fit4).app (.one (ru.grow gl fit4)),by simp;lia,q6⟩;lia
 ·have e:i=xs.length:=∅
  subst e;refine .inl ⟨(hw H2 RH _).2 hvl.symm,?_⟩;rw[List.drop_length]at q2;exact q2 F2 S2 H2 r2 g2 F2 S2 H2 r2 (bp.refl ..) l (λb=>b=l) ⟨⟨ys,el,racc⟩,λb=>Iff.rfl⟩ λb z=>by subst z;exact⟨hH,nF2,nS2,_,el,trivial⟩
theorem km{elt iter:aB}{px pos:Pos}{ifs:List aB}{di:ak->R (List PV)}{dt:ak->R Bool}{de:ak->R PV}(B:jO X scope x N' cap)(hc:X.calm=ah)(hi:DI X E (.Name x px) iter di)(ht:∀C s₀ H₀ ex pn,DF (cP X scope N' C s₀ H₀ ex pn) E0 ifs dt) (he:∀C s₀ H₀ ex pn,DE (cP X scope N' C s₀ H₀ ex pn) E0 elt de) (hs:∀x,qt iter X.env x=pure x:=by intro _;rfl):DN X E (.ListComp elt [⟨.Name x px,iter,ifs,0⟩] scope pos) (cz cap di dt de):=λF S ε σ H Q rl h=>b9 (JB (wi:=qi X (.Name x px) iter) (ts:=λσ H Q=>∀C s₀ H₀ ex pn,vi (cP X scope N' C s₀ H₀ ex pn) ifs σ H Q) (te:=λσ H Q=>∀C s₀ H₀ ex pn,iJ (cP X scope N' C s₀ H₀ ex pn) elt σ H Q) (pos:=pos) B hc zv (λC s₀ H₀ ex pn ag s σ H Q I h=>(h C s₀ H₀ ex pn).run ag s I) (λC s₀ H₀ ex pn ag s σ H Q I h=>(h C s₀ H₀ ex pn).run ag s I) hs) (Ct hi ht he rl h)
end
theorem HC(x y:Tx):tS x++tS y=tS (x++y):=by
 show(⟨x.toArray++y.toArray⟩:Str)=⟨(x++y).toArray⟩
 simp
def a9:PV->PV->Option PV
 |.int i,.int j=>aa (.int (i+j))
 |.str x,.str y=>if(x++y).length<=cq then aa (.str (x++y))else ae
 |.tup xs,.tup ys=>if xs≠[]/\ys≠[]/\xs.length+ys.length<=1000 then aa (.tup (xs++ys))else ae
 |.lst xs,.lst ys=>if xs.length+ys.length<=cq then aa (.lst (xs++ys))else ae
 |_,_=>ae
def ir:PV->PV->Option PV
 |.int i,.int j=>aa (.int (i-j))
 |_,_=>ae
def sG(i:Int):Bool:=decide (-(2^64)<i/\i<2^64)
def jS:PV->PV->Option PV
 |.int i,.int j=>if sG i||sG j then aa (.int (i*j))else ae
 |.str x,.int j=>if 0<=j/\j<=100/\x.length<=100 then aa (.str (bV j.toNat x).flatten)else ae
 |_,_=>ae
def fG:PV->PV->Option PV
 |.int i,.int j=>if 0<j then aa (.int (i % j))else ae
 |_,_=>ae
def rX:PV->PV->Option PV
 |.int i,.int j=>if 0<=j/\j<=1000000/\i.natAbs<2^64 then aa (.int (i^j.toNat))else ae
 |_,_=>ae
def nV:PV->Option PV
 |.int i=>aa (.int (-i))
 |_=>ae
def CT:R2:=λx y H Q=>∃l b xs zs,x=.ref l/\y=.ref b/\Rd H l (.lst xs)/\Rd H b (.lst zs)/\xs.length+zs.length<=ba/\∀p,H p=ae->Q (.ref p) (upd H p (.lst (xs++zs)))
def B1(K:ax):R2:=λx y H Q=>((ko λi j=>V.int (i+j)) x y H Q\/∃i j,x=.str i/\y=.str j/\i.length+j.length<=ba/\Q (.str (i++j)) H)\/(BF K x y H Q\/CT x y H Q)
def C5:R2:=λx y H Q=>rI yH (λi j=>.int (i*j)) x y H Q\/∃(z:Tx) (n:Nat),x=tV z/\y=.int n/\n<=100/\z.length<=100/\Q (tV (bV n z).flatten) H
section
variable{X:Cx}{K:ax}
theorem pf:P2 K (ko λi j=>.int (i-j)) ir:=λF H x y v u Q pv rx ry e q=>by
 unfold ir at e;split at e
 ·cases e;exact⟨_,_,rx,ry,q _ F H (Al.refl ..) rfl⟩
 ·cases e
theorem qo:P2 K (rI (λ_ j=>0<j) λi j=>.int (i % j)) fG:=λF H x y v u Q pv rx ry e q=>by
 unfold fG at e;split at e
 ·split at e
  ·cases e;exact⟨_,_,rx,ry,by assumption,q _ F H (Al.refl ..) rfl⟩
  ·cases e
 ·cases e
theorem NI:P2 K (rI BW λi j=>.int (i^j.toNat)) rX:=λF H x y v u Q pv rx ry e q=>by
 unfold rX at e;split at e
 ·split at e
  ·cases e;exact⟨_,_,rx,ry,by assumption,q _ F H (Al.refl ..) rfl⟩
  ·cases e
 ·cases e
theorem D6:P1 K (rU λi=>.int (-i)) nV:=λF H x v Q pv rx e q=>by
 unfold nV at e;split at e
 ·cases e;exact⟨_,rx,q _ F H (Al.refl ..) rfl⟩
 ·cases e
theorem yU{ag:List (af×Obj)}{σ:St}{H:Hp}{s:am}{l:af}{xs:List V}(I:Inv X ag σ H s)(h:Rd H l (.lst xs)):∃(its:List ai) (n:Nat),bn xs its/\s.heap.get? l=aa {cls:=.type "list",data:=.seq its.toArray n}/\xs.length<=ba:=by obtain⟨z,its,n,r,e⟩:=h.ok I.hok;exact⟨its,n,r,e,z⟩
theorem Iu:bT X (iS .Add) CT:=by
 intro ag s σ H x y v u Q I rx ry h;obtain⟨l,b,xs,zs,rfl,rfl,hl,hb,hz,q⟩:=h;cases rx;cases ry;obtain⟨its,n,r,e,_⟩:=yU I hl;obtain⟨its2,n2,r2,e2,_⟩:=yU I hb;have hl:=r.length;have jH:=r2.length;refine PySem.P.add_list e e2 ?_ (by rw[ce,ce];lia);have ea:its.toArray++its2.toArray=(its++its2).toArray:=by simp
 rw[ea];exact⟨.ref _,_,I.lnew (t':=s.toks) (r.append r2) (by rw[et];lia),rfl,q _ I.fresh⟩
theorem d_:bT X (iS .Add) (B1 X.K):=(Op.or Ic).or (Oi.or Iu)
theorem d9:P2 K (B1 K) a9:=λF H x y v u Q pv rx ry e q=>by
 unfold a9 at e;split at e
 ·cases e;exact .inl (.inl ⟨_,_,rx,ry,q _ F H (Al.refl ..) rfl⟩)
 ·rename_i x y;split at e
  ·rename_i hl;cases e;refine .inl (.inr ⟨_,_,rx.1,ry.1,?_,?_⟩)
   ·rw[kE,kE];rw[et]at hl;exact cS hl lA
   ·exact q _ F H (Al.refl ..) ⟨by rw[HC];rfl,hl⟩
  ·cases e
 ·rename_i xs ys;split at e
  ·rename_i hl;cases e;obtain⟨a,vs,rfl,ha,ra⟩:=rx;obtain⟨b,ws,rfl,hb,rb⟩:=ry;have la:=ra.len;have lb:=rb.len;refine .inr (.inl ⟨a,b,vs,ws,rfl,rfl,cB.of ha,cB.of hb,λz=>hl.1 (by rw[z]at la;exact oH la.symm),by rw[la,lb];exact x0 hl.2.2,λz=>absurd (by rw[z]at lb;exact oH lb.symm) hl.2.1,λ_ p hp=>?_⟩);exact q _ F _ (Al.new0 hp) ⟨p,_,rfl,cC,(Al.new0 hp).reps (ra.app rb)⟩
  ·cases e
 ·rename_i xs ys;split at e
  ·rename_i hl;cases e;obtain⟨a,vs,rfl,ha,fa,ra⟩:=rx;obtain⟨b,ws,rfl,hb,fb,rb⟩:=ry;have la:=ra.len;have lb:=rb.len;refine .inr (.inr ⟨a,b,vs,ws,rfl,rfl,ha,hb,by rw[la,lb];exact cS hl lA,λp hp=>?_⟩);exact q _ _ _ (Al.new hp) ⟨p,_,rfl,.inl cC,.inr rfl,(Al.new hp).reps (ra.app rb)⟩
  ·cases e
 ·cases e
theorem yg:bT X (iS .Mult) C5:=Oe.or KG
theorem xR:P2 K C5 jS:=λF H x y v u Q pv rx ry e q=>by
 unfold jS at e;split at e
 ·rename_i i j;split at e
  ·rename_i h;cases e;refine .inl ⟨_,_,rx,ry,?_,q _ F H (Al.refl ..) rfl⟩;rw[zW]at h;exact h.imp of_decide_eq_true of_decide_eq_true
  ·cases e
 ·rename_i x j;split at e
  ·rename_i h;cases e;refine .inr ⟨x,j.toNat,rx.1,?_,∅,h.2.2,q _ F H (Al.refl ..) ⟨rfl,?_⟩⟩
   ·rw[show u=V.int j from ry];congr 1;lia
   ·rw[yk];have h1:j.toNat<=100:=∅
    exact cS (zX h1 h.2.2) (by decide)
  ·cases e
 ·cases e
def eV(f:Int->Int->Bool):PV->PV->Option PV
 |.int i,.int j=>aa (.bl (f i j))
 |_,_=>ae
theorem jc{f:Int->Int->Bool}:P2 K (ko λi j=>.bl (f i j)) (eV f):=λF H x y v u Q pv rx ry e q=>by
 unfold eV at e;split at e
 ·cases e;exact⟨_,_,rx,ry,q _ F H (Al.refl ..) rfl⟩
 ·cases e
def cV:PV->Option V
 |.non=>aa .non
 |.bl b=>aa (.bl b)
 |.int i=>aa (.int i)
 |.str x=>aa (tV x)
 |_=>ae
theorem iF{H:Hp}{F:af->Prop}{x:PV}{v w:V}(r:aS K H F x v)(e:cV x=aa w):v=w:=by
 cases x <;> simp[cV]at e <;> subst e
 ·exact r
 ·exact r
 ·exact r
 ·exact r.1
theorem o8{x:PV}{w:V}(e:cV x=aa w):eZ w=ah:=by
 cases x <;> simp[cV]at e <;> subst e <;> rfl
mutual
def cp:PV->PV->Option Bool
 |.tup xs,y=>match y with
  |.tup ys=>eJ xs ys
  |_=>ae
 |.lst xs,y=>match y with
  |.lst ys=>eJ xs ys
  |_=>ae
 |.non,y=>(cV y).map (dy .non)
 |.bl b,y=>(cV y).map (dy (.bl b))
 |.int i,y=>(cV y).map (dy (.int i))
 |.str x,y=>(cV y).map (dy (tV x))
 |.raw _,_=>ae
 |.exc _,_=>ae
def eJ:List PV->List PV->Option Bool
 |[],ys=>aa ys.isEmpty
 |x::xs,ys=>match ys with
  |[]=>aa aj
  |y::ys=>(cp x y).bind λa=>(eJ xs ys).map λb=>a&&b
end
mutual
def fH:PV->Nat
 |.tup xs=>fK xs+1
 |.lst xs=>fK xs+1
 |_=>0
def fK:List PV->Nat
 |[]=>0
 |x::xs=>max (fH x) (fK xs)
end
theorem Er{H:Hp}{d d':Nat}{x y:V}{k:Bool}(h:gM K H d x y k)(hd:d<=d'):gM K H d' x y k:=λX hK ag σ s u v A I ru rv hu=>h X hK ag σ s u v A I ru rv ∅
theorem vj{H:Hp}{F:af->Prop}{w:V}{y:PV}{u:V}{k:Bool}{d:Nat}(fw:eZ w=ah)(e:(cV y).map (dy w)=aa k)(ry:aS K H F y u):gM K H d w u k:=by
 cases q:cV y with
 |none=>rw[q]at e;cases e
 |some z=>
  rw[q]at e;cases e;rw[iF ry q];exact G3 fw (o8 q)
theorem GG{H:Hp}{a:af}{xs ys:List V}(h:Rd H a (.lst xs))(g:Rd H a (.lst ys)):xs=ys:=by
 rcases h with h|⟨o,h⟩ <;> rcases g with g|⟨o',g⟩ <;> rw[h]at g <;> cases g <;> rfl
theorem Nu{a:Bool}{e:Nat->Bool}{n m:Nat}:fo (λj=>if j=0 then a else e (j-1)) (n+1) (m+1)=(a&&fo e n m):=by
 unfold fo;rw[show min (n+1) (m+1)=min n m+1 by lia,zV,qx,wt,if_pos rfl,Bool.and_assoc];congr 1;congr 1
 ·simp
mutual
theorem xY{H:Hp}{F:af->Prop}:∀(x y:PV) {v:V}{k:Bool},cp x y=aa k->aS K H F x v->aS K H F y v->k=ah
 |.tup xs,y,v,k,e,rx,ry=>by
  unfold cp at e;split at e
  ·obtain⟨a,vs,rfl,ha,ra⟩:=rx;obtain⟨b,ws,eb,hb,rb⟩:=ry;cases eb;rw[ha]at hb;cases hb;exact yO xs _ e ra rb
  ·cases e
 |.lst xs,y,v,k,e,rx,ry=>by
  unfold cp at e;split at e
  ·obtain⟨a,vs,rfl,ha,_,ra⟩:=rx;obtain⟨b,ws,eb,hb,_,rb⟩:=ry;cases eb;rw[GG ha hb]at ra;exact yO xs _ e ra rb
  ·cases e
 |.non,y,v,k,e,rx,ry=>by
  unfold cp at e;cases q:cV y with
  |none=>rw[q]at e;cases e
  |some z=>rw[q]at e;cases e;rw[←iF ry q,show v=V.non from rx];rfl
 |.bl b,y,v,k,e,rx,ry=>by
  unfold cp at e;cases q:cV y with
  |none=>rw[q]at e;cases e
  |some z=>rw[q]at e;cases e;rw[←iF ry q,show v=V.bl b from rx];exact beq_self_eq_true b
 |.int b,y,v,k,e,rx,ry=>by
  unfold cp at e;cases q:cV y with
  |none=>rw[q]at e;cases e
  |some z=>rw[q]at e;cases e;rw[←iF ry q,show v=V.int b from rx];exact beq_self_eq_true b
 |.str b,y,v,k,e,rx,ry=>by
  unfold cp at e;cases q:cV y with
  |none=>rw[q]at e;cases e
  |some z=>rw[q]at e;cases e;rw[←iF ry q,show v=tV b from rx.1];exact beq_self_eq_true (tS b)
 |.raw _,_,_,_,e,_,_=>by unfold cp at e;cases e
 |.exc _,_,_,_,e,_,_=>by unfold cp at e;cases e
theorem yO{H:Hp}{F:af->Prop}:∀(xs ys:List PV) {vs:List V}{k:Bool},eJ xs ys=aa k->Reps K H F xs vs->Reps K H F ys vs->k=ah
 |[],ys,vs,k,e,rx,ry=>by
  unfold eJ at e;rw[show vs=[] from rx]at ry;have:=ry.len;cases ys with
  |nil=>cases e;rfl
  |cons=>simp at this
 |x::xs,ys,vs,k,e,rx,ry=>by
  unfold eJ at e;obtain⟨v,r,rfl,h1,h2⟩:=rx;cases ys with
  |nil=>have:=ry.len;simp at this
  |cons y ys=>
   obtain⟨v',r',ev,g1,g2⟩:=ry;cases ev;simp only at e;cases q1:cp x y with
   |none=>rw[q1]at e;cases e
   |some a=>
    cases q2:eJ xs ys with
    |none=>rw[q1,q2]at e;cases e
    |some b=>
     rw[q1,q2]at e;cases e;rw[xY x y q1 h1 g1,yO xs ys q2 h2 g2];rfl
end
mutual
theorem NK{H:Hp}{F:af->Prop}:∀(x y:PV) {v u:V}{k:Bool},cp x y=aa k->aS K H F x v->aS K H F y u->gM K H (fH x) v u k
 |.tup xs,y,v,u,k,e,rx,ry=>by
  have e0:=e;unfold cp at e;split at e
  ·rename_i ys;obtain⟨a,vs,rfl,ha,ra⟩:=id rx;obtain⟨b,ws,rfl,hb,rb⟩:=id ry;by_cases iA:a=b
   ·subst iA;rw[xY _ _ e0 rx ry];exact Bb
   ·obtain⟨f,hf,rfl⟩:=si xs ys e ra rb;unfold fH;exact HN (cB.of ha) (cB.of hb) iA hf
  ·cases e
 |.lst xs,y,v,u,k,e,rx,ry=>by
  have e0:=e;unfold cp at e;split at e
  ·rename_i ys;obtain⟨a,vs,rfl,ha,_,ra⟩:=id rx;obtain⟨b,ws,rfl,hb,_,rb⟩:=id ry;by_cases iA:a=b
   ·subst iA;rw[xY _ _ e0 rx ry];exact Bb
   ·obtain⟨f,hf,rfl⟩:=si xs ys e ra rb;unfold fH;exact FP (.inl ha) (.inl hb) iA hf
  ·cases e
 |.non,y,v,u,k,e,rx,ry=>by unfold cp at e;rw[show v=V.non from rx];exact vj rfl e ry
 |.bl b,y,v,u,k,e,rx,ry=>by unfold cp at e;rw[show v=V.bl b from rx];exact vj rfl e ry
 |.int b,y,v,u,k,e,rx,ry=>by unfold cp at e;rw[show v=V.int b from rx];exact vj rfl e ry
 |.str b,y,v,u,k,e,rx,ry=>by unfold cp at e;rw[show v=tV b from rx.1];exact vj rfl e ry
 |.raw _,_,_,_,_,e,_,_=>by unfold cp at e;cases e
 |.exc _,_,_,_,_,e,_,_=>by unfold cp at e;cases e
theorem si{H:Hp}{F:af->Prop}:∀(xs ys:List PV) {vs us:List V}{k:Bool},eJ xs ys=aa k->Reps K H F xs vs->Reps K H F ys us -> ∃f:Nat->Bool,(∀(j:Nat) x y,vs[j]?=aa x->us[j]?=aa y->gM K H (fK xs) x y (f j))/\k=fo f vs.length us.length
 |[],ys,vs,us,k,e,rx,ry=>by
  unfold eJ at e;rw[show vs=[] from rx];refine⟨λ_=>ah,λj x y h=>by simp at h,?_⟩;have:=ry.len;cases e;unfold fo;cases ys with
  |nil=>simp at this;simp[this]
  |cons=>rw[this];simp
 |x::xs,ys,vs,us,k,e,rx,ry=>by
  unfold eJ at e;obtain⟨v,r,rfl,h1,h2⟩:=rx;cases ys with
  |nil=>
   cases e;rw[show us=[] from ry];exact⟨λ_=>ah,λj x y _ h=>by simp at h,by simp[fo]⟩
  |cons y ys=>
   obtain⟨u,r',rfl,g1,g2⟩:=ry;simp only at e;cases q1:cp x y with
   |none=>rw[q1]at e;cases e
   |some a=>
    cases q2:eJ xs ys with
    |none=>rw[q1,q2]at e;cases e
    |some b=>
     rw[q1,q2]at e;cases e;obtain⟨f,hf,rfl⟩:=si xs ys q2 h2 g2;refine⟨λj=>if j=0 then a else f (j-1),λj p q hp hq=>?_,by rw[ff,ff,Nu]⟩;cases j with
     |zero=>simp at hp hq;subst hp hq;show gM K H _ _ _ (if(0:Nat)=0 then a else f (0-1));rw[if_pos rfl];exact Er (NK x y q1 h1 g1) (by unfold fK;exact Nat.le_max_left _ _)
     |succ j=>show gM K H _ _ _ (if j+1=0 then a else f (j+1-1));rw[if_neg ∅];exact Er (hf j p q (by simpa using hp) (by simpa using hq)) (show fK xs<=max (fH x) (fK xs)from Nat.le_max_right _ _)
end
def eqT(neg:Bool)(x y:PV):Option PV:=match cV x,cV y with
 |some v,aa u=>if sm v u then aa (.bl (neg^^decide (v=u)))else ae
 |none,ae=>if fH x<=8 then(cp x y).map λk=>.bl (neg^^k)else ae
 |_,_=>ae
def DL(K:ax):R2:=λx y H Q=>CY x y H Q\/rR K aj x y H Q
def A_(K:ax):R2:=λx y H Q=>B2 x y H Q\/rR K ah x y H Q
theorem lM(hu:X.A.units+64<cLine):bT X (eh .Eq) (DL X.K):=Ol.or (Gb hu)
theorem rP(hu:X.A.units+64<cLine):bT X (eh .NotEq) (A_ X.K):=Ox.or (Lc hu)
theorem DM{H:Hp}{F:af->Prop}{x y:PV}{v u:V}{k:Bool}{Q:VK}{neg:Bool}(hx:cV x=ae)(e:cp x y=aa k)(hd:fH x<=8)(rx:aS K H F x v)(ry:aS K H F y u)(q:Q (.bl (neg^^k)) H):rR K neg v u H Q:=by
 have fin:∀{k':Bool},k=k'->Q (.bl (if neg=ah then !k' else k')) H:=λ{k'} z=>by subst z;cases neg <;> simpa using q
 cases x with
 |tup xs=>
  unfold cp at e;split at e
  ·rename_i ys;obtain⟨a,vs,rfl,ha,ra⟩:=rx;obtain⟨b,ws,rfl,hb,rb⟩:=ry;obtain⟨f,hf,ek⟩:=si xs ys e ra rb;unfold fH at hd;exact⟨a,b,vs,ws,fK xs,f,rfl,rfl,.inr ⟨cB.of ha,cB.of hb⟩,∅,hf,fin ek⟩
  ·cases e
 |lst xs=>
  unfold cp at e;split at e
  ·rename_i ys;obtain⟨a,vs,rfl,ha,_,ra⟩:=rx;obtain⟨b,ws,rfl,hb,_,rb⟩:=ry;obtain⟨f,hf,ek⟩:=si xs ys e ra rb;unfold fH at hd;exact⟨a,b,vs,ws,fK xs,f,rfl,rfl,.inl ⟨.inl ha,.inl hb⟩,∅,hf,fin ek⟩
  ·cases e
 |raw _=>unfold cp at e;cases e
 |exc _=>unfold cp at e;cases e
 |non=>cases hx
 |bl _=>cases hx
 |int _=>cases hx
 |str _=>cases hx
theorem lw:P2 K (DL K) (eqT aj):=λF H x y v u Q pv rx ry e q=>by
 unfold eqT at e;split at e
 ·rename_i a b ea eb;split at e
  ·rename_i hs;cases e;rw[iF rx ea,iF ry eb];refine .inl ⟨hs,?_⟩;have:=q (.bl (decide (a=b))) F H (Al.refl ..) (by simp[aS]);exact this
  ·cases e
 ·rename_i ea eb;split at e
  ·rename_i hd;cases ek:cp x y with
   |none=>rw[ek]at e;cases e
   |some k=>
    rw[ek]at e;cases e;exact .inr (DM (neg:=aj) ea ek hd rx ry (q _ F H (Al.refl ..) rfl))
  ·cases e
 ·cases e
theorem sq:P2 K (A_ K) (eqT ah):=λF H x y v u Q pv rx ry e q=>by
 unfold eqT at e;split at e
 ·rename_i a b ea eb;split at e
  ·rename_i hs;cases e;rw[iF rx ea,iF ry eb];refine .inl ⟨hs,?_⟩;have:=q (.bl (!decide (a=b))) F H (Al.refl ..) (by simp[aS]);exact this
  ·cases e
 ·rename_i ea eb;split at e
  ·rename_i hd;cases ek:cp x y with
   |none=>rw[ek]at e;cases e
   |some k=>
    rw[ek]at e;cases e;exact .inr (DM (neg:=ah) ea ek hd rx ry (q _ F H (Al.refl ..) rfl))
  ·cases e
 ·cases e
end
end Pu
namespace Pu
open L2
section
variable{X:Cx}{K:ax}
def uv(i j:Tx):Bool:=!(Ez (tS j) (tS i) 0 (tS j).length 1).isEmpty
def gU:List PV->Option (List V)
 |[]=>aa []
 |x::xs=>(cV x).bind λv=>(gU xs).map λr=>v::r
theorem rL{H:Hp}{F:af->Prop}:∀{xs:List PV}{vs ws:List V},Reps K H F xs vs->gU xs=aa ws->vs=ws/\ws.all eZ=ah
 |[],_,_,r,e=>by cases e;exact⟨r,rfl⟩
 |x::xs,_,ws,⟨v,r,rfl,h1,h2⟩,e=>by
  unfold gU at e;cases q:cV x with
  |none=>rw[q]at e;cases e
  |some w=>
   cases q2:gU xs with
   |none=>rw[q,q2]at e;cases e
   |some wr=>
    rw[q,q2]at e;cases e;obtain⟨e1,e2⟩:=rL h2 q2;exact⟨by rw[iF h1 q,e1],by rw[qx,o8 q,e2];rfl⟩
def pq(neg:Bool):PV->PV->Option PV
 |.str x,.str y=>aa (.bl (neg^^uv x y))
 |x,.lst ys=>(cV x).bind λv=>(gU ys).map λws=>.bl (neg^^rZ v ws)
 |x,.tup ys=>(cV x).bind λv=>(gU ys).map λws=>.bl (neg^^rZ v ws)
 |_,_=>ae
def D9(K:ax):R2:=λx y H Q=>(∃i j,x=.str i/\y=.str j/\Q (.bl (!(Ez j i 0 j.length 1).isEmpty)) H)\/yf K aj x y H Q
theorem Mb:bT X (eh .In) (D9 X.K):=Oh.or Mi
theorem BG{H:Hp}{F:af->Prop}{x:PV}{ys:List PV}{v:V}{p:af}{us:List V}{Q:VK}{neg:Bool}{pv:PV}(rx:aS K H F x v)(hp:cc K H p us\/cB K H p us)(ru:Reps K H F ys us)(e:((cV x).bind λv=>(gU ys).map λws=>PV.bl (neg^^rZ v ws))=aa pv) (q:∀w,aS K H F pv w->Q w H):yf K neg v (.ref p) H Q:=by
 cases q1:cV x with
 |none=>rw[q1]at e;cases e
 |some w=>
  cases q2:gU ys with
  |none=>rw[q1,q2]at e;cases e
  |some ws=>
   rw[q1,q2]at e;cases e;obtain⟨rfl,hf⟩:=rL ru q2;rw[iF rx q1];refine⟨p,us,rfl,hp,o8 q1,hf,?_⟩;have:=q _ rfl;cases neg <;> simpa using this
theorem FV:P2 K (D9 K) (pq aj):=λF H x y v u Q pv rx ry e q=>by
 unfold pq at e;split at e
 ·cases e;exact .inl ⟨_,_,rx.1,ry.1,by have:=q _ F H (Al.refl ..) rfl;simpa[uv]using this⟩
 ·obtain⟨a,us,rfl,ha,_,ra⟩:=ry;exact .inr (BG (neg:=aj) rx (.inl (.inl ha)) ra e λw rw'=>q w F H (Al.refl ..) rw')
 ·obtain⟨a,us,rfl,ha,ra⟩:=ry;exact .inr (BG (neg:=aj) rx (.inr (cB.of ha)) ra e λw rw'=>q w F H (Al.refl ..) rw')
 ·cases e
def bI:List PV->Option PV
 |[.str x]=>aa (.int x.length)
 |[.lst xs]=>aa (.int xs.length)
 |[.tup xs]=>aa (.int xs.length)
 |_=>ae
theorem ig{H:Hp}{F:af->Prop}{x:PV}{vs:List V}(r:Reps K H F [x] vs):∃v,vs=[v]/\aS K H F x v:=by obtain⟨v,r',rfl,h1,h2⟩:=r;rw[show r'=[] from h2];exact⟨v,rfl,h1⟩
theorem gZ:PL K (λxs H Q=>∃x n,xs=[x]/\Bw K x H n/\Q (.int n) H) bI:=λF H xs vs Q pv rs e q=>by
 unfold bI at e;split at e
 ·cases e;obtain⟨v,rfl,rv⟩:=ig rs;rw[rv.1];exact⟨_,_,rfl,⟨by rw[kE];exact cS rv.2 lA,rfl⟩,by rw[kE];exact q _ F H (Al.refl ..) rfl⟩
 ·cases e;obtain⟨v,rfl,a,us,rfl,ha,_,ra⟩:=ig rs;exact⟨_,_,rfl,.inl ⟨us,.inl ha,rfl⟩,by rw[ra.len];exact q _ F H (Al.refl ..) rfl⟩
 ·cases e;obtain⟨v,rfl,a,us,rfl,ha,ra⟩:=ig rs;exact⟨_,_,rfl,.inr ⟨us,cB.of ha,rfl⟩,by rw[ra.len];exact q _ F H (Al.refl ..) rfl⟩
 ·cases e
def pV:List PV->Option PO
 |[.lst xs]=>aa (.lst xs)
 |[.tup xs]=>aa (.lst xs)
 |_=>ae
theorem CV:kw K (λxs H Q=>∃p ys,xs=[.ref p]/\(cc K H p ys\/cB K H p ys)/\∀l,H l=ae->Q (.ref l) (upd H l (.lst ys))) pV:=λF H xs vs Q po hF rs e q=>by
 unfold pV at e;split at e
 ·cases e;obtain⟨v,rfl,a,us,rfl,ha,_,ra⟩:=ig rs;exact⟨a,us,rfl,.inl (.inl ha),λl hl=>q l F _ _ (Al.new0 hl) (uW hl ra) (vc hl hF trivial)⟩
 ·cases e;obtain⟨v,rfl,a,us,rfl,ha,ra⟩:=ig rs;exact⟨a,us,rfl,.inr (cB.of ha),λl hl=>q l F _ _ (Al.new0 hl) (uW hl ra) (vc hl hF trivial)⟩
 ·cases e
def mH:List PV->Option PV
 |[.lst xs]=>aa (.tup xs)
 |[.tup xs]=>aa (.tup xs)
 |_=>ae
theorem y6:PL K (λxs H Q=>∃p ys,xs=[.ref p]/\((cc K H p ys/\∀l,H l=ae->Q (.ref l) (upd H l (.tup ys)))\/(cB K H p ys/\Q (.ref p) H))) mH:=λF H xs vs Q pv rs e q=>by
 unfold mH at e;split at e
 ·cases e;obtain⟨v,rfl,a,us,rfl,ha,_,ra⟩:=ig rs;exact⟨a,us,rfl,.inl ⟨.inl ha,λl hl=>q _ F _ (Al.new0 hl) ⟨l,us,rfl,cC,(Al.new0 hl).reps ra⟩⟩⟩
 ·cases e;obtain⟨v,rfl,a,us,rfl,ha,ra⟩:=ig rs;exact⟨a,us,rfl,.inr ⟨cB.of ha,q _ F H (Al.refl ..) ⟨a,us,rfl,ha,ra⟩⟩⟩
 ·cases e
def ip:List PV->Option (List Tx)
 |[]=>aa []
 |.str x::xs=>(ip xs).map (x::·)
 |_=>ae
def ao(ls:List Tx):List PV:=ls.map .str
theorem uK(ls:List Tx):ip (ao ls)=aa ls:=by
 induction ls with
 |nil=>rfl
 |cons x ls ih=>show(ip (ao ls)).map (x::·)=_;rw[ih];rfl
theorem uB:∀{xs:List PV}{ls:List Tx},ip xs=aa ls->xs=ao ls
 |[],ls,e=>by cases e;rfl
 |.str x::xs,ls,e=>by
  unfold ip at e;cases q:ip xs with
  |none=>rw[q]at e;cases e
  |some r=>rw[q]at e;cases e;rw[uB q];rfl
 |.non::_,_,e=>by cases e
 |.bl _::_,_,e=>by cases e
 |.int _::_,_,e=>by cases e
 |.tup _::_,_,e=>by cases e
 |.lst _::_,_,e=>by cases e
 |.raw _::_,_,e=>by cases e
 |.exc _::_,_,e=>by cases e
theorem Of{H:Hp}{F:af->Prop}:∀{ls:List Tx}{vs:List V},Reps K H F (ao ls) vs↔vs=dA ls/\∀x∈ls,x.length<=cq
 |[],vs=>by simp[ao,Reps,dA]
 |x::ls,vs=>by
  show(∃v r,vs=v::r/\(v=tV x/\x.length<=cq)/\Reps K H F (ao ls) r)↔_;constructor
  ·rintro⟨v,r,rfl,⟨rfl,h1⟩,h2⟩;obtain⟨rfl,h3⟩:=Of.mp h2;exact⟨rfl,λy hy=>by
    rcases bF.mp hy with rfl|hy
    ·exact h1
    ·exact h3 y hy⟩
  ·rintro⟨rfl,h⟩;exact⟨tV x,dA ls,rfl,⟨rfl,h x (by simp)⟩,Of.mpr ⟨rfl,λy hy=>h y (by simp[hy])⟩⟩
def lp:List PV->Option (List Bool)
 |[]=>aa []
 |.bl b::xs=>(lp xs).map (b::·)
 |_=>ae
theorem Cv{H:Hp}{F:af->Prop}:∀{xs:List PV}{vs:List V}{bs:List Bool},Reps K H F xs vs->lp xs=aa bs->vs=bs.map V.bl
 |[],_,_,r,e=>by cases e;exact r
 |.bl b::xs,_,bs,⟨v,r,rfl,h1,h2⟩,e=>by
  unfold lp at e;cases q:lp xs with
  |none=>rw[q]at e;cases e
  |some r'=>rw[q]at e;cases e;rw[Cv h2 q,show v=V.bl b from h1];rfl
 |.non::_,_,_,_,e=>by cases e
 |.str _::_,_,_,_,e=>by cases e
 |.int _::_,_,_,_,e=>by cases e
 |.tup _::_,_,_,_,e=>by cases e
 |.lst _::_,_,_,_,e=>by cases e
 |.raw _::_,_,_,_,e=>by cases e
 |.exc _::_,_,_,_,e=>by cases e
def n6:List PV->Option PV
 |[.lst xs]=>(lp xs).map λbs=>.bl (bs.all id)
 |_=>ae
theorem zA:PL K (λxs H Q=>∃(p:af) (bs:List Bool),xs=[.ref p]/\cc K H p (bs.map V.bl)/\Q (.bl (bs.all id)) H) n6:=λF H xs vs Q pv rs e q=>by
 unfold n6 at e;split at e
 ·rename_i ys;cases q1:lp ys with
  |none=>rw[q1]at e;cases e
  |some bs=>
   rw[q1]at e;cases e;obtain⟨v,rfl,a,us,rfl,ha,_,ra⟩:=ig rs;rw[Cv ra q1]at ha;exact⟨a,bs,rfl,.inl ha,q _ F H (Al.refl ..) rfl⟩
 ·cases e
def qh:PV->Option String
 |.non=>aa "NoneType"
 |.bl _=>aa "bool"
 |.int _=>aa "int"
 |.str _=>aa "str"
 |.tup _=>aa "tuple"
 |.lst _=>aa "list"
 |_=>ae
def dU:List PV->Option PV
 |[x,.raw (.ty T)]=>(qh x).bind λt=>(d4 [] (.type t) (.type T)).map λb=>.bl b
 |_=>ae
theorem nI:eA X (.builtin "isinstance") (λxs H Q=>∃x t T b,xs=[x,.ty T]/\g8 X.K H x (.type t)/\d4 X.K (.type t) (.type T)=aa b/\Q (.bl b) H):=by
 intro ag s σ H xs us Q I r h;obtain⟨x,t,T,b,rfl,ty,e,q⟩:=h;cases r with
 |cons r1 r2=>
  cases r2 with
  |cons r3 r4=>
   cases r4;cases r3;exact IR I r1 ty e λtk=>⟨.bl b,H,I.tok _,rfl,q⟩
theorem Jt{H:Hp}{F:af->Prop}{x:PV}{v:V}{t:String}(r:aS K H F x v)(e:qh x=aa t):g8 K H v (.type t):=by
 cases x with
 |non=>cases e;rw[show v=V.non from r];exact .non
 |bl b=>cases e;rw[show v=V.bl b from r];exact .bl b
 |int b=>cases e;rw[show v=V.int b from r];exact .int b
 |str b=>cases e;rw[show v=tV b from r.1];exact .str _
 |tup xs=>cases e;obtain⟨a,vs,rfl,ha,_⟩:=r;exact .tup ha
 |lst xs=>
  cases e;obtain⟨a,vs,rfl,ha,_⟩:=r;rcases ha with ha|⟨o,ha⟩
  ·exact .lst ha
  ·exact .frz ha
 |raw _=>cases e
 |exc _=>cases e
theorem nY:PL K (λxs H Q=>∃x t T b,xs=[x,.ty T]/\g8 K H x (.type t)/\d4 K (.type t) (.type T)=aa b/\Q (.bl b) H) dU:=λF H xs vs Q pv rs e q=>by
 unfold dU at e;split at e
 ·rename_i x T;cases q1:qh x with
  |none=>rw[q1]at e;cases e
  |some t=>
   cases q2:d4 [] (.type t) (.type T)with
   |none=>rw[q1,iy,q2]at e;cases e
   |some b=>
    rw[q1,iy,q2]at e;cases e;obtain⟨v,r',rfl,h1,h2⟩:=rs;obtain⟨u,rfl,h3⟩:=ig h2;rw[show u=V.ty T from h3];exact⟨v,t,T,b,rfl,Jt h1 q1,q2,q _ F H (Al.refl ..) rfl⟩
 ·cases e
theorem nK{E:XK}{x:Str}{T:String}{pos:Pos}(hm:X.mg x=ae)(hv:eB x=aa (.type T))(hg:Gl X x:=by rfl)(hn:x≠"__name__":=by decide)(hd:(x == ("__debug__" : Str))=aj:=by decide):DE X E (.Name x pos) (dC (.raw (.ty T))):=λF S ε σ H Q r q=>b9 (Jo (v:=.ty T) hg hm hv rfl hn hd) (q F S H r (bp.refl ..) _ rfl)
def cu:PV->PV->Option PV
 |.lst xs,.int i=>fW xs i
 |.tup xs,.int i=>fW xs i
 |.str x,.int i=>(fW x i).map λc=>.str [c]
 |_,_=>ae
theorem Bg{H:Hp}{F:af->Prop}{xs:List PV}{vs:List V}{i:Int}{x:PV}(r:Reps K H F xs vs)(e:fW xs i=aa x):∃v,fW vs i=aa v/\aS K H F x v:=by
 unfold fW at e ⊢;rw[r.len];cases q:jo xs.length i with
 |none=>rw[q]at e;cases e
 |some j=>rw[q]at e;exact r.get e
theorem iQ:P2 K (DH K) cu:=λF H x y v u Q pv rx ry e q=>by
 unfold cu at e;split at e
 ·rename_i xs i;obtain⟨a,us,rfl,ha,_,ra⟩:=rx;obtain⟨w,e1,e2⟩:=Bg ra e;exact .inl ⟨a,us,i,w,rfl,ry,.inl ha,e1,q _ F H (Al.refl ..) e2⟩
 ·rename_i xs i;obtain⟨a,us,rfl,ha,ra⟩:=rx;obtain⟨w,e1,e2⟩:=Bg ra e;exact .inr (.inl ⟨a,us,i,w,rfl,ry,cB.of ha,e1,q _ F H (Al.refl ..) e2⟩)
 ·rename_i x i;cases q1:fW x i with
  |none=>rw[q1]at e;cases e
  |some c=>
   rw[q1]at e;cases e;rw[rx.1];exact .inr (.inr ⟨_,i,c,rfl,ry,by rw[kE];exact cS rx.2 lA,by rw[lI];exact q1,q _ F H (Al.refl ..) ⟨rfl,by show 1<=cq;decide⟩⟩)
 ·cases e
def fu{α:Type}(xs:List α)(lo hi:Option Int):List α:=(xs.drop (HT.sIx xs.length 0 lo)).take (HT.sIx xs.length xs.length hi-HT.sIx xs.length 0 lo)
theorem Kj{α:Type}(xs:List α)(lo hi:Option Int):(fu xs lo hi).length<=xs.length:=by unfold fu;rw[mS,j3];lia
def ie:PV->Option Int->Option Int->Option PV
 |.str x,lo,hi=>aa (.str (fu x lo hi))
 |.lst xs,lo,hi=>aa (.lst (fu xs lo hi))
 |.tup xs,lo,hi=>if HT.sIx xs.length 0 lo=0/\HT.sIx xs.length xs.length hi=xs.length then ae else aa (.tup (fu xs lo hi))
 |_,_,_=>ae
def Cd(K:ax):V->Option Int->Option Int->Hp->VK->Prop:=λx lo hi H Q=>CB x lo hi H Q\/(B7 K x lo hi H Q\/Dj K x lo hi H Q)
theorem v8:lz X (Cd X.K):=Od.or (Og.or IL)
theorem Bu{H:Hp}{F:af->Prop}{xs:List PV}{vs:List V}(r:Reps K H F xs vs)(lo hi:Option Int):Reps K H F (fu xs lo hi) (mz vs lo hi):=by unfold fu mz;rw[r.len];exact(r.drop _).take _
theorem vU:CH K (Cd K) ie:=λF H x lo hi v Q pv rx e q=>by
 unfold ie at e;split at e
 ·cases e;rw[rx.1];refine .inl ⟨_,rfl,by rw[kE];exact cS rx.2 lA,?_⟩;refine q _ F H (Al.refl ..) ⟨?_,cS (Kj ..) rx.2⟩;unfold kB fu;rw[kE,lI];rfl
 ·cases e;obtain⟨a,us,rfl,ha,_,ra⟩:=rx;exact .inr (.inl ⟨a,us,rfl,.inl ha,λp hp=>q _ _ _ (Al.new hp) ⟨p,_,rfl,.inl cC,.inr rfl,(Al.new hp).reps (Bu ra lo hi)⟩⟩)
 ·split at e
  ·cases e
  ·rename_i hw;cases e;obtain⟨a,us,rfl,ha,ra⟩:=rx;exact .inr (.inr ⟨a,us,rfl,cB.of ha,by rw[ra.len];exact hw,λp hp=>q _ _ _ (Al.new0 hp) ⟨p,_,rfl,cC,(Al.new0 hp).reps (Bu ra lo hi)⟩⟩)
 ·cases e
variable{E:XK}{tg l a b:aB}{d:ak->R PV}{ds:ak->R (List PV)}{p pos:Pos}
def iq:PV->Option (List PV)
 |.lst xs=>aa xs
 |.tup xs=>aa xs
 |.str x=>aa (x.map λc=>.str [c])
 |_=>ae
def cg(d:ak->R PV):ak->R (List PV):=λε=>(d ε).bind λx ε1=>bh (iq x) ε1
theorem BV{H:Hp}{F:af->Prop}:∀(x:Tx),Reps K H F (x.map λc=>PV.str [c]) (x.map sg)
 |[]=>rfl
 |c::x=>⟨sg c,x.map sg,rfl,⟨rfl,by show 1<=cq;decide⟩,BV x⟩
theorem jd(he:DE X E l d):DI X E tg l (cg d):=λF S ε σ H Rr rl h=>Bx.mk λag s I=>by
 have w:=he F S ε σ H (λv H1=>∃F1 S1 ε1 x,aP X.K F1 S1 ε1 σ H1/\aS X.K H1 F1 x v/\Ok X.K E σ F1 S1 H1 (bh (iq x) ε1) (λpvs _ F' S' H'=>∀J vs RR,Reps X.K H' F' pvs vs->vs.length<=ba->Walk J vs RR->(∀S'' F'' H'',bp (U S') (U S'') F' F'' H' H''->RR H'')->Rr J H')) rl
  ((Ok.bind h).imp λx ε1 F1 S1 H1 r1 g1 h1 v rv=>⟨F1,S1,ε1,x,r1,rv,h1⟩)
 refine aV (w.run ag s I) λv s1 ⟨x,H1,I1,rx,F1,S1,ε1,pv,r1,rv,h1⟩=>?_;cases pv with
 |lst xs=>
  obtain⟨a,us,rfl,ha,hF,ra⟩:=rv;cases rx;obtain⟨its,rr,pp,hz⟩:=I1.list (.inl ha);refine EM pp.isList ?_;refine⟨s1.heap.objs.size,[s1.heap.objs.size],_,_,H1,rfl,I1.kept (t':=s1.toks) λb o e=>bG _ e,J4 a _,⟨_,c0 _ rfl,rfl,rfl⟩,λb hb=>?_,h1 F1 S1 H1 r1 (bp.refl ..) (xy X.K a) us (λH=>cc X.K H a us) ra hz Kf λS2 F2 H2 g2=>.inl (g2.lst r1.fit hF ha)⟩;have e:b=s1.heap.objs.size:=by simpa using hb
  subst e;exact I1.fpOk (a_ _) (I1.hok.fresh (a_ _))
 |tup xs=>
  obtain⟨a,us,rfl,ha,ra⟩:=rv;cases rx;obtain⟨its,rr,pp,hz⟩:=I1.tuple (cB.of ha);refine wpAny_pyIter_tuple (show s1.heap.IsTuple a its.toArray from pp) ?_;refine⟨s1.heap.objs.size,[s1.heap.objs.size],_,_,H1,rfl,I1.kept (t':=s1.toks) λb o e=>bG _ e,Mf a _,⟨_,c0 _ rfl,rfl,rfl⟩,λb hb=>?_,h1 F1 S1 H1 r1 (bp.refl ..) (yK X.K a) us (λH=>cB X.K H a us) ra hz Gi λS2 F2 H2 g2=>cB.of (g2.imm r1.fit ha id)⟩;have e:b=s1.heap.objs.size:=by simpa using hb
  subst e;exact I1.fpOk (a_ _) (I1.hok.fresh (a_ _))
 |str z=>
  obtain⟨rfl,hz⟩:=rv;obtain⟨t,rfl⟩:=rx;have qq:Rr (sJ (tS z)) H1:=h1 F1 S1 H1 r1 (bp.refl ..) (sJ (tS z)) (z.map sg) (λ_=>True) (BV z) (by rw[dw];exact cS hz lA) (by have:=KY (z:=tS z);rw[lI]at this;exact this) λ_ _ _ _=>trivial;have fin:∀(n:String) (St':Nat->aA->Prop),(∀i h,St' i h->∃o n vs,h.get? s1.heap.objs.size=aa o/\o.cls=.type n/\o.data=.fields vs /\ ["enumerate","zip","dict_itemiterator","dict_reverseitemiterator","odict_iterator","itertools.zip_longest","itertools.pairwise"].contains n=aj) ->
    (∀(A:aO) (i:Nat) (s:am) (Q:ai->am->Prop) (E:ai->am->Prop),St' i s.heap->Q (.ref s1.heap.objs.size) s->aq (au X.prog X.w) A (mR (.ref s1.heap.objs.size)) Q E s) ->
    (∀A:aO,A.handled=ae->Walks X.prog X.w A s1.heap.objs.size [s1.heap.objs.size] [s1.heap.objs.size] (tS z).cps.size (SignAt (tS z)) St') ->
    St' 0 (s1.heap.push {cls:=.type n,data:=.fields #[.str (tS z) t,.int 0 0]}) ->
    uH X ag σ tg Rr (.ref s1.heap.objs.size) {s1 with heap:=s1.heap.push {cls:=.type n,data:=.fields #[.str (tS z) t,.int 0 0]}}:=λn St' h1 h2 h3 h4=>by
   refine⟨s1.heap.objs.size,[s1.heap.objs.size],St',sJ (tS z),H1,rfl,I1.kept (t':=s1.toks) λb o e=>bG _ e,LW h1 h2 h3,h4,λb hb=>?_,qq⟩;have e:b=s1.heap.objs.size:=by simpa using hb
   subst e;exact I1.fpOk (a_ _) (I1.hok.fresh (a_ _))
  cases ha:(tS z).cps.all (· < 128)
  ·refine wpAny_pyIter_wide ha (fin "str_iterator" (λi h=>h.IsStrIter s1.heap.objs.size "str_iterator" (tS z) t i) (λi h ⟨o,e1,e2,e3⟩=>⟨o,_,_,e1,e2,e3,by decide⟩) (λA i s Q E st h=>wpAny_pyIter_striter_wide st h) (λA' hA=>Walks.strWide hA _ (tS z) t) ⟨_,c0 _ rfl,rfl,rfl⟩)
  ·refine wpAny_pyIter_ascii ha (fin "str_ascii_iterator" (λi h=>h.IsStrIter s1.heap.objs.size "str_ascii_iterator" (tS z) t i) (λi h ⟨o,e1,e2,e3⟩=>⟨o,_,_,e1,e2,e3,by decide⟩) (λA i s Q E st h=>wpAny_pyIter_striter_ascii st h) (λA' hA=>Walks.strAscii hA _ (tS z) t) ⟨_,c0 _ rfl,rfl,rfl⟩)
 |non=>exact(show False from h1).elim
 |bl _=>exact(show False from h1).elim
 |int _=>exact(show False from h1).elim
 |raw _=>exact(show False from h1).elim
 |exc _=>exact(show False from h1).elim
def dG(lo:Int)(n:Nat):List PV:=(bX n).map λi=>PV.int (lo+(i:Nat))
theorem G0{H:Hp}{F:af->Prop}(lo:Int)(n:Nat):Reps K H F (dG lo n) (pM lo n):=by
 unfold dG pM
 induction (bX n)with
 |nil=>rfl
 |cons x xs ih=>exact⟨_,_,rfl,rfl,ih⟩
def i_:List PV->Option (List PV)
 |[.int j]=>if j<=1000000/\-1000000<=j then aa (dG 0 j.toNat)else ae
 |_=>ae
theorem rO(hm:X.mg "range" = ae)(ha:DA X E [a] ds)(hg:Gl X "range":=by rfl)(hs:aL [a] X.env=[(aj,aT a X.env)]:=by rfl):DI X E tg (.Call (.Name "range" p) [a] [] pos) (dL i_ ds):=λF S ε σ H Rr rl h=>by
 refine Iq (Nq hg hm gy hs) (ha F S ε σ H _ rl ((Ok.bind h).imp λxs ε1 F1 S1 H1 r1 g1 h1 vs kf=>?_));unfold i_ at h1;split at h1
 ·rename_i j;split at h1
  ·rename_i hj;obtain⟨v,rfl,rv⟩:=ig kf;refine⟨j,by rw[show v=V.int j from rv],∅,∅,h1 F1 S1 H1 r1 (bp.refl ..) _ _ _ (G0 0 j.toNat) (by rw[xJ,oy];lia) IX λ_ _ _ _=>trivial⟩
  ·exact h1.elim
 ·exact h1.elim
end
section
variable{K:ax}{F:af->Prop}{S:Nat->af->Prop}{ε:ak}{σ:St}{H:Hp}{i:Nat}{xs xs':List PV}{vs':List V}{a:af}
theorem aP.lstAt(r:aP K F S ε σ H)(e:ε[i]?=aa (.own (.lst xs))):∃a vs,σ[i]?=aa (aa (.ref a))/\H a=aa (.lst vs)/\Reps K H F xs vs/\S i a/\∀b,S i b->b=a:=by obtain⟨a,e1,⟨vs,h1,h2⟩,h3⟩:=r.own i _ e;exact⟨a,vs,e1,h1,h2,(h3 a).mpr rfl,λb h=>(h3 b).mp h⟩
theorem aP.upd(r:aP K F S ε σ H)(e:ε[i]?=aa (.own (.lst xs)))(ea:σ[i]?=aa (aa (.ref a)))(h:Reps K H F xs' vs'):aP K F S (ε.set i (.own (.lst xs'))) σ (upd H a (.lst vs'))/\bp (U S) (U S) F F H (upd H a (.lst vs')):=by
 obtain⟨a',vs,e1,h1,h2,h3,h4⟩:=r.lstAt e;rw[ea]at e1;cases e1;have hi:i<ε.length:=(c_.mp e).1;have g:bp (U S) (U S) F F H (L2.upd H a (.lst vs')):=⟨λ_ z=>z,λb o q n=>by rw[b7 (by rintro rfl;exact n ⟨i,h3⟩)];exact q,λb o q=>by
  by_cases hb:b=a
  ·subst hb;exact⟨_,cC⟩
  ·exact⟨o,by rw[b7 hb];exact q⟩,λ_ z=>.inl z,λ_ z=>.inl z⟩
 refine⟨⟨by rw[fC];exact r.len,λb z=>let ⟨o,q⟩:=r.ex b z;g.there b o q,λj pv q=>?_,λj po q=>?_,λj b z=>?_,r.dist⟩,g⟩
 ·have hj:i≠j:=by rintro rfl;rw[fe hi]at q;cases q
  rw[dJ hj]at q;obtain⟨v,q1,q2⟩:=r.val j pv q;exact⟨v,q1,q2.grow g r.fit⟩
 ·by_cases hj:i=j
  ·subst hj;rw[fe hi]at q;cases q;exact⟨a,ea,⟨vs',cC,h.grow g r.fit⟩,λb=>⟨h4 b,λz=>by rw[z];exact h3⟩⟩
  ·rw[dJ hj]at q;obtain⟨c,q1,q2⟩:=r.own j po q;refine⟨c,q1,q2.mono (λ_ _ z=>z.grow g r.fit) (λ_ _ z=>z.grow g r.fit) λb o z w=>?_⟩;rw[b7 (by rintro rfl;exact hj (r.dist i j b h3 z))];exact w
 ·obtain⟨⟨po,q1⟩,q2,o,q3,q4⟩:=r.foot j b z;by_cases hj:i=j
  ·subst hj;rw[h4 b z];exact⟨⟨_,fe hi⟩,by rw[←h4 b z];exact q2,_,cC,trivial⟩
  ·exact⟨⟨po,by rw[dJ hj];exact q1⟩,q2,o,by rw[b7 (by rintro rfl;exact hj (r.dist i j b h3 z))];exact q3,q4⟩
end
section
variable{X:Cx}{E:XK}{pin:List Nat}{e b:aB}{de db:ak->R PV}{pos:Pos}
def dO(ε:ak)(i:Nat):Option (List PV):=match ε[i]? with
 |some (.own (.lst xs))=>aa xs
 |_=>ae
theorem io{ε:ak}{i:Nat}{xs:List PV}(h:dO ε i=aa xs):ε[i]?=aa (.own (.lst xs)):=by
 unfold dO at h;split at h
 ·cases h;assumption
 ·cases h
def nZ(i:Nat)(de:ak->R PV):ak->R aR:=λε=>(bh (dO ε i) ε).bind λ_ ε=>(de ε).bind λy ε1=>(bh (dO ε1 i) ε1).bind λxs ε1=>if xs.length<cq then .ok .next (ε1.set i (.own (.lst (xs++[y]))))else .no
theorem CL(i:Nat){x:Str}{p apos cpos:Pos}(he:DE X E e de)(hN:X.N[i]?=aa x:=by rfl)(hv:fF X.env.scope x:=by first|exact Or.inl rfl|exact Or.inr (Or.inl rfl)|exact Or.inr (Or.inr rfl))(hd:(x == ("__debug__" : Str))=aj:=by decide)(bS:(x == ("__classdict__" : Str))=aj:=by decide) (h1:kW (.Name x p) "append" X.env (aT (.Name x p) X.env)=aT (.Name x p) X.env:=by rfl)(h2:((cL cpos (aL [e] X.env)).all (λx=>!x.1)&&(qy cpos (qz [] X.env)).all (λx=>x.1.isSome)&&decide ([e].length+([]:List jh).length+(if([]:List jh).isEmpty then 0 else 1)<30))=ah:=by rfl)(h3:(apos.endLine == cpos.line)=ah:=by rfl) (h4:aL [e] X.env=(aj,aT e X.env)::aL [] X.env:=by rfl) (h5:(cL cpos (aL [] X.env)).any (·.1)=aj:=by rfl)(hs:kR (.Call (.Attribute (.Name x p) "append" apos) [e] [] cpos) ae pos.line X.env=pure aj:=by rfl):DS X E pin (.Expr (.Call (.Attribute (.Name x p) "append" apos) [e] [] cpos) pos) (nZ i de):=λF S ε σ H D rl h=>by
 unfold nZ at h;cases e0:dO ε i with
 |none=>rw[e0]at h;exact h.elim
 |some xs0=>
  rw[e0]at h;simp only[eK,R.bind_ok]at h;obtain⟨a,vs0,ea,ha,_,_,_⟩:=rl.lstAt (io e0);refine gT (yv (vN Ac PySem.F.slot_list_append PySem.F.type_list_append CQ (gP hN hv hd bS) (ij bK jt h4) h1 h2 h3 h4 h5) hs) ⟨.ref a,ea,.inl ⟨rfl,_,cc.of ha⟩,?_⟩;refine he F S ε σ H _ rl (h.bindE.imp λy ε1 F1 S1 H1 r1 g1 q v rv=>?_);cases e1:dO ε1 i with
  |none=>rw[e1]at q;exact q.elim
  |some xs=>
   rw[e1]at q;simp only[eK,R.bind_ok]at q;obtain⟨a',vs,ea',ml,ra,_,_⟩:=r1.lstAt (io e1);rw[ea]at ea';cases ea';split at q
   ·rename_i hl;obtain⟨r2,g2⟩:=r1.upd (io e1) ea (ra.app (.one rv));exact⟨a,vs,v,rfl,rfl,ml,by rw[ra.len];exact fL hl lA,q F1 S1 σ _ r2 g2 (h_.refl _ _)⟩
   ·exact q.elim
def J0:V->List V->Hp->VK->Prop:=λx vs H Q=>∃l b xs zs,x=.ref l/\vs=[.ref b]/\H l=aa (.lst xs)/\Rd H b (.lst zs)/\xs.length+zs.length<=ba/\Q .non (L2.upd H l (.lst (xs++zs)))
theorem Ku:sQ X "list.extend" J0:=by
 intro ag s σ H x vs v us Q I rx rv h;obtain⟨l,b,xs,zs,rfl,rfl,hH,hB,hz,q⟩:=h;cases rx;obtain⟨u,rfl,ru⟩:=rv.one;cases ru;obtain⟨z,its,n,r,hl,e⟩:=I.lstM hH;obtain⟨its2,n2,r2,e2,_⟩:=yU I hB;have jH:=r2.length;have hsz:its.toArray.size+its2.toArray.size<=ba:=by rw[ce,ce];lia
 have wY:¬(!its.toArray.isEmpty&&EI (its.toArray.size+its2.toArray.size))=ah:=by rw[LL hsz,ww];exact eR
 refine qC F.slot_list_extend ⟨_,e,rfl⟩ F.entry_list_extend (F.args_list_extend_2 _ _)
  (AutoSeq1.list_extend_list_list_0 l its.toArray n b its2.toArray n2 wY (by rw[ce];lia) ∅) ⟨e,e2,?_⟩
 refine⟨.non,_,I.lset (its':=its++its2) hH e (by simp) (r.append r2) ?_,rfl,q⟩;rw[et];lia
def lG(i:Nat)(de:ak->R PV):ak->R aR:=λε=>(bh (dO ε i) ε).bind λ_ ε=>(de ε).bind λy ε1=>(bh (dO ε1 i) ε1).bind λxs ε1=>match y with
 |.lst ys=>if xs.length+ys.length<=cq then .ok .next (ε1.set i (.own (.lst (xs++ys))))else .no
 |_=>.no
theorem ya(i:Nat){x:Str}{p apos cpos:Pos}(he:DE X E e de)(hN:X.N[i]?=aa x:=by rfl)(hv:fF X.env.scope x:=by first|exact Or.inl rfl|exact Or.inr (Or.inl rfl)|exact Or.inr (Or.inr rfl))(hd:(x == ("__debug__" : Str))=aj:=by decide)(bS:(x == ("__classdict__" : Str))=aj:=by decide) (h1:kW (.Name x p) "extend" X.env (aT (.Name x p) X.env)=aT (.Name x p) X.env:=by rfl)(h2:((cL cpos (aL [e] X.env)).all (λx=>!x.1)&&(qy cpos (qz [] X.env)).all (λx=>x.1.isSome)&&decide ([e].length+([]:List jh).length+(if([]:List jh).isEmpty then 0 else 1)<30))=ah:=by rfl)(h3:(apos.endLine == cpos.line)=ah:=by rfl) (h4:aL [e] X.env=(aj,aT e X.env)::aL [] X.env:=by rfl) (h5:(cL cpos (aL [] X.env)).any (·.1)=aj:=by rfl)(hs:kR (.Call (.Attribute (.Name x p) "extend" apos) [e] [] cpos) ae pos.line X.env=pure aj:=by rfl):DS X E pin (.Expr (.Call (.Attribute (.Name x p) "extend" apos) [e] [] cpos) pos) (lG i de):=λF S ε σ H D rl h=>by
 unfold lG at h;cases e0:dO ε i with
 |none=>rw[e0]at h;exact h.elim
 |some xs0=>
  rw[e0]at h;simp only[eK,R.bind_ok]at h;obtain⟨a,vs0,ea,ha,_,_,_⟩:=rl.lstAt (io e0);refine gT (yv (vN Ac PySem.F.slot_list_extend PySem.F.type_list_extend Ku (gP hN hv hd bS) (ij bK jt h4) h1 h2 h3 h4 h5) hs) ⟨.ref a,ea,.inl ⟨rfl,_,cc.of ha⟩,?_⟩;refine he F S ε σ H _ rl (h.bindE.imp λy ε1 F1 S1 H1 r1 g1 q v rv=>?_);cases e1:dO ε1 i with
  |none=>rw[e1]at q;exact q.elim
  |some xs=>
   rw[e1]at q;simp only[eK,R.bind_ok]at q;obtain⟨a',vs,ea',ml,ra,_,_⟩:=r1.lstAt (io e1);rw[ea]at ea';cases ea';split at q
   ·rename_i ys;split at q
    ·rename_i hl;obtain⟨c,us,rfl,hc,_,rc⟩:=rv;obtain⟨r2,g2⟩:=r1.upd (io e1) ea (ra.app rc);exact⟨a,c,vs,us,rfl,rfl,ml,hc,by rw[ra.len,rc.len];exact cS hl lA,q F1 S1 σ _ r2 g2 (h_.refl _ _)⟩
    ·exact q.elim
   ·exact q.elim
def vZ(i:Nat)(db de:ak->R PV):ak->R aR:=λε=>(de ε).bind λy ε1=>(bh (dO ε1 i) ε1).bind λ_ ε1=>(db ε1).bind λk ε2=>(bh (dO ε2 i) ε2).bind λxs ε2=>match k with
 |.int k=>match jo xs.length k with
  |some j=>.ok .next (ε2.set i (.own (.lst (xs.set j y))))
  |none=>.no
 |_=>.no
theorem KQ(i:Nat){x:Str}{p tpos:Pos}(hb:DE X E b db)(he:DE X E e de)(hN:X.N[i]?=aa x:=by rfl)(hv:fF X.env.scope x:=by first|exact Or.inl rfl|exact Or.inr (Or.inl rfl)|exact Or.inr (Or.inr rfl))(hd:(x == ("__debug__" : Str))=aj:=by decide)(bS:(x == ("__classdict__" : Str))=aj:=by decide) (ha:∀v,mQ (.Subscript (.Name x p) b tpos) X.env v=(do
   let ov ←jX [v] (aT (.Name x p) X.env)
   let iv ←jX [v,ov] (aT b X.env)
   standAt tpos
   jX [v,ov,iv] (setItem ov iv v)
   release [v,ov,iv] []):=by intro _;rfl) (hs:swapsWithSole [.Subscript (.Name x p) b tpos] e pos.line X.env=pure aj:=by rfl) (hw:swappedStores [.Subscript (.Name x p) b tpos] e X.env=pure ae:=by rfl)
  (h1:(qp [.Subscript (.Name x p) b tpos] X.env).map (·.2)=[mQ (.Subscript (.Name x p) b tpos) X.env]:=by rfl):DS X E pin (.Assign [.Subscript (.Name x p) b tpos] e pos) (vZ i db de):=λF S ε σ H D rl h=>by
 refine gT (Ce bK (Fv (gP hN hv hd bS) bK M9 ha) hs hw h1) (he F S ε σ H _ rl (h.bindE.imp λy ε1 F1 S1 H1 r1 g1 q v rv=>?_));cases e0:dO ε1 i with
 |none=>rw[e0]at q;exact q.elim
 |some xs0=>
  rw[e0]at q;simp only[eK,R.bind_ok]at q;obtain⟨a,vs0,ea,ha0,_,_,_⟩:=r1.lstAt (io e0);refine⟨.ref a,ea,hb F1 S1 ε1 σ H1 _ r1 (q.bindE.imp λk ε2 F2 S2 H2 r2 g2 q2 u ru=>?_)⟩;cases e1:dO ε2 i with
  |none=>rw[e1]at q2;exact q2.elim
  |some xs=>
   rw[e1]at q2;simp only[eK,R.bind_ok]at q2;obtain⟨a',vs,ea',ml,ra,_,_⟩:=r2.lstAt (io e1);rw[ea]at ea';cases ea';split at q2
   ·rename_i k;split at q2
    ·rename_i j hj;obtain⟨r3,g3⟩:=r2.upd (io e1) ea (ra.set (rv.grow g2 r1.fit) j);exact⟨a,vs,k,j,rfl,ru,ml,by rw[ra.len];exact hj,q2 F2 S2 σ _ r3 g3 (h_.refl _ _)⟩
    ·exact q2.elim
   ·exact q2.elim
end
mutual
def imm:PV->Bool
 |.lst _=>aj
 |.tup xs=>ly xs
 |_=>ah
def ly:List PV->Bool
 |[]=>ah
 |x::xs=>imm x&&ly xs
end
mutual
theorem aS.imm{K:ax}{H:Hp}{F F':af->Prop}:∀(x:PV) {v:V},imm x=ah->aS K H F x v->aS K H F' x v
 |.non,_,_,h=>h
 |.bl _,_,_,h=>h
 |.int _,_,_,h=>h
 |.str _,_,_,h=>h
 |.raw _,_,_,h=>h
 |.exc _,_,_,h=>h
 |.lst _,_,e,_=>by simp[Pu.imm]at e
 |.tup xs,_,e,⟨a,vs,e1,h1,h2⟩=>⟨a,vs,e1,h1,Reps.imm xs (by simpa[Pu.imm]using e) h2⟩
theorem Reps.imm{K:ax}{H:Hp}{F F':af->Prop}:∀(xs:List PV) {vs:List V},ly xs=ah->Reps K H F xs vs->Reps K H F' xs vs
 |[],_,_,h=>h
 |x::xs,_,e,⟨v,r,e1,h1,h2⟩=>by
  have e':imm x=ah/\ly xs=ah:=by simpa[ly]using e
  exact⟨v,r,e1,aS.imm x e'.1 h1,Reps.imm xs e'.2 h2⟩
end
section
variable{K:ax}{F:af->Prop}{S:Nat->af->Prop}{ε:ak}{σ:St}{H:Hp}{i:Nat}{xs:List PV}
theorem aP.look(r:aP K F S ε σ H)(e:ε[i]?=aa (.own (.lst xs))):∃a,σ[i]?=aa (aa (.ref a))/\¬F a/\aS K H (λb=>F b\/b=a) (.lst xs) (.ref a)/\(∀b,F b\/b=a->∃o,H b=aa o) /\ (∀{F' H'},Al (λb=>F b\/b=a) F' H H'->Al F (λb=>F' b/\b≠a) H H'):=by
 obtain⟨a,vs,e1,h1,h2,h3,h4⟩:=r.lstAt e;have nF:¬F a:=(r.foot i a h3).2.1;refine⟨a,e1,nF,⟨a,vs,rfl,.inl h1,.inr rfl,Reps.mono (λ_ z=>.inl z) (λ_ _ _ z=>z) (λ_ _ z _=>z) _ _ h2⟩,λb z=>z.elim (r.ex b) λz=>by rw[z];exact⟨_,h1⟩,λ{F' H'} al=>⟨λb z=>⟨al.fro b (.inl z),by rintro rfl;exact nF z⟩,al.same,λb z=>?_⟩⟩;rcases al.fnew b z.1 with(w|w)|w
 ·exact .inl w
 ·exact absurd w z.2
 ·exact .inr w
end
section
variable{X:Cx}{E:XK}{e b:aB}{de db:ak->R PV}{pos p:Pos}{x y:Str}{id T:String}{r:List V->Hp->VK->Prop}{f:List PV->Option PV}{fn:List PV->Option PO}
def nP(o:Option PV):Option PV:=o.bind λv=>if imm v then aa v else ae
theorem FW{o:Option PV}{v:PV}(h:nP o=aa v):o=aa v/\imm v=ah:=by
 cases o with
 |none=>cases h
 |some w=>
  have h:(if imm w then aa w else ae)=aa v:=h;split at h
  ·cases h;exact⟨rfl,by assumption⟩
  ·cases h
def Dv:PO->Bool
 |.lst xs=>ly xs
 |_=>aj
def jb{α:Type}(f:List PV->Option α)(i:Nat):ak->R α:=λε=>(bh (dO ε i) ε).bind λxs ε=>bh (f [.lst xs]) ε
theorem No{F:af->Prop}{S:Nat->af->Prop}{ε:ak}{σ:St}{H:Hp}{Q:VK}{i:Nat}(hp:PL X.K r f)(rl:aP X.K F S ε σ H)(h:Ok X.K E σ F S H (jb (λxs=>nP (f xs)) i ε) (λpv _ F' _ H'=>∀v,aS X.K H' F' pv v->Q v H')):∃a,σ[i]?=aa (aa (.ref a))/\r [.ref a] H Q:=by
 unfold jb at h;cases e0:dO ε i with
 |none=>rw[e0]at h;exact h.elim
 |some xs=>
  rw[e0]at h;simp only[eK,R.bind_ok]at h;obtain⟨a,ea,nF,ra,hex,fQ⟩:=rl.look (io e0);refine⟨a,ea,?_⟩;cases e1:nP (f [.lst xs])with
  |none=>rw[e1]at h;exact h.elim
  |some pv=>rw[e1]at h;obtain⟨e2,e3⟩:=FW e1;exact hp _ H [.lst xs] [.ref a] Q pv (.one ra) e2 λw F' H' al rw'=>h _ S H' (rl.al (fQ al)) (fQ al).grow w (aS.imm pv e3 rw')
theorem Dh(i:Nat)(hc:eA X (.builtin id) r)(hp:PL X.K r f)(hm:X.mg x=ae)(hv:eB x=aa (.builtin id))(hN:X.N[i]?=aa y:=by rfl)(kg:fF X.env.scope y:=by first|exact Or.inl rfl|exact Or.inr (Or.inl rfl)|exact Or.inr (Or.inr rfl))(hd:(y == ("__debug__" : Str))=aj:=by decide) (bS:(y == ("__classdict__" : Str))=aj:=by decide) (hg:Gl X x:=by rfl) (hn:x≠"__name__":=by decide) (gE:(x == ("__debug__" : Str))=aj:=by decide) {yp:Pos}(he:aL [.Name y yp] X.env=(aj,aT (.Name y yp) X.env)::aL [] X.env:=by rfl) (cT:(cL pos (aL [] X.env)).any (·.1)=aj:=by rfl):DE X E (.Call (.Name x p) [.Name y yp] [] pos) (jb (λxs=>nP (f xs)) i):=λF S ε σ H Q rl q=>by obtain⟨a,ea,hr⟩:=No hp rl q;exact b9 (oj hc hg hm hv (ij (gP hN kg hd bS) jt he) hn gE he cT) ⟨_,ea,hr⟩
def qb(o:Option PO):Option PO:=o.bind λv=>if Dv v then aa v else ae
theorem L5{F:af->Prop}{S:Nat->af->Prop}{ε:ak}{σ:St}{H:Hp}{Q:VK}{i:Nat}(hp:kw X.K r fn)(rl:aP X.K F S ε σ H)(h:Ok X.K E σ F S H (jb (λxs=>qb (fn xs)) i ε) (λpo _ F' S' H'=>∀a Sa,eP X.K H' F' po a Sa->(∀b,Sa b->H b=ae/\¬F' b/\¬U S' b/\∃o,H' b=aa o/\dQ o)->Q (.ref a) H')):∃a,σ[i]?=aa (aa (.ref a))/\r [.ref a] H Q:=by
 unfold jb at h;cases e0:dO ε i with
 |none=>rw[e0]at h;exact h.elim
 |some xs=>
  rw[e0]at h;simp only[eK,R.bind_ok]at h;obtain⟨a,ea,nF,ra,hex,fQ⟩:=rl.look (io e0);refine⟨a,ea,?_⟩;cases e1:fn [.lst xs]with
  |none=>rw[e1]at h;exact h.elim
  |some po=>
   rw[e1]at h;cases po with
   |dK kvs=>exact h.elim
   |lls iV=>exact h.elim
   |ins C fs=>exact h.elim
   |dT kvs=>exact h.elim
   |inl C fs y xs=>exact h.elim
   |lst ys=>
    have h:Ok X.K E σ F S H (bh (if ly ys then aa (PO.lst ys)else ae) ε) _:=h;split at h
    ·rename_i hi;refine hp _ H [.lst xs] [.ref a] Q _ hex (.one ra) e1 λc F' H' Sa al ow fr=>h _ S H' (rl.al (fQ al)) (fQ al).grow c Sa ?_ λb z=>?_
     ·obtain⟨⟨vs,o1,o2⟩,o3⟩:=ow;exact⟨⟨vs,o1,Reps.imm ys hi o2⟩,o3⟩
     ·obtain⟨z1,z2,o,z3,z4⟩:=fr b z;refine⟨z1,λw=>z2 w.1,λ⟨j,w⟩=>?_,o,z3,z4⟩;obtain⟨_,_,o',w1,_⟩:=rl.foot j b w;rw[z1]at w1;cases w1
    ·exact h.elim
theorem K1(i:Nat)(hc:eA X (.builtin id) r)(hp:kw X.K r fn)(hm:X.mg x=ae)(hv:eB x=aa (.builtin id))(hN:X.N[i]?=aa y:=by rfl)(kg:fF X.env.scope y:=by first|exact Or.inl rfl|exact Or.inr (Or.inl rfl)|exact Or.inr (Or.inr rfl))(hd:(y == ("__debug__" : Str))=aj:=by decide) (bS:(y == ("__classdict__" : Str))=aj:=by decide) (hg:Gl X x:=by rfl) (hn:x≠"__name__":=by decide) (gE:(x == ("__debug__" : Str))=aj:=by decide) {yp:Pos}(he:aL [.Name y yp] X.env=(aj,aT (.Name y yp) X.env)::aL [] X.env:=by rfl) (cT:(cL pos (aL [] X.env)).any (·.1)=aj:=by rfl):DN X E (.Call (.Name x p) [.Name y yp] [] pos) (jb (λxs=>qb (fn xs)) i):=λF S ε σ H Q rl q=>by obtain⟨a,ea,hr⟩:=L5 hp rl q;exact b9 (oj hc hg hm hv (ij (gP hN kg hd bS) jt he) hn gE he cT) ⟨_,ea,hr⟩
end
end Pu
namespace Pu
open L2
def jP(h:aA)(e T:af)(c fl:ai):Prop:=∃oe vs oT ts,h.get? e=aa oe/\oe.cls=c/\(oe.data=.fields vs/\oe.dict=ae)/\vs[1]?=aa (.ref T)/\T≠e/\h.get? T=aa oT/\oT.data=.fields ts/\ts[3]?=aa fl
def Made(h:aA)(e:af)(c:ai):Prop:=∃oe vs,h.get? e=aa oe/\oe.cls=c/\(oe.data=.fields vs/\oe.dict=ae)/\vs[1]?=aa .none
structure Kp(fs:List af)(X:af->Prop)(h h':aA):Prop where
 keep:∀b o,h.get? b=aa o->b∉fs->¬X b->h'.get? b=aa o
 slot:∀b o,h.get? b=aa o->b∈fs->¬X b->∃sl,h'.get? b=aa {o with slots:=sl}
 there:∀b o,h.get? b=aa o->∃o',h'.get? b=aa o'
theorem Kp.trans{fs:List af}{X Y:af->Prop}{h h1 h2:aA}(a:Kp fs X h h1)(b:Kp fs Y h1 h2):Kp fs (λc=>X c\/Y c) h h2 where
 keep:=λc o e n x=>b.keep c o (a.keep c o e n λz=>x (.inl z)) n λz=>x (.inr z)
 slot:=λc o e n x=>by obtain⟨sl,e1⟩:=a.slot c o e n λz=>x (.inl z);obtain⟨sl2,e2⟩:=b.slot c _ e1 n λz=>x (.inr z);exact⟨sl2,e2⟩
 there:=λc o e=>let ⟨o',e'⟩:=a.there c o e;b.there c o' e'
theorem Kp.imp{fs fs':List af}{X Y:af->Prop}{h h':aA}(a:Kp fs X h h')(hfs:∀b,b∈fs->b∈fs')(hX:∀b o,h.get? b=aa o->X b->Y b):Kp fs' Y h h' where
 keep:=λc o e n x=>a.keep c o e (λz=>n (hfs c z)) λz=>x (hX c o e z)
 slot:=λc o e n x=>by
  by_cases hc:c∈fs
  ·exact a.slot c o e hc λz=>x (hX c o e z)
  ·exact⟨o.slots,a.keep c o e hc λz=>x (hX c o e z)⟩
 there:=a.there
theorem IQ(f:Array ai->Array ai)(o:Obj):(l7 f o).dict=o.dict:=by
 obtain⟨c,d,dt,sl⟩:=o;cases dt <;> rfl
section
variable{M:Model}{A:aO}{E:ai->am->Prop}{s:am}
theorem BP{base:aA}{env:Env}{outer:List Env}{L e:af}{oe:Obj}{vs:Array ai}{w8:ai}{NV:Bool}{Q:Unit->am->Prop}(lg:A.frames=aa (env::outer)) (hl:s.heap.FunFrames base (env::outer)) (hf:env.frame=aa L) (he:s.heap.get? e=aa oe) (hd:oe.data=.fields vs) (oV:oe.dict=ae) (hsz:1<vs.size)(h:∀h' T,Kp (eF (env::outer)) (λb=>b=e) s.heap h'->jP h' e T oe.cls .none->s.heap.objs.size<=T->Q () {s with heap:=h'}):aq M A (do let a ←frameOf env;let pl ←entryPlaceOf L NV;let b ←EntryCells.newEntry w8 a .none (dZ L) .none pl;l0 (.ref e) 1 b) (λ_ s'=>aq M A (wG (.ref e) ae) Q E s') E s:=by
 have hene:e∉(env::outer).filterMap (·.frame):=λhm=>by obtain⟨_,o,ho,tZ⟩:=hl.mem hm;rw[he]at ho;injection ho with ho;subst ho;exact tZ vs hd
 refine ap (wpAny_frameOf_fun lg hl hf λh₁ hs₁=>?_);refine ap (wpAny_entryPlaceOf λpl cT=>?_);unfold EntryCells.newEntry newFields;refine ap (lU ?_ (cT.sizeOk5 _ _ _ _ _));have he₁:h₁.get? e=aa oe:=(hs₁.2.1 e hene).trans he;have he₂:=bG (h:=h₁) {cls:=.type "traceback",dict:=ae,data:=.fields ([w8,.ref L,.none,dZ L,.none]++(if pl.isEmpty then bV 6 Value.none else pl)).toArray} he₁;refine qL he₂ hd hsz ?_;have mn:h₁.objs.size≠e:=qr (bu he₁);have hd₃:=tj hd (·.setIfInBounds 1 (Value.ref h₁.objs.size));have he₃:=mW (l7 (·.setIfInBounds 1 (Value.ref h₁.objs.size))) he₂ (Ae hd₃);have hT₃:=(mX (h₁.push {cls:=.type "traceback",dict:=ae,data:=.fields ([w8,.ref L,.none,dZ L,.none]++(if pl.isEmpty then bV 6 Value.none else pl)).toArray}) (l7 (·.setIfInBounds 1 (Value.ref h₁.objs.size))) (ef mn)).trans (c0 h₁ rfl);unfold wG;refine ap (oC he₃ hd₃ (x:=.ref h₁.objs.size) (by simp[hsz]) ?_);rw[if_pos (show(Value.ref h₁.objs.size != Value.none)=ah from by simp)];refine qL hT₃ rfl (by simp only[ce,et,ff,mZ] <;> lia) (h _ h₁.objs.size ?_ ?_ ?_)
 ·have keep:∀b o,b≠e->h₁.get? b=aa o ->
    (((h₁.push {cls:=.type "traceback",dict:=ae,data:=.fields ([w8,.ref L,.none,dZ L,.none]++(if pl.isEmpty then bV 6 Value.none else pl)).toArray}).update e (l7 (·.setIfInBounds 1 (Value.ref h₁.objs.size)))).update h₁.objs.size (l7 (·.setIfInBounds 3 ((ae:Option af).elim Value.none λf=>dZ f)))).get? b=aa o:=λb o ka hb=>by
   have hbT:h₁.objs.size≠b:=qr (bu hb);rw[mX _ _ hbT,mX _ _ (ef ka)];exact bG _ hb
  refine⟨λb o hb hn hx=>keep b o hx ((hs₁.2.1 b hn).trans hb),λb o hb hn hx=>?_,λb o hb=>?_⟩
  ·obtain⟨sl,q⟩:=hs₁.2.2 b o hb;exact⟨sl,keep b _ hx q⟩
  ·by_cases ka:b=e
   ·subst ka;exact⟨_,(mX _ _ mn).trans he₃⟩
   ·obtain⟨sl,q⟩:=hs₁.2.2 b o hb;exact⟨_,keep b _ ka q⟩
 ·refine⟨_,_,_,_,(mX _ _ mn).trans he₃,Obj.cls_mapFields _ _,⟨hd₃,by rw[IQ];exact oV⟩,by simp[hsz],mn,mW _ hT₃ (Ae (tj rfl _)),tj rfl _,by first | (simp;done) | (rcases cT with rfl|⟨_,_,_,_,_,_,_,rfl⟩ <;> simp)⟩
 ·exact lV hs₁.1.symm
theorem K3{base:aA}{env:Env}{outer:List Env}{L e:af}{c:ai}{Q:Unit->am->Prop}(lg:A.frames=aa (env::outer))(hl:s.heap.FunFrames base (env::outer))(hf:env.frame=aa L)(hm:Made s.heap e c)(h:∀h' T,Kp (eF (env::outer)) (λb=>b=e) s.heap h'->jP h' e T c .none->s.heap.objs.size<=T->Q () {s with heap:=h'}):aq M A (leaving env (.ref e)) Q E s:=by obtain⟨oe,vs,he,hc,⟨hd,oV⟩,h1⟩:=hm;subst hc;unfold leaving noteFrame;simp only[hf];refine ap (ap (oC he hd h1 ?_));rw[if_neg (by decide)];exact BP lg hl hf he hd oV (kZ.mp h1).1 h
theorem C3{base:aA}{env:Env}{outer:List Env}{L e T:af}{c:ai}{Q:Unit->am->Prop}(lg:A.frames=aa (env::outer))(hl:s.heap.FunFrames base (env::outer))(hf:env.frame=aa L)(ht:jP s.heap e T c .none)(h:∀h' T',Kp (eF (env::outer)) (λb=>b=e\/b=T) s.heap h'->jP h' e T' c .none->s.heap.objs.size<=T'->Q () {s with heap:=h'}):aq M A (noteFrame (.ref e) env) (λ_ s2=>aq M A (wG (.ref e) ae) Q E s2) E s:=by
 obtain⟨oe,vs,oT,ts,he,mi,⟨hd,oV⟩,h1,mn,hT,nz,h3⟩:=ht;subst mi;unfold noteFrame;simp only[hf];refine ap (oC he hd h1 ?_);rw[if_pos (show(Value.ref T != Value.none)=ah from by simp)];refine ap (oC hT nz h3 ?_);rw[if_neg (show ¬((Value.none == dZ L)=ah)from by simp[dZ])];refine ap (qL hT nz (kZ.mp h3).1 ?_);have other:∀b,b≠T->(s.heap.update T (l7 (·.setIfInBounds 3 Value.none))).get? b=s.heap.get? b:=λb hb=>mX _ _ (ef hb);have noRecord:∀b o,s.heap.get? b=aa o->(∀vs,o.data≠.fields vs)->b≠T:=λb o hb tZ q=>by rw[q,hT]at hb;injection hb with hb;subst hb;exact tZ ts nz
 refine BP lg (hl.of_keeps λb o hb tZ=>⟨o,(other b (noRecord b o hb tZ)).trans hb,rfl⟩) hf ((other e (ef mn)).trans he) hd oV (kZ.mp h1).1 λh' T' k fl hn=>?_;have k0:Kp (eF (env::outer)) (λb=>b=T) s.heap (s.heap.update T (l7 (·.setIfInBounds 3 Value.none))):=by
  refine⟨λb o hb _ hx=>(other b hx).trans hb,λb o hb _ hx=>⟨o.slots,(other b hx).trans hb⟩,λb o hb=>?_⟩;by_cases hx:b=T
  ·subst hx;exact⟨_,mW _ hT (Ae (tj nz _))⟩
  ·exact⟨o,(other b hx).trans hb⟩
 refine h h' T' ((k0.trans k).imp (λ_ z=>z) λb o _ z=>z.symm) fl ?_;have e2:(s.heap.update T (l7 (·.setIfInBounds 3 Value.none))).objs.size<=T':=hn;rwa[E2]at e2
theorem Ms{base:aA}{env:Env}{outer:List Env}{L e T:af}{c:ai}{Q:Unit->am->Prop}(lg:A.frames=aa (env::outer))(hl:s.heap.FunFrames base (env::outer))(hf:env.frame=aa L)(ht:jP s.heap e T c .none)(h:∀h' T',Kp (eF (env::outer)) (λb=>b=e\/b=T) s.heap h'->jP h' e T' c .none->s.heap.objs.size<=T'->Q () {s with heap:=h'}):aq M A (leaving env (.ref e)) Q E s:=by unfold leaving;exact ap (C3 lg hl hf ht h)
theorem Mc{e T:af}{c fl:ai}{Q:Unit->am->Prop}(ht:jP s.heap e T c fl)(h:∀h',Kp [] (λb=>b=T) s.heap h'->jP h' e T c .none->Q () {s with heap:=h'}):aq M A (wG (.ref e) ae) Q E s:=by
 obtain⟨oe,vs,oT,ts,he,mi,⟨hd,oV⟩,h1,mn,hT,nz,h3⟩:=ht;have w_:3<ts.size:=(kZ.mp h3).1;have other:∀b,b≠T->(s.heap.update T (l7 (·.setIfInBounds 3 ((ae:Option af).elim Value.none λf=>dZ f)))).get? b=s.heap.get? b:=λb hb=>mX _ _ (ef hb);have self:=mW (l7 (·.setIfInBounds 3 ((ae:Option af).elim Value.none λf=>dZ f))) hT (Ae (tj nz _));unfold wG;refine ap (oC he hd h1 ?_);rw[if_pos (show(Value.ref T != Value.none)=ah from by simp)];refine qL hT nz w_ (h _ ⟨λb o hb _ hx=>(other b hx).trans hb,λb o hb _ hx=>⟨o.slots,(other b hx).trans hb⟩,λb o hb=>?_⟩ ⟨oe,vs,_,_,(other e (ef mn)).trans he,mi,⟨hd,oV⟩,h1,mn,self,tj nz _,by simp[w_]⟩);by_cases hx:b=T
 ·subst hx;exact⟨_,self⟩
 ·exact⟨o,(other b hx).trans hb⟩
end
def cf(P:aM)(w:aF):fE:=λouter H s E e s'=>∃(a T:af) (c:ai) (H':Hp),e=.ref a/\s'.os=s.os/\lQ s'.gens/\Un (eF outer) [] H H' s.heap s'.heap/\cI P w H' s'.heap/\jP s'.heap a T c .none /\
 (s.heap.get? a=ae/\s.heap.get? T=ae/\H' a=ae/\H' T=ae)/\E c ae H'
theorem FO{P:aM}{w:aF}{H:Hp}{h:aA}{a:af}{o:HO}(x:cG P w H h a o):∃u,h.get? a=aa u:=by
 cases o with
 |lst xs=>obtain⟨_,_,_,_,e⟩:=x;exact⟨_,e⟩
 |tup xs=>obtain⟨_,_,_,⟨o,e,_⟩,_⟩:=x;exact⟨_,e⟩
 |dK kvs=>obtain⟨_,_,_,_,o,_,_,e,_⟩:=x;exact⟨_,e⟩
 |dT kvs=>obtain⟨_,_,_,_,o,_,_,e,_⟩:=x;exact⟨_,e⟩
 |set S n=>obtain⟨o,_,_,_,e,_⟩:=x;exact⟨_,e⟩
 |ins C dx fs=>obtain⟨_,_,_,e,_⟩:=x;exact⟨_,e⟩
 |own y=>exact x
 |xd fs=>obtain⟨_,⟨_,_,_,e,_⟩,_⟩:=x;exact⟨_,e⟩
 |rng lo hi=>obtain⟨_,_,_,e⟩:=x;exact⟨_,e⟩
 |frz ob u=>obtain⟨e,_⟩:=x;exact⟨_,e⟩
 |tbl ps=>obtain⟨_,e,_⟩:=x;exact⟨_,e⟩
 |met f y=>exact⟨_,x⟩
 |ext φ=>obtain⟨_,e,_⟩:=x;exact e
theorem HV{P:aM}{w:aF}{H:Hp}{h:aA}{a:af}(x:cI P w H h)(e:h.get? a=ae):H a=ae:=by
 cases q:H a with
 |none=>rfl
 |some u=>obtain⟨o,z⟩:=FO (x a u q);rw[e]at z;cases z
theorem qg{fs:List af}{H H':Hp}{h h':aA}{a:af}(u:Un fs [] H H' h h')(e:h'.get? a=ae):h.get? a=ae:=by
 cases q:h.get? a with
 |none=>rfl
 |some o=>obtain⟨o',z⟩:=u.there a o q (by simp);rw[e]at z;cases z
theorem y3{fs fs':List af}{H H':Hp}{h h1 h2:aA}{X:af->Prop}(u:Un fs [] H H' h h1)(k:Kp fs' X h1 h2)(hf:∀b o,h.get? b=aa o->b∈fs'->b∈fs)(hX:∀b o,h.get? b=aa o->¬X b):Un fs [] H H' h h2 where
 keep:=λb o e n hb hx=>k.keep b o (u.keep b o e n hb hx) (λz=>hb (hf b o e z)) (hX b o e)
 slot:=λb o e n hb hx=>by
  obtain⟨sl,e1⟩:=u.slot b o e n hb hx;by_cases rg:b∈fs'
  ·obtain⟨sl2,e2⟩:=k.slot b _ e1 rg (hX b o e);exact⟨sl2,e2⟩
  ·exact⟨sl,k.keep b _ e1 rg (hX b o e)⟩
 free:=u.free
 there:=λb o e hx=>let ⟨o',e'⟩:=u.there b o e hx;k.there b o' e'
 tups:=u.tups
 frzs:=u.frzs
 tbls:=u.tbls
theorem yh{P:aM}{w:aF}{fs:List af}{H:Hp}{h h':aA}{X:af->Prop}(x:cI P w H h)(k:Kp fs X h h')(hf:∀b∈fs,H b=ae)(hX:∀b,X b->H b=ae):cI P w H h':=λb u e=>
 (x b u e).stay (λc v hc q=>k.keep c v q (λz=>by
   have:=hf c z;rcases hc with rfl|hc
   ·rw[e]at this;cases this
   ·rw[hc]at this;cases this) λz=>by
   have:=hX c z;rcases hc with rfl|hc
   ·rw[e]at this;cases this
   ·rw[hc]at this;cases this) (λ_ q=>q) λ_ _ q=>q
section
variable{P:aM}{w:aF}{K:ax}{mg:Str->Option ai}{base:aA}{N:List Str}{qual:Str}{scope:dX}{f:af}{cd:ai}{A:aO}{outer:List Env}{s₀:am}{H₀:Hp}{E:XK}
theorem cF:pU (cf P w) (ii (cf P w) P w K mg base N qual scope f cd A outer s₀ H₀ E) E:=λag σ H s e s' I h=>by
 obtain⟨a,T,c,H',rfl,ho,hg,un,hok,fl,⟨fa,fT,na,nT⟩,hE⟩:=h;have I':=I.call' (s':=s') (ch:=[]) ho un hok hg (λb z=>absurd z (by simp));refine Ms (L:=s₀.heap.objs.size) I.ok.frames I'.stack rfl fl λlh T' k fl' fT'=>?_;have nW:(ii (cf P w) P w K mg base N qual scope f cd A outer s₀ H₀ E).ex=[]:=rfl;have fa0:s₀.heap.get? a=ae:=qg I.base fa;have fT0:s₀.heap.get? T=ae:=qg I.base fT;have fT0':s₀.heap.get? T'=ae:=qg I'.base (zE fT');have old:∀b o,s₀.heap.get? b=aa o->b≠a/\b≠T:=λb o e=>⟨(by rintro rfl;rw[fa0]at e;cases e),(by rintro rfl;rw[fT0]at e;cases e)⟩
 refine⟨a,T',c,H',rfl,I'.os,I'.bare,y3 I'.base k (λb o e z=>?_) (λb o e z=>z.elim (old b o e).1 (old b o e).2),yh I'.hok k I'.stkFree (λb z=>by rcases z with rfl|rfl <;> assumption),fl',⟨fa0,fT0',na,I'.hok.fresh fT'⟩,hE⟩;rcases bF.mp (I.stkSub b z)with q|q
 ·exact absurd (bu e) (by rw[q];exact fc _)
 ·exact q
end
section
variable{X:Cx}{E:XK}{pin:List Nat}{e:aB}{de:ak->R PV}{x:Str}{C:af}{bmB:List ai}{newId initId B:String}{np cpos pos:Pos}
def AS(X:Cx)(E:XK):Prop:=∀(ag:List (af×Obj)) (σ:St) (H:Hp) (s:am) (a:af) (c:ai) (h':aA),Inv X ag σ H s->(∀b o,s.heap.get? b=aa o->h'.get? b=aa o)->Made h' a c->s.heap.get? a=ae->(E c ae H)->X.xe (.ref a) {s with heap:=h'}
def mB(c:ai)(de:ak->R PV):ak->R aR:=λε=>(de ε).bind λ_ ε1=>.er c ε1
theorem Kn{h h':aA}{e:af}{cls:ai}{args:List ai}(m:Heap.MadeExcOf h h' e cls args):Made h' e cls:=by obtain⟨t,he,_,_⟩:=m.there;exact⟨_,_,he,rfl,⟨rfl,rfl⟩,rfl⟩
theorem sh(hx:AS X E)(hc:X.calm=ah)(O:OwnCls x C bmB newId X.mg X.base)(FB:ExcBaseFacts B newId initId bmB)(he:DE X.nox E0 e de)(hg:Gl X x:=by rfl)(hd:(x == ("__debug__" : Str))=aj:=by decide)(h1:aL [e] X.env=[(aj,aT e X.env)]:=by rfl):DS X E pin (.Raise (aa (.Call (.Name x np) [e] [] cpos)) ae pos) (mB (.ref C) (λε=>bN (de ε))):=λF S ε σ H D rl q=>Bx.mk λag s I=>by
 obtain⟨tl,N,nm,qn,bs,hdct,sn,sub,ab,col,dd,k0,k1,k2,k3,k5,mN,hC,hN,hni,T⟩:=O.obj;refine wpAny_Raise_call_subT (C:=C) (nm:=nm) (q:=qn) (N:=N) (bs:=bs) (bm:=tl) (hdct:=hdct) (sn:=sn) (sub:=sub) (ab:=ab) (col:=col) (dd:=dd) (k0:=k0) (k1:=k1) (k2:=k2) (k3:=k3) (k5:=k5)
  FB (mN:=mN) (T.hasType FB.hasBase) (I.ok.hd hc) (by rw[h1];rfl) hni (qm I hg O.bound ⟨rfl,?_⟩ hd)
 have q2:Ok X.K E0 σ F S H (de ε) (λ_ ε1 F1 S1 H1=>iu X.K E pin σ F1 S1 H1 (.er (.ref C) ε1) D):=by
  have q:iu X.K E pin σ F S H ((bN (de ε)).bind λ_ ε1=>.er (.ref C) ε1) D:=q;cases e0:de ε with
  |no=>rw[e0]at q;exact q.elim
  |er c ε'=>rw[e0]at q;exact q.elim
  |ok v ε'=>rw[e0]at q;exact λF' S' H' r' g'=>q.from g' (h_.refl _ _)
 rw[h1];refine zQ (dY (zI (dY ((he F S ε σ H (λv H1=>∃F1 S1 ε1,aP X.K F1 S1 ε1 σ H1/\iu X.K E pin σ F1 S1 H1 (.er (.ref C) ε1) D) rl (q2.imp λv ε1 F1 S1 H1 r1 g1 h v' rv=>⟨F1,S1,ε1,r1,h⟩)).run ag s (I.wish _)) (λu s1 ⟨v,H1,I1,r1,F1,S1,ε1,rl1,ok⟩=>?_) λ_ _ z=>z.elim)) (λ_ _ z=>z) λ_ _ z=>z);have I1:=I1.unwish;refine EC ⟨rfl,(by show 1<=ba;decide),I1.bk _ _ hC,hN.keeps I1.bk,T.keeps I1.bk,λh' a m=>?_⟩;exact hx ag σ H1 s1 a (.ref C) h' I1 m.keeps (Kn m) m.new (ok ae F1 S1 σ H1 rl1 (bp.refl ..) (h_.refl _ _))
end
section
variable{P:aM}{w:aF}{K:ax}{mg:Str->Option ai}{base:aA}{N:List Str}{qual:Str}{scope:dX}{f:af}{cd:ai}{A:aO}{outer:List Env}{s₀:am}{H₀:Hp}{E:XK}
theorem rM:AS (ii (cf P w) P w K mg base N qual scope f cd A outer s₀ H₀ E) E:=λag σ H s a c h' I kp md new hE=>by
 have I':Inv _ ag σ H {s with heap:=h'}:=I.kept (t':=s.toks) kp;refine K3 (s:={s with heap:=h'}) (L:=s₀.heap.objs.size) I.ok.frames I'.stack rfl md λlh T' k fl' fT'=>?_;have fa0:s₀.heap.get? a=ae:=qg I.base new;have fT0':s₀.heap.get? T'=ae:=qg I'.base (zE fT');have na:H a=ae:=HV I.hok new;refine⟨a,T',c,H,rfl,I'.os,I'.bare,y3 I'.base k (λb o e z=>?_) (λb o e z=>by rw[show b=a from z,fa0]at e;cases e),yh I'.hok k I'.stkFree (λb z=>by rw[show b=a from z];exact na),fl',⟨fa0,fT0',na,I'.hok.fresh fT'⟩,hE⟩;rcases bF.mp (I.stkSub b z)with q|q
 ·exact absurd (bu e) (by rw[q];exact fc _)
 ·exact q
end
section
variable{X:Cx}{ag:List (af×Obj)}{σ:St}{H:Hp}{s:am}
theorem Ik{M:Model}{A:aO}{E:ai->am->Prop}{i:Nat}{x:Str}{v:V}{Q:Unit->am->Prop}(I:Inv X ag σ H s)(hN:X.N.Nodup)(hi:X.N[i]?=aa x)(hk:X.env.scope.names.lookup x=aa .local)(hv:σ[i]?=aa (aa v))(h:∀s',Inv X ag (σ.set i ae) H s'->Q () s'):aq M A (unbindName X.env x) Q E s:=by
 obtain⟨m,hn,hl⟩:=id I.loc;have mi:(X.env.scope.kind == .class||(X.env.scope.kind == .module&&X.env.locals != X.env.globals))=aj:=by rw[I.ok.kind];rfl
 have hiσ:i<σ.length:=(c_.mp hv).1;obtain⟨u,_,lk⟩:=hl i x v hi hv (.inl hk);have hm:m x=aa u:=by
  rcases lk with⟨_,z⟩|⟨z,_⟩
  ·exact z
  ·have z:X.env.scope.names.lookup x=aa .cell\/X.env.scope.names.lookup x=aa .free:=z;rcases z with z|z <;> rw[hk]at z <;> cases z
 refine wpAny_unbindName_local hk hn hm mi λh' u' hn' hs=>?_;obtain⟨oL,_,_,lf,_⟩:=id hn;have up:∀b o,X.s₀.heap.get? b=aa o->h'.get? b=s.heap.get? b:=λb o e=>hs.2 b (cR (fL (bu e) I.ok.above));refine h _ ⟨I.ok,I.os,I.bare,⟨λb o e n hb hx=>(up b o e).trans (I.base.keep b o e n hb hx),λb o e n hb hx=>?_,I.base.free,λb o e hx=>?_,I.base.tups,I.base.frzs,I.base.tbls⟩,⟨_,hn',λj y v' e1 e2 e3=>?_⟩,λy c e=>?_,I.free,I.freeC,λp hp=>?_,λb ob e=>?_,by rw[fC];exact I.len⟩
 ·obtain⟨sl,q⟩:=I.base.slot b o e n hb hx;exact⟨sl,(up b o e).trans q⟩
 ·obtain⟨o',q⟩:=I.base.there b o e hx;exact⟨o',(up b o e).trans q⟩
 ·by_cases hj:j=i
  ·subst hj;rw[fe hiσ]at e2;cases e2
  ·rw[dJ (ef hj)]at e2;obtain⟨w,r',q⟩:=hl j y v' e1 e2 e3;refine⟨w,r',?_⟩;rcases q with⟨k,e⟩|⟨k,c,e,z⟩
   ·have:y≠x:=λe=>hj (xr hN e1 (e ▸ hi));exact .inl ⟨k,by simp[this,e]⟩
   ·exact .inr ⟨k,c,e,z.sameBut hs (I.cne y c e)⟩
 ·obtain⟨w',z⟩:=I.cell y c e;exact⟨w',z.sameBut hs (I.cne y c e)⟩
 ·obtain⟨e,n,ne,nf,d⟩:=I.pin p hp;exact⟨(hs.2 p.1 ne).trans e,n,ne,nf,d⟩
 ·refine(I.hok b ob e).stay (λc w' hc q=>(hs.2 c ?_).trans q) (λ_ q=>q) λ_ _ q=>q;rintro rfl;rcases hc with rfl|hc
  ·rw[I.free]at e;cases e
  ·rw[I.free]at hc;cases hc
end
def XP(X:Cx)(ag:List (af×Obj))(σ:St)(XE:ai->Hp->Prop)(e:ai)(s':am):Prop:=∃s1 H1,Inv X ag σ H1 s1/\cf X.prog X.w X.stack H1 s1 (λc _ H'=>XE c H') e s'
def DX(X:Cx)(e:aB)(d:ak->R Slot):Prop :=
 ∀F S ε σ H Q (XE:ai->Hp->Prop),aP X.K F S ε σ H->Ok X.K (λc _ H'=>XE c H') σ F S H (d ε) (λs _ F' S' H'=>∀v Sr,lH X.K H' F' s v Sr->(∀b,Sr b->H b=ae/\¬F' b/\¬U S' b/\∃o,H' b=aa o/\dQ o)->Q v H') ->
  ∀ag s,Inv X ag σ H s->aq (au X.prog X.w) X.A (aT e X.env) (EP X ag σ Q) (XP X ag σ XE) s
section
variable{X:Cx}{e:aB}{es:List aB}{dg:ak->R (List bW)}{pos:Pos}{x:Str}{k:Nat}{ps:List Str}{g:ak->R Slot}{p:Pos}{d:ak->R Slot}
def pW(g:ak->R Slot)(dg:ak->R (List bW)):ak->R Slot:=λε=>(bN (dg ε)).bind λas ε1=>(bh (if(cx as).Nodup then eM ε1 as else ae) ε1).bind λss ε1=>fS ε1 as (g ss)
theorem Hd(c:cA (cf X.prog X.w) X.prog X.w X.K X.mg X.base x k ps (bE X.K g))(hr:eX k X.A)(ha:DG X.nox E0 (e::es) dg)(hg:Gl X x:=by rfl)(hd:(x == ("__debug__" : Str))=aj:=by decide) (h1:aL (e::es) X.env=(aj,aT e X.env)::aL es X.env:=by rfl) (h2:(cL pos (aL es X.env)).any (·.1)=aj:=by rfl):DX X (.Call (.Name x p) (e::es) [] pos) (pW g dg):=λF S ε σ H Q XE rl h ag s I=>by
 obtain⟨f,fd,hm,Fn,hb,hk⟩:=c.ex;have q0:Ok X.K E0 σ F S H (dg ε) (λas ε1 F1 S1 H1=>Ok X.K (λc _ H'=>XE c H') σ F1 S1 H1 ((bh (if(cx as).Nodup then eM ε1 as else ae) ε1).bind λss ε1=>fS ε1 as (g ss)) (λs _ F' S' H'=>∀v Sr,lH X.K H' F' s v Sr->(∀b,Sr b->H b=ae/\¬F' b/\¬U S' b/\∃o,H' b=aa o/\dQ o)->Q v H')):=by
  unfold pW at h;cases e0:dg ε with
  |no=>rw[e0]at h;exact h.elim
  |er c ε'=>rw[e0]at h;exact h.elim
  |ok as ε1=>rw[e0]at h;exact λF1 S1 H1 r1 g1=>Ok.from h g1
 refine wo (qm I hg hm ?_ hd);have wa:=(ha F S ε σ H (λvs H1=>∃F1 S1 ε1 as,aP X.K F1 S1 ε1 σ H1/\hZ X.K σ F1 H1 as vs/\(∀b,H1 b=ae->H b=ae)/\Ok X.K (λc _ H'=>XE c H') σ F1 S1 H1 ((bh (if(cx as).Nodup then eM ε1 as else ae) ε1).bind λss ε1=>fS ε1 as (g ss)) (λs _ F' S' H'=>∀v Sr,lH X.K H' F' s v Sr->(∀b,Sr b->H b=ae/\¬F' b/\¬U S' b/\∃o,H' b=aa o/\dQ o)->Q v H')) rl (q0.imp λas ε1 F1 S1 H1 r1 g1 q vs av=>⟨F1,S1,ε1,as,r1,av,λb z=>mC g1 z,q⟩)).run pos ag s (I.wish _);refine ED (h₀:=X.base) I.ok.mod.kin hk (dY wa (λus s1 ⟨vs,H1,I1,r,F1,S1,ε1,as,r1,av,fb,q⟩=>⟨I1.unwish.kIn,?_⟩) λ_ _ z=>z.elim) h1 h2;have I1:=I1.unwish;have q:=Ok.bind q;by_cases nd:(cx as).Nodup
 ·rw[if_pos nd]at q;cases es:eM ε1 as with
  |none=>rw[es]at q;exact q.elim
  |some ss=>
   rw[es]at q;have q:=q F1 S1 H1 r1 (bp.refl ..);dsimp only at q;have gc:bE X.K g vs H1 Q (λc _ H'=>XE c H'):=by
    refine⟨F1,kH as S1,ss,r1.cal av es nd,?_⟩;cases eg:g ss with
    |no=>rw[eg]at q;exact q.elim
    |er cv aI=>
     rw[eg]at q;intro y F' S' H' r' g';unfold fS at q;dsimp only at q;by_cases kp:fY as aI=ah
     ·rw[if_pos kp]at q;obtain⟨S2,r2,g2,_⟩:=r1.called av es nd r' g' (λ_ z=>z) (lC kp);exact q ae F' S2 H' r2 g2
     ·rw[if_neg kp]at q;exact q.elim
    |ok sl aI=>
     rw[eg]at q;intro v F' S' H' Sr r' g' rv lo fr;unfold fS at q;dsimp only at q;by_cases kp:fY as aI=ah
     ·rw[if_pos kp]at q;obtain⟨S2,r2,g2,u2⟩:=r1.called av es nd r' g' (λ_ z=>.inl z) (lC kp);refine q F' S2 H' r2 g2 v Sr rv λb z=>⟨fb b (fr b z),(lo b z).1,λw=>?_,(lo b z).2.2⟩
      rcases u2 b w with w|⟨i,w⟩
      ·exact(lo b z).2.1 w
      ·obtain⟨_,_,o,y1,_⟩:=r1.foot i b w;rw[fr b z]at y1;cases y1
     ·rw[if_neg kp]at q;exact q.elim
   have hl:us.length=ps.length:=by rw[←r.length];exact Fn.len _ _ _ _ gc
   refine wn (oA (Fn.run X.A X.stack s1 H1 ⟨us,[]⟩ us vs Q _ hr I1.env0 (by have:=hb s1 us I1.kIn (by rw[g_];exact hl);rwa[g_]at this) r gc) λrr s' hq=>?_);cases rr with
   |error er=>exact⟨s1,H1,I1,hq⟩
   |ok fl=>
    cases fl with
    |ret u=>exact I1.after hq
    |next=>exact f9 hq
    |brk=>exact f9 hq
    |cont=>exact f9 hq
 ·rw[if_neg nd]at q;exact q.elim
end
abbrev hand(X:Cx)(a:af):Cx:={X with A:=X.A.mark (aa (.ref a)),calm:=aj,xe:=λ_ _=>False}
section
variable{X:Cx}{ag:List (af×Obj)}{σ:St}{H:Hp}{s:am}{a:af}
theorem Inv.hand(I:Inv X ag σ H s)(hf:(X.A.mark (aa (.ref a))).frames=X.A.frames:=by rfl):Inv (Pu.hand X a) ag σ H s :=
 ⟨⟨I.ok.mod,I.ok.kind,I.ok.glob,I.ok.blt,I.ok.above,I.ok.inj,I.ok.has,I.ok.cab,(λz=>by cases z),hf.trans I.ok.frames,I.ok.stk,I.ok.exf,I.ok.bs,I.ok.bsz,I.ok.noex,I.ok.exfs,I.ok.funs,I.ok.frf,I.ok.tab⟩,I.os,I.bare,I.base,I.loc,I.cell,I.free,I.freeC,I.pin,I.hok,I.len⟩
theorem Inv.unhand(I:Inv (Pu.hand X a) ag σ H s)(ok:X.Ok):Inv X ag σ H s:=⟨ok,I.os,I.bare,I.base,I.loc,I.cell,I.free,I.freeC,I.pin,I.hok,I.len⟩
end
def Under(h:aA)(D:af)(c:ai):Prop:=∃C bm N nm q bs hdct sn sub ab col dd k0 k1 k2 k3 k5 newId,c=.ref C/\h.get? C=aa (Af nm q C N bs bm hdct sn sub ab col dd k0 k1 k2 k3 k5 newId)/\(Value.ref C::bm).contains (.ref D)=ah
def oh(h:aA)(D:af):Prop:=∃bm N nm q bs hdct sn sub ab col dd k0 k1 k2 k3 k5 newId,h.get? D=aa (Af nm q D N bs bm hdct sn sub ab col dd k0 k1 k2 k3 k5 newId)/\bm.contains (.type "BaseException")=ah
theorem Under.keeps{h h':aA}{D:af}{c:ai}(x:Under h D c)(k:∀b o,h.get? b=aa o->h'.get? b=aa o):Under h' D c:=by obtain⟨C,bm,N,nm,q,bs,hdct,sn,sub,ab,col,dd,k0,k1,k2,k3,k5,newId,e,h1,h2⟩:=x;exact⟨C,bm,N,nm,q,bs,hdct,sn,sub,ab,col,dd,k0,k1,k2,k3,k5,newId,e,k _ _ h1,h2⟩
theorem oh.keeps{h h':aA}{D:af}(x:oh h D)(k:∀b o,h.get? b=aa o->h'.get? b=aa o):oh h' D:=by obtain⟨bm,N,nm,q,bs,hdct,sn,sub,ab,col,dd,k0,k1,k2,k3,k5,newId,h1,h2⟩:=x;exact⟨bm,N,nm,q,bs,hdct,sn,sub,ab,col,dd,k0,k1,k2,k3,k5,newId,k _ _ h1,h2⟩
theorem GN{M:Model}{A:aO}{E:ai->am->Prop}{s:am}{e D:af}{oe:Obj}{c:ai}{Q:Bool->am->Prop}(hu:Under s.heap D c)(hD:oh s.heap D)(he:s.heap.get? e=aa oe)(mi:oe.cls=c)(hq:Q ah s):aq M A (excMatches (.ref e) (.ref D)) Q E s:=by
 obtain⟨C,bm,N,nm,q,bs,hdct,sn,sub,ab,col,dd,k0,k1,k2,k3,k5,newId,rfl,hC,iB⟩:=hu;obtain⟨bm',N',nm',q',bs',hdct',sn',sub',ab',col',dd',k0',k1',k2',k3',k5',newId',hD,hb⟩:=hD;obtain⟨h,g,d,t,os⟩:=s;have hcB:(Value.ref D::bm').contains (.type "BaseException")=ah:=by rw[List.contains_cons,hb,Bool.or_true]
 have f:=tc_notTuple;unfold excMatches
 repeat (first | (with_reducible refine E3 he ?_;rw[mi])|with_reducible refine E3 hC ?_|with_reducible refine E3 hD ?_ | (with_reducible refine wpAny_isSubtype_exc hC ?_;rw[iB]) | (with_reducible refine wpAny_isSubtype_exc hD ?_;rw[hcB])|wp_step)
 exact hq
def n5(i:Nat)(caught:ai->Bool)(dx:ak->R Slot)(dh:ak->R aR):ak->R aR:=λε=>match dx ε with
 |.ok s ε'=>.ok (.ret s) ε'
 |.er c ε'=>if caught c=ah/\i<ε'.length then(match dh (ε'.set i (.val (.exc c)))with
  |.ok f ε2=>(match ε2[i]? with
   |some (.val _)=>.ok f (ε2.set i .none)
   |_=>.no)
  |_=>.no)else .no
 |.no=>.no
section
variable{X:Cx}{E:XK}{pin:List Nat}{e:aB}{dx:ak->R Slot}{dh:ak->R aR}{rp np hp pos:Pos}{sx n:Str}{D:af}{suite:List a6}{b₀:a6}{caught:ai->Bool}
theorem aP.unset{K:ax}{F:af->Prop}{S:Nat->af->Prop}{ε:ak}{σ:St}{H:Hp}{i:Nat}(r:aP K F S ε σ H):aP K F (λj b=>S j b/\j≠i) (ε.set i .none) (σ.set i ae) H:=by
 have r0:=r.drop i;have ne:∀{j:Nat}{s:Slot},(ε.set i .none)[j]?=aa s->s≠.none->j≠i:=λ{j s} e hs z=>by
  subst z;by_cases hj:j<ε.length
  ·rw[fe hj]at e;exact hs (dW e).symm
  ·rw[nc (by rw[fC];lia)]at e;cases e
 refine⟨by rw[fC,fC];exact r.len,r.ex,λj pv e=>?_,λj po e=>?_,r0.foot,r0.dist⟩
 ·obtain⟨v,h1,h2⟩:=r0.val j pv e;exact⟨v,by rw[dJ (ef (ne e (by intro z;cases z)))];exact h1,h2⟩
 ·obtain⟨v,h1,h2⟩:=r0.own j po e;exact⟨v,by rw[dJ (ef (ne e (by intro z;cases z)))];exact h1,h2⟩
theorem Mu{P:aM}{w:aF}{H:Hp}{h:aA}{a T:af}{c fl:ai}(ok:cI P w H h)(na:H a=ae)(f:jP h a T c fl):cI P w (upd H a (lx a c)) h:=λb u q=>by
 by_cases hb:b=a
 ·subst hb;rw[cC]at q;cases q;obtain⟨oe,vs,_,_,he,hc,hd,_⟩:=f;exact⟨⟨oe,vs,he,hc,hd⟩,⟨oe,he⟩,λh1 h2 ⟨o,ws,e1,e2,e3⟩ k=>⟨o,ws,k o e1,e2,e3⟩⟩
 ·rw[b7 hb]at q;exact(ok b u q).stay (λ_ _ _ z=>z) (λd z=>by rw[b7 (jL z na)];exact z) λd xs z=>by rw[b7 (jL z na)];exact z
def Ee(X:Cx)(ss:List a6)(d:ak->R Slot):Prop :=
 ∀F S ε σ H Q (XE:ai->Hp->Prop),aP X.K F S ε σ H->Ok X.K (λc _ H'=>XE c H') σ F S H (d ε) (λs _ F' S' H'=>∀v Sr,lH X.K H' F' s v Sr->(∀b,Sr b->H b=ae/\¬F' b/\¬U S' b/\∃o,H' b=aa o/\dQ o)->Q v H') ->
  ∀ag s,Inv X ag σ H s->aq (au X.prog X.w) X.A (execs ss X.env) (λfl s'=>∃u,fl=.ret u/\EP X ag σ Q u s') (XP X ag σ XE) s
theorem Mp(hx:DX X e dx):Ee X [.Return (aa e) rp] dx:=λF S ε σ H Q XE rl h ag s I=>Ew (wpAny_Return_some (dY (hx F S ε σ H Q XE rl h ag s I) (λu s1 q=>⟨u,rfl,q⟩) λ_ _ q=>q))
theorem HJ{ss:List a6}(i:Nat)(hN:X.N.Nodup)(hx:Ee X ss dx)(hD:X.mg sx=aa (.ref D))(hE:oh X.base D)(hcg:∀c,caught c=ah->Under X.base D c)(hh:∀a,fU (hand X a) E0 pin (b₀::suite) dh)(c8:i∉pin:=by decide) (hi:X.N[i]?=aa n:=by rfl) (hl:X.env.scope.names.lookup n=aa .local:=by rfl) (hg:Gl X sx:=by rfl) (hd:(sx == ("__debug__" : Str))=aj:=by decide) (dE:X.stack=X.env::X.outer:=by rfl) (hfm:X.env.frame=aa X.env.locals:=by rfl) (hf:X.fn n=ah\/X.env.scope.names.lookup n=aa .local:=by first|exact .inl rfl|exact .inr rfl):DS X E pin (.Try ss [.ExceptHandler (aa (.Name sx np)) (aa n) (b₀::suite) hp] [] [] pos) (n5 i caught dx dh):=λF S ε σ H Dn rl q=>Bx.mk λag s I=>by
 refine wpAny_Try_except ?_;have body:=hx F S ε σ H (λv H'=>Dn.rt v H') (λc H'=>∃F' S' ε',aP X.K F' S' ε' σ H'/\bp (U S) (U S') F F' H H'/\caught c=ah/\i<ε'.length/\iu X.K E pin σ F S H (match dh (ε'.set i (.val (.exc c)))with
  |.ok f ε2=>(match ε2[i]? with
   |some (.val _)=>.ok f (ε2.set i .none)
   |_=>.no)
  |_=>.no) Dn) rl (by
  unfold n5 at q;cases e0:dx ε with
  |no=>rw[e0]at q;exact q.elim
  |ok sl ε'=>rw[e0]at q;intro F' S' H' r' g' v Sr rv fr;exact q v F' S' σ H' Sr r' ⟨g'.fro,g'.keep,g'.there,g'.fnew,λb z=>z.elim (g'.onew b) λw=>.inr (fr b w).1⟩ (h_.refl _ _) rv λb z=>(fr b z).2
  |er c ε'=>
   rw[e0]at q;intro y F' S' H' r' g';dsimp only at q;by_cases hc:caught c=ah/\i<ε'.length
   ·rw[if_pos hc]at q;exact⟨F',S',ε',r',g',hc.1,hc.2,q⟩
   ·rw[if_neg hc]at q;exact q.elim) ag s I
 refine dY body (λfl s1 ⟨u,efl,v,H1,I1,r1,q1⟩=>?_) λev s1 xp=>?_
 ·subst efl;exact⟨v,σ,H1,I1,r1,q1⟩
 obtain⟨s0,H0,I0,a,T,c,H1,rfl,ho,hg1,un,hok,fl,⟨fa,fT,na,nT⟩,F1,S1,ε1,rl1,g1,hcc,bb,okh⟩:=xp;have I1:=I0.call' (s':=s1) (ch:=[]) ho un hok hg1 (λb z=>absurd z (by simp));have kpI:∀{h2:aA}{Y:af->Prop}{T':af},Kp (eF X.stack) Y s1.heap h2->(∀b o,s0.heap.get? b=aa o->¬Y b)->(∀b,Y b->H1 b=ae)->jP h2 a T' c .none->∀tk,Inv X ag σ (upd H1 a (lx a c)) {s1 with heap:=h2,toks:=tk}:=λ{h2 Y T'} k hY1 hY2 f2 tk=>by
  refine I0.call' (s':={s1 with heap:=h2,toks:=tk}) (ch:=[]) ho ?_ (Mu (yh hok k (λb hb=>I1.stkFree b hb) hY2) na f2) hg1 (λb z=>absurd z (by simp));have u2:=y3 un k (λb o _ z=>z) hY1;have na':∀b o,H1 b=aa o->b≠a:=λb o e=>jL e na;refine⟨u2.keep,u2.slot,λb o e n hx=>?_,u2.there,λb xs e=>?_,λb o u e=>?_,λb ps e=>?_⟩
  ·rw[b7 (by rintro rfl;rw[fa]at e;cases e)];exact u2.free b o e n hx
  ·have:=u2.tups b xs e;rw[b7 (na' b _ this)];exact this
  ·have:=u2.frzs b o u e;rw[b7 (na' b _ this)];exact this
  ·have:=u2.tbls b ps e;rw[b7 (na' b _ this)];exact this
 have H1T:∀b,b=a\/b=T->H1 b=ae:=λb z=>by rcases z with rfl|rfl <;> assumption
 have old1:∀b o,s0.heap.get? b=aa o->¬(b=a\/b=T):=λb o e z=>by
  rcases z with rfl|rfl
  ·rw[fa]at e;cases e
  ·rw[fT]at e;cases e
 refine C3 (outer:=X.outer) (by rw[I0.ok.frames,dE]) (by rw[←dE];exact I1.stack) hfm fl λh2 T' k fl2 fT'=>?_;rw[←dE]at k;have I2:=kpI k old1 H1T fl2 s1.toks;refine wpAny_handleBy_cons (codeAny_handlers_test ?_) (by intro z;cases z);have I2h:Inv (hand X a) ag σ (upd H1 a (lx a c)) {s1 with heap:=h2}:=Inv.hand I2;refine qm (X:=hand X a) I2h hg hD ?_ hd;obtain⟨oe,vs,oT,ts,he2,N5,_⟩:=id fl2;refine GN (s:={s1 with heap:=h2}) ((hcg c hcc).keeps I2.bk) (hE.keeps I2.bk) he2 N5 ?_;show kU _ _ _ _ _;refine codeAny_handlers_suite_as (Mc (s:={s1 with heap:=h2}) fl2 λh3 k3 fl3=>?_);have k':Kp (eF X.stack) (λb=>(b=a\/b=T)\/b=T') s1.heap h3:=k.trans (k3.imp (λb z=>by simp at z) λb o _ z=>z);have I3:=kpI (T':=T') k' (λb o e z=>by
  rcases z with z|rfl
  ·exact old1 b o e z
  ·rw[qg un (zE fT')]at e;cases e) (λb z=>by
  rcases z with z|rfl
  ·exact H1T b z
  ·exact I1.hok.fresh fT') fl3 s1.toks
 have I3h:Inv (hand X a) ag σ (upd H1 a (lx a c)) {s1 with heap:=h3}:=Inv.hand I3;refine sr (X:=hand X a) (v:=.ref a) I3h hN hi (.inl hl) rfl (λs4 I4=>?_) hf;have al:Al F1 F1 H1 (upd H1 a (lx a c)):=Al.new0 na;have r2:=rl1.al al;have r3:=r2.set (i:=i) (pv:=.exc c) (v:=.ref a) ⟨a,rfl,cC⟩;have g3:bp (U S) (U λj b=>S1 j b/\j≠i) F F1 H (upd H1 a (lx a c)):=(g1.trans al.grow).trans (bp.less i);have less:∀{S':Nat->af->Prop}{F':af->Prop}{H':Hp},bp (U S') (U λj b=>S' j b/\j≠i) F' F' H' H':=λ{S' F' H'}=>bp.less i;have pn:∀{σ':St},h_ pin (σ.set i (aa (.ref a))) σ'->h_ pin σ (σ'.set i ae):=λ{σ'} p=>((h_.set c8).trans p).trans (h_.set c8);have okd:iu (hand X a).K E0 pin (σ.set i (aa (.ref a))) F1 (λj b=>S1 j b/\j≠i) (upd H1 a (lx a c)) (dh (ε1.set i (.val (.exc c)))) {nx:=λσ' H'=>Dn.nx (σ'.set i ae) H',rt:=Dn.rt,bk:=λσ' H'=>Dn.bk (σ'.set i ae) H',ct:=λσ' H'=>Dn.ct (σ'.set i ae) H'}:=by
  cases ed:dh (ε1.set i (.val (.exc c)))with
  |no=>rw[ed]at okh;exact okh.elim
  |er c' ε2=>rw[ed]at okh;exact okh.elim
  |ok f ε2=>
   rw[ed]at okh;dsimp only at okh;split at okh
   ·cases f with
    |next=>exact λF' S' σ' H' r' g' p'=>okh F' _ _ H' r'.unset ((g3.trans g').trans less) (pn p')
    |brk=>exact λF' S' σ' H' r' g' p'=>okh F' _ _ H' r'.unset ((g3.trans g').trans less) (pn p')
    |cont=>exact λF' S' σ' H' r' g' p'=>okh F' _ _ H' r'.unset ((g3.trans g').trans less) (pn p')
    |ret sl=>
     intro v F' S' σ' H' Sr r' g' p' rv lo;refine okh v F' _ _ H' Sr r'.unset ?_ (pn p') rv λb z=>⟨(lo b z).1,λ⟨j,w⟩=>(lo b z).2.1 ⟨j,w.1⟩,(lo b z).2.2⟩
     have gg:=g3.trans g';exact⟨gg.fro,gg.keep,gg.there,gg.fnew,λb z=>gg.onew b (z.imp (λ⟨j,w⟩=>⟨j,w.1⟩) id)⟩
   ·exact okh.elim
 refine dY ((hh a F1 _ _ _ _ _ r3 okd).run ag s4 I4) (λf s5 sp=>?_) λ_ _ z=>z.elim;have away:∀{σ5:St}{H5:Hp}{Q:Unit->am->Prop},Inv (hand X a) ag σ5 H5 s5->(∀s6,Inv X ag (σ5.set i ae) H5 s6->Q () s6)->aq (au X.prog X.w) X.A (do bindName X.env n .none;unbindBehindTheSuite X.env n hp) Q X.xe s5:=λ{σ5 H5 Q} I5 hQ=>by
  have I5':=Inv.unhand I5 I0.ok;refine ap (wpAny_bindName (sr (v:=.non) I5' hN hi (.inl hl) rfl (λs6 I6=>?_) hf));unfold unbindBehindTheSuite;refine wpAny_onRaise ?_;have hiσ:i<σ5.length:=by rw[I5'.len];exact(c_.mp hi).1
  refine Ik I6 hN hi hl (fe hiσ) λs7 I7=>hQ s7 ?_;rw[List.set_set]at I7;exact I7
 cases f with
 |next=>obtain⟨σ5,H5,I5,q5⟩:=sp;exact away I5 λs6 I6=>⟨_,H5,I6,q5⟩
 |brk=>obtain⟨σ5,H5,I5,q5⟩:=sp;exact away I5 λs6 I6=>⟨_,H5,I6,q5⟩
 |cont=>obtain⟨σ5,H5,I5,q5⟩:=sp;exact away I5 λs6 I6=>⟨_,H5,I6,q5⟩
 |ret u=>obtain⟨v,σ5,H5,I5,rv,q5⟩:=sp;exact away I5 λs6 I6=>⟨v,_,H5,I6,rv,q5⟩
theorem IM(i:Nat)(hN:X.N.Nodup)(hx:DX X e dx)(hD:X.mg sx=aa (.ref D))(hE:oh X.base D)(hcg:∀c,caught c=ah->Under X.base D c)(hh:∀a,fU (hand X a) E0 pin (b₀::suite) dh)(c8:i∉pin:=by decide) (hi:X.N[i]?=aa n:=by rfl) (hl:X.env.scope.names.lookup n=aa .local:=by rfl) (hg:Gl X sx:=by rfl) (hd:(sx == ("__debug__" : Str))=aj:=by decide) (dE:X.stack=X.env::X.outer:=by rfl) (hfm:X.env.frame=aa X.env.locals:=by rfl) (hf:X.fn n=ah\/X.env.scope.names.lookup n=aa .local:=by first|exact .inl rfl|exact .inr rfl):DS X E pin (.Try [.Return (aa e) rp] [.ExceptHandler (aa (.Name sx np)) (aa n) (b₀::suite) hp] [] [] pos) (n5 i caught dx dh):=HJ i hN (Mp hx) hD hE hcg hh c8 hi hl hg hd dE hfm hf
end
structure js(k:Nat)(A:aO):Prop where
 dp:A.depth+3*k+5<recursionLimit
 un:A.units+16*k+200<cLine
theorem eX.hand{k:Nat}{A:aO}{v:Option ai}(r:eX k A):js k (A.mark v):=⟨r.dp,r.un⟩
theorem js.mono{j k:Nat}{A:aO}(r:js k A)(h:j<=k):js j A:=⟨by have:=r.dp;lia,by have:=r.un;lia⟩
theorem js.deeper{k:Nat}{A:aO}(r:js (k+1) A)(env:Env):js k (A.deeper env) :=⟨by have:=r.dp;show A.depth+1+3*k+5<_;lia,by have:=r.un;show A.units+3+16*k+200<_;lia⟩
theorem js.units{k:Nat}{A:aO}(r:js k A):A.units+64<cLine:=by have:=r.un;lia
def sI(P:aM)(w:aF)(K:ax)(mg:Str->Option ai)(base:aA)(N:List Str)(qual:Str)(scope:dX)(f:af)(cd:ai)(A:aO)(outer:List Env)(s:am)(H:Hp):Cx :=
 {(ii xW P w K mg base N qual scope f cd A outer s H E0)with calm:=aj,xe:=λ_ _=>False}
structure xE(P:aM)(w:aF)(K:ax)(mg:Str->Option ai)(base:aA)(k:Nat)(f:af)(fd:f8)(ps:List Str)(sp:Sp):Prop where
 len:∀vs H Q E,sp vs H Q E->vs.length=ps.length
 run:∀(A:aO) (outer:List Env) (s:am) (H:Hp) (args:Args) (us:List ai) (vs:List V) (Q:VK),js k A->pJ P w K mg base A outer s H->BindsTo s fd args (ps.zip us)->bn vs us->sp vs H Q E0 ->
  kU (au P w) A (.call (.ref f) args) (CR xW outer P w H s Q E0) s
structure uU(P:aM)(w:aF)(K:ax)(mg:Str->Option ai)(base:aA)(x:Str)(k:Nat)(ps:List Str)(sp:Sp):Prop where
 ex:∃f fd,mg x=aa (.ref f)/\xE P w K mg base k f fd ps sp/\Binds K fd ps []/\oB K (.ref f)=ah
theorem Is{P:aM}{w:aF}{K:ax}{mg:Str->Option ai}{base:aA}{k:Nat}{f:af}{name qual:Str}{params:Arguments}{body:List a6}{scope:dX}{dV kV doc pm aJ ct oc:ai}{an od:Option af}{osl:Array (Option ai)}{N ps:List Str}{sp:Sp} (lk:K.lookup f=aa ⟨oc,od,.func (hG name qual params body scope dV kV doc pm an aJ ct),osl⟩) (bS:sT K aJ qual=ah) (S:b_ N ps scope)(len:∀vs H Q E,sp vs H Q E->vs.length=ps.length)(gD:∀(A:aO) (outer:List Env) (s:am) (H:Hp) (vs:List V) (Q:VK),js k (A.deeper (ix qual scope s.heap.objs.size f aJ))->sp vs H Q E0 -> nX (sI P w K mg base N qual scope f aJ A outer s H) body {nx:=λ_ H'=>Q .non H',rt:=Q} (L2.start N vs) H):xE P w K mg base (k+1) f (hG name qual params body scope dV kV doc pm an aJ ct) ps sp:=by
 refine⟨len,λA outer s H args us vs Q hr e0 hb r gc=>?_⟩;have hl:=len _ _ _ _ gc;have KX:K.In s.heap:=e0.mod.kin.keeps λb o e=>(e0.bs b o e).1;have lim:s.heap.NoLimit:=e0.mod.nolimit.keeps λb o e=>(e0.bs b o e).1;have AE:∀y∈ps.zip us,scope.names.lookup y.1=aa .local\/(scope.names.lookup y.1=aa .cell/\((eT (s.heap.objs.size+1) scope.names []).lookup y.1).isSome=ah):=λ⟨n,v⟩ hy=>(S.par n (wp hy).1).imp id λq=>⟨q,EE _ _ _ (.inl q)⟩
 refine codeAny_call_function (by have:=hr.dp;lia) (KX _ _ lk) rfl S.co S.gen rfl (PySem.W.codeRec_of KX bS) (hb _ _ _ _ ?_);refine wpAny_newFunctionEnv_cells S.kind AE λenv he s1 x=>?_;subst he;refine⟨lim.keeps x.toInCall.keep,codeAny_func ?_⟩;have e1:pJ P w K mg base {A with handled:=ae} outer s H:=⟨e0.frames,e0.mod,e0.bs,e0.bsz,e0.funs,e0.frf,e0.hok,e0.bare,e0.tab⟩
 have I0:Inv (ii xW P w K mg base N qual scope f aJ {A with handled:=ae} outer s H E0) [] (L2.start N vs) H s1:=Cq S rfl e1 hl r x;have I:Inv (sI P w K mg base N qual scope f aJ A outer s H) [] (L2.start N vs) H s1 :=
  ⟨⟨I0.ok.mod,I0.ok.kind,I0.ok.glob,I0.ok.blt,I0.ok.above,I0.ok.inj,I0.ok.has,I0.ok.cab,(λz=>by cases z),Around.frames_deeper e0.frames,I0.ok.stk,I0.ok.exf,I0.ok.bs,I0.ok.bsz,I0.ok.noex,I0.ok.exfs,I0.ok.funs,I0.ok.frf,I0.ok.tab⟩,I0.os,I0.bare,I0.base,I0.loc,I0.cell,I0.free,I0.freeC,I0.pin,I0.hok,I0.len⟩
 refine dY ((gD A outer s H vs Q (hr.deeper _) gc).run [] s1 I) (λfl s' hs=>?_) λe s' hs=>hs.elim;have fin:∀{σ':St}{H':Hp}{v:V}{u:ai},Inv (sI P w K mg base N qual scope f aJ A outer s H) [] σ' H' s'->RelV v u->Q v H'->CE outer P w H s Q u s':=λ{σ' H' v u} J rv q=>⟨v,H',J.os,J.bare,J.base,J.hok,rv,q⟩
 cases fl with
 |ret u=>obtain⟨v,σ',H',J,rv,q⟩:=hs;exact fin J rv q
 |next=>obtain⟨σ',H',J,q⟩:=hs;exact fin (v:=V.non) (u:=Value.none) J rfl q
 |brk=>obtain⟨_,_,_,q⟩:=hs;exact f9 q
 |cont=>obtain⟨_,_,_,q⟩:=hs;exact f9 q
theorem Fx{P:aM}{w:aF}{K:ax}{mg:Str->Option ai}{base:aA}{x:Str}{st:a6}{N ps:List Str}{k n:Nat}{g:ak->R Slot}{d:ak->R aR}{pin:List Nat}(D:cn K mg x st)(Sc:b_ N ps (aX st))(hn:N.length=ps.length+n)(hb:∀(kV doc pm:ai) (an:Option af) (aJ ct:ai) (us:List ai),us.length=ps.length->fA (hG x x (i7 st) (fz st) (aX st) .none kV doc pm an aJ ct) ⟨us,[]⟩=pure (ps.zip us))(bw:∀ss,g ss≠.no->ss.length=ps.length) (jk:∀ss,g ss≠.no->∀(i:Nat) po,ss[i]?=aa (.own po)->i∈pin/\gr po=ah) (hg:∀ss,g ss≠.no->bC n d ss=g ss)(gD:∀(f:af) (aJ:ai) (A:aO) (outer:List Env) (s:am) (H:Hp),js k (A.deeper (ix x (aX st) s.heap.objs.size f aJ))->fU (sI P w K mg base N x (aX st) f aJ A outer s H) E0 pin (fz st) d):uU P w K mg base x (k+1) ps (bE K g):=by obtain⟨f,fd,hm,Fn⟩:=D.ex;refine⟨f,fd,hm,?_,Fn.binds hb,Fn.kp⟩;obtain⟨oc,od,kV,doc,pm,an,aJ,ct,osl,rfl,lk,bS⟩:=Fn.ex;exact Is lk bS Sc (Bc bw) λA outer s H vs Q hr gc=>Ec hn bw (λss h i po e=>(jk ss h i po e).1) (λss rs aI h=>.inr λi po e=>(jk ss (by rw[h];exact nofun) i po e).2) hg (gD f aJ A outer s H hr) gc
section
variable{X:Cx}{E:XK}{e:aB}{es:List aB}{dg:ak->R (List bW)}{pos:Pos}{x:Str}{k:Nat}{ps:List Str}{g:ak->R Slot}{p:Pos}
theorem Lb{f:af}{fd:f8}{sp:Sp}{t:TA}(Fn:xE X.prog X.w X.K X.mg X.base k f fd ps sp)(hr:js k X.A)(hg:Gl X x)(hm:X.mg x=aa (.ref f))(hk:oB X.K (.ref f)=ah)(hb:Binds X.K fd ps [])(ha:PA X (e::es) t) (hd:(x == ("__debug__" : Str))=aj) (he:aL (e::es) X.env=(aj,aT e X.env)::aL es X.env) (cT:(cL pos (aL es X.env)).any (·.1)=aj):PE X (.Call (.Name x p) (e::es) [] pos) (λσ H Q=>t σ H λvs H1=>sp vs H1 Q E0):=λag s σ H Q I h=>by
 refine wo (qm I hg hm ?_ hd);refine ED (h₀:=X.base) I.ok.mod.kin hk (aV (ha pos ag s σ H _ I h) λus s1 ⟨vs,H1,I1,r,q⟩=>⟨I1.kIn,?_⟩) he cT;have hl:us.length=ps.length:=by rw[←r.length];exact Fn.len _ _ _ _ q
 refine wn (oA (Fn.run X.A X.stack s1 H1 ⟨us,[]⟩ us vs Q hr I1.env0 (by have:=hb s1 us I1.kIn (by rw[g_];exact hl);rwa[g_]at this) r q) λrr s' hq=>?_);cases rr with
 |error er=>exact(show False from hq).elim
 |ok fl=>
  cases fl with
  |ret u=>exact I1.after hq
  |next=>exact f9 hq
  |brk=>exact f9 hq
  |cont=>exact f9 hq
theorem Fw{α β:Type}{K:ax}{E E':XK}{σ:St}{F:af->Prop}{S:Nat->af->Prop}{H:Hp}{C:β->ak->(af->Prop)->(Nat->af->Prop)->Hp->Prop}{r:R α}{f:α->ak->R β}(h:Ok K E σ F S H (bN (r.bind f)) C):Ok K E σ F S H r λa ε F S H=>Ok K E' σ F S H (f a ε) C:=by
 cases r with
 |ok a ε=>
  intro F1 S1 H1 r1 g1;have h:Ok K E σ F S H (bN (f a ε)) C:=h;cases e:f a ε with
  |ok=>rw[e]at h;exact Ok.from (E:=E') h g1
  |_=>rw[e]at h;exact h.elim
 |_=>exact h.elim
theorem J7(c:uU X.prog X.w X.K X.mg X.base x k ps (bE X.K g))(hr:js k X.A)(ha:DG X E (e::es) dg)(hg:Gl X x:=by rfl)(hd:(x == ("__debug__" : Str))=aj:=by decide) (h1:aL (e::es) X.env=(aj,aT e X.env)::aL es X.env:=by rfl) (h2:(cL pos (aL es X.env)).any (·.1)=aj:=by rfl):DR X E (.Call (.Name x p) (e::es) [] pos) (λε=>bN (a8 g dg ε)):=λF S ε σ H Q rl h=>by obtain⟨f,fd,hm,Fn,hb,hk⟩:=c.ex;exact b9 (Lb Fn hr hg hm hk hb gy hd h1 h2) (ha F S ε σ H _ rl ((Fw h).imp λas ε1 F1 S1 H1 r1 g1 q vs av=>Dq r1 g1 av q))
end
structure mI(K:ax)(C:af):Prop where
 ga:oz K (.ref C) "__getattribute__" = aa (aa (.builtin "BaseException.__getattribute__"))
 gt:oz K (.ref C) "__getattr__" = aa ae
 cl:oz K (.ref C) "__class__" = aa (aa (.builtin "object.__class__"))
 gs:EB K (.builtin "object.__class__") "__get__" = aa (aa (.builtin "getset_descriptor.__get__"))
 tk:PySem.W.takesIn K (.builtin "object.__class__")=aa ah
 ob:wm K C (.type "object")=aa ah
 be:wm K C (.type "BaseException")=aa ah
 cs:(Ag K C).isSome=ah
section
variable{prog:aM}{w:aF}{A:aO}{E:ai->am->Prop}{K:ax}{h:aA}{g:Array GenState}{d:Drawn}{t:Nat}{os:OsState}{a C:af}{o:Obj}
theorem L_{M:Model}{nameV:ai}{Q:Unit->am->Prop}(X:K.In h)(k:mI K C)(I:sS h a o C ae)(hq:Q () ⟨h,g,d,t,os⟩):aq M A (EU "BaseException.__getattribute__" ⟨[.ref a,nameV],[]⟩) Q E ⟨h,g,d,t,os⟩:=by
 have hk:builtinKind "BaseException.__getattribute__" = aa .slot:=by decide +kernel
 have NW:splitId "BaseException.__getattribute__" = aa ("BaseException","__getattribute__"):=by decide +kernel
 have ha:=F.args_bexc_ga (.ref a) nameV;have L0:=I.type (M:=M);have L1:=PySem.W.looks_mroIn (M:=M) X k.be;simp only[EU,hk,NW];refine ap ?_
 ·unfold wA
  repeat (first|with_reducible refine ap (L0.at ?_)|with_reducible refine L1.at ?_|with_reducible refine ap (L1.at ?_)|wp_step)
  exact hq
theorem K2{tk:Tok}{Q:Fin->am->Prop}(X:K.In h)(k:mI K C)(I:sS h a o C ae)(hq:Q (.done (.ret (.ref C))) ⟨h,g,d,t,os⟩):aq (au prog w) A (Builtin.«object.__getattribute__» ⟨[.ref a,.str "__class__" tk],[]⟩) Q E ⟨h,g,d,t,os⟩:=by
 have L0:=I.type (M:=au prog w);have hf:PySem.W.findObj K C ae "__class__" = aa (.bind (.builtin "getset_descriptor.__get__") (.builtin "object.__class__")):=by obtain⟨cd,hc⟩:=zJ.mp k.cs;unfold PySem.W.findObj;rw[hc,iy,k.cl,iy];simp[k.gs,k.tk]
 have L1:=PySem.W.looks_find (M:=au prog w) X I hf;have gg:kU (au prog w) A (.call (.builtin "getset_descriptor.__get__") ⟨[.builtin "object.__class__",.ref a,.ref C],[]⟩) (λr s'=>r=.ok (.ret (.ref C))/\s'=⟨h,g,d,t,os⟩) ⟨h,g,d,t,os⟩:=PySem.W.class_get (s:=⟨h,g,d,t,os⟩) X I k.ob ⟨rfl,rfl⟩;refine ap (aD (ap (aD (ap (L0.at (ap (L1.at ?_)))))));show aq _ _ (do ret (←jX [Value.builtin "object.__class__"] (call (.builtin "getset_descriptor.__get__") [.builtin "object.__class__",.ref a,.ref C]))) _ _ _;refine ap (iw (wn (oA gg λr s' z=>?_)));obtain⟨rfl,rfl⟩:=z;exact aD hq
theorem Gk{tk:Tok}{Q:ai->am->Prop}(X:K.In h)(k:mI K C)(I:sS h a o C ae)(hq:Q (.ref C) ⟨h,g,d,t,os⟩):aq (au prog w) A (getAttrBy (.ref a) (.str "__class__" tk) aj) Q E ⟨h,g,d,t,os⟩:=by
 have L0:=I.type (M:=au prog w);have L1:=PySem.W.looks_findIn (M:=au prog w) X k.ga;have L2':=PySem.W.looks_findIn (M:=au prog w) X k.gt;have mo:(Value.builtin "BaseException.__getattribute__" == Value.builtin "object.__getattribute__")=aj:=by decide +kernel
 have nA:(onTheHeap (Value.ref C)&&Value.builtin "BaseException.__getattribute__" == Value.builtin "object.__getattribute__")=aj:=by rw[mo];rfl
 unfold getAttrBy;refine iw (ap (L0.at (ap (L1.at ?_))));dsimp only;rw[nA];rw[if_neg (by decide)];have f3:=F.attr_ValueError.ga.bind (.ref a);have hx0:(aj&&onTheHeap (Value.builtin "BaseException.__getattribute__"))=aj:=rfl
 repeat (any_goals (first|assumption|with_reducible refine L2'.at ?_|with_reducible refine ap (L2'.at ?_)|wp_step))
 refine codeAny_call_builtin F.attr_ValueError.ga.plain F.entry_bexc_ga (L_ X k I (K2 X k I ?_))
 repeat (any_goals (first|assumption|wp_step))
theorem Fz{Q:Option ai->am->Prop}(X:K.In h)(k:mI K C)(I:sS h a o C ae)(hq:Q (aa (.ref C)) ⟨h,g,d,t+1,os⟩):aq (au prog w) A (getAttr? (.ref a) "__class__") Q E ⟨h,g,d,t,os⟩:=by
 unfold getAttr? getAttrBy?
 repeat (any_goals (first|assumption|with_reducible apply Gk X k I|wp_step))
theorem Ij(k:mI K C):PySem.W.KitX K (.ref a) (.ref C) (λh=>∃o,sS h a o C ae) where
 ty:=λ_ _ _ ⟨o,I⟩=>I.type
 it:=λ_ _ X _=>by
  obtain⟨cd,hc⟩:=zJ.mp k.cs;unfold Ag at hc;split at hc
  ·rename_i c' d' cd' sl' ho;intro A' Q' E' s' kk q;unfold isType loadHead;exact ap (wpAny_loadPart (kk _ _ (X _ _ ho)) (aD q))
  ·cases hc
 ne:=λh tp dd its n sl X htp=>by
  obtain⟨cd,hc⟩:=zJ.mp k.cs;refine wH.mpr λq=>?_;have e:C=tp:=Value.ref.inj (beq_iff_eq.mp q);subst e;unfold Ag at hc;split at hc
  ·rename_i c' d' cd' sl' ho;have z:=(X _ _ ho).symm.trans htp;cases z
  ·cases hc
 ca:=λ{_ _ _ _ _ s} X I q=>by obtain⟨o,I⟩:=I;obtain⟨h,g,d,t,os⟩:=s;exact Fz X k I q
end
def vo:V->Option ai
 |.ref D=>aa (.ref D)
 |.ty T=>aa (.type T)
 |_=>ae
theorem GL{v:V}{u u':ai}(e:vo v=aa u)(r:RelV v u'):u'=u:=by
 cases v <;> simp[vo]at e <;> subst e <;> exact r
section
variable{X:Cx}{K:ax}
def Es(K:ax):List V->Hp->VK->Prop:=λxs H Q=>∃a C D u b,xs=[.ref a,D]/\H a=aa (lx a (.ref C))/\mI K C/\vo D=aa u/\d4 K (.ref C) u=aa b/\Q (.bl b) H
theorem Ob:eA X (.builtin "isinstance") (Es X.K):=by
 intro ag s σ H xs us Q I r h;obtain⟨a,C,D,u,b,rfl,ha,k,hu,e,q⟩:=h;cases r with
 |cons r1 r2=>
  cases r2 with
  |cons r3 r4=>
   cases r4;cases r1;have e3:=GL hu r3;subst e3;obtain⟨⟨o,vs,h1,h2,h3,h4⟩,_,_⟩:=I.hok a _ ha;refine jZ (Ij (a:=a) k) I.kIn ⟨o,h1,h2,?_,?_⟩ e (by intro z;cases z) λtk=>⟨.bl b,H,I.tok _,rfl,q⟩
   ·unfold PySem.W.notCls;rw[h3]
   ·rw[h4];trivial
def iH(tab:ai->V->Option Bool):List PV->Option PV
 |[.exc c,.raw D]=>(tab c D).map .bl
 |xs=>dU xs
def Cp(K:ax):List V->Hp->VK->Prop:=λxs H Q=>Es K xs H Q\/∃x t T b,xs=[x,.ty T]/\g8 K H x (.type t)/\d4 K (.type t) (.type T)=aa b/\Q (.bl b) H
theorem jv:eA X (.builtin "isinstance") (Cp X.K):=Ob.or nI
def xS(K:ax)(tab:ai->V->Option Bool):Prop:=∀c D b,tab c D=aa b->∃C u,c=.ref C/\mI K C/\vo D=aa u/\d4 K (.ref C) u=aa b
theorem jq{tab:ai->V->Option Bool}(ht:xS K tab):PL K (Cp K) (iH tab):=λF H xs vs Q pv rs e q=>by
 unfold iH at e;split at e
 ·rename_i c D;cases q1:tab c D with
  |none=>rw[q1]at e;cases e
  |some b=>
   rw[q1]at e;cases e;obtain⟨C,u,rfl,k,hu,hk⟩:=ht c D b q1;obtain⟨v,r',rfl,⟨a,rfl,ha⟩,h2⟩:=rs;obtain⟨v2,rfl,h3⟩:=ig h2;rw[show v2=D from h3];exact .inl ⟨a,C,D,u,b,rfl,ha,k,hu,hk,q _ F H (Al.refl ..) rfl⟩
 ·exact .inr (nY F H _ vs Q pv rs e q)
theorem jR{E:XK}{x:Str}{D:af}{pos:Pos}(hm:X.mg x=aa (.ref D))(hg:Gl X x:=by rfl)(hd:(x == ("__debug__" : Str))=aj:=by decide):DE X E (.Name x pos) (dC (.raw (.ref D))):=λF S ε σ H Q r q=>b9 (yC (v:=.ref D) hg hm rfl hd) (q F S H r (bp.refl ..) _ rfl)
variable{E:XK}{e:aB}{de:ak->R PV}{pos:Pos}{y:Str}
def kF(xs:List PV)(y:PV):Option PV:=(cV y).bind λv=>(gU xs).map λws=>.int (ws.countP λz=>dy z v)
def yP(xs:List PV)(y:PV):Option PV:=(cV y).bind λv=>(gU xs).bind λws=>(ws.findIdx? λz=>dy z v).map λj=>.int j
def pP(f:List PV->PV->Option PV)(i:Nat)(de:ak->R PV):ak->R PV:=λε=>(bh (dO ε i) ε).bind λ_ ε=>(de ε).bind λk ε1=>(bh (dO ε1 i) ε1).bind λxs ε1=>bh (f xs k) ε1
theorem HU(i:Nat){p apos cpos:Pos}(he:DE X E e de)(hN:X.N[i]?=aa y:=by rfl)(hv:fF X.env.scope y:=by first|exact Or.inl rfl|exact Or.inr (Or.inl rfl)|exact Or.inr (Or.inr rfl))(hd:(y == ("__debug__" : Str))=aj:=by decide)(bS:(y == ("__classdict__" : Str))=aj:=by decide) (h1:kW (.Name y p) "count" X.env (aT (.Name y p) X.env)=aT (.Name y p) X.env:=by rfl)(h2:((cL cpos (aL [e] X.env)).all (λx=>!x.1)&&(qy cpos (qz [] X.env)).all (λx=>x.1.isSome)&&decide ([e].length+([]:List jh).length+(if([]:List jh).isEmpty then 0 else 1)<30))=ah:=by rfl)(h3:(apos.endLine == cpos.line)=ah:=by rfl) (h4:aL [e] X.env=(aj,aT e X.env)::aL [] X.env:=by rfl) (h5:(cL cpos (aL [] X.env)).any (·.1)=aj:=by rfl):DE X E (.Call (.Attribute (.Name y p) "count" apos) [e] [] cpos) (pP kF i de):=λF S ε σ H Q rl h=>by
 unfold pP at h;cases e0:dO ε i with
 |none=>rw[e0]at h;exact h.elim
 |some xs0=>
  rw[e0]at h;simp only[eK,R.bind_ok]at h;obtain⟨a,vs0,ea,ha,_,_,_⟩:=rl.lstAt (io e0);refine b9 (vN Ac PySem.F.slot_list_count PySem.F.type_list_count Ib (gP hN hv hd bS) (ij bK jt h4) h1 h2 h3 h4 h5) ⟨.ref a,ea,.inl ⟨rfl,_,cc.of ha⟩,?_⟩;refine he F S ε σ H _ rl ((Ok.bind h).imp λk ε1 F1 S1 H1 r1 g1 q v rv=>?_);cases e1:dO ε1 i with
  |none=>rw[e1]at q;exact q.elim
  |some xs=>
   rw[e1]at q;simp only[eK,R.bind_ok]at q;obtain⟨a',vs,ea',ml,ra,_,_⟩:=r1.lstAt (io e1);rw[ea]at ea';cases ea';unfold kF at q;cases q1:cV k with
   |none=>rw[q1]at q;exact q.elim
   |some w=>
    cases q2:gU xs with
    |none=>rw[q1,q2]at q;exact q.elim
    |some ws=>rw[q1,q2]at q;obtain⟨rfl,hf⟩:=rL ra q2;rw[iF rv q1];exact⟨a,vs,w,rfl,rfl,ml,o8 q1,hf,q F1 S1 H1 r1 (bp.refl ..) _ rfl⟩
theorem GE(i:Nat){p apos cpos:Pos}(he:DE X E e de)(hN:X.N[i]?=aa y:=by rfl)(hv:fF X.env.scope y:=by first|exact Or.inl rfl|exact Or.inr (Or.inl rfl)|exact Or.inr (Or.inr rfl))(hd:(y == ("__debug__" : Str))=aj:=by decide)(bS:(y == ("__classdict__" : Str))=aj:=by decide) (h1:kW (.Name y p) "index" X.env (aT (.Name y p) X.env)=aT (.Name y p) X.env:=by rfl)(h2:((cL cpos (aL [e] X.env)).all (λx=>!x.1)&&(qy cpos (qz [] X.env)).all (λx=>x.1.isSome)&&decide ([e].length+([]:List jh).length+(if([]:List jh).isEmpty then 0 else 1)<30))=ah:=by rfl)(h3:(apos.endLine == cpos.line)=ah:=by rfl) (h4:aL [e] X.env=(aj,aT e X.env)::aL [] X.env:=by rfl) (h5:(cL cpos (aL [] X.env)).any (·.1)=aj:=by rfl):DE X E (.Call (.Attribute (.Name y p) "index" apos) [e] [] cpos) (pP yP i de):=λF S ε σ H Q rl h=>by
 unfold pP at h;cases e0:dO ε i with
 |none=>rw[e0]at h;exact h.elim
 |some xs0=>
  rw[e0]at h;simp only[eK,R.bind_ok]at h;obtain⟨a,vs0,ea,ha,_,_,_⟩:=rl.lstAt (io e0);refine b9 (vN Ac PySem.F.slot_list_index PySem.F.type_list_index KO (gP hN hv hd bS) (ij bK jt h4) h1 h2 h3 h4 h5) ⟨.ref a,ea,.inl ⟨rfl,_,cc.of ha⟩,?_⟩;refine he F S ε σ H _ rl ((Ok.bind h).imp λk ε1 F1 S1 H1 r1 g1 q v rv=>?_);cases e1:dO ε1 i with
  |none=>rw[e1]at q;exact q.elim
  |some xs=>
   rw[e1]at q;simp only[eK,R.bind_ok]at q;obtain⟨a',vs,ea',ml,ra,_,_⟩:=r1.lstAt (io e1);rw[ea]at ea';cases ea';unfold yP at q;cases q1:cV k with
   |none=>rw[q1]at q;exact q.elim
   |some w=>
    cases q2:gU xs with
    |none=>rw[q1,q2]at q;exact q.elim
    |some ws=>
     cases q3:ws.findIdx? λz=>dy z w with
     |none=>rw[q1,q2]at q;simp only[iy]at q;rw[q3]at q;exact q.elim
     |some j=>
      rw[q1,q2]at q;simp only[iy]at q;rw[q3]at q;obtain⟨rfl,hf⟩:=rL ra q2;rw[iF rv q1];rw[NQ]at q3;obtain⟨hj,h6,h7⟩:=q3;refine⟨a,vs,w,j,rfl,rfl,ml,o8 q1,hf,hj,λz hz=>?_,λm z hm hz=>?_,q F1 S1 H1 r1 (bp.refl ..) _ rfl⟩
      ·rw[d7 hj]at hz;cases hz;exact h6
      ·have:=h7 m hm;rw[d7 ∅]at hz;cases hz;simpa using this
end
theorem GQ(c:Nat)(x:Tx):uv [c] x=x.contains c:=by unfold uv;have:=StrLaws.found_one (tS x) c;rw[lI]at this;rw[show(tS [c])=⟨#[c]⟩from rfl,this];simp[List.contains_eq_mem]
theorem Nf:fillsNumberSlot (.type "tuple") "mul" = pure aj :=PySem.fillsNumberSlot_seq (id:="tuple.__mul__") (r:=aa (.builtin "tuple.__rmul__")) F.slot_tuple_mul.lookup (by decide +kernel) F.slot_tuple_rmul.lookup (by decide +kernel)
theorem KA:seqRepeat? (.type "tuple")=pure (aa (.builtin "tuple.__mul__")):=by unfold seqRepeat?;rw[PySem.seqSlot_of (T:="tuple") (name:="__mul__") (id:="tuple.__mul__") F.slot_tuple_mul.lookup (by decide +kernel),PySem.seqSlot_of (T:="tuple") (name:="__rmul__") (id:="tuple.__rmul__") F.slot_tuple_rmul.lookup (by decide +kernel)];rfl
theorem NE(a:Int)(t:Tok)(l:af)(items:Array ai)(n:Nat)(dd:Option af)(sl:Array (Option ai)):Meets (Builtin.«int.__rmul__» ⟨[.int a t,.ref l],[]⟩) (λ_ R s=>s.heap.get? l=aa {cls:=.type "tuple",dict:=dd,data:=.seq items n,slots:=sl}/\R (.ok (.ret Value.notImplemented)) s) :=.of_wp λprog w A R s h=>by obtain⟨hp,g,d,tk,os⟩:=s;obtain⟨hl,h⟩:=h;wp_walk;exact⟨_,rfl,h⟩
theorem Jn(l:af)(items:Array ai)(n:Nat)(dd:Option af)(sl:Array (Option ai))(x:Int)(u:Tok)(h0:(decide (x < -(2^63))||decide (x ≥ 2^63))=aj)(h1:(items.isEmpty||x == 1)=aj)(h2:(decide (x<=0)||items.isEmpty)=aj)(h3:¬(items.size*x > (2^63-1) / 8))(h4:Builtin.Tuple.tupleTooMany (items.size*x)=aj)(h5:((bV x.toNat items).foldl (·++·) #[]).size<=ba):Meets (Builtin.«tuple.__mul__» ⟨[.ref l,.int x u],[]⟩) (λ_ R s=>s.heap.get? l=aa {cls:=.type "tuple",dict:=dd,data:=.seq items n,slots:=sl}/\R (.ok (.ret (.ref s.heap.objs.size))) {s with heap:=s.heap.push {cls:=.type "tuple",data:=.seq ((bV x.toNat items).foldl (·++·) #[])}}) :=
 .of_wp λprog w A R s h=>by
  obtain⟨hp,g,d,tk,os⟩:=s;obtain⟨hl,h⟩:=h
  wp_walk
  refine wpAny_ite_false (decide_eq_false (by rw[h0];exact eR)) ?_
  wp_walk
  refine wpAny_ite_false (decide_eq_false h3) ?_
  wp_walk
  exact⟨_,rfl,h⟩
section
variable{X:Cx}{K:ax}
def Di(K:ax):R2:=λx y H Q=>∃a k xs,x=.ref a/\y=.int k/\cB K H a xs/\xs≠[]/\2<=k/\k<=1000/\xs.length<=1000/\∀p,H p=ae->Q (.ref p) (upd H p (.tup (bV k.toNat xs).flatten))
theorem NF:bT X (iS .Mult) (Di X.K):=by
 intro ag s σ H x y v u Q I rx ry h;obtain⟨l,k,xs,rfl,rfl,hH,dj,h1,h2,hz,q⟩:=h;cases rx;obtain⟨t,rfl⟩:=ry;obtain⟨its,r,p1,_⟩:=I.tuple hH;obtain⟨⟨cls,dd,data,sl⟩,ho,hc,n,hd⟩:=id p1;simp only at hc hd;subst hc hd;have hl:=r.length;have hne':its≠[]:=λz=>dj (r.nil_iff.mp z);have f0:List.foldl (λx1 x2=>x1++x2) #[] (bV k.toNat its.toArray)=(bV k.toNat its).flatten.toArray:=by have:=foldl_rep its k.toNat [];rw[iz]at this;exact this
 have he:its.toArray.isEmpty=aj:=by cases its with|nil=>exact absurd rfl hne'|cons=>rfl
 have e1:(k == 1)=aj:=by rw[beq_eq_false_iff_ne];lia
 have Fp:its.toArray.size*k<=1000000:=by
  rw[ce];have ha:(its.length:Int)<=1000:=∅
  have:=Int.mul_le_mul ha h2 ∅ ∅;lia
 refine wpAny_binaryOp_repeat_ref (T:="tuple") (U:="int") (by decide) ⟨_,ho,rfl⟩ (λs'=>typeIs_int s' k t) Nf F.fills_int_mul F.slot_int_rmul KA F.slot_int_index.lookup
  (qC F.slot_int_rmul (typeIs_int s k t) F.entry_int_rmul (F.args_int_rmul_2 _ _) (NE k t l its.toArray n dd sl) ⟨ho,rfl,⟨_,ho,rfl⟩,qC F.slot_tuple_mul ⟨_,ho,rfl⟩ F.entry_tuple_mul (F.args_tuple_mul_2 _ _) (Jn l its.toArray n dd sl k t ?_ ?_ ?_ ?_ ?_ ?_) ⟨ho,?_⟩⟩)
 ·rw[decide_eq_false ∅,decide_eq_false ∅];rfl
 ·rw[he,e1];rfl
 ·rw[he,decide_eq_false ∅];rfl
 ·lia
 ·unfold Builtin.Tuple.tupleTooMany;exact decide_eq_false (by rw[oy];lia)
 ·rw[f0,ce,yk,oy];have:=zX (show k.toNat<=1000 by lia) (show its.length<=1000 by lia);lia
 ·rw[f0];refine⟨.ref s.heap.objs.size,_,I.laid (t':=s.toks) (o:=.tup (bV k.toNat xs).flatten) (λb ob q=>bG _ q) (a_ _) ?_,rfl,q _ (I.hok.fresh (a_ _))⟩;refine⟨?_,_,r.rep k.toNat,Eu.new _ _⟩;rw[yk,oy];have:=zX (show k.toNat<=1000 by lia) hz;lia
theorem _root_.Pu.Reps.rep{H:Hp}{F:af->Prop}{xs:List PV}{vs:List V}(r:Reps K H F xs vs):∀n:Nat,Reps K H F (bV n xs).flatten (bV n vs).flatten
 |0=>rfl
 |n+1=>by rw[mY,mY,qA,qA];exact r.app (r.rep n)
def uT:PV->PV->Option PV
 |.tup xs,.int k=>if xs≠[]/\2<=k/\k<=1000/\xs.length<=1000 then aa (.tup (bV k.toNat xs).flatten)else ae
 |_,_=>ae
theorem Nh:P2 K (Di K) uT:=λF H x y v u Q pv rx ry e q=>by
 unfold uT at e;split at e
 ·split at e
  ·rename_i xs k h;cases e;obtain⟨a,us,rfl,ha,ra⟩:=rx;have hl:=ra.len;exact⟨a,k,us,rfl,ry,cB.of ha,(λz=>h.1 (by rw[z]at hl;exact oH hl.symm)),h.2.1,h.2.2.1,∅,λp hp=>q _ F _ (Al.new0 hp) ⟨p,_,rfl,cC,(Al.new0 hp).reps (ra.rep _)⟩⟩
  ·cases e
 ·cases e
end
section
variable{X:Cx}{E:XK}{scope:dX}{x:Str}{N':List Str}{cap:List Nat}
variable{pin:List Nat}
theorem GU{F:af->Prop}{S:Nat->af->Prop}{ε:ak}{σ:St}{H:Hp}{D:jQ}{i:Nat}{dn:ak->R PO}(hp:i∉pin)(rl:aP X.K F S ε σ H)(h:iu X.K E pin σ F S H (cO i (dF dn) ε) D):Ok X.K E σ F S H (dn ε) (λpo _ F' S' H'=>∀a Sa,eP X.K H' F' po a Sa->(∀b,Sa b->H b=ae/\¬F' b/\¬U S' b/\∃o,H' b=aa o/\dQ o)->D.nx (σ.set i (aa (.ref a))) H'):=by
 unfold cO dF at h;cases e0:dn ε with
 |no=>rw[e0]at h;exact h.elim
 |er c ε'=>rw[e0]at h;exact λx F' S' H' r' g'=>h x F' S' σ H' r' g' (h_.refl _ _)
 |ok po ε1=>
  rw[e0]at h;intro F1 S1 H1 r1 g1 a Sa ow fr;cases po with
  |dK kvs=>exact h.elim
  |lls iV=>exact h.elim
  |ins C fs=>exact h.elim
  |dT kvs=>exact h.elim
  |inl C fs y xs=>exact h.elim
  |lst xs=>
   have hN:∀b,Sa b->¬U S1 b/\∃o,H1 b=aa o:=λb z=>let ⟨_,_,x3,o,x4,_⟩:=fr b z;⟨x3,o,x4⟩
   obtain⟨⟨vs,ha,hr⟩,hS⟩:=ow;have g2:bp (U S) (U S1) F (λb=>F1 b\/Sa b) H H1:=⟨λb z=>.inl (g1.fro b z),g1.keep,g1.there,λb z=>z.elim (g1.fnew b) λw=>.inr (.inl (fr b w).1),g1.onew⟩
   have rv:aS X.K H1 (λb=>F1 b\/Sa b) (.lst xs) (.ref a):=⟨a,vs,rfl,.inl ha,.inr ((hS a).mpr rfl),Reps.mono (λ_ z=>.inl z) (λ_ _ _ z=>z) (λ_ _ z _=>z) _ _ hr⟩
   exact h _ _ _ H1 ((r1.more hN).set rv) (g2.trans (bp.less i)) (h_.set hp)
section
variable{elt iter:aB}{y:Str}{px py pos spos:Pos}{di:ak->R (List PV)}{dt:ak->R Bool}{de:ak->R PV}{dl:ak->R PO}{ifs:List aB}
theorem F_(i:Nat)(hN:X.N.Nodup)(B:jO X scope x N' cap)(hc:X.calm=ah)(hi:DI X E (.Name x px) iter di)(ht:∀C s₀ H₀ ex pn,DF (cP X scope N' C s₀ H₀ ex pn) E0 ifs dt) (he:∀C s₀ H₀ ex pn,DE (cP X scope N' C s₀ H₀ ex pn) E0 elt de)(hp:i∉pin:=by decide) (hiy:X.N[i]?=aa y:=by rfl) (hx:Loc X.env.scope y:=by first|exact Or.inl rfl|exact Or.inr rfl) (hsw:kR (.ListComp elt [⟨.Name x px,iter,ifs,0⟩] scope pos) (aa (.Name y py)) spos.line X.env=pure ah:=by rfl)(hf:X.fn y=ah\/X.env.scope.names.lookup y=aa .local:=by first|exact .inl rfl|exact .inr rfl) (hs:∀x,qt iter X.env x=pure x:=by intro _;rfl):DS X E pin (.Assign [.Name y py] (.ListComp elt [⟨.Name x px,iter,ifs,0⟩] scope pos) spos) (cO i (dF (cz cap di dt de))):=λF S ε σ H D rl h=>gT (MY (wi:=qi X (.Name x px) iter) (ts:=λσ H Q=>∀C s₀ H₀ ex pn,vi (cP X scope N' C s₀ H₀ ex pn) ifs σ H Q) (te:=λσ H Q=>∀C s₀ H₀ ex pn,iJ (cP X scope N' C s₀ H₀ ex pn) elt σ H Q) B hc zv (λC s₀ H₀ ex pn ag s σ H Q I h=>(h C s₀ H₀ ex pn).run ag s I) (λC s₀ H₀ ex pn ag s σ H Q I h=>(h C s₀ H₀ ex pn).run ag s I) hN hiy hx hsw hf hs) (Ct hi ht he rl (GU hp rl h))
end
end
def fq(pin:List Nat):Nat->ak->Bool
 |_,[]=>ah
 |i,.own po::ss=>pin.contains i&&gr po&&fq pin (i+1) ss
 |i,_::ss=>fq pin (i+1) ss
theorem pA{pin:List Nat}:∀{ss:ak}{k:Nat},fq pin k ss=ah->∀(i:Nat) po,ss[i]?=aa (.own po)->k+i∈pin/\gr po=ah
 |[],_,_,i,po,e=>by simp at e
 |.own q::ss,k,h,0,po,e=>by simp only[List.getElem?_cons_zero,Option.some.injEq,Slot.own.injEq]at e;subst e;simp only[fq,fB]at h;exact⟨by simpa using h.1.1,h.1.2⟩
 |.own q::ss,k,h,i+1,po,e=>by simp only[fq,fB]at h;have:=pA (k:=k+1) h.2 i po (by simpa using e);rwa[tm,wI]at this
 |.val q::ss,k,h,0,po,e=>by simp at e
 |.none::ss,k,h,0,po,e=>by simp at e
 |.val q::ss,k,h,i+1,po,e=>by have:=pA (k:=k+1) (by simpa[fq]using h) i po (by simpa using e);rwa[tm,wI]at this
 |.none::ss,k,h,i+1,po,e=>by have:=pA (k:=k+1) (by simpa[fq]using h) i po (by simpa using e);rwa[tm,wI]at this
def bD(len:Nat)(pin:List Nat)(g:ak->R Slot):ak->R Slot:=λss=>if ss.length=len/\fq pin 0 ss=ah then g ss else .no
theorem c9{CX:fE}{P:aM}{w:aF}{K:ax}{mg:Str->Option ai}{base:aA}{x:Str}{st:a6}{N ps:List Str}{k n:Nat}{d:ak->R aR}{pin:List Nat}(D:cn K mg x st)(Sc:b_ N ps (aX st))(hn:N.length=ps.length+n)(hb:∀(kV doc pm:ai) (an:Option af) (aJ ct:ai) (us:List ai),us.length=ps.length->fA (hG x x (i7 st) (fz st) (aX st) .none kV doc pm an aJ ct) ⟨us,[]⟩=pure (ps.zip us))(gD:∀(f:af) (aJ:ai) (A:aO) (outer:List Env) (s:am) (H:Hp) (E:XK),eX k (A.deeper (ix x (aX st) s.heap.objs.size f aJ))->fU (ii CX P w K mg base N x (aX st) f aJ A outer s H E) E pin (fz st) d):cA CX P w K mg base x (k+1) ps (bE K (bD ps.length pin (bC n d))):=by
 have no:∀{ss},bD ps.length pin (bC n d) ss≠.no->ss.length=ps.length/\fq pin 0 ss=ah:=λ{ss} h=>by
  unfold bD at h;by_cases z:ss.length=ps.length/\fq pin 0 ss=ah
  ·exact z
  ·rw[if_neg z]at h;exact absurd rfl h
 exact NB D Sc hn hb (λss h=>(no h).1) (λss h i po e=>by have:=pA (no h).2 i po e;rwa[qN]at this) (λss h=>by unfold bD;rw[if_pos (no h)]) gD
theorem Jd{f:af}{fd:f8}{CX:fE}{P:aM}{w:aF}{K:ax}{mg:Str->Option ai}{base:aA}{x qual:Str}{st:a6}{N ps:List Str}{k n:Nat}{d:ak->R aR}{pin:List Nat}(Fn:nR K x qual st f fd)(Sc:b_ N ps (aX st))(hn:N.length=ps.length+n)(hb:∀(kV doc pm:ai) (an:Option af) (aJ ct:ai) (us:List ai),us.length=ps.length->fA (hG x qual (i7 st) (fz st) (aX st) .none kV doc pm an aJ ct) ⟨us,[]⟩=pure (ps.zip us))(gD:∀(f:af) (aJ:ai) (A:aO) (outer:List Env) (s:am) (H:Hp) (E:XK),eX k (A.deeper (ix qual (aX st) s.heap.objs.size f aJ))->fU (ii CX P w K mg base N qual (aX st) f aJ A outer s H E) E pin (fz st) d):jM P w K mg base CX (k+1) f fd ps (bE K (bD ps.length pin (bC n d))):=by
 have no:∀{ss},bD ps.length pin (bC n d) ss≠.no->ss.length=ps.length/\fq pin 0 ss=ah:=λ{ss} h=>by
  unfold bD at h;by_cases z:ss.length=ps.length/\fq pin 0 ss=ah
  ·exact z
  ·rw[if_neg z]at h;exact absurd rfl h
 exact CG Fn Sc hn hb (λss h=>(no h).1) (λss h i po e=>by have:=pA (no h).2 i po e;rwa[qN]at this) (λss h=>by unfold bD;rw[if_pos (no h)]) gD
theorem Hv{P:aM}{w:aF}{K:ax}{mg:Str->Option ai}{base:aA}{x:Str}{st:a6}{N ps:List Str}{k n:Nat}{d:ak->R aR}{pin:List Nat}(D:cn K mg x st)(Sc:b_ N ps (aX st))(hn:N.length=ps.length+n)(hb:∀(kV doc pm:ai) (an:Option af) (aJ ct:ai) (us:List ai),us.length=ps.length->fA (hG x x (i7 st) (fz st) (aX st) .none kV doc pm an aJ ct) ⟨us,[]⟩=pure (ps.zip us))(gD:∀(f:af) (aJ:ai) (A:aO) (outer:List Env) (s:am) (H:Hp),js k (A.deeper (ix x (aX st) s.heap.objs.size f aJ))->fU (sI P w K mg base N x (aX st) f aJ A outer s H) E0 pin (fz st) d):uU P w K mg base x (k+1) ps (bE K (bD ps.length pin (bC n d))):=by
 have no:∀{ss},bD ps.length pin (bC n d) ss≠.no->ss.length=ps.length/\fq pin 0 ss=ah:=λ{ss} h=>by
  unfold bD at h;by_cases z:ss.length=ps.length/\fq pin 0 ss=ah
  ·exact z
  ·rw[if_neg z]at h;exact absurd rfl h
 exact Fx D Sc hn hb (λss h=>(no h).1) (λss h i po e=>by have:=pA (no h).2 i po e;rwa[qN]at this) (λss h=>by unfold bD;rw[if_pos (no h)]) gD
theorem DZ{P:List ai->Prop}(h:∀a,P [a])(us:List ai)(hl:us.length=1):P us:=by
 cases us with
 |nil=>cases hl
 |cons a r=>cases r with
  |nil=>exact h a
  |cons b r=>cases hl
theorem Ed{P:List ai->Prop}(h:∀a b,P [a,b])(us:List ai)(hl:us.length=2):P us:=by
 cases us with
 |nil=>cases hl
 |cons a r=>exact DZ (P:=λr=>P (a::r)) (h a) r (wJ hl)
theorem BD{P:List ai->Prop}(h:∀a b c,P [a,b,c])(us:List ai)(hl:us.length=3):P us:=by
 cases us with
 |nil=>cases hl
 |cons a r=>exact Ed (P:=λr=>P (a::r)) (h a) r (wJ hl)
theorem MG{P:List ai->Prop}(h:∀a b c d,P [a,b,c,d])(us:List ai)(hl:us.length=4):P us:=by
 cases us with
 |nil=>cases hl
 |cons a r=>exact BD (P:=λr=>P (a::r)) (h a) r (wJ hl)
theorem On{fd:f8}{ps:List Str}(h:∀a,fA fd ⟨[a],[]⟩=pure (ps.zip [a]))(us:List ai)(hl:us.length=1):fA fd ⟨us,[]⟩=pure (ps.zip us):=DZ (P:=λus=>fA fd ⟨us,[]⟩=pure (ps.zip us)) h us hl
theorem Oc{fd:f8}{ps:List Str}(h:∀a b,fA fd ⟨[a,b],[]⟩=pure (ps.zip [a,b]))(us:List ai)(hl:us.length=2):fA fd ⟨us,[]⟩=pure (ps.zip us):=Ed (P:=λus=>fA fd ⟨us,[]⟩=pure (ps.zip us)) h us hl
theorem Oj{fd:f8}{ps:List Str}(h:∀a b c,fA fd ⟨[a,b,c],[]⟩=pure (ps.zip [a,b,c]))(us:List ai)(hl:us.length=3):fA fd ⟨us,[]⟩=pure (ps.zip us):=BD (P:=λus=>fA fd ⟨us,[]⟩=pure (ps.zip us)) h us hl
theorem Ow{fd:f8}{ps:List Str}(h:∀a b c d,fA fd ⟨[a,b,c,d],[]⟩=pure (ps.zip [a,b,c,d]))(us:List ai)(hl:us.length=4):fA fd ⟨us,[]⟩=pure (ps.zip us):=MG (P:=λus=>fA fd ⟨us,[]⟩=pure (ps.zip us)) h us hl
theorem jy{P:aM}{w:aF}{X:Cx}:pU (cf P w) X E0:=λ_ _ _ _ _ _ _ h=>by obtain⟨a,T,c,H',_,_,_,_,_,_,_,z⟩:=h;exact z.elim
theorem gR:eB "len" = aa (.builtin "len"):=by decide +kernel
theorem zr:eB "all" = aa (.builtin "all"):=by decide +kernel
theorem KD:eB "any" = aa (.builtin "any"):=by decide +kernel
theorem pR:eB "sorted" = aa (.builtin "sorted"):=by decide +kernel
theorem fX:eB "isinstance" = aa (.builtin "isinstance"):=by decide +kernel
theorem KP:eB "int" = aa (.type "int"):=by decide +kernel
theorem KF:eB "bool" = aa (.type "bool"):=by decide +kernel
theorem Cm:eB "str" = aa (.type "str"):=by decide +kernel
theorem BA:eB "list" = aa (.type "list"):=by decide +kernel
theorem rS:eB "tuple" = aa (.type "tuple"):=by decide +kernel
theorem Cg:eB "set" = aa (.type "set"):=by decide +kernel
theorem LO:eB "ValueError" = aa (.type "ValueError"):=by decide +kernel
def kJ:aB->Bool
 |.Starred _ _=>ah
 |_=>aj
theorem iY{e:aB}{es:List aB}{env:Env}(h:kJ e=aj):aL (e::es) env=(aj,aT e env)::aL es env:=by
 cases e <;> first|rfl|cases h
section
variable{X:Cx}{E:XK}{e:aB}{es:List aB}{d:ak->R PV}{ds:ak->R (List PV)}{dg:ak->R (List bW)}
theorem az(ha:DE X E e d)(hr:DA X E es ds)(h:kJ e=aj:=by rfl):DA X E (e::es) (ar d ds):=JG ha hr (iY h)
theorem aQ(ha:DE X E e d)(hr:DG X E es dg)(h:kJ e=aj:=by rfl):DG X E (e::es) (gV d dg):=Ha ha hr (iY h)
end
def se:List ai:=[.type "ValueError",.type "Exception",.type "BaseException",.type "object"]
theorem za{K:ax}{h:aA}{C:af}{B:List ai}{nw:String}(X:K.In h)(q:ng K C B nw=ah):∃bm N nm qn bs hd sn sub ab col dd k0 k1 k2 k3 k5 mN,h.get? C=aa (Af nm qn C N bs bm hd sn sub ab col dd k0 k1 k2 k3 k5 nw)/\h.Ns N mN/\mN "__init__" = ae/\OwnTail h B bm:=by
 unfold ng at q;split at q
 case h_2=>cases q
 case h_1 d0 cdata slots look=>
  split at q
  case h_2=>cases q
  case h_1 C2 tl s0 s1 s2 s3 nn s5 em es=>
   rw[fB,fB,fB,fB,fB]at q;obtain⟨⟨⟨⟨⟨q1,q2⟩,q3⟩,q4⟩,q5⟩,q6⟩:=q;have r1:=beq_iff_eq.mp q1;have r2:=beq_iff_eq.mp q2;have r6:=beq_iff_eq.mp q6;subst r1 r2;cases cdata;dsimp only at em q3 q5 r6;subst em;have r3:=E4 _ |>.mp q3
   subst r3;have r7:slots=#[s0,s1,s2,s3,aa (.builtin nn),s5]:=by cases slots;exact congrArg Array.mk es
   subst r7;exact⟨tl,_,_,_,_,_,_,_,_,_,d0,s0,s1,s2,s3,s5,_,X _ _ look,Heap.Ns.of_isNs (PySem.W.isNs_of_in X q5),PySem.W.nsMap_none_of_in X q5 r6,PySem.W.tail_of_in X q4⟩
theorem Hi{K:ax}{h:aA}{mg:Str->Option ai}{x:Str}{C:af}{B:List ai}{nw:String}(X:K.In h)(e:mg x=aa (.ref C))(q:ng K C B nw=ah):OwnCls x C B nw mg h:=⟨e,za X q⟩
theorem Mh{K:ax}{h:aA}{C:af}{nw:String}(X:K.In h)(q:ng K C se nw=ah):oh h C:=by obtain⟨bm,N,nm,qn,bs,hd,sn,sub,ab,col,dd,k0,k1,k2,k3,k5,mN,e,_,_,t⟩:=za X q;exact⟨bm,N,nm,qn,bs,hd,sn,sub,ab,col,dd,k0,k1,k2,k3,k5,nw,e,t.hasType rfl⟩
def subB(K:ax)(D C:af):Bool:=match K.lookup C with
 |some ⟨_,_,.cls cd,_⟩=>cd.mro.contains (.ref D)
 |_=>aj
theorem HQ{K:ax}{h:aA}{C D:af}{B:List ai}{nw:String}(X:K.In h)(q:ng K C B nw=ah)(s:subB K D C=ah):Under h D (.ref C):=by
 obtain⟨bm,N,nm,qn,bs,hd,sn,sub,ab,col,dd,k0,k1,k2,k3,k5,mN,e,_⟩:=za X q;refine⟨C,bm,N,nm,qn,bs,hd,sn,sub,ab,col,dd,k0,k1,k2,k3,k5,nw,rfl,e,?_⟩;unfold subB at s;split at s
 ·rename_i o1 o2 cd o3 look;have e2:=X _ _ look;rw[e]at e2;unfold Af at e2;cases e2;exact s
 ·cases s
def vd(K:ax)(C:af):Bool :=
 oz K (.ref C) "__getattribute__" == aa (aa (.builtin "BaseException.__getattribute__"))&&oz K (.ref C) "__getattr__" == aa ae&&oz K (.ref C) "__class__" == aa (aa (.builtin "object.__class__")) &&
 EB K (.builtin "object.__class__") "__get__" == aa (aa (.builtin "getset_descriptor.__get__"))&&PySem.W.takesIn K (.builtin "object.__class__") == aa ah&&wm K C (.type "object") == aa ah&&wm K C (.type "BaseException") == aa ah&&(Ag K C).isSome
theorem BI{K:ax}{C:af}(h:vd K C=ah):mI K C:=by simp only[vd,fB,beq_iff_eq]at h;obtain⟨⟨⟨⟨⟨⟨⟨h1,h2⟩,h3⟩,h4⟩,h5⟩,h6⟩,h7⟩,h8⟩:=h;exact⟨h1,h2,h3,h4,h5,h6,h7,h8⟩
def xf(K:ax):Bool:=K.all λp=>match p.2.cls with
 |.type t=>t != "list"
 |_=>ah
theorem DC{a:af}{o:Obj}:∀{K:ax},K.lookup a=aa o->(a,o)∈K
 |[],e=>by cases e
 | (b,u)::K,e=>by
  rw[jE]at e;cases q:a == b with
  |true=>rw[q]at e;cases e;rw[beq_iff_eq.mp q];exact eN ..
  |false=>rw[q]at e;exact dI _ (DC e)
theorem Cy{K:ax}{H:Hp}{F:af->Prop}:∀ns:List Int,Reps K H F (ns.map .int) (ns.map V.int)
 |[]=>rfl
 |x::ns=>⟨.int x,ns.map V.int,rfl,rfl,Cy ns⟩
theorem LX{K:ax}{H:Hp}{a:af}{xs:List V}(h:xf K=ah)(s:cc K H a xs):Rd H a (.lst xs):=by
 rcases s with s|⟨o,its,n,lk,hc,_⟩
 ·exact s
 ·have:=k6.mp h _ (DC lk);rw[hc]at this;simp at this
theorem MD{K:ax}{g:ak->R Slot}{H:Hp}{a:af}{ns:List Int}{E:XK}(hr:Rd H a (.lst (ns.map V.int)))(h:g [.val (.lst (ns.map .int))]=.ok (.val (.bl ah)) [.val (.lst (ns.map .int))]):bE K g [.ref a] H (λv _=>v=.bl ah) E:=by
 refine⟨λb=>b=a,λ_ _=>False,[.val (.lst (ns.map .int))],⟨rfl,λb e=>?_,λi pv e=>?_,λi po e=>?_,λi b z=>z.elim,λi j b z=>z.elim⟩,?_⟩
 ·subst e;rcases hr with hr|⟨o,hr⟩ <;> exact⟨_,hr⟩
 ·cases i with
  |zero=>cases e;exact⟨_,rfl,a,_,rfl,hr,rfl,Cy ns⟩
  |succ i=>simp at e
 ·cases i with
  |zero=>cases e
  |succ i=>simp at e
 ·rw[h];exact λv F' S' H' Sr _ _ rv _ _=>rv.1
theorem Ot{K:ax}{x:Str}{i:Int}{t:Tok}(e:cD K bQ x=aa (aa (.int i t))):∃t,cD K bQ x=aa (aa (.int i t)):=⟨t,e⟩
theorem Oo{K:ax}{x:Str}{l:Tx}{t:Tok}(e:cD K bQ x=aa (aa (.str (tS l) t))):∃t,cD K bQ x=aa (aa (.str (tS l) t)):=⟨t,e⟩
def cK(K:ax)(x:Str)(st:a6):Prop:=∃f oc od kV dc pm an cd ct sl,cD K bQ x=aa (aa (.ref f))/\K.lookup f=aa ⟨oc,od,.func (hG x x (i7 st) (fz st) (aX st) .none kV dc pm an cd ct),sl⟩/\sT K cd x=ah/\oB K (.ref f)=ah
theorem Oa{K:ax}{x:Str}{st:a6}{f:af}{oc kV dc pm cd ct:ai}{od an:Option af}{sl:Array (Option ai)}(a:cD K bQ x=aa (aa (.ref f)))(l:K.lookup f=aa ⟨oc,od,.func (hG x x (i7 st) (fz st) (aX st) .none kV dc pm an cd ct),sl⟩)(c:sT K cd x=ah) (k:oB K (.ref f)=ah):cK K x st:=⟨f,oc,od,kV,dc,pm,an,cd,ct,sl,a,l,c,k⟩
theorem cK.at{K:ax}{h:aA}{mg:Str->Option ai}{x:Str}{st:a6}(d:cK K x st)(X:K.In h)(G:h.Ns bQ mg):cn K mg x st:=by obtain⟨f,oc,od,kV,dc,pm,an,cd,ct,sl,a,l,c,k⟩:=d;exact⟨f,_,wK X G a,Du l c k⟩
def lv(kvs:List (aN×PV))(k:aN):Option PV:=(kvs.find? λkv=>decide (kv.1=k)).map (·.2)
def pr(kvs:List (aN×PV))(k:aN)(v:PV):List (aN×PV):=if(kvs.any λkv=>decide (kv.1=k))=ah then kvs.map (λkv=>if kv.1=k then(kv.1,v)else kv)else kvs++[(k,v)]
def jN:PV->Option aN
 |.int i=>aa (.inl i)
 |.str x=>aa (.inr (tS x))
 |_=>ae
section
variable{K:ax}{F:af->Prop}{S:Nat->af->Prop}{ε:ak}{σ:St}{H:Hp}{i:Nat}{kvs:List (aN×PV)}{ws:List (aN×V)}{a:af}
theorem y4{x:PV}{v:V}{k:aN}(r:aS K H F x v)(e:jN x=aa k):v=kV k:=by
 cases x <;> simp[jN]at e
 ·subst e;exact r
 ·subst e;exact r.1
theorem g7.len(h:g7 K H F kvs ws):ws.length=kvs.length:=by
 unfold g7 at h
 induction h with
 |nil=>rfl
 |cons _ _ ih=>simp[ih]
theorem g7.val(h:g7 K H F kvs ws)(k:aN):(∃x v,lv kvs k=aa x/\i9 ws k=aa v/\aS K H F x v)\/(lv kvs k=ae/\i9 ws k=ae):=by
 unfold g7 at h
 induction h with
 |nil=>exact .inr ⟨rfl,rfl⟩
 |@cons p q ps qs r _ ih=>
  by_cases e:p.1=k
  ·refine .inl ⟨p.2,q.2,by simp[lv,jD,e],?_,r.2⟩;rw[vz (by rw[←r.1];exact e)]
  ·have e2:¬q.1=k:=by rw[←r.1];exact e
   rw[u6 e2];have:lv (p::ps) k=lv ps k:=by simp[lv,jD,e]
   rw[this];exact ih
theorem g7.any(h:g7 K H F kvs ws)(k:aN):(kvs.any λkv=>decide (kv.1=k))=ws.any λkv=>decide (kv.1=k):=by
 unfold g7 at h
 induction h with
 |nil=>rfl
 |cons r _ ih=>rw[oE,oE,ih,r.1]
theorem g7.put(h:g7 K H F kvs ws)(k:aN){x:PV}{v:V}(r:aS K H F x v):g7 K H F (pr kvs k x) (iP ws k v):=by
 unfold pr iP;rw[h.any k];split
 ·rename_i hA;clear hA;unfold g7 at h ⊢
  induction h with
  |nil=>exact .nil
  |@cons p q ps qs r1 _ ih=>
   refine .cons ?_ ih;dsimp only;by_cases e:p.1=k
   ·rw[if_pos e,if_pos (by rw[←r1.1];exact e)];exact⟨r1.1,r⟩
   ·rw[if_neg e,if_neg (by rw[←r1.1];exact e)];exact r1
 ·exact Paired.snoc h ⟨rfl,r⟩
theorem aP.dkAt(r:aP K F S ε σ H)(e:ε[i]?=aa (.own (.dK kvs))):∃a ws,σ[i]?=aa (aa (.ref a))/\H a=aa (.dK ws)/\g7 K H F kvs ws/\S i a/\∀b,S i b->b=a:=by obtain⟨a,e1,⟨vs,h1,h2⟩,h3⟩:=r.own i _ e;exact⟨a,vs,e1,h1,h2,(h3 a).mpr rfl,λb h=>(h3 b).mp h⟩
theorem aP.updO{po po':PO}{o':HO}(r:aP K F S ε σ H)(e:ε[i]?=aa (.own po))(hf:gr po=ah)(ea:σ[i]?=aa (aa (.ref a)))(hn:dQ o')(h:∀H',(∀x v,aS K H F x v->aS K H' F x v)->(∀x v,Reps K H F x v->Reps K H' F x v)->H' a=aa o'->∀Sa:af->Prop,(∀b,Sa b↔b=a)->eP K H' F po' a Sa):aP K F S (ε.set i (.own po')) σ (L2.upd H a o')/\bp (U S) (U S) F F H (L2.upd H a o'):=by
 obtain⟨a',e1,ow⟩:=r.own i po e;rw[ea]at e1;cases e1;have h34:=BO ow hf;have h3:S i a:=(h34 a).mpr rfl;have h4:∀b,S i b->b=a:=λb z=>(h34 b).mp z;have hi:i<ε.length:=(c_.mp e).1;have g:bp (U S) (U S) F F H (L2.upd H a o'):=⟨λ_ z=>z,λb o q n=>by rw[b7 (by rintro rfl;exact n ⟨i,h3⟩)];exact q,λb o q=>by
  by_cases hb:b=a
  ·subst hb;exact⟨_,cC⟩
  ·exact⟨o,by rw[b7 hb];exact q⟩,λ_ z=>.inl z,λ_ z=>.inl z⟩
 refine⟨⟨by rw[fC];exact r.len,λb z=>let ⟨o,q⟩:=r.ex b z;g.there b o q,λj pv q=>?_,λj po q=>?_,λj b z=>?_,r.dist⟩,g⟩
 ·have hj:i≠j:=by rintro rfl;rw[fe hi]at q;cases q
  rw[dJ hj]at q;obtain⟨v,q1,q2⟩:=r.val j pv q;exact⟨v,q1,q2.grow g r.fit⟩
 ·by_cases hj:i=j
  ·subst hj;rw[fe hi]at q;cases q;exact⟨a,ea,h _ (λ_ _ z=>z.grow g r.fit) (λ_ _ z=>z.grow g r.fit) cC _ h34⟩
  ·rw[dJ hj]at q;obtain⟨c,q1,q2⟩:=r.own j po q;refine⟨c,q1,q2.mono (λ_ _ z=>z.grow g r.fit) (λ_ _ z=>z.grow g r.fit) λb o z w=>?_⟩;rw[b7 (by rintro rfl;exact hj (r.dist i j b h3 z))];exact w
 ·obtain⟨⟨po,q1⟩,q2,o,q3,q4⟩:=r.foot j b z;by_cases hj:i=j
  ·subst hj;rw[h4 b z];exact⟨⟨_,fe hi⟩,by rw[←h4 b z];exact q2,_,cC,hn⟩
  ·exact⟨⟨po,by rw[dJ hj];exact q1⟩,q2,o,by rw[b7 (by rintro rfl;exact hj (r.dist i j b h3 z))];exact q3,q4⟩
end
def e_(ε:ak)(i:Nat):Option (List (aN×PV)):=match ε[i]? with
 |some (.own (.dK kvs))=>aa kvs
 |_=>ae
theorem mM{ε:ak}{i:Nat}{kvs:List (aN×PV)}(h:e_ ε i=aa kvs):ε[i]?=aa (.own (.dK kvs)):=by
 unfold e_ at h;split at h
 ·cases h;assumption
 ·cases h
section
variable{X:Cx}{E:XK}{pin:List Nat}{e b c:aB}{de db dc:ak->R PV}{pos:Pos}
def xZ:ak->R PO:=λε=>.ok (.dK []) ε
theorem Hk:DN X E (.Dict [] [] pos) xZ:=λF S ε σ H Q rl h=>b9 Ia λp hp=>by
 have al:Al F F H (upd H p (.dK [])):=Al.new0 hp;refine h F S _ (rl.al al) al.grow p (λb=>b=p) ⟨⟨[],cC,.nil⟩,λb=>Iff.rfl⟩ λb z=>?_;subst z;refine⟨hp,λz=>?_,λ⟨j,z⟩=>?_,_,cC,trivial⟩
 ·obtain⟨o,q⟩:=rl.ex b z;rw[hp]at q;cases q
 ·obtain⟨_,_,o,q,_⟩:=rl.foot j b z;rw[hp]at q;cases q
def oi(i:Nat)(db:ak->R PV):ak->R PV:=λε=>(bh (e_ ε i) ε).bind λ_ ε=>(db ε).bind λk ε1=>(bh (e_ ε1 i) ε1).bind λkvs ε1=>bh ((jN k).bind λk=>lv kvs k) ε1
theorem B8(i:Nat){y:Str}{yp:Pos}(hu:X.A.units+64<cLine)(hb:DE X E b db)(hN:X.N[i]?=aa y:=by rfl)(kg:fF X.env.scope y:=by first|exact Or.inl rfl|exact Or.inr (Or.inl rfl)|exact Or.inr (Or.inr rfl))(hd:(y == ("__debug__" : Str))=aj:=by decide) (bS:(y == ("__classdict__" : Str))=aj:=by decide) (hs:yo b:=by exact λ_ _=>rfl):DE X E (.Subscript (.Name y yp) b pos) (oi i db):=λF S ε σ H Q rl h=>by
 unfold oi at h;cases e0:e_ ε i with
 |none=>rw[e0]at h;exact h.elim
 |some kvs0=>
  rw[e0]at h;simp only[eK,R.bind_ok]at h;obtain⟨a,ws0,ea,_⟩:=rl.dkAt (mM e0);refine b9 (FI ∅ (gP hN kg hd bS) bK hs) ⟨.ref a,ea,hb F S ε σ H _ rl ((Ok.bind h).imp λk ε1 F1 S1 H1 r1 g1 q u ru=>?_)⟩;cases e1:e_ ε1 i with
  |none=>rw[e1]at q;exact q.elim
  |some kvs=>
   rw[e1]at q;simp only[eK,R.bind_ok]at q;obtain⟨a',ws,ea',ha,hk,_⟩:=r1.dkAt (mM e1);rw[ea]at ea';cases ea';cases e2:jN k with
   |none=>rw[e2]at q;exact q.elim
   |some ky=>
    rw[e2,iy]at q;rw[y4 ru e2];rcases hk.val ky with⟨x,v,h1,h2,h3⟩|⟨h1,h2⟩
    ·rw[h1]at q;exact⟨a,v,rfl,by rw[←h2];exact pD.k ha,q F1 S1 H1 r1 (bp.refl ..) v h3⟩
    ·rw[h1]at q;exact q.elim
def lK(i:Nat)(db dc:ak->R PV):ak->R PV:=λε=>(bh (e_ ε i) ε).bind λ_ ε=>(db ε).bind λk ε1=>(dc ε1).bind λz ε2=>(bh (e_ ε2 i) ε2).bind λkvs ε2=>bh ((jN k).map λk=>(lv kvs k).getD z) ε2
theorem Do(i:Nat){y:Str}{yp apos:Pos}(hu:X.A.units+64<cLine)(hb:DE X E b db)(hc:DE X E c dc)(hN:X.N[i]?=aa y:=by rfl)(kg:fF X.env.scope y:=by first|exact Or.inl rfl|exact Or.inr (Or.inl rfl)|exact Or.inr (Or.inr rfl))(hd:(y == ("__debug__" : Str))=aj:=by decide) (bS:(y == ("__classdict__" : Str))=aj:=by decide)(h1:kW (.Name y yp) "get" X.env (aT (.Name y yp) X.env)=aT (.Name y yp) X.env:=by rfl) (h3:(apos.endLine == pos.line)=ah:=by rfl) (s1:kJ b=aj:=by rfl) (s2:kJ c=aj:=by rfl):DE X E (.Call (.Attribute (.Name y yp) "get" apos) [b,c] [] pos) (lK i db dc):=λF S ε σ H Q rl h=>by
 have st:aL [b,c] X.env=[(aj,aT b X.env),(aj,aT c X.env)]:=by rw[iY s1,iY s2];rfl
 have m:M2 X (.Name y yp) "get" apos b c pos:=⟨h1,by rw[st];rfl,h3,by rw[st];rfl⟩
 unfold lK at h;cases e0:e_ ε i with
 |none=>rw[e0]at h;exact h.elim
 |some kvs0=>
  rw[e0]at h;simp only[eK,R.bind_ok]at h;obtain⟨a,ws0,ea,ha0,_⟩:=rl.dkAt (mM e0);refine b9 (Ii ∅ (gP hN kg hd bS) bK bK m) ⟨.ref a,ea,a,rfl,.inl ⟨_,.inl ha0⟩,hb F S ε σ H _ rl ((Ok.bind h).imp λk ε1 F1 S1 H1 r1 g1 q u ru=>?_)⟩;refine hc F1 S1 ε1 σ H1 _ r1 ((Ok.bind q).imp λz ε2 F2 S2 H2 r2 g2 q w rw'=>?_);cases e1:e_ ε2 i with
  |none=>rw[e1]at q;exact q.elim
  |some kvs=>
   rw[e1]at q;simp only[eK,R.bind_ok]at q;obtain⟨a',ws,ea',ha,hk,_⟩:=r2.dkAt (mM e1);rw[ea]at ea';cases ea';cases e2:jN k with
   |none=>rw[e2]at q;exact q.elim
   |some ky=>
    rw[e2,wC]at q;rw[y4 ru e2];rcases hk.val ky with⟨x,v,h1,h2,h3⟩|⟨h1,h2⟩
    ·rw[h1]at q;exact⟨aa v,by rw[←h2];exact pD.k ha,q F2 S2 H2 r2 (bp.refl ..) v h3⟩
    ·rw[h1]at q;exact⟨ae,by rw[←h2];exact pD.k ha,q F2 S2 H2 r2 (bp.refl ..) w rw'⟩
def ln(i:Nat)(db de:ak->R PV):ak->R aR:=λε=>(de ε).bind λy ε1=>(bh (e_ ε1 i) ε1).bind λ_ ε1=>(db ε1).bind λk ε2=>(bh (e_ ε2 i) ε2).bind λkvs ε2=>(bh (jN k) ε2).bind λk ε2=>if kvs.length<cq then .ok .next (ε2.set i (.own (.dK (pr kvs k y))))else .no
theorem zn(i:Nat){y:Str}{yp tpos:Pos}(hu:X.A.units+64<cLine)(hb:DE X E b db)(he:DE X E e de)(hN:X.N[i]?=aa y:=by rfl)(kg:fF X.env.scope y:=by first|exact Or.inl rfl|exact Or.inr (Or.inl rfl)|exact Or.inr (Or.inr rfl))(hd:(y == ("__debug__" : Str))=aj:=by decide) (bS:(y == ("__classdict__" : Str))=aj:=by decide) (hs:kR e (aa (.Subscript (.Name y yp) b tpos)) pos.line X.env=pure aj:=by rfl):DS X E pin (.Assign [.Subscript (.Name y yp) b tpos] e pos) (ln i db de):=λF S ε σ H D rl h=>by
 refine gT (G6 ∅ (gP hN kg hd bS) bK bK hs) (he F S ε σ H _ rl (h.bindE.imp λy ε1 F1 S1 H1 r1 g1 q v rv=>?_));cases e0:e_ ε1 i with
 |none=>rw[e0]at q;exact q.elim
 |some kvs0=>
  rw[e0]at q;simp only[eK,R.bind_ok]at q;obtain⟨a,ws0,ea,ha0,_⟩:=r1.dkAt (mM e0);refine⟨.ref a,ea,hb F1 S1 ε1 σ H1 _ r1 (q.bindE.imp λk ε2 F2 S2 H2 r2 g2 q2 u ru=>?_)⟩;cases e1:e_ ε2 i with
  |none=>rw[e1]at q2;exact q2.elim
  |some kvs=>
   rw[e1]at q2;simp only[eK,R.bind_ok]at q2;obtain⟨a',ws,ea',ha,hk,_⟩:=r2.dkAt (mM e1);rw[ea]at ea';cases ea';cases e2:jN k with
   |none=>rw[e2]at q2;exact q2.elim
   |some ky=>
    rw[e2]at q2;simp only[eK,R.bind_ok]at q2;split at q2
    ·rename_i hl;rw[y4 ru e2];have fD:=hk.put ky (rv.grow g2 r1.fit);obtain⟨r3,g3⟩:=r2.updO (po':=.dK (pr kvs ky y)) (o':=.dK (iP ws ky v)) (mM e1) rfl ea trivial λH' m1 m2 hH' Sa hSa=>⟨⟨_,hH',fD.mono m1⟩,hSa⟩
     exact⟨a,_,rfl,zz.k ha (by rw[hk.len];exact fL hl lA),q2 F2 S2 σ _ r3 g3 (h_.refl _ _)⟩
    ·exact q2.elim
end
section
variable{X:Cx}
def sj(a d:af):HO:=.ext λh=>h.IsValuesView a d
theorem J5:wg X "dict.values" (λx xs H Q=>∃d kvs,x=.ref d/\xs=[]/\H d=aa (.dK kvs)/\∀a,H a=ae->Q (.ref a) (upd H a (sj a d))):=by
 intro ag s σ H x xs v us Q I rx rs h;obtain⟨d,kvs,rfl,rfl,hd,q⟩:=h;cases rx;cases rs.zero;obtain⟨z,hs,vs,rel,dd⟩:=yF I.hok hd;refine call_meetsIn PySem.F.slot_dict_values dd.typeIs PySem.F.entry_dict_values (PySem.F.args_dict_values_1 _) (meets_dict_values (gQ X.prog X.w) d hs) ⟨⟨vs,dd⟩,?_⟩;refine⟨.ref s.heap.objs.size,_,I.laid (a:=s.heap.objs.size) (o:=sj s.heap.objs.size d) (t':=s.toks) (λ_ _ q=>bG _ q) (a_ _) ?_,rfl,q _ I.fresh⟩;exact⟨⟨_,c0 _ rfl,rfl,rfl⟩,⟨_,c0 _ rfl⟩,λh1 h2 ⟨o,q1,q2⟩ k=>⟨o,k o q1,q2⟩⟩
theorem KV.at{kvs:List (aN×V)}{vs:List (aN×ai)}(r:KV kvs vs){i:Nat}{k:aN}{u:ai}(h:vs[i]?=aa (k,u)):∃v,kvs[i]?=aa (k,v)/\RelV v u:=by
 unfold KV at r
 induction r generalizing i with
 |nil=>simp at h
 |@cons p q ps qs r1 _ ih=>
  cases i with
  |zero=>simp at h;subst h;exact⟨p.2,by simp[show k=p.1 from r1.1.symm],r1.2⟩
  |succ i=>exact ih (by simpa using h)
def jw(kvs:List (aN×V)):Option Bool:=match kvs with
 |[]=>aa aj
 | (_,.int i)::r=>(jw r).map λb=>(decide (i≠0))||b
 |_=>ae
theorem Ci:∀{kvs:List (aN×V)}{b:Bool},jw kvs=aa b->(∀(i:Nat) k v,kvs[i]?=aa (k,v)->∃n,v=.int n)/\b=(bX kvs.length).any λi=>match kvs[i]? with|aa (_,.int n)=>decide (n≠0)|_=>aj
 |[],b,h=>by simp[jw]at h;subst h;exact⟨by simp,rfl⟩
 | (k,.int n)::r,b,h=>by
  simp only[jw,zR]at h;obtain⟨b',h1,h2⟩:=h;obtain⟨i1,i2⟩:=Ci h1;refine⟨λi k' v e=>?_,?_⟩
  ·cases i with
   |zero=>simp at e;exact⟨n,e.2.symm⟩
   |succ i=>exact i1 i k' v (by simpa using e)
  ·rw[ff,zV,oE,List.any_map,←h2,i2];rfl
 | (_,.non)::_,_,h=>by simp[jw]at h
 | (_,.bl _)::_,_,h=>by simp[jw]at h
 | (_,.str _)::_,_,h=>by simp[jw]at h
 | (_,.ref _)::_,_,h=>by simp[jw]at h
 | (_,.ty _)::_,_,h=>by simp[jw]at h
theorem Hj(hc:X.calm=ah):eA X (.builtin "any") (λxs H Q=>∃(p d:af) (kvs:List (aN×V)) (b:Bool),xs=[.ref p]/\H p=aa (sj p d)/\H d=aa (.dK kvs)/\jw kvs=aa b/\Q (.bl b) H):=by
 intro ag s σ H xs us Q I r h;obtain⟨p,d,kvs,b,rfl,hp,hd,ha,q⟩:=h;obtain⟨u,rfl,ru⟩:=vals1 r;cases ru;obtain⟨hv,_,_⟩:=(show cG X.prog X.w H s.heap p (sj p d)from I.hok p _ hp)
 obtain⟨z,hs,vs,rel,dd⟩:=yF I.hok hd;obtain⟨ep,hat⟩:=dd.dictAt;obtain⟨i1,i2⟩:=Ci ha;refine call_any_walk (wpAny_pyIter_values hv hat ?_);refine⟨s.heap.objs.size,_,_,_,_,_,λi=>match kvs[i]? with|aa (_,.int n)=>decide (n≠0)|_=>aj,rfl,Walks.dictValues (uy (I.ok.hd hc)) _ d (cR hat.lt_size) vs ep,⟨⟨_,c0 _ rfl,rfl,rfl⟩,hat.push _⟩,λi v s' Q' E' hv hQ=>?_,λh' tk k=>?_⟩
 ·obtain⟨ky,hx⟩:=hv;obtain⟨w,e1,e2⟩:=KV.at rel hx;obtain⟨n,rfl⟩:=i1 i ky w e1;obtain⟨t,rfl⟩:=e2;dsimp only at hQ;rw[e1]at hQ;exact PyProof.Rows.truthy_int (by rw[show(n != 0)=decide (n≠0) by by_cases z:n=0 <;> simp[z]];exact hQ)
 ·have I1:Inv X ag σ H {s with heap:=s.heap.push {cls:=.type "dict_valueiterator",data:=.fields #[.ref d,.int 0 0,.int vs.length 0,.int ep 0]},toks:=s.toks}:=I.kept (t':=s.toks) λb o e=>bG _ e;have e5:(bX vs.length).any (λi=>match kvs[i]? with|aa (_,.int n)=>decide (n≠0)|_=>aj)=b:=by rw[←rel.length];exact i2.symm
  rw[e5];exact⟨.bl _,H,Inv.turned (t':=tk) I1 (it:=s.heap.objs.size) (λb o hb e=>k b o (by simpa using hb) e) I.fresh (qr I.lt) (.inr I.sz) (λx c e z=>by obtain⟨v,qq⟩:=I.cell x c e;exact absurd qq.lt (by rw[z];exact fc _)) (λpp hp z=>absurd (bu (I.pin pp hp).1) (by rw[z];exact fc _)),rfl,q⟩
end
section
variable{X:Cx}{E:XK}{pin:List Nat}{e b c:aB}{de db dc:ak->R PV}{pos:Pos}
def n_:List (aN×PV)->Option Bool
 |[]=>aa aj
 | (_,.int i)::r=>(n_ r).map λb=>(decide (i≠0))||b
 |_=>ae
theorem K6{K:ax}{H:Hp}{F:af->Prop}{kvs:List (aN×PV)}{ws:List (aN×V)}{k:Bool}(h:g7 K H F kvs ws)(e:n_ kvs=aa k):jw ws=aa k:=by
 unfold g7 at h
 induction h generalizing k with
 |nil=>exact e
 |@cons p q ps qs r _ ih=>
  obtain⟨pk,pv⟩:=p;obtain⟨qk,qv⟩:=q;cases pv <;> simp only[n_,zR]at e <;> try cases e
  obtain⟨r1,r2⟩:=r;obtain rfl:qv=V.int _:=r2;rename_i h;simp only[jw,ih h.1,wC];rw[←h.2]
def r9(i:Nat):ak->R PV:=λε=>(bh (e_ ε i) ε).bind λkvs ε=>bh ((n_ kvs).map .bl) ε
theorem Kb(i:Nat){y:Str}{yp p apos cpos:Pos}(hc:X.calm=ah)(hm:X.mg "any" = ae)(hN:X.N[i]?=aa y:=by rfl)(kg:fF X.env.scope y:=by first|exact Or.inl rfl|exact Or.inr (Or.inl rfl)|exact Or.inr (Or.inr rfl))(hd:(y == ("__debug__" : Str))=aj:=by decide) (bS:(y == ("__classdict__" : Str))=aj:=by decide) (hg:Gl X "any":=by rfl)(mf:kW (.Name y yp) "values" X.env (aT (.Name y yp) X.env)=aT (.Name y yp) X.env:=by rfl) (mh:(apos.endLine == cpos.line)=ah:=by rfl)(he:aL [.Call (.Attribute (.Name y yp) "values" apos) [] [] cpos] X.env=(aj,aT (.Call (.Attribute (.Name y yp) "values" apos) [] [] cpos) X.env)::aL [] X.env:=by rfl) (cT:(cL pos (aL [] X.env)).any (·.1)=aj:=by rfl):DE X E (.Call (.Name "any" p) [.Call (.Attribute (.Name y yp) "values" apos) [] [] cpos] [] pos) (r9 i):=λF S ε σ H Q rl h=>by
 unfold r9 at h;cases e0:e_ ε i with
 |none=>rw[e0]at h;exact h.elim
 |some kvs=>
  rw[e0]at h;simp only[eK,R.bind_ok]at h;obtain⟨a,ws,ea,ha,hk,ia,_⟩:=rl.dkAt (mM e0);cases e1:n_ kvs with
  |none=>rw[e1]at h;exact h.elim
  |some k=>
   rw[e1,wC]at h;refine b9 (oj (Hj hc) hg hm KD (ij (HM PySem.F.plainAttrs_dict PySem.F.slot_dict_values PySem.F.type_dict_values J5 (gP hN kg hd bS) mf mh) jt he) (by decide) (by decide) he cT) ⟨.ref a,ea,.inr (.inr (.inl ⟨rfl,.inl ⟨_,ha⟩⟩)),a,ws,rfl,rfl,ha,λq hq=>?_⟩;have al:Al F F H (L2.upd H q (sj q a)):=Al.new0 hq;have dj:a≠q:=by rintro rfl;rw[ha]at hq;cases hq
   exact⟨q,a,ws,k,rfl,cC,by rw[b7 dj];exact ha,K6 hk e1,h F S _ (rl.al al) al.grow _ rfl⟩
def uY(X:Cx)(E:XK)(es:List aB)(d:ak->R (PO×List bW)):Prop :=
 ∀F S ε σ H Q,aP X.K F S ε σ H->Ok X.K E σ F S H (d ε) (λp _ F' S' H'=>∀a Sa vs,eP X.K H' F' p.1 a Sa->(∀b,Sa b->H b=ae/\¬F' b/\¬U S' b/\∃o,H' b=aa o/\dQ o)->hZ X.K (σ++[aa (.ref a)]) F' H' p.2 vs->Q vs H')->nH X es σ H Q
theorem hZ.app{K:ax}{σ:St}{F:af->Prop}{H:Hp}(τ:St):∀{as:List bW}{vs:List V},hZ K σ F H as vs->hZ K (σ++τ) F H as vs
 |[],_,h=>h
 |.inl _::_,_,⟨v,r,e,h1,h2⟩=>⟨v,r,e,h1,h2.app τ⟩
 |.inr i::_,_,⟨v,r,e,h1,h2⟩=>⟨v,r,e,by rw[gz (c_.mp h1).1];exact h1,h2.app τ⟩
theorem eP.stay{K:ax}{O O' F F':af->Prop}{H H':Hp}{po:PO}{a:af}{Sa:af->Prop}(ow:eP K H F po a Sa)(g:bp O O' F F' H H')(fit:mD O F H)(lo:∀b,Sa b->¬F b/\¬O b/\∃o,H b=aa o/\dQ o):eP K H' F' po a Sa/\∀b,Sa b->¬F' b/\¬O' b/\∃o,H' b=aa o/\dQ o:=by refine⟨ow.mono (λ_ _ z=>z.grow g fit) (λ_ _ z=>z.grow g fit) λb o z w=>(g.stay w (lo b z).2.1 (lo b z).1).1,λb z=>?_⟩;obtain⟨l1,l2,o,l3,l4⟩:=lo b z;obtain⟨s1,s2,s3⟩:=g.stay l3 l2 l1;exact⟨s2,s3,o,s1,l4⟩
variable{es:List aB}{dn:ak->R PO}{dg:ak->R (List bW)}{dh:ak->R (PO×List bW)}
def gN(dn:ak->R PO)(dg:ak->R (List bW)):ak->R (PO×List bW):=λε=>(dn ε).bind λpo ε1=>(dg ε1).bind λas ε2=>.ok (po,.inr ε2.length::as) ε2
theorem Ih(ha:DN X E e dn)(hr:DG X E es dg)(hs:kJ e=aj:=by rfl):uY X E (e::es) (gN dn dg):=λF S ε σ H Q rl h=>by refine nQ (ij bK gy (iY hs)) (ha F S ε σ H _ rl ((Ok.bind h).imp λpo ε1 F1 S1 H1 r1 g1 h1 a Sa ow lo=>?_));refine hr F1 S1 ε1 σ H1 _ r1 ((Ok.bind h1).imp λas ε2 F2 S2 H2 r2 g2 h2 vs av=>?_);obtain⟨ow2,lo2⟩:=ow.stay g2 r1.fit λb z=>(lo b z).2;refine h2 F2 S2 H2 r2 (bp.refl ..) a Sa (.ref a::vs) ow2 (λb z=>⟨(lo b z).1,lo2 b z⟩) ⟨.ref a,vs,rfl,?_,av.app _⟩;rw[r2.len,mT (a_ _),Ah];rfl
def pO(d:ak->R PV)(dh:ak->R (PO×List bW)):ak->R (PO×List bW):=λε=>(d ε).bind λx ε1=>(dh ε1).bind λp ε2=>.ok (p.1,.inl x::p.2) ε2
theorem A8(ha:DE X E e de)(hr:uY X E es dh)(hs:kJ e=aj:=by rfl):uY X E (e::es) (pO de dh):=λF S ε σ H Q rl h=>by refine nQ (ij bK gy (iY hs)) (ha F S ε σ H _ rl ((Ok.bind h).imp λx ε1 F1 S1 H1 r1 g1 h1 v rv=>?_));refine hr F1 S1 ε1 σ H1 _ r1 ((Ok.bind h1).imp λp ε2 F2 S2 H2 r2 g2 h2 a Sa vs ow lo av=>?_);exact h2 F2 S2 H2 r2 (bp.refl ..) a Sa _ ow (λb z=>⟨mC g1 (lo b z).1,(lo b z).2⟩) ⟨v,vs,rfl,rv.grow g2 r1.fit,av⟩
theorem aP.push{K:ax}{F:af->Prop}{S:Nat->af->Prop}{ε:ak}{σ:St}{H:Hp}{po:PO}{a:af}{Sa:af->Prop}(r:aP K F S ε σ H)(ow:eP K H F po a Sa)(lo:∀b,Sa b->¬F b/\¬U S b/\∃o,H b=aa o/\dQ o):aP K F (λj b=>S j b\/(j=ε.length/\Sa b)) (ε++[.own po]) (σ++[aa (.ref a)]) H:=by
 have lt:∀j b,S j b->j<ε.length:=λj b z=>by obtain⟨⟨p,q⟩,_⟩:=r.foot j b z;exact(c_.mp q).1
 refine⟨by simp[r.len],r.ex,λj pv q=>?_,λj p q=>?_,λj b z=>?_,λj k b z1 z2=>?_⟩
 ·by_cases hj:j<ε.length
  ·rw[gz hj]at q;obtain⟨v,q1,q2⟩:=r.val j pv q;exact⟨v,by rw[gz (by rw[←r.len];exact hj)];exact q1,q2⟩
  ·rw[mT ∅]at q;cases hk:j-ε.length with
   |zero=>rw[hk]at q;simp at q
   |succ n=>rw[hk]at q;simp at q
 ·by_cases hj:j<ε.length
  ·rw[gz hj]at q;obtain⟨v,q1,q2⟩:=r.own j p q;refine⟨v,by rw[gz (by rw[←r.len];exact hj)];exact q1,?_⟩;have:(λb=>S j b\/(j=ε.length/\Sa b))=S j:=by funext b;exact propext ⟨λz=>z.elim id λz=>absurd z.1 (cR hj),.inl⟩
   rw[this];exact q2
  ·rw[mT ∅]at q;cases hk:j-ε.length with
   |zero=>
    rw[hk]at q;simp at q;subst q;have ej:j=ε.length:=∅
    subst ej;refine⟨a,by rw[r.len,mT (a_ _),Ah];rfl,?_⟩;have:(λb=>S ε.length b\/(ε.length=ε.length/\Sa b))=Sa:=by funext b;exact propext ⟨λz=>z.elim (λz=>absurd (lt _ _ z) (fc _)) (·.2),λz=>.inr ⟨rfl,z⟩⟩
    rw[this];exact ow
   |succ n=>rw[hk]at q;simp at q
 ·rcases z with z|⟨rfl,z⟩
  ·obtain⟨⟨p,q⟩,q2⟩:=r.foot j b z;exact⟨⟨p,by rw[gz (lt j b z)];exact q⟩,q2⟩
  ·obtain⟨l1,l2,l3⟩:=lo b z;exact⟨⟨po,by rw[mT (a_ _),Ah];rfl⟩,l1,l3⟩
 ·rcases z1 with z1|⟨rfl,z1⟩ <;> rcases z2 with z2|⟨rfl,z2⟩
  ·exact r.dist j k b z1 z2
  ·exact absurd ⟨j,z1⟩ (lo b z2).2.1
  ·exact absurd ⟨k,z2⟩ (lo b z1).2.1
  ·rfl
theorem aP.pop{K:ax}{F:af->Prop}{S:Nat->af->Prop}{ε:ak}{sl:Slot}{σ:St}{u:Option V}{H:Hp}(r:aP K F S (ε++[sl]) (σ++[u]) H):aP K F (λj b=>S j b/\j<ε.length) ε σ H:=by
 have len:ε.length=σ.length:=by have:=r.len;simpa using this
 refine⟨len,r.ex,λj pv q=>?_,λj p q=>?_,λj b z=>?_,λj k b z1 z2=>r.dist j k b z1.1 z2.1⟩
 ·have hj:=(c_.mp q).1;obtain⟨v,q1,q2⟩:=r.val j pv (by rw[gz hj];exact q);exact⟨v,by rw[gz (by rw[←len];exact hj)]at q1;exact q1,q2⟩
 ·have hj:=(c_.mp q).1;obtain⟨v,q1,q2⟩:=r.own j p (by rw[gz hj];exact q);refine⟨v,by rw[gz (by rw[←len];exact hj)]at q1;exact q1,?_⟩;have:(λb=>S j b/\j<ε.length)=S j:=by funext b;simp[hj]
  rw[this];exact q2
 ·obtain⟨⟨p,q⟩,q2⟩:=r.foot j b z.1;exact⟨⟨p,by rw[gz z.2]at q;exact q⟩,q2⟩
def B_{α:Type}:R α->R α
 |.ok s ε=>.ok s ε.dropLast
 |.er c ε=>.er c ε.dropLast
 |.no=>.no
def rG(g:ak->R Slot)(dh:ak->R (PO×List bW)):ak->R Slot:=λε=>(dh ε).bind λp ε1=>(bh (if(cx p.2).Nodup then eM (ε1++[.own p.1]) p.2 else ae) ε1).bind λss ε1=>B_ (fS (ε1++[.own p.1]) p.2 (g ss))
theorem AZ{ε:ak}{n:Nat}(h:ε.length=n+1):∃l x,ε=l++[x]/\l.length=n:=by
 refine⟨ε.dropLast,ε.getLast (by intro z;rw[z]at h;cases h),(List.dropLast_concat_getLast _).symm,by rw[Ai,h];rfl⟩
theorem bp.pushed{K:ax}{F F':af->Prop}{S S2:Nat->af->Prop}{H0 H H':Hp}{n:Nat}{Sa:af->Prop}(g:bp (U λj b=>S j b\/(j=n/\Sa b)) (U S2) F F' H H'){F0:af->Prop}{S0:Nat->af->Prop}(g0:bp (U S0) (U S) F0 F H0 H)(fr:∀b,Sa b->H0 b=ae):bp (U S0) (U λj b=>S2 j b/\j<n) F0 F' H0 H' where
 fro:=λb z=>g.fro b (g0.fro b z)
 keep:=λb o q no=>g.keep b o (g0.keep b o q no) λ⟨j,z⟩=>by
  rcases z with z|⟨_,z⟩
  ·rcases g0.onew b ⟨j,z⟩with w|w
   ·exact no w
   ·rw[w]at q;cases q
  ·rw[fr b z]at q;cases q
 there:=λb o q=>let ⟨o',q'⟩:=g0.there b o q;g.there b o' q'
 fnew:=λb z=>by
  rcases g.fnew b z with w|w|⟨j,w|⟨_,w⟩⟩
  ·exact g0.fnew b w
  ·exact .inr (.inl (mC g0 w))
  ·exact .inr ((g0.onew b ⟨j,w⟩).symm)
  ·exact .inr (.inl (fr b w))
 onew:=λb ⟨j,z,_⟩=>by
  rcases g.onew b ⟨j,z⟩with⟨k,w|⟨_,w⟩⟩|w
  ·exact g0.onew b ⟨k,w⟩
  ·exact .inr (fr b w)
  ·exact .inr (mC g0 w)
variable{CX:fE}{x:Str}{k:Nat}{ps:List Str}{g:ak->R Slot}{p:Pos}
theorem LR(c:cA CX X.prog X.w X.K X.mg X.base x k ps (bE X.K g))(hr:eX k X.A)(hx:pU CX X E)(ha:uY X E (e::es) dh)(hg:Gl X x:=by rfl)(hd:(x == ("__debug__" : Str))=aj:=by decide) (h1:aL (e::es) X.env=(aj,aT e X.env)::aL es X.env:=by rfl) (h2:(cL pos (aL es X.env)).any (·.1)=aj:=by rfl):DR X E (.Call (.Name x p) (e::es) [] pos) (rG g dh):=λF S ε σ H Q rl h=>by
 obtain⟨f,fd,hm,Fn,hb,hk⟩:=c.ex;refine b9 (BB Fn hr hg hm hk hb .nil hx gy hd h1 h2) (ha F S ε σ H _ rl ?_);unfold rG at h;cases ed:dh ε with
 |no=>rw[ed]at h;exact h.elim
 |er cv ε1=>rw[ed]at h;exact h
 |ok pa ε1=>
  obtain⟨po,as⟩:=pa;rw[ed]at h;simp only[R.bind_ok]at h;intro F1 S1 H1 r1 g1 a Sa vs ow lo av;dsimp only at h av ow;have rp:=r1.push ow λb z=>(lo b z).2;by_cases nd:(cx as).Nodup
  ·rw[if_pos nd]at h;cases es:eM (ε1++[.own po]) as with
   |none=>rw[es]at h;exact h.elim
   |some ss=>
    rw[es]at h;simp only[eK,R.bind_ok]at h;rw[g_];refine⟨F1,kH as _,ss,rp.cal av es nd,?_⟩;have len:∀aI,(gi (ε1++[.own po]) as aI).length=ε1.length+1:=λaI=>by rw[uN];simp
    cases eg:g ss with
    |no=>rw[eg]at h;exact h.elim
    |er cv aI=>
     rw[eg]at h;intro y F' S' H' r' g';unfold fS at h;dsimp only at h;by_cases kp:fY as aI=ah
     ·rw[if_pos kp]at h;obtain⟨S2,r2,g2,_⟩:=rp.called av es nd r' g' (λ_ z=>z) (lC kp);obtain⟨l,sl,el,ll⟩:=AZ (len aI);rw[el]at r2;have h:Ok X.K E σ F S H (R.er cv (gi (ε1++[.own po]) as aI).dropLast:R Slot) _:=h;rw[el,List.dropLast_concat]at h;have gp:=bp.pushed (K:=X.K) g2 g1 λb z=>(lo b z).1;rw[←ll]at gp;exact h y F' _ H' r2.pop gp
     ·rw[if_neg kp]at h;exact h.elim
    |ok s aI=>
     rw[eg]at h;intro v F' S' H' Sr r' g' rv lo' fr;unfold fS at h;dsimp only at h;by_cases kp:fY as aI=ah
     ·rw[if_pos kp]at h;obtain⟨S2,r2,g2,u2⟩:=rp.called av es nd r' g' (λ_ z=>.inl z) (lC kp);obtain⟨l,sl,el,ll⟩:=AZ (len aI);rw[el]at r2;have h:Ok X.K E σ F S H (R.ok s (gi (ε1++[.own po]) as aI).dropLast:R Slot) _:=h;rw[el,List.dropLast_concat]at h;have gp:=bp.pushed (K:=X.K) g2 g1 λb z=>(lo b z).1;rw[←ll]at gp;refine h F' _ H' r2.pop gp v Sr rv λb z=>⟨mC g1 (fr b z),(lo' b z).1,λ⟨j,w,_⟩=>?_,(lo' b z).2.2⟩
      rcases u2 b ⟨j,w⟩with w|⟨i,w⟩
      ·exact(lo' b z).2.1 w
      ·obtain⟨_,_,o,y1,_⟩:=rp.foot i b w;rw[fr b z]at y1;cases y1
     ·rw[if_neg kp]at h;exact h.elim
  ·rw[if_neg nd]at h;exact h.elim
end
section
variable{X:Cx}{E:XK}{pin:List Nat}{e b c o:aB}{de db dc d:ak->R PV}{ds:ak->R (List PV)}{pos p q pos':Pos}
def La(X:Cx)(r:List V->Hp->VK->Prop):List V->Hp->VK->Prop:=λxs H Q=>∃(p:af) (ls:List Tx),xs=[.ref p]/\cc X.K H p (dA ls)/\(ft ls).length<4000/\∀a,H a=ae->r [.ref a] (upd H a (nJ X a (ft ls))) Q
def yw(i j:Nat)(d:ak->R PV):ak->R aR:=λε=>(d ε).bind λx ε1=>match x with
 |.tup [a,b]=>.ok .next ((ε1.set i (.val a)).set j (.val b))
 |_=>.no
theorem Nb(i j:Nat){x y:Str}{k:Nat}{tp px py:Pos}(hc:X.calm=ah)(hN:X.N.Nodup)(he:DE X E e de)(hp:i∉pin:=by decide)(d8:j∉pin:=by decide)(hi:X.N[i]?=aa x:=by rfl)(hj:X.N[j]?=aa y:=by rfl)(hx:Loc X.env.scope x:=by first|exact Or.inl rfl|exact Or.inr rfl) (hy:Loc X.env.scope y:=by first|exact Or.inl rfl|exact Or.inr rfl)(hf:X.fn x=ah\/X.env.scope.names.lookup x=aa .local:=by first|exact .inl rfl|exact .inr rfl) (hf2:X.fn y=ah\/X.env.scope.names.lookup y=aa .local:=by first|exact .inl rfl|exact .inr rfl)(hs:swapsWithSole [.Tuple [.Name x px,.Name y py] k tp] e pos.line X.env=pure aj:=by rfl) (hw:swappedStores [.Tuple [.Name x px,.Name y py] k tp] e X.env=pure ae:=by rfl):DS X E pin (.Assign [.Tuple [.Name x px,.Name y py] k tp] e pos) (yw i j de):=λF S ε σ H D rl h=>by
 refine gT (Ce bK (Lz hc (Eg (zx hN hi hx hf) (Eg (zx hN hj hy hf2) Lq))) hs hw rfl) (he F S ε σ H _ rl (h.bindE.imp λz ε1 F1 S1 H1 r1 g1 h1 v rv=>?_));split at h1
 ·rename_i a b;obtain⟨p,us,rfl,c8,ru⟩:=rv;obtain⟨va,ra,rfl,r2,vb,rb,rfl,r3,rfl⟩:=ru;refine⟨p,_,rfl,cB.of c8,rfl,va,_,rfl,vb,_,rfl,rfl,?_⟩;exact h1 F1 _ _ H1 ((r1.set r2).set r3) ((bp.less i).trans (bp.less j)) ((h_.set hp).trans (h_.set d8))
 ·exact h1.elim
def IJ(K:ax)(r:V->List V->Hp->VK->Prop)(to:TE)(t:TA):TE:=λσ H Q=>to σ H λx H1=>(∃p xs,x=.ref p/\H1 p=aa (.tup xs))/\t σ H1 λxs H2=>r x xs H2 Q
theorem Gc{name:Str}{id:String}{r:V->List V->Hp->VK->Prop}{to:TE}{t:TA}{apos cpos:Pos}{es:List aB}(slot:PySem.Slot "tuple" name id)(nt:typeOf (.builtin id)=pure (.type "method_descriptor"))(hm:wg X id r)(ho:PE X o to)(ha:PA X (e::es) t)(mf:kW o name X.env (aT o X.env)=aT o X.env:=by rfl)(AI:((cL cpos (aL (e::es) X.env)).all (λx=>!x.1)&&(qy cpos (qz [] X.env)).all (λx=>x.1.isSome)&&decide ((e::es).length+([]:List jh).length+(if([]:List jh).isEmpty then 0 else 1)<30))=ah:=by rfl)(mh:(apos.endLine == cpos.line)=ah:=by rfl) (hs:aL (e::es) X.env=(aj,aT e X.env)::aL es X.env:=by rfl) (AD:(cL cpos (aL es X.env)).any (·.1)=aj:=by rfl):PE X (.Call (.Attribute o name apos) (e::es) [] cpos) (IJ X.K r to t):=by
 intro ag s σ H Q I h;refine wpAny_Call_method_late mf AI mh rfl (aV (ho ag s σ H _ I h) λv s1 h'=>?_);obtain⟨x,H1,I1,r1,⟨p,xs,rfl,hp⟩,q1⟩:=h';cases r1;obtain⟨_,its,_,⟨ob,e1,e2,_⟩,o2,e3,e4⟩:=(show cG X.prog X.w H1 s1.heap p (.tup xs)from I1.hok p _ hp)
 refine⟨"tuple",id,PySem.F.plainAttrs_tuple,slot,nt,⟨ob,e1,e2⟩,λa z=>?_,?_⟩
 ·cases z;exact⟨o2,e3,e4⟩
 have hA:=ha cpos ag s1 σ H1 _ I1 q1;rw[hs]at hA ⊢;refine zP (by show(aj||(cL cpos (aL es X.env)).any (·.1))=aj;rw[AD] <;> rfl) (zQ ?_);exact aV hA λus s2 h2=>by obtain⟨vs,H2,I2,r2,q2⟩:=h2;exact hm ag s2 σ H2 (.ref p) vs (.ref p) us Q I2 rfl r2 q2
def pC(f:List PV->PV->Option PV)(d de:ak->R PV):ak->R PV:=λε=>(d ε).bind λx ε1=>match x with
 |.tup xs=>(de ε1).bind λk ε2=>bh (f xs k) ε2
 |_=>.no
theorem CP{apos cpos:Pos}(ho:DE X E o d)(he:DE X E e de)(mf:kW o "count" X.env (aT o X.env)=aT o X.env:=by rfl)(mh:(apos.endLine == cpos.line)=ah:=by rfl) (dE:kJ e=aj:=by rfl):DE X E (.Call (.Attribute o "count" apos) [e] [] cpos) (pC kF d de):=λF S ε σ H Q rl h=>by
 have hs:=iY (es:=[]) (env:=X.env) dE;refine b9 (Gc PySem.F.slot_tuple_count PySem.F.type_tuple_count FF bK (ij bK jt hs) mf (by rw[hs];rfl) mh hs rfl) (ho F S ε σ H _ rl ((Ok.bind h).imp λx ε1 F1 S1 H1 r1 g1 h1 v rv=>?_));split at h1
 ·rename_i xs;obtain⟨p,us,rfl,hp,ru⟩:=rv;refine⟨⟨p,us,rfl,hp⟩,he F1 S1 ε1 σ H1 _ r1 ((Ok.bind h1).imp λk ε2 F2 S2 H2 r2 g2 q w rw'=>?_)⟩;unfold kF at q;cases q1:cV k with
  |none=>rw[q1]at q;exact q.elim
  |some z=>
   cases q2:gU xs with
   |none=>rw[q1,q2]at q;exact q.elim
   |some ws=>rw[q1,q2]at q;obtain⟨rfl,hf⟩:=rL (ru.grow g2 r1.fit) q2;rw[iF rw' q1];exact⟨p,us,z,rfl,rfl,cB.of (g2.imm r1.fit hp id),o8 q1,hf,q F2 S2 H2 r2 (bp.refl ..) _ rfl⟩
 ·exact h1.elim
end
end Pu
namespace L2
def ve:Bool->Keyed->Array Keyed->Nat->Nat->Nat->StateT br Sem (Option Nat):=sortPriv% PySem.Builtin.gallop
def Dk:Array Keyed->Array Keyed->StateT br Sem (Array Keyed):=sortPriv% PySem.Builtin.mergeLo
def Dl:Array Keyed->Array Keyed->StateT br Sem (Array Keyed):=sortPriv% PySem.Builtin.mergeHi
def kO(κ:KeyKind)(p:Keyed):κ.α:=(κ.keyOf p.1).getD κ.dflt
def fV(κ:KeyKind)(p:Keyed):Prop:=∃a,κ.keyOf p.1=aa a
theorem fV.k{κ:KeyKind}{p:Keyed}(h:fV κ p):κ.keyOf p.1=aa (kO κ p):=by obtain⟨a,e⟩:=h;unfold kO;rw[e];rfl
def gY(κ:KeyKind)(kz:gB)(prog:aM)(w:aF)(A:aO)(s:am):Prop :=
 ∀(E:ai->am->Prop) (x y:ai) (a b:κ.α) {Q:Bool->am->Prop},κ.keyOf x=aa a->κ.keyOf y=aa b->Q (κ.blt a b) s->aq (au prog w) A (keyLt' kz x y) Q E s
theorem OneLt.ok{κ:KeyKind}(hO:κ.OneLt){prog:aM}{w:aF}{A:aO}{s:am}:gY κ oneType' prog w A s:=λE x y a b _ ha hb h=>by rw[keyLt'_oneType];exact hO prog w A E s x y a b ha hb h
structure SB(kz:gB)(st:br):Prop where
 kind:kindOf st=kz
 failed:failedOf st=ae
section
variable{prog:aM}{w:aF}{A:aO}{E:ai->am->Prop}{s:am}{κ:KeyKind}{kz:gB}
theorem sN(hO:gY κ kz prog w A s){st:br}{x y:Keyed}{Q:Option Bool->br->Prop}(hk:SB kz st)(hx:fV κ x)(hy:fV κ y)(h:Q (aa (κ.blt (kO κ x) (kO κ y))) st):wpS (au prog w) A E s (lt' x y) Q st:=by rw[lt'_eq];refine aE (j7 ?_);rw[hk.kind];exact aE (qO (wpAny_attempt (hO _ x.1 y.1 _ _ hx.k hy.k ⟨rfl,aK h⟩)))
theorem eG{st:br}{arr:Array Keyed}{i:Nat}(hi:i<arr.size){Q:Keyed->br->Prop}(h:Q arr[i] st):wpS (au prog w) A E s (elem' arr i) Q st:=by rw[elem'_eq,getElem?_pos arr i hi];exact aK h
def AV(left:Bool)(key:Keyed)(arr:Array Keyed)(base i:Nat):StateT br Sem (Option Bool) :=elem' arr (base+i) >>= λx=>if left=ah then lt' x key else lt' key x >>= λb=>pure (b.map (!·))
def kA(κ:KeyKind)(left:Bool)(key x:Keyed):Bool:=if left=ah then κ.blt (kO κ x) (kO κ key)else !κ.blt (kO κ key) (kO κ x)
theorem Ja(hO:gY κ kz prog w A s){st:br}{left:Bool}{key:Keyed}{arr:Array Keyed}{base i:Nat}{Q:Option Bool->br->Prop}(hk:SB kz st)(hx:fV κ key)(hi:base+i<arr.size)(hy:fV κ arr[base+i])(h:Q (aa (kA κ left key arr[base+i])) st):wpS (au prog w) A E s (AV left key arr base i) Q st:=by
 refine aE (eG hi ?_);cases left
 ·rw[if_neg (by simp)];exact aE (sN hO hk hx hy (aK h))
 ·rw[if_pos rfl];exact sN hO hk hy hx h
theorem Ds(hO:gY κ kz prog w A s){st:br}(hk:SB kz st){left:Bool}{key:Keyed}{arr:Array Keyed}{base n hint:Nat}{Q:Option Nat->br->Prop}(jG:fV κ key)(hn:base+n<=arr.size)(hA:∀i (hi:i<arr.size),fV κ arr[i]) (B:Nat->Bool) (hB:∀i (hi:i<n),B i=kA κ left key (arr[base+i]'∅))(mono:∀i j,i<=j->j<n->B j=ah->B i=ah) (hh:hint<n)(h:∀r,r<=n->(∀i,i<r->B i=ah)->(∀i,r<=i->i<n->B i=aj)->Q (aa r) st):wpS (au prog w) A E s (ve left key arr base n hint) Q st:=by
 have hb:∀{i:Nat}{Q:Option Bool->br->Prop},i<n->Q (aa (B i)) st->wpS (au prog w) A E s (AV left key arr base i) Q st:=λ{i Q} hi q=>Ja hO hk jG ∅ (hA _ _) (by rw[←hB i hi];exact q);have dn:∀{i j:Nat},i<=j->j<n->B i=aj->B j=aj:=λ{i j} bt hj hf=>by
  cases e:B j with
  |false=>rfl
  |true=>rw[mono i j bt hj e]at hf;cases hf
 unfold ve;refine aE (hb hh ?_);cases hr:B hint with
 |true=>
  dsimp only;rw[if_pos rfl];refine aE (fN (fO (I:=λx c ay=>ay=st/\∃l o,c=(ae,l,o)/\l<o/\x<o/\l<n-hint/\B (hint+l)=ah) (Q:=λc ay=>ay=st/\∃l o,c=(ae,l,o)/\l<o/\l<n-hint/\B (hint+l)=ah/\(n-hint<=o\/(o<n-hint/\B (hint+o)=aj))) ?_ ?_ ?_) ?_)
  ·rintro x c ay _ hx ⟨rfl,l,o,rfl,h1,h2,h3,h4⟩;dsimp only;by_cases iC:o ≥ n-hint
   ·rw[if_pos iC];exact aK ⟨rfl,l,o,rfl,h1,h3,h4,.inl iC⟩
   ·rw[if_neg iC];refine aE (hb ∅ ?_);cases e:B (hint+o)with
    |true=>exact aK ⟨rfl,o,2*o+1,rfl,∅,∅,∅,e⟩
    |false=>exact aK ⟨rfl,l,o,rfl,h1,h3,h4,.inr ⟨∅,e⟩⟩
  ·rintro c ay ⟨rfl,l,o,rfl,h1,h2,h3,h4⟩;exact⟨rfl,l,o,rfl,h1,h3,h4,.inl ∅⟩
  ·exact⟨rfl,0,1,rfl,∅,∅,∅,hr⟩
  rintro c ay ⟨rfl,l,o,rfl,h1,h3,h4,h5⟩;dsimp only;have g1:hint+l+1<=hint+min o (n-hint):=∅
  have g2:hint+min o (n-hint)<=n:=∅
  have g3:∀i,i<hint+l+1->B i=ah:=λi hi=>mono i (hint+l) ∅ ∅ h4;have g4:∀i,hint+min o (n-hint)<=i->i<n->B i=aj:=by
   intro i hi iB;rcases h5 with h5|⟨h5,h6⟩
   ·lia
   ·exact dn (i:=hint+o) ∅ iB h6
  clear h5;generalize hint+l+1=lo at *;generalize hint+min o (n-hint)=hi at *;refine aE (fN (fO (I:=λx c cb=>cb=ay/\∃l r,c=(ae,l,r)/\l<=r/\r<=n/\r-l<=n-x/\(∀i,i<l->B i=ah)/\(∀i,r<=i->i<n->B i=aj)) (Q:=λc cb=>cb=ay/\∃l r,c=(ae,l,r)/\r<=n/\(∀i,i<r->B i=ah)/\(∀i,r<=i->i<n->B i=aj)) ?_ ?_ ?_) ?_)
  ·rintro x c cb _ hx ⟨rfl,l,r,rfl,a1,a2,a3,a4,a5⟩;dsimp only;by_cases iC:l ≥ r
   ·rw[if_pos iC];have:l=r:=∅
    subst this;exact aK ⟨rfl,l,l,rfl,a2,a4,a5⟩
   ·rw[if_neg iC];refine aE (hb ∅ ?_);cases e:B (l+(r-l) / 2)with
    |true=>exact aK ⟨rfl,_,r,rfl,∅,a2,∅,λi hi=>mono _ _ ∅ ∅ e,a5⟩
    |false=>exact aK ⟨rfl,l,_,rfl,∅,∅,∅,a4,λi hi iB=>dn (i:=l+(r-l) / 2) hi iB e⟩
  ·rintro c cb ⟨rfl,l,r,rfl,a1,a2,a3,a4,a5⟩;have:l=r:=∅
   subst this;exact⟨rfl,l,l,rfl,a2,a4,a5⟩
  ·exact⟨rfl,lo,hi,rfl,g1,g2,∅,g3,g4⟩
  ·rintro c cb ⟨rfl,l,r,rfl,a2,a4,a5⟩;exact aK (h r a2 a4 a5)
 |false=>
  dsimp only;rw[if_neg (by simp)];refine aE (fN (fO (I:=λx c ay=>ay=st/\∃l o,c=(ae,l,o)/\l<o/\x<o/\l<=hint/\B (hint-l)=aj) (Q:=λc ay=>ay=st/\∃l o,c=(ae,l,o)/\l<o/\l<=hint/\B (hint-l)=aj/\(hint+1<=o\/(o<=hint/\B (hint-o)=ah))) ?_ ?_ ?_) ?_)
  ·rintro x c ay _ hx ⟨rfl,l,o,rfl,h1,h2,h3,h4⟩;dsimp only;by_cases iC:o ≥ hint+1
   ·rw[if_pos iC];exact aK ⟨rfl,l,o,rfl,h1,h3,h4,.inl iC⟩
   ·rw[if_neg iC];refine aE (hb ∅ ?_);cases e:B (hint-o)with
    |false=>exact aK ⟨rfl,o,2*o+1,rfl,∅,∅,∅,e⟩
    |true=>exact aK ⟨rfl,l,o,rfl,h1,h3,h4,.inr ⟨∅,e⟩⟩
  ·rintro c ay ⟨rfl,l,o,rfl,h1,h2,h3,h4⟩;exact⟨rfl,l,o,rfl,h1,h3,h4,.inl ∅⟩
  ·exact⟨rfl,0,1,rfl,∅,∅,∅,hr⟩
  rintro c ay ⟨rfl,l,o,rfl,h1,h3,h4,h5⟩;dsimp only;have g1:hint+1-min o (hint+1)<=hint-l:=∅
  have g2:hint-l<=n:=∅
  have g3:∀i,i<hint+1-min o (hint+1)->B i=ah:=by
   intro i hi;rcases h5 with h5|⟨h5,h6⟩
   ·lia
   ·exact mono i (hint-o) ∅ ∅ h6
  have g4:∀i,hint-l<=i->i<n->B i=aj:=λi hi iB=>dn (i:=hint-l) ∅ iB h4;clear h5 h4;generalize hint+1-min o (hint+1)=lo at *;generalize hint-l=hi at *;refine aE (fN (fO (I:=λx c cb=>cb=ay/\∃l r,c=(ae,l,r)/\l<=r/\r<=n/\r-l<=n-x/\(∀i,i<l->B i=ah)/\(∀i,r<=i->i<n->B i=aj)) (Q:=λc cb=>cb=ay/\∃l r,c=(ae,l,r)/\r<=n/\(∀i,i<r->B i=ah)/\(∀i,r<=i->i<n->B i=aj)) ?_ ?_ ?_) ?_)
  ·rintro x c cb _ hx ⟨rfl,l,r,rfl,a1,a2,a3,a4,a5⟩;dsimp only;by_cases iC:l ≥ r
   ·rw[if_pos iC];have:l=r:=∅
    subst this;exact aK ⟨rfl,l,l,rfl,a2,a4,a5⟩
   ·rw[if_neg iC];refine aE (hb ∅ ?_);cases e:B (l+(r-l) / 2)with
    |true=>exact aK ⟨rfl,_,r,rfl,∅,a2,∅,λi hi=>mono _ _ ∅ ∅ e,a5⟩
    |false=>exact aK ⟨rfl,l,_,rfl,∅,∅,∅,a4,λi hi iB=>dn (i:=l+(r-l) / 2) hi iB e⟩
  ·rintro c cb ⟨rfl,l,r,rfl,a1,a2,a3,a4,a5⟩;have:l=r:=∅
   subst this;exact⟨rfl,l,l,rfl,a2,a4,a5⟩
  ·exact⟨rfl,lo,hi,rfl,g1,g2,∅,g3,g4⟩
  ·rintro c cb ⟨rfl,l,r,rfl,a2,a4,a5⟩;exact aK (h r a2 a4 a5)
end
section
variable{κ:KeyKind}{kz:gB}
def bv(κ:KeyKind)(x y:Keyed):Prop:=κ.kle (kO κ x) (kO κ y)
theorem bv.trans{x y z:Keyed}(h1:bv κ x y)(h2:bv κ y z):bv κ x z:=qP h1 h2
structure MS(κ:KeyKind)(T o ra rb:List Keyed):Prop where
 perm:(o++(ra++rb)).Perm T
 so:o.Pairwise (bv κ)
 sa:ra.Pairwise (bv κ)
 sb:rb.Pairwise (bv κ)
 oa:∀x∈o,∀y∈ra,bv κ x y
 ob:∀x∈o,∀y∈rb,bv κ x y
theorem MS.stepA{T o x ra rb:List Keyed}(h:MS κ T o (x++ra) rb)(hx:∀u∈x,∀v∈rb,bv κ u v):MS κ T (o++x) ra rb:=by
 obtain⟨h1,h2,h3,h4,h5,h6⟩:=h;rw[Aj]at h3;refine⟨by simpa[qB]using h1,?_,h3.2.1,h4,?_,?_⟩
 ·rw[Aj];exact⟨h2,h3.1,λu hu v hv=>h5 u hu v (zF _ hv)⟩
 ·intro u hu v hv;rcases fZ.mp hu with hu|hu
  ·exact h5 u hu v (kT _ hv)
  ·exact h3.2.2 u hu v hv
 ·intro u hu v hv;rcases fZ.mp hu with hu|hu
  ·exact h6 u hu v hv
  ·exact hx u hu v hv
theorem MS.swap{T o ra rb:List Keyed}(h:MS κ T o ra rb):MS κ T o rb ra :=⟨(EV _ List.perm_append_comm).trans h.perm,h.so,h.sb,h.sa,h.ob,h.oa⟩
theorem MS.stepB{T o x ra rb:List Keyed}(h:MS κ T o ra (x++rb))(hx:∀u∈x,∀v∈ra,bv κ u v):MS κ T (o++x) ra rb :=(h.swap.stepA hx).swap
def fJ(κ:KeyKind)(T:List Keyed)(r:Array Keyed):Prop:=r.toList.Perm T/\r.toList.Pairwise (bv κ)
theorem MS.endA{T o ra:List Keyed}{r:Array Keyed}(h:MS κ T o ra [])(e:r.toList=o++ra):fJ κ T r:=by obtain⟨h1,h2,h3,h4,h5,h6⟩:=h;refine⟨by rw[e];simpa using h1,?_⟩;rw[e,Aj];exact⟨h2,h3,h5⟩
theorem MS.last{T o ra rb:List Keyed}{r:Array Keyed}(h:MS κ T o ra rb)(hx:∀u∈rb,∀v∈ra,bv κ u v)(e:r.toList=o++(rb++ra)):fJ κ T r:=by
 have h':MS κ T o ra (rb++[]):=by simpa using h
 exact(h'.stepB hx).endA (by rw[e];simp)
theorem jT(a:Array Keyed)(i j:Nat):(a.extract i j).toList=(a.toList.drop i).take (j-i):=by simp[Array.toList_extract,List.extract_eq_take_drop]
theorem pT(a:Array Keyed)(i:Nat):(a.extract i a.size).toList=a.toList.drop i:=by rw[jT,wv];simp
theorem Co{a:Array Keyed}{i:Nat}(h:i<a.size):a.toList.drop i=a[i]::a.toList.drop (i+1):=by rw[wF (by simpa using h)];simp
theorem Ei(a:Array Keyed)(i k:Nat):a.toList.drop i=(a.extract i (i+k)).toList++a.toList.drop (i+k):=by rw[jT,show i+k-i=k by lia,←List.drop_drop,nh]
theorem o9{a:Array Keyed}{i:Nat}{x:Keyed}(h:x∈a.toList.drop i):∃j,∃hj:j<a.size,i<=j/\a[j]=x:=by
 obtain⟨k,hk,e⟩:=l8 h;rw[wL]at e;have mj:i+k<a.size:=by simp at hk;lia
 exact⟨i+k,mj,∅,by simpa using e⟩
theorem Cj{a:Array Keyed}{i k:Nat}{x:Keyed}(h:x∈(a.extract i (i+k)).toList):∃j,∃hj:j<a.size,i<=j/\j<i+k/\a[j]=x:=by
 rw[jT]at h;obtain⟨m,hm,e⟩:=l8 h;rw[Ak,wL]at e;refine⟨i+m,?_,∅,?_,by simpa using e⟩
 all_goals simp at hm;lia
def sd(κ:KeyKind)(a:Array Keyed):Prop:=∀i j (hj:j<a.size) (bt:i<=j),bv κ (a[i]'∅) a[j]
theorem sd.pw{a:Array Keyed}(h:sd κ a):a.toList.Pairwise (bv κ):=by rw[qQ];intro i j hi hj bt;have:=h i j (by simpa using hj) ∅;simpa using this
structure eW(κ:KeyKind)(a b out:Array Keyed)(ia ib:Nat):Prop where
 ms:MS κ (a.toList++b.toList) out.toList (a.toList.drop ia) (b.toList.drop ib)
 la:ia<=a.size
 lb:ib<=b.size
variable{a b out:Array Keyed}{ia ib:Nat}
theorem eW.pushA(h:eW κ a b out ia ib)(hi:ia<a.size)(hx:∀j (hj:j<b.size),ib<=j->bv κ a[ia] b[j]):eW κ a b (out.push a[ia]) (ia+1) ib:=by refine⟨?_,hi,h.lb⟩;rw[qI];refine MS.stepA (by rw[Am,←Co hi];exact h.ms) λu hu v hv=>?_;obtain⟨j,hj,fi,rfl⟩:=o9 hv;rw[hU.mp hu];exact hx j hj fi
theorem eW.pushB(h:eW κ a b out ia ib)(hi:ib<b.size)(hx:∀j (hj:j<a.size),ia<=j->bv κ b[ib] a[j]):eW κ a b (out.push b[ib]) ia (ib+1):=by refine⟨?_,h.la,hi⟩;rw[qI];refine MS.stepB (by rw[Am,←Co hi];exact h.ms) λu hu v hv=>?_;obtain⟨j,hj,fi,rfl⟩:=o9 hv;rw[hU.mp hu];exact hx j hj fi
theorem eW.extA{k:Nat}(h:eW κ a b out ia ib)(hk:ia+k<=a.size)(hx:∀i (hi:i<a.size),ia<=i->i<ia+k->∀j (hj:j<b.size),ib<=j->bv κ a[i] b[j]):eW κ a b (out++a.extract ia (ia+k)) (ia+k) ib:=by refine⟨?_,hk,h.lb⟩;rw[hV];refine MS.stepA (by rw[←Ei];exact h.ms) λu hu v hv=>?_;obtain⟨j,hj,fi,rfl⟩:=o9 hv;obtain⟨i,hi,h1,h2,rfl⟩:=Cj hu;exact hx i hi h1 h2 j hj fi
theorem eW.extB{k:Nat}(h:eW κ a b out ia ib)(hk:ib+k<=b.size)(hx:∀i (hi:i<b.size),ib<=i->i<ib+k->∀j (hj:j<a.size),ia<=j->bv κ b[i] a[j]):eW κ a b (out++b.extract ib (ib+k)) ia (ib+k):=by refine⟨?_,h.la,hk⟩;rw[hV];refine MS.stepB (by rw[←Ei];exact h.ms) λu hu v hv=>?_;obtain⟨j,hj,fi,rfl⟩:=o9 hv;obtain⟨i,hi,h1,h2,rfl⟩:=Cj hu;exact hx i hi h1 h2 j hj fi
theorem eW.doneA(h:eW κ a b out ia ib)(e:ib=b.size):fJ κ (a.toList++b.toList) (out++a.extract ia a.size++b.extract ib b.size):=by have:=h.ms;rw[show b.toList.drop ib=[] by rw[An];simp[e]]at this;refine this.endA ?_;rw[hV,hV,pT,pT,show b.toList.drop ib=[] by rw[An];simp[e],g_]
theorem eW.doneB(h:eW κ a b out ia ib)(e:ia=a.size):fJ κ (a.toList++b.toList) (out++a.extract ia a.size++b.extract ib b.size):=by have:=h.ms;rw[show a.toList.drop ia=[] by rw[An];simp[e]]at this;refine this.swap.endA ?_;rw[hV,hV,pT,pT,show a.toList.drop ia=[] by rw[An];simp[e],g_]
theorem eW.last(h:eW κ a b out ia ib)(e:ia+1=a.size)(hl:∀j (hj:j<b.size),bv κ b[j] (a[ia]'∅)):fJ κ (a.toList++b.toList) (out++b.extract ib b.size++a.extract ia a.size):=by
 refine h.ms.last (λu hu v hv=>?_) (by rw[hV,hV,pT,pT,qB]);obtain⟨j,hj,h1,rfl⟩:=o9 hu;obtain⟨i,hi,h2,rfl⟩:=o9 hv;have:i=ia:=∅
 subst this;exact hl j hj
end
section
variable{prog:aM}{w:aF}{A:aO}{E:ai->am->Prop}{s:am}{κ:KeyKind}{kz:gB}
theorem yR(hO:gY κ kz prog w A s){st:br}(hk:SB kz st){key:Keyed}{arr:Array Keyed}{base n hint:Nat}{Q:Option Nat->br->Prop}(jG:fV κ key)(hn:base+n<=arr.size)(hA:∀i (hi:i<arr.size),fV κ arr[i]) (hs:∀i j (bt:i<=j) (hj:j<base+n),base<=i->bv κ (arr[i]'∅) (arr[j]'∅)) (hh:hint<n)(h:∀r,r<=n->(∀i (hi:i<arr.size),base<=i->i<base+r->bv κ arr[i] key)->(∀i (hi:i<arr.size),base+r<=i->i<base+n->κ.klt (kO κ key) (kO κ arr[i]))->Q (aa r) st):wpS (au prog w) A E s (ve aj key arr base n hint) Q st:=by
 refine Ds hO hk jG hn hA (λi=>if hi:i<n then kA κ aj key (arr[base+i]'∅)else aj) (λi hi=>by rw[dif_pos hi]) ?_ hh ?_
 ·intro i j bt hj e;rw[dif_pos hj]at e;rw[dif_pos ∅];simp only[kA,eC,if_false,E4]at e ⊢;exact qP (hs (base+i) (base+j) ∅ ∅ ∅) e
 ·intro r hr h1 h2;refine h r hr (λi hi hb bb=>?_) (λi hi hb bb=>?_)
  ·have:=h1 (i-base) ∅;rw[dif_pos ∅]at this;simp only[kA,eC,if_false,E4,show base+(i-base)=i by lia]at this;exact this
  ·have:=h2 (i-base) ∅ ∅;rw[dif_pos ∅]at this;simp only[kA,eC,if_false,Bool.not_eq_false',show base+(i-base)=i by lia]at this;exact this
theorem yr(hO:gY κ kz prog w A s){st:br}(hk:SB kz st){key:Keyed}{arr:Array Keyed}{base n hint:Nat}{Q:Option Nat->br->Prop}(jG:fV κ key)(hn:base+n<=arr.size)(hA:∀i (hi:i<arr.size),fV κ arr[i]) (hs:∀i j (bt:i<=j) (hj:j<base+n),base<=i->bv κ (arr[i]'∅) (arr[j]'∅)) (hh:hint<n)(h:∀r,r<=n->(∀i (hi:i<arr.size),base<=i->i<base+r->κ.klt (kO κ arr[i]) (kO κ key))->(∀i (hi:i<arr.size),base+r<=i->i<base+n->bv κ key arr[i])->Q (aa r) st):wpS (au prog w) A E s (ve ah key arr base n hint) Q st:=by
 refine Ds hO hk jG hn hA (λi=>if hi:i<n then kA κ ah key (arr[base+i]'∅)else aj) (λi hi=>by rw[dif_pos hi]) ?_ hh ?_
 ·intro i j bt hj e;rw[dif_pos hj]at e;rw[dif_pos ∅];simp only[kA,if_true]at e ⊢;exact KeyOrd.klt_of_kle_of_klt (hs (base+i) (base+j) ∅ ∅ ∅) e
 ·intro r hr h1 h2;refine h r hr (λi hi hb bb=>?_) (λi hi hb bb=>?_)
  ·have:=h1 (i-base) ∅;rw[dif_pos ∅]at this;simp only[kA,if_true,show base+(i-base)=i by lia]at this;exact this
  ·have:=h2 (i-base) ∅ ∅;rw[dif_pos ∅]at this;simp only[kA,if_true,show base+(i-base)=i by lia]at this;exact this
end
structure fI(st ay:br):Prop where
 kind:kindOf ay=kindOf st
 arr:arrOf ay=arrOf st
 pend:bf ay=bf st
 failed:failedOf ay=failedOf st
theorem fI.rfl{st:br}:fI st st:=⟨_root_.rfl,_root_.rfl,_root_.rfl,_root_.rfl⟩
theorem fI.sb{kz:gB}{st ay:br}(h:fI st ay)(k:SB kz st):SB kz ay:=⟨h.kind.trans k.kind,h.failed.trans k.failed⟩
section
variable{prog:aM}{w:aF}{A:aO}{E:ai->am->Prop}{s:am}{κ:KeyKind}{kz:gB}
theorem cm{σ α:Type}{M:Model}{c:Prop}[Decidable c]{t e:StateT σ Sem α}{Q:α->σ->Prop}{st:σ}(h1:c->wpS M A E s t Q st)(h2:¬c->wpS M A E s e Q st):wpS M A E s (if c then t else e) Q st:=by
 split
 ·exact h1 ‹_›
 ·exact h2 ‹_›
def Kl:Nat->StateT br Sem Unit:=sortPriv% PySem.Builtin.setMinGallop
theorem fI.trans{a b c:br}(h1:fI a b)(h2:fI b c):fI a c:=⟨h2.kind.trans h1.kind,h2.arr.trans h1.arr,h2.pend.trans h1.pend,h2.failed.trans h1.failed⟩
theorem xT{st iW:br}{g:Nat}{Q:Unit->br->Prop}(hS:fI iW st)(h:∀ay,fI iW ay->Q () ay):wpS (au prog w) A E s (Kl g) Q st :=l9 (h _ (hS.trans ⟨rfl,rfl,rfl,rfl⟩))
theorem Lr(hO:gY κ kz prog w A s){st:br}(hk:SB kz st){a b:Array Keyed}{Q:Array Keyed->br->Prop}(ha:0<a.size)(hb:0<b.size)(hA:∀i (hi:i<a.size),fV κ a[i]) (hB:∀i (hi:i<b.size),fV κ b[i]) (sa:sd κ a) (sb:sd κ b)(h0:bv κ b[0] a[0]) (hl:∀j (hj:j<b.size),bv κ b[j] a[a.size-1])(h:∀r ay,fI st ay->fJ κ (a.toList++b.toList) r->Q r ay):wpS (au prog w) A E s (Dk a b) Q st:=by
 have gH:∀{i:Nat} (hi:i<a.size),i+1=a.size->∀j (hj:j<b.size),bv κ b[j] a[i]:=λ{i} hi e j hj=>by
  have:i=a.size-1:=∅
  subst this;exact hl j hj
 have I0:eW κ a b #[b[0]] 0 1:=by
  have h1:eW κ a b #[] 0 0:=⟨⟨by simp,by simp,by simpa using sa.pw,by simpa using sb.pw,by simp,by simp⟩,∅,∅⟩
  exact h1.pushB hb λj hj _=>h0.trans (sa 0 j hj ∅)
 unfold Dk;refine aE (qO (lX ⟨rfl,?_⟩));refine aE (eG hb ?_);by_cases e1:1=b.size
 ·rw[if_pos (by simp[←e1])];exact aK (h _ _ .rfl (I0.doneA e1))
 rw[if_neg (by simpa using e1)];by_cases e2:0+1=a.size
 ·rw[if_pos (by simp[←e2])];exact aK (h _ _ .rfl (I0.last e2 (gH ∅ ∅)))
 rw[if_neg (by simpa using e2)];refine aE (j7 ?_);refine aE (fN (fO (I:=λx c ay=>fI st ay/\∃out ia ib mg,c=(ae,out,ia,ib,mg)/\eW κ a b out ia ib/\ia+1<a.size/\ib<b.size/\x+1<=ia+ib) (Q:=λc ay=>fI st ay/\∃r,c.1=aa r/\fJ κ (a.toList++b.toList) r) ?_ ?_ ?_) ?_);rotate_left
 ·rintro c ay ⟨_,out,ia,ib,mg,rfl,hI,h1,h2,h3⟩;lia
 ·exact⟨.rfl,_,0,1,_,rfl,I0,∅,∅,∅⟩
 ·rintro⟨c1,c⟩ ay ⟨hS,r,rfl,hD⟩;exact aK (h r ay hS hD)
 rintro x c ay _ hx ⟨hS,out,ia,ib,mg,rfl,hI,h1,h2,h3⟩;refine aE (fN (fO (I:=λy c cb=>cb=ay/\∃out ia ib ac bc,c=(ae,out,ia,ib,ac,bc)/\eW κ a b out ia ib/\ia+1<a.size/\ib<b.size/\x+1+y<=ia+ib) (Q:=λc cb=>cb=ay/\((∃r c',c=(aa r,c')/\fJ κ (a.toList++b.toList) r)\/∃out ia ib ac bc,c=(ae,out,ia,ib,ac,bc)/\eW κ a b out ia ib/\ia+1<a.size/\ib<b.size/\x+1+1<=ia+ib)) ?_ ?_ ?_) ?_)
 ·rintro y c cb _ hy ⟨rfl,out,ia,ib,ac,bc,rfl,hI,h1,h2,h3⟩;dsimp only;refine aE (eG h2 (aE (eG ∅ (aE (sN hO (hS.sb hk) (hB ib h2) (hA ia ∅) ?_)))));cases e:κ.blt (kO κ b[ib]) (kO κ (a[ia]'∅))with
  |true=>
   dsimp only;rw[if_pos rfl];refine aE (eG h2 ?_);have kh:=hI.pushB h2 λj hj fi=>bv.trans (j8 e) (sa ia j hj fi);by_cases e3:ib+1=b.size
   ·rw[if_pos (by simp[e3])];exact aK ⟨rfl,.inl ⟨_,_,rfl,kh.doneA e3⟩⟩
   rw[if_neg (by simpa using e3)];split
   ·exact aK ⟨rfl,.inr ⟨_,_,_,_,_,rfl,kh,∅,∅,∅⟩⟩
   ·exact aK ⟨rfl,_,_,_,_,_,rfl,kh,∅,∅,∅⟩
  |false=>
   dsimp only;rw[if_neg (by simp)];refine aE (eG ∅ ?_);have kh:=hI.pushA ∅ λj hj fi=>bv.trans (show bv κ (a[ia]'∅) b[ib] from e) (sb ib j hj fi);by_cases e3:ia+1+1=a.size
   ·rw[if_pos (by simp[e3])];exact aK ⟨rfl,.inl ⟨_,_,rfl,kh.last e3 (gH ∅ ∅)⟩⟩
   rw[if_neg (by simpa using e3)];split
   ·exact aK ⟨rfl,.inr ⟨_,_,_,_,_,rfl,kh,∅,∅,∅⟩⟩
   ·exact aK ⟨rfl,_,_,_,_,_,rfl,kh,∅,∅,∅⟩
 ·rintro c cb ⟨rfl,out,ia,ib,ac,bc,rfl,hI,h1,h2,h3⟩;lia
 ·exact⟨rfl,_,_,_,_,_,rfl,hI,h1,h2,∅⟩
 rintro c cb ⟨rfl,⟨r,c',rfl,hD⟩|⟨out,ia,ib,ac,bc,rfl,hI,h1,h2,h3⟩⟩
 ·exact aK ⟨hS,r,rfl,hD⟩
 refine aE (qO (lX ⟨rfl,?_⟩));refine aE (fN (fO (I:=λy c cb=>fI st cb/\∃out ia ib mg ac bc,c=(ae,out,ia,ib,mg,ac,bc)/\eW κ a b out ia ib/\ia+1<a.size/\ib<b.size/\x+2+y<=ia+ib) (Q:=λc cb=>fI st cb/\((∃r c',c=(aa r,c')/\fJ κ (a.toList++b.toList) r)\/∃out ia ib mg ac bc,c=(ae,out,ia,ib,mg,ac,bc)/\eW κ a b out ia ib/\ia+1<a.size/\ib<b.size/\x+1+1<=ia+ib)) ?_ ?_ ?_) ?_);rotate_left
 ·rintro c cb ⟨_,out,ia,ib,mg,ac,bc,rfl,hI,h1,h2,h3⟩;lia
 ·exact⟨hS,_,_,_,_,_,_,rfl,hI,h1,h2,∅⟩
 ·rintro c cb ⟨hS,⟨r,c',rfl,hD⟩|⟨out,ia,ib,mg,ac,bc,rfl,hI,h1,h2,h3⟩⟩
  ·exact aK ⟨hS,r,rfl,hD⟩
  ·dsimp only;refine aE (l9 (aK ⟨⟨hS.kind,hS.arr,hS.pend,hS.failed⟩,_,_,_,_,rfl,hI,h1,h2,∅⟩))
 clear h1 h2 h3 hI hS I0 e1 e2;rintro y c cb _ hy ⟨hS,out,ia,ib,mg,ac,bc,rfl,hI,h1,h2,h3⟩;clear hx hy;have iU:∀{i j:Nat} (bt:i<=j) (hj:j<b.size),bv κ (b[i]'∅) b[j]:=λ{i j} bt hj=>sb i j hj bt;have oW:∀{i j:Nat} (bt:i<=j) (hj:j<a.size),bv κ (a[i]'∅) a[j]:=λ{i j} bt hj=>sa i j hj bt;refine(?_:wpS (au prog w) A E s _ ?Q _);extract_lets -merge x1 x2 x3 x4 x5 x6 x7 x8 x9 xa xb xc jp;have hj:∀g bq,fI st bq->wpS (au prog w) A E s (jp () g) ?Q bq:=by
  intro g bq fj;dsimp -zeta only[jp,x1,x2,x3,x4,x5,x6,x7,x8,x9,xa,xb,xc];refine aE (xT fj λbq fj=>?_);refine aE (eG h2 ?_);refine aE (yR hO (fj.sb hk) (base:=ia) (n:=a.size-ia) (hint:=0) (hB ib h2) ∅ hA (λi j bt hj _=>oW bt ∅) ∅ λk jI fD fk=>?_);dsimp -zeta only;extract_lets -merge y1 jp2;have t4:∀o n,eW κ a b o n ib->ia+k<=n->n+1<a.size->wpS (au prog w) A E s (jp2 () o n) ?Q bq:=by
   intro o n t5 nB e4;dsimp -zeta only[jp2,y1];refine aE (eG h2 ?_);have hI3:=t5.pushB h2 λj hj g=>j8 (fk j hj ∅ ∅);refine cm (λe5=>?_) λe5=>?_
   ·exact aK ⟨fj,.inl ⟨_,_,rfl,hI3.doneA (by simpa using e5)⟩⟩
   have e5':ib+1≠b.size:=by simpa using e5
   refine aE (eG ∅ ?_);refine aE (yr hO (fj.sb hk) (base:=ib+1) (n:=b.size-(ib+1)) (hint:=0) (hA _ _) ∅ hB (λi j bt hj _=>iU bt ∅) ∅ λk' m1 m2 m3=>?_);dsimp -zeta only;extract_lets -merge z1 z2 jp3;have t6:∀o m,eW κ a b o n m->ib+1+k'<=m->m<b.size->wpS (au prog w) A E s (jp3 () o m) ?Q bq:=by
    intro o m t7 e6 e7;dsimp -zeta only[jp3,z1,z2];refine aE (eG ∅ ?_);have t8:=t7.pushA ∅ (λj hj g=>m3 j hj ∅ ∅);refine cm (λe7=>?_) λe7=>?_
    ·have e7':n+1+1=a.size:=by simpa using e7
     exact aK ⟨fj,.inl ⟨_,_,rfl,t8.last e7' (gH ∅ e7')⟩⟩
    have e7':n+1+1≠a.size:=by simpa using e7
    refine cm (λe8=>?_) λe8=>?_
    ·exact aK ⟨fj,.inr ⟨_,_,_,_,_,_,rfl,t8,∅,∅,∅⟩⟩
    ·exact aK ⟨fj,_,_,_,_,_,_,rfl,t8,∅,∅,∅⟩
   clear_value jp3;refine cm (λAM=>?_) (λAM=>?_)
   ·have t7:=hI3.extB (k:=k') ∅ (λi hi g1 g2 j hj g3=>bv.trans (j8 (m2 i hi g1 g2)) (oW g3 hj));refine cm (λe6=>?_) λe6=>?_
    ·exact aK ⟨fj,.inl ⟨_,_,rfl,t7.doneA (by simpa using e6)⟩⟩
    have e6':ib+1+k'≠b.size:=by simpa using e6
    exact t6 _ _ t7 ∅ ∅
   ·exact t6 _ _ hI3 ∅ ∅
  clear_value jp2;refine cm (λhk0=>?_) (λhk0=>?_)
  ·have t5:eW κ a b (out++a.extract ia (ia+k)) (ia+k) ib:=hI.extA ∅ λi hi g1 g2 j hj g3=>(fD i hi g1 g2).trans (iU g3 hj);refine cm (λe3=>?_) λe3=>?_
   ·have nB:ia+k+1=a.size:=by simpa using e3
    exact aK ⟨fj,.inl ⟨_,_,rfl,t5.last nB (gH ∅ nB)⟩⟩
   have nB:ia+k+1≠a.size:=by simpa using e3
   refine cm (λe4=>?_) λe4=>?_
   ·exact aK ⟨fj,.inl ⟨_,_,rfl,t5.doneB (by simpa using e4)⟩⟩
   have e4':ia+k≠a.size:=by simpa using e4
   exact t4 _ _ t5 ∅ ∅
  ·exact t4 _ _ hI ∅ ∅
 exact cm (λ_=>hj _ _ hS) λ_=>hj _ _ hS
end
def yQ(κ:KeyKind):KeyKind where
 α:=κ.α
 blt:=λa b=>κ.blt b a
 irrefl:=κ.irrefl
 trans:=λa b c h1 h2=>κ.trans c b a h2 h1
 negTrans:=λa b c h=>(κ.negTrans c b a h).symm
 total:=λa b h1 h2=>κ.total a b h2 h1
 keyOf:=κ.keyOf
 dflt:=κ.dflt
section
variable{κ:KeyKind}{kz:gB}
theorem rH{x y:Keyed}(h:bv κ y x):bv (yQ κ) x y:=h
theorem AW{a:Array Keyed}{n:Nat}(h:0<n)(hn:n<=a.size):(a.toList.take n).reverse=(a[n-1]'∅)::(a.toList.take (n-1)).reverse:=by
 obtain⟨m,rfl⟩:∃m,n=m+1:=⟨n-1,∅⟩
 rw[wM (by simp;lia),E5];simp
theorem DJ(a:Array Keyed)(p n:Nat)(hp:p<=n):a.toList.take n=a.toList.take p++(a.extract p n).toList:=by
 rw[jT]
 conv=>lhs;rw[show n=p+(n-p) by lia]
 rw[List.take_add]
theorem pI{a:Array Keyed}{n:Nat}(hn:n<=a.size){x:Keyed}(h:x∈a.toList.take n):∃j,∃hj:j<a.size,j<n/\a[j]=x:=by
 obtain⟨m,hm,e⟩:=l8 h;rw[Ak]at e;have h1:m<n:=by simp at hm;lia
 exact⟨m,∅,h1,by simpa using e⟩
theorem yu{a:Array Keyed}{p n:Nat}(hn:n<=a.size){x:Keyed}(h:x∈(a.extract p n).toList):∃j,∃hj:j<a.size,p<=j/\j<n/\a[j]=x:=by
 rw[jT]at h;obtain⟨m,hm,e⟩:=l8 h;rw[Ak,wL]at e;have h1:p+m<n:=by simp at hm;lia
 exact⟨p+m,∅,∅,h1,by simpa using e⟩
theorem nW(a:Array Keyed)(n:Nat):(a.extract 0 n).toList=a.toList.take n:=by rw[jT];simp
structure eY(κ:KeyKind)(a b out:Array Keyed)(na nb:Nat):Prop where
 ms:MS (yQ κ) (a.toList++b.toList) out.toList (a.toList.take na).reverse (b.toList.take nb).reverse
 la:na<=a.size
 lb:nb<=b.size
variable{a b out:Array Keyed}{na nb:Nat}
theorem eY.pushA(h:eY κ a b out na nb)(hn:0<na)(hla:na-1<a.size)(hx:∀j (hj:j<b.size),j<nb->bv κ b[j] a[na-1]):eY κ a b (out.push a[na-1]) (na-1) nb:=by refine⟨?_,∅,h.lb⟩;rw[qI];refine MS.stepA (by rw[Am,←AW hn h.la];exact h.ms) λu hu v hv=>?_;obtain⟨j,hj,fi,rfl⟩:=pI h.lb (oK.mp hv);rw[hU.mp hu];exact rH (hx j hj fi)
theorem eY.pushB(h:eY κ a b out na nb)(hn:0<nb)(hlb:nb-1<b.size)(hx:∀j (hj:j<a.size),j<na->bv κ a[j] b[nb-1]):eY κ a b (out.push b[nb-1]) na (nb-1):=by refine⟨?_,h.la,∅⟩;rw[qI];refine MS.stepB (by rw[Am,←AW hn h.lb];exact h.ms) λu hu v hv=>?_;obtain⟨j,hj,fi,rfl⟩:=pI h.la (oK.mp hv);rw[hU.mp hu];exact rH (hx j hj fi)
theorem eY.extA{p:Nat}(h:eY κ a b out na nb)(hp:p<=na)(hx:∀i (hi:i<a.size),p<=i->i<na->∀j (hj:j<b.size),j<nb->bv κ b[j] a[i]):eY κ a b (out++(a.extract p na).reverse) p nb:=by refine⟨?_,cS hp h.la,h.lb⟩;rw[hV,Array.toList_reverse];refine MS.stepA (by rw[←E5,←DJ _ _ _ hp];exact h.ms) λu hu v hv=>?_;obtain⟨j,hj,fi,rfl⟩:=pI h.lb (oK.mp hv);obtain⟨i,hi,h1,h2,rfl⟩:=yu h.la (oK.mp hu);exact rH (hx i hi h1 h2 j hj fi)
theorem eY.extB{p:Nat}(h:eY κ a b out na nb)(hp:p<=nb)(hx:∀i (hi:i<b.size),p<=i->i<nb->∀j (hj:j<a.size),j<na->bv κ a[j] b[i]):eY κ a b (out++(b.extract p nb).reverse) na p:=by refine⟨?_,h.la,cS hp h.lb⟩;rw[hV,Array.toList_reverse];refine MS.stepB (by rw[←E5,←DJ _ _ _ hp];exact h.ms) λu hu v hv=>?_;obtain⟨j,hj,fi,rfl⟩:=pI h.la (oK.mp hv);obtain⟨i,hi,h1,h2,rfl⟩:=yu h.lb (oK.mp hu);exact rH (hx i hi h1 h2 j hj fi)
theorem xm{T:List Keyed}{r q:Array Keyed}(h:fJ (yQ κ) T q)(e:r.toList=q.toList.reverse):fJ κ T r:=by refine⟨by rw[e];exact(E6 _).trans h.1,?_⟩;rw[e,E7];exact h.2
theorem eY.doneA(h:eY κ a b out na nb)(e:na=0):fJ κ (a.toList++b.toList) (a.extract 0 na++b.extract 0 nb++out.reverse):=by have:=h.ms;rw[e,Ab,List.reverse_nil]at this;refine xm (q:=(out.toList++(b.toList.take nb).reverse).toArray) (this.swap.endA (by simp)) ?_;rw[hV,hV,nW,nW,e];simp
theorem eY.doneB(h:eY κ a b out na nb)(e:nb=0):fJ κ (a.toList++b.toList) (a.extract 0 na++b.extract 0 nb++out.reverse):=by have:=h.ms;rw[e,Ab,List.reverse_nil]at this;refine xm (q:=(out.toList++(a.toList.take na).reverse).toArray) (this.endA (by simp)) ?_;rw[hV,hV,nW,nW,e];simp
theorem eY.first(h:eY κ a b out na nb)(e:nb=1)(hf:∀j (hj:j<a.size),bv κ (b[0]'(by have:=h.lb;lia)) a[j]):fJ κ (a.toList++b.toList) (b.extract 0 nb++a.extract 0 na++out.reverse):=by
 refine xm (q:=(out.toList++((a.toList.take na).reverse++(b.toList.take nb).reverse)).toArray) (h.ms.swap.last (λu hu v hv=>?_) (by simp)) ?_
 ·obtain⟨i,hi,h1,rfl⟩:=pI h.la (oK.mp hu);obtain⟨j,hj,h2,rfl⟩:=pI h.lb (oK.mp hv);have:j=0:=∅
  subst this;exact rH (hf i hi)
 ·rw[hV,hV,nW,nW];simp
end
section
variable{prog:aM}{w:aF}{A:aO}{E:ai->am->Prop}{s:am}{κ:KeyKind}{kz:gB}
theorem Ix(hO:gY κ kz prog w A s){st:br}(hk:SB kz st){a b:Array Keyed}{Q:Array Keyed->br->Prop}(ha:0<a.size)(hb:0<b.size)(hA:∀i (hi:i<a.size),fV κ a[i]) (hB:∀i (hi:i<b.size),fV κ b[i]) (sa:sd κ a) (sb:sd κ b)(h0:bv κ b[0] a[0]) (hl:∀j (hj:j<b.size),bv κ b[j] a[a.size-1])(h:∀r ay,fI st ay->fJ κ (a.toList++b.toList) r->Q r ay):wpS (au prog w) A E s (Dl a b) Q st:=by
 have iU:∀{i j:Nat} (bt:i<=j) (hj:j<b.size),bv κ (b[i]'∅) b[j]:=λ{i j} bt hj=>sb i j hj bt;have oW:∀{i j:Nat} (bt:i<=j) (hj:j<a.size),bv κ (a[i]'∅) a[j]:=λ{i j} bt hj=>sa i j hj bt;have hf:∀j (hj:j<a.size),bv κ b[0] a[j]:=λj hj=>h0.trans (oW ∅ hj);have I0:eY κ a b #[a[a.size-1]] (a.size-1) b.size:=by
  have h1:eY κ a b #[] a.size b.size:=by
   refine⟨⟨?_,by simp,?_,?_,by simp,by simp⟩,∅,∅⟩
   ·simp only[←g9,tq,iz];exact List.Perm.append (E6 _) (E6 _)
   ·simp only[←g9,tq,E7];exact sa.pw
   ·simp only[←g9,tq,E7];exact sb.pw
  exact h1.pushA ha ∅ λj hj _=>hl j hj
 unfold Dl;refine aE (qO (lX ⟨rfl,?_⟩));refine aE (eG ∅ ?_);refine cm (λe1=>aK (h _ _ .rfl (I0.doneA (by simpa using e1)))) λe1=>?_;have rh:a.size-1≠0:=by simpa using e1
 refine cm (λe2=>?_) λe2=>?_
 ·have kb:b.size=1:=by simpa using e2
  exact aK (h _ _ .rfl (I0.first kb hf))
 have kb:b.size≠1:=by simpa using e2
 refine aE (j7 ?_);refine aE (fN (fO (I:=λx c ay=>fI st ay/\∃out na nb mg,c=(ae,na,nb,out,mg)/\eY κ a b out na nb/\0<na/\na<=a.size/\1<nb/\nb<=b.size/\x+1+na+nb<=a.size+b.size) (Q:=λc ay=>fI st ay/\∃r,c.1=aa r/\fJ κ (a.toList++b.toList) r) ?_ ?_ ?_) ?_);rotate_left
 ·rintro c ay ⟨_,out,na,nb,mg,rfl,hI,h1,eE,h2,cU,h3⟩;lia
 ·exact⟨.rfl,_,_,_,_,rfl,I0,∅,∅,∅,∅,∅⟩
 ·rintro⟨c1,c⟩ ay ⟨hS,r,rfl,hD⟩;exact aK (h r ay hS hD)
 rintro x c ay _ hx ⟨hS,out,na,nb,mg,rfl,hI,h1,eE,h2,cU,h3⟩;refine aE (fN (fO (I:=λy c cb=>cb=ay/\∃out na nb ac bc,c=(ae,na,nb,out,ac,bc)/\eY κ a b out na nb/\0<na/\na<=a.size/\1<nb/\nb<=b.size/\x+1+y+na+nb<=a.size+b.size) (Q:=λc cb=>cb=ay/\((∃r c',c=(aa r,c')/\fJ κ (a.toList++b.toList) r)\/∃out na nb ac bc,c=(ae,na,nb,out,ac,bc)/\eY κ a b out na nb/\0<na/\na<=a.size/\1<nb/\nb<=b.size/\x+1+1+na+nb<=a.size+b.size)) ?_ ?_ ?_) ?_)
 ·rintro y c cb _ hy ⟨rfl,out,na,nb,ac,bc,rfl,hI,h1,eE,h2,cU,h3⟩;dsimp only;refine aE (eG ∅ (aE (eG ∅ (aE (sN hO (hS.sb hk) (hB (nb-1) ∅) (hA (na-1) ∅) ?_)))));cases e:κ.blt (kO κ (b[nb-1]'∅)) (kO κ (a[na-1]'∅))with
  |true=>
   dsimp only;rw[if_pos rfl];refine aE (eG ∅ ?_);have kh:=hI.pushA h1 ∅ λj hj fi=>bv.trans (iU (show j<=nb-1 by lia) ∅) (j8 e);refine cm (λe3=>?_) λe3=>?_
   ·exact aK ⟨rfl,.inl ⟨_,_,rfl,kh.doneA (by simpa using e3)⟩⟩
   have nB:na-1≠0:=by simpa using e3
   refine cm (λe4=>?_) λe4=>?_
   ·exact aK ⟨rfl,.inr ⟨_,_,_,_,_,rfl,kh,∅,∅,∅,∅,∅⟩⟩
   ·exact aK ⟨rfl,_,_,_,_,_,rfl,kh,∅,∅,∅,∅,∅⟩
  |false=>
   dsimp only;rw[if_neg (by simp)];refine aE (eG ∅ ?_);have kh:=hI.pushB ∅ ∅ λj hj fi=>bv.trans (oW (show j<=na-1 by lia) ∅) (show bv κ (a[na-1]'∅) (b[nb-1]'∅)from e);refine cm (λe3=>?_) λe3=>?_
   ·exact aK ⟨rfl,.inl ⟨_,_,rfl,kh.first (by simpa using e3) hf⟩⟩
   have nB:nb-1≠1:=by simpa using e3
   refine cm (λe4=>?_) λe4=>?_
   ·exact aK ⟨rfl,.inr ⟨_,_,_,_,_,rfl,kh,∅,∅,∅,∅,∅⟩⟩
   ·exact aK ⟨rfl,_,_,_,_,_,rfl,kh,∅,∅,∅,∅,∅⟩
 ·rintro c cb ⟨rfl,out,na,nb,ac,bc,rfl,hI,h1,eE,h2,cU,h3⟩;lia
 ·exact⟨rfl,_,_,_,_,_,rfl,hI,h1,eE,h2,cU,∅⟩
 rintro c cb ⟨rfl,⟨r,c',rfl,hD⟩|⟨out,na,nb,ac,bc,rfl,hI,h1,eE,h2,cU,h3⟩⟩
 ·exact aK ⟨hS,r,rfl,hD⟩
 refine aE (qO (lX ⟨rfl,?_⟩));refine aE (fN (fO (I:=λy c cb=>fI st cb/\∃out na nb mg ac bc,c=(ae,na,nb,out,mg,ac,bc)/\eY κ a b out na nb/\0<na/\na<=a.size/\1<nb/\nb<=b.size/\x+2+y+na+nb<=a.size+b.size) (Q:=λc cb=>fI st cb/\((∃r c',c=(aa r,c')/\fJ κ (a.toList++b.toList) r)\/∃out na nb mg ac bc,c=(ae,na,nb,out,mg,ac,bc)/\eY κ a b out na nb/\0<na/\na<=a.size/\1<nb/\nb<=b.size/\x+1+1+na+nb<=a.size+b.size)) ?_ ?_ ?_) ?_);rotate_left
 ·rintro c cb ⟨_,out,na,nb,mg,ac,bc,rfl,hI,h1,eE,h2,cU,h3⟩;lia
 ·exact⟨hS,_,_,_,_,_,_,rfl,hI,h1,eE,h2,cU,∅⟩
 ·rintro c cb ⟨hS,⟨r,c',rfl,hD⟩|⟨out,na,nb,mg,ac,bc,rfl,hI,h1,eE,h2,cU,h3⟩⟩
  ·exact aK ⟨hS,r,rfl,hD⟩
  ·dsimp only;exact aE (xT hS λbq fj=>aK ⟨fj,_,_,_,_,rfl,hI,h1,eE,h2,cU,∅⟩)
 clear h1 eE h2 cU h3 hI hS I0 e1 e2;rintro y c cb _ hy ⟨hS,out,na,nb,mg,ac,bc,rfl,hI,h1,eE,h2,cU,h3⟩;clear hx hy;refine(?_:wpS (au prog w) A E s _ ?Q _);extract_lets -merge x1 x2 x3 x4 x5 x6 x7 x8 x9 xa xb xc jp;have hj:∀g bq,fI st bq->wpS (au prog w) A E s (jp () g) ?Q bq:=by
  intro g bq fj;dsimp -zeta only[jp,x1,x2,x3,x4,x5,x6,x7,x8,x9,xa,xb,xc];refine aE (xT fj λbq fj=>?_);refine aE (eG ∅ ?_);refine aE (yR hO (fj.sb hk) (base:=0) (n:=na) (hint:=na-1) (hB (nb-1) ∅) ∅ hA (λi j bt hj _=>oW bt ∅) ∅ λp jI fD fk=>?_);dsimp -zeta only;extract_lets -merge y1 y2 jp2;have t4:∀n o,eY κ a b o n nb->0<n->n<=p->wpS (au prog w) A E s (jp2 () n o) ?Q bq:=by
   intro n o t5 nB e4;dsimp -zeta only[jp2,y1,y2];refine aE (eG ∅ ?_);have hI3:=t5.pushB ∅ ∅ λj hj g=>fD j hj ∅ ∅;refine cm (λe5=>?_) λe5=>?_
   ·exact aK ⟨fj,.inl ⟨_,_,rfl,hI3.first (by simpa using e5) hf⟩⟩
   have e5':nb-1≠1:=by simpa using e5
   refine aE (eG ∅ ?_);refine aE (yr hO (fj.sb hk) (base:=0) (n:=nb-1) (hint:=nb-1-1) (hA _ _) ∅ hB (λi j bt hj _=>iU bt ∅) ∅ λp' m1 m2 m3=>?_);dsimp -zeta only;extract_lets -merge z1 z2 z3 jp3;have t6:∀m o,eY κ a b o n m->1<m->m<=p'->wpS (au prog w) A E s (jp3 () m o) ?Q bq:=by
    intro m o t7 e6 e7;dsimp -zeta only[jp3,z1,z2,z3];refine aE (eG ∅ ?_);have t8:=t7.pushA ∅ ∅ (λj hj g=>j8 (m2 j hj ∅ ∅));refine cm (λe7=>?_) λe7=>?_
    ·exact aK ⟨fj,.inl ⟨_,_,rfl,t8.doneA (by simpa using e7)⟩⟩
    have e7':n-1≠0:=by simpa using e7
    refine cm (λe8=>?_) λe8=>?_
    ·exact aK ⟨fj,.inr ⟨_,_,_,_,_,_,rfl,t8,∅,∅,∅,∅,∅⟩⟩
    ·exact aK ⟨fj,_,_,_,_,_,_,rfl,t8,∅,∅,∅,∅,∅⟩
   clear_value jp3;refine cm (λAM=>?_) (λAM=>?_)
   ·have t7:=hI3.extB (p:=p') ∅ (λi hi g1 g2 j hj g3=>bv.trans (oW (show j<=n-1 by lia) ∅) (m3 i hi ∅ ∅));refine cm (λe6=>?_) λe6=>?_
    ·exact aK ⟨fj,.inl ⟨_,_,rfl,t7.first (by simpa using e6) hf⟩⟩
    refine cm (λe9=>?_) λe9=>?_
    ·exact aK ⟨fj,.inl ⟨_,_,rfl,t7.doneB (by simpa using e9)⟩⟩
    have e6':p'≠1:=by simpa using e6
    have e9':p'≠0:=by simpa using e9
    exact t6 _ _ t7 ∅ ∅
   ·exact t6 _ _ hI3 ∅ ∅
  clear_value jp2;refine cm (λhk0=>?_) (λhk0=>?_)
  ·have t5:eY κ a b (out++(a.extract p na).reverse) p nb:=hI.extA ∅ λi hi g1 g2 j hj g3=>bv.trans (iU (show j<=nb-1 by lia) ∅) (j8 (fk i hi ∅ ∅));refine cm (λe3=>?_) λe3=>?_
   ·exact aK ⟨fj,.inl ⟨_,_,rfl,t5.doneA (by simpa using e3)⟩⟩
   have nB:p≠0:=by simpa using e3
   exact t4 _ _ t5 ∅ ∅
  ·exact t4 _ _ hI ∅ ∅
 exact cm (λ_=>hj _ _ hS) λ_=>hj _ _ hS
end
def putL(a:Array Keyed)(lo:Nat)(l:List Keyed):Array Keyed:=l.zipIdx.foldl (λa (pj:Keyed×Nat)=>a.setIfInBounds (lo+pj.2) pj.1) a
theorem xA:∀(l:List Keyed) (n lo:Nat) (a:Array Keyed),lo+n+l.length<=a.size -> ((l.zipIdx n).foldl (λa (pj:Keyed×Nat)=>a.setIfInBounds (lo+pj.2) pj.1) a).size=a.size /\ ∀k,((l.zipIdx n).foldl (λa (pj:Keyed×Nat)=>a.setIfInBounds (lo+pj.2) pj.1) a)[k]?=if lo+n<=k/\k<lo+n+l.length then l[k-(lo+n)]? else a[k]?
 |[],n,lo,a,_=>⟨rfl,λk=>by rw[if_neg (by simp)];rfl⟩
 |x::l,n,lo,a,h=>by
  have h':lo+(n+1)+l.length<=(a.setIfInBounds (lo+n) x).size:=by simp at h ⊢;lia
  obtain⟨e1,e2⟩:=xA l (n+1) lo (a.setIfInBounds (lo+n) x) h';rw[List.zipIdx_cons,kX];refine⟨by rw[e1];simp,λk=>?_⟩;rw[e2];by_cases h1:lo+n=k
  ·subst h1;rw[if_neg ∅,if_pos (by simp)];rw[Array.getElem?_setIfInBounds_self_of_lt (by simp at h;lia)];simp
  ·by_cases h2:lo+(n+1)<=k/\k<lo+(n+1)+l.length
   ·rw[if_pos h2,if_pos (by simp;lia)];rw[show k-(lo+n)=k-(lo+(n+1))+1 by lia,List.getElem?_cons_succ]
   ·rw[if_neg h2,if_neg (by simp;lia),Array.getElem?_setIfInBounds_ne h1]
theorem Ht{a:Array Keyed}{lo:Nat}{l:List Keyed}(h:lo+l.length<=a.size):(putL a lo l).size=a.size:=(xA l 0 lo a ∅).1
theorem yB{a:Array Keyed}{lo:Nat}{l:List Keyed}(h:lo+l.length<=a.size)(k:Nat):(putL a lo l)[k]?=if lo<=k/\k<lo+l.length then l[k-lo]? else a[k]? :=(xA l 0 lo a ∅).2 k
theorem Ls{a:Array Keyed}{lo n:Nat}{l:List Keyed}(h:lo+n<=a.size)(hp:l.Perm ((a.toList.drop lo).take n)):(putL a lo l).toList.Perm a.toList:=by
 have hl:l.length=n:=by rw[hp.length_eq,mS,j3];simp;lia
 have e:(putL a lo l).toList=a.toList.take lo++(l++a.toList.drop (lo+n)):=by
  apply tf;intro k;rw[wE,yB ∅,List.getElem?_append,List.getElem?_append,mS,E8,EZ,hl];simp only[g9,wE];rw[show min lo a.size=lo by lia];by_cases h1:k<lo
  ·rw[if_neg ∅,if_pos h1,if_pos h1]
  ·rw[if_neg h1];by_cases h2:k<lo+n
   ·rw[if_pos ∅,if_pos ∅]
   ·rw[if_neg ∅,if_neg ∅];congr 1;lia
 rw[e];have e2:a.toList=a.toList.take lo++((a.toList.drop lo).take n++a.toList.drop (lo+n)):=by rw[←List.drop_drop,nh,nh]
 conv=>rhs;rw[e2]
 exact EV _ (List.Perm.append_right _ hp)
section
variable{κ:KeyKind}{kz:gB}
def Run(κ:KeyKind)(a:Array Keyed)(lo n:Nat):Prop:=∀i j x y,lo<=i->i<=j->j<lo+n->a[i]?=aa x->a[j]?=aa y->bv κ x y
theorem bv.refl(x:Keyed):bv κ x x:=k7 _
structure Wr(a a':Array Keyed)(lo n:Nat):Prop where
 perm:a'.toList.Perm a.toList
 size:a'.size=a.size
 out:∀k,k<lo\/lo+n<=k->a'[k]?=a[k]?
theorem Run.keep{a a':Array Keyed}{lo n lo' n':Nat}(h:Run κ a lo n)(w:Wr a a' lo' n')(d:lo+n<=lo'\/lo'+n'<=lo):Run κ a' lo n:=by intro i j x y h1 h2 h3 hx hy;rw[w.out i ∅]at hx;rw[w.out j ∅]at hy;exact h i j x y h1 h2 h3 hx hy
end
section
variable{prog:aM}{w:aF}{A:aO}{E:ai->am->Prop}{s:am}{κ:KeyKind}{kz:gB}
theorem Md{σ:Type}{M:Model}{Q:PUnit->σ->Prop}{st ay:σ}(h:Q ⟨⟩ ay):wpS M A E s (set ay:StateT σ Sem PUnit) Q st:=by unfold wpS;rw[StateT.run_set];exact aD ⟨rfl,h⟩
theorem NN(a:Array Keyed){p q t:Nat}(h1:p<=q)(h2:q<=t):(a.extract p q).toList++(a.extract q t).toList=(a.extract p t).toList:=by rw[jT,jT,jT,show t-p=(q-p)+(t-q) by lia,List.take_add,List.drop_drop,show p+(q-p)=q by lia]
theorem M0{arr:Array Keyed}{sa na nb k nb':Nat}(hsz:sa+na+nb<=arr.size)(hk:k<na)(h0:0<nb')(hnb:nb'<=nb)(r1:Run κ arr sa na)(r2:Run κ arr (sa+na) nb)(a1:∀i (hi:i<arr.size),sa<=i->i<sa+k->bv κ arr[i] (arr[sa+na]'∅)) (b2:∀i (hi:i<arr.size),sa+na+nb'<=i->i<sa+na+nb->bv κ (arr[sa+na-1]'∅) arr[i]){r:Array Keyed} (hD:fJ κ ((arr.extract (sa+k) (sa+na)).toList++(arr.extract (sa+na) (sa+na+nb')).toList) r):Wr arr (putL arr (sa+k) r.toList) sa (na+nb)/\Run κ (putL arr (sa+k) r.toList) sa (na+nb):=by
 rw[NN _ ∅ ∅]at hD;have bw:r.toList.length=na-k+nb':=by rw[hD.1.length_eq,jT,mS,j3,g9];lia
 have hb:sa+k+r.toList.length<=arr.size:=∅
 have hm:∀m∈r.toList,∃t,∃ht:t<arr.size,sa+k<=t/\t<sa+na+nb'/\arr[t]=m:=λm hm=>yu ∅ (hD.1.mem_iff.mp hm);have g1:∀{i j:Nat} (bt:i<=j) (hj:j<sa+na),sa<=i->bv κ (arr[i]'∅) (arr[j]'∅):=λ{i j} bt hj hi=>r1 i j _ _ hi bt hj (getElem?_pos _ _ _) (getElem?_pos _ _ _);have g2:∀{i j:Nat} (bt:i<=j) (hj:j<sa+na+nb),sa+na<=i->bv κ (arr[i]'∅) (arr[j]'∅):=λ{i j} bt hj hi=>r2 i j _ _ hi bt hj (getElem?_pos _ _ _) (getElem?_pos _ _ _);have pS:∀i (hi:i<arr.size) j (hj:j<arr.size),sa<=i->i<sa+k->sa+na<=j->j<sa+na+nb->bv κ arr[i] arr[j]:=λi hi j hj c1 c2 c3 c4=>(a1 i hi c1 c2).trans (g2 c3 c4 (a_ _));refine⟨⟨?_,Ht hb,λq hq=>?_⟩,?_⟩
 ·refine Ls (n:=na-k+nb') ∅ ?_;have:=hD.1;rwa[jT,show sa+na+nb'-(sa+k)=na-k+nb' by lia]at this
 ·rw[yB hb,if_neg ∅]
 ·intro i j x y h1 h2 h3 hx hy;rw[yB hb]at hx hy;by_cases ci:sa+k<=i/\i<sa+k+r.toList.length
  ·rw[if_pos ci]at hx;obtain⟨t,ht,t1,t2,rfl⟩:=hm x (mU hx);by_cases cj:sa+k<=j/\j<sa+k+r.toList.length
   ·rw[if_pos cj]at hy;by_cases eij:i=j
    ·subst eij;rw[hx]at hy;cases hy;exact bv.refl _
    ·obtain⟨u1,u2⟩:=c_.mp hx;obtain⟨v1,v2⟩:=c_.mp hy;have:=qQ.mp hD.2 (i-(sa+k)) (j-(sa+k)) u1 v1 ∅;rw[u2,v2]at this;exact this
   ·rw[if_neg cj]at hy;obtain⟨hj,rfl⟩:=kZ.mp hy;by_cases ct:t<sa+na
    ·exact(g1 (show t<=sa+na-1 by lia) ∅ ∅).trans (b2 j hj ∅ ∅)
    ·exact g2 ∅ ∅ ∅
  ·rw[if_neg ci]at hx;obtain⟨hi,rfl⟩:=kZ.mp hx;by_cases cj:sa+k<=j/\j<sa+k+r.toList.length
   ·rw[if_pos cj]at hy;obtain⟨t,ht,t1,t2,rfl⟩:=hm y (mU hy);by_cases ct:t<sa+na
    ·exact g1 ∅ ct ∅
    ·exact pS i hi t ht ∅ ∅ ∅ ∅
   ·rw[if_neg cj]at hy;obtain⟨hj,rfl⟩:=kZ.mp hy;by_cases c2:i<sa+k
    ·by_cases c3:j<sa+k
     ·exact g1 h2 ∅ h1
     ·exact pS i hi j hj ∅ c2 ∅ ∅
    ·exact g2 h2 ∅ ∅
theorem A7{arr:Array Keyed}{sa na nb:Nat}(hsz:sa+na+nb<=arr.size)(hna:0<na)(hnb:0<nb)(r1:Run κ arr sa na)(r2:Run κ arr (sa+na) nb)(hj:bv κ (arr[sa+na-1]'∅) (arr[sa+na]'∅)):Run κ arr sa (na+nb):=by
 intro i j x y h1 h2 h3 hx hy;by_cases c1:j<sa+na
 ·exact r1 i j x y h1 h2 c1 hx hy
 ·by_cases c2:i<sa+na
  ·exact((r1 i (sa+na-1) x _ h1 ∅ ∅ hx (getElem?_pos _ _ _)).trans hj).trans (r2 (sa+na) j _ y ∅ ∅ ∅ (getElem?_pos _ _ _) hy)
  ·exact r2 i j x y ∅ h2 ∅ hx hy
theorem Wr.same{a:Array Keyed}{lo n:Nat}:Wr a a lo n:=⟨qG _,rfl,λ_ _=>rfl⟩
theorem Lo(hO:gY κ kz prog w A s){st:br}(hk:SB kz st)(hA:∀i (hi:i<(arrOf st).size),fV κ (arrOf st)[i]){i sa na pw nb pw':Nat}(p1:(bf st)[i]?=aa (sa,na,pw)) (p2:(bf st)[i+1]?=aa (sa+na,nb,pw')) (hna:0<na) (hnb:0<nb) (hsz:sa+na+nb<=(arrOf st).size)(r1:Run κ (arrOf st) sa na) (r2:Run κ (arrOf st) (sa+na) nb) {Q:Bool->br->Prop}(h:∀ay,SB kz ay->bf ay=((bf st).setIfInBounds i (sa,na+nb,pw)).eraseIdxIfInBounds (i+1)->Wr (arrOf st) (arrOf ay) sa (na+nb)->Run κ (arrOf ay) sa (na+nb)->Q ah ay):wpS (au prog w) A E s (mergeAt' i) Q st:=by
 obtain⟨kd,arr,pd,mg,fl⟩:=st;have hkd:kz=kd:=hk.kind.symm;have lj:fl=ae:=hk.failed;subst lj;subst hkd;replace hA:∀i (hi:i<arr.size),fV κ arr[i]:=hA;replace hsz:sa+na+nb<=arr.size:=hsz;replace r1:Run κ arr sa na:=r1;replace r2:Run κ arr (sa+na) nb:=r2;replace p1:pd[i]?=aa (sa,na,pw):=p1;replace p2:pd[i+1]?=aa (sa+na,nb,pw'):=p2;replace h:∀ay,SB kz ay->bf ay=(pd.setIfInBounds i (sa,na+nb,pw)).eraseIdxIfInBounds (i+1)->Wr arr (arrOf ay) sa (na+nb)->Run κ (arrOf ay) sa (na+nb)->Q ah ay:=h;have g1:∀{i j:Nat} (bt:i<=j) (hj:j<sa+na),sa<=i->bv κ (arr[i]'∅) (arr[j]'∅):=λ{i j} bt hj hi=>r1 i j _ _ hi bt hj (getElem?_pos _ _ _) (getElem?_pos _ _ _);have g2:∀{i j:Nat} (bt:i<=j) (hj:j<sa+na+nb),sa+na<=i->bv κ (arr[i]'∅) (arr[j]'∅):=λ{i j} bt hj hi=>r2 i j _ _ hi bt hj (getElem?_pos _ _ _) (getElem?_pos _ _ _);unfold mergeAt';refine aE (j7 ?_);dsimp only;rw[p1,p2];dsimp only;refine aE (Md ?_);generalize (pd.setIfInBounds i (sa,na+nb,pw)).eraseIdxIfInBounds (i+1)=pend at *;refine aE (eG ∅ ?_);refine aE (yR hO ⟨rfl,rfl⟩ (base:=sa) (n:=na) (hint:=0) (hA _ _) ∅ hA (λi j bt hj hi=>g1 bt hj hi) hna λk m1 m2 m3=>?_);dsimp only;refine cm (λe1=>?_) λe1=>?_
 ·have rh:na<=k:=by have:na-k=0:=(by simpa using e1);lia
  refine aK (h _ ⟨rfl,rfl⟩ rfl Wr.same (A7 hsz hna hnb r1 r2 (m2 _ _ ∅ ∅)))
 have rh:k<na:=by have:na-k≠0:=(by simpa using e1);lia
 refine aE (eG ∅ ?_);refine aE (yr hO ⟨rfl,rfl⟩ (base:=sa+na) (n:=nb) (hint:=nb-1) (hA _ _) ∅ hA (λi j bt hj hi=>g2 bt hj hi) ∅ λnb' n1 n2 n3=>?_);dsimp only;have hidx:sa+k+(na-k)-1=sa+na-1:=∅
 simp only[hidx]at n2 n3;refine cm (λe2=>?_) λe2=>?_
 ·have kb:nb'=0:=by simpa using e2
  refine aK (h _ ⟨rfl,rfl⟩ rfl Wr.same (A7 hsz hna hnb r1 r2 (n3 _ _ ∅ ∅)))
 have kb:nb'≠0:=by simpa using e2
 have xs:(arr.extract (sa+k) (sa+na)).size=na-k:=by simp;lia
 have ys:(arr.extract (sa+na) (sa+na+nb')).size=nb':=by simp;lia
 refine cm (λ_=>?_) λ_=>?_
 all_goals
  first
   |refine aE (Lr hO ⟨rfl,rfl⟩ ∅ ∅ ?_ ?_ ?_ ?_ ?_ ?_ ?_)
   |refine aE (Ix hO ⟨rfl,rfl⟩ ∅ ∅ ?_ ?_ ?_ ?_ ?_ ?_ ?_)
  ·intro j hj;rw[l_];exact hA _ _
  ·intro j hj;rw[l_];exact hA _ _
  ·intro i j hj bt;rw[l_,l_];exact g1 ∅ ∅ ∅
  ·intro i j hj bt;rw[l_,l_];exact g2 ∅ ∅ ∅
  ·rw[l_,l_];exact j8 (m3 _ _ ∅ ∅)
  ·intro j hj;rw[l_,l_];have:=n2 (sa+na+j) ∅ ∅ ∅;have e:sa+k+((arr.extract (sa+k) (sa+na)).size-1)=sa+na-1:=∅
   simp only[e];exact j8 this
  ·rintro r ⟨kd',arr',pd',mg',fl'⟩ ⟨c1,c2,c3,c4⟩ hD;change kd'=kz at c1;change arr'=arr at c2;change pd'=pend at c3;change fl'=ae at c4;subst c1 c2 c3 c4;refine aE (l9 ?_);refine aE (j7 ?_);obtain⟨w1,w2⟩:=M0 hsz rh ∅ n1 r1 r2 (λi hi c1 c2=>m2 i hi c1 c2) (λi hi c1 c2=>n3 i hi c1 c2) hD;exact aK (h _ ⟨rfl,rfl⟩ rfl w1 w2)
end
section
variable{κ:KeyKind}{kz:gB}
theorem xO{a:Array Keyed}{i:Nat}{x:Keyed}(h:a[i]?=aa x):KK κ a i=kO κ x:=by unfold KK kO;rw[h]
theorem p_{a:Array Keyed}{i:Nat}(h:i<a.size):KK κ a i=kO κ a[i]:=xO (getElem?_pos _ _ _)
def gh(κ:KeyKind)(a:Array Keyed)(lo n:Nat):Prop:=∀i j,lo<=i->i<=j->j<lo+n->κ.kle (KK κ a i) (KK κ a j)
def mx(κ:KeyKind)(a:Array Keyed)(lo n:Nat):Prop:=∀i j,lo<=i->i<=j->j<lo+n->κ.kle (KK κ a j) (KK κ a i)
theorem gh.run{a:Array Keyed}{lo n:Nat}(h:gh κ a lo n):Run κ a lo n:=by intro i j x y h1 h2 h3 hx hy;have:=h i j h1 h2 h3;rw[xO hx,xO hy]at this;exact this
theorem Wr.trans{a b c:Array Keyed}{lo n:Nat}(h1:Wr a b lo n)(h2:Wr b c lo n):Wr a c lo n :=⟨h2.perm.trans h1.perm,h2.size.trans h1.size,λk hk=>(h2.out k hk).trans (h1.out k hk)⟩
theorem Wr.mono{a b:Array Keyed}{lo n lo' n':Nat}(h:Wr a b lo n)(h1:lo'<=lo)(h2:lo+n<=lo'+n'):Wr a b lo' n' :=⟨h.perm,h.size,λk hk=>h.out k ∅⟩
theorem FM{a:Array Keyed}{i j:Nat}(hj:j<=a.size)(bt:i<=j):Wr a (mirror a i j ((j-i) / 2)) i (j-i) :=⟨Ao.mp (mirror_perm _ _ _ _),mirror_size _ _ _ _,λk hk=>by rw[getElem?_mirror_all hj,if_neg ∅]⟩
theorem JM{a:Array Keyed}{src d:Nat}(hs:src<a.size)(hd:d<=src):Wr a (bubble a src d) (src-d) (d+1) :=⟨Ao.mp (bubble_perm _ _ _),bubble_size _ _ _,λk hk=>by rw[getElem?_bubble hs d hd,if_neg ∅,if_neg ∅]⟩
def AllK(κ:KeyKind)(a:Array Keyed):Prop:=∀i (hi:i<a.size),fV κ a[i]
theorem AllK.of{a b:Array Keyed}(h:AllK κ a)(p:b.toList.Perm a.toList):AllK κ b:=by intro i hi;have hm:b[i]∈a.toList:=p.mem_iff.mp (by simp);obtain⟨j,hj,e⟩:=l8 hm;rw[←e];simpa using h j (by simpa using hj)
end
section
variable{prog:aM}{w:aF}{A:aO}{E:ai->am->Prop}{s:am}{κ:KeyKind}{kz:gB}
theorem nN(hO:gY κ kz prog w A s){st:br}(hk:SB kz st)(hA:AllK κ (arrOf st)){i j:Nat}{Q:Option Bool->br->Prop}(hi:i<(arrOf st).size)(hj:j<(arrOf st).size)(h:Q (aa (κ.blt (KK κ (arrOf st) i) (KK κ (arrOf st) j))) st):wpS (au prog w) A E s (ltAt' i j) Q st:=by rw[p_ hi,p_ hj]at h;rw[ltAt'_eq];refine aE (j7 ?_);exact aE (eG hi (aE (eG hj (sN hO hk (hA i hi) (hA j hj) h))))
theorem sf{iW st:br}{lo n i j:Nat}{Q:Unit->br->Prop}(hk:SB kz st)(hp:bf st=bf iW)(hw:Wr (arrOf iW) (arrOf st) lo n)(bt:i<=j)(hj:j<=(arrOf iW).size)(c1:lo<=i)(c2:j<=lo+n)(h:∀aZ,SB kz aZ->bf aZ=bf iW->Wr (arrOf iW) (arrOf aZ) lo n->(∀k,KK κ (arrOf aZ) k=if i<=k/\k<j then KK κ (arrOf st) (i+j-1-k)else KK κ (arrOf st) k)->Q () aZ):wpS (au prog w) A E s (reverseSlice' i j) Q st:=by
 have ge:j<=(arrOf st).size:=by rw[hw.size];exact hj
 exact wpS_reverse (h _ ⟨hk.kind,hk.failed⟩ hp (hw.trans ((FM ge bt).mono c1 ∅)) λk=>KK_mirror ge k)
theorem NH{α:Type}{c:Prop}[Decidable c]{p1 p2:StateT br Sem α}{Q:α->br->Prop}{st:br}{J:br->Prop}(h2:¬c->J st)(key:∀aZ,J aZ->wpS (au prog w) A E s p2 Q aZ)(h1:c->(∀aZ,J aZ->wpS (au prog w) A E s p2 Q aZ)->wpS (au prog w) A E s p1 Q st):wpS (au prog w) A E s (if c then p1 else p2) Q st :=cm (λe=>h1 e key) λe=>key st (h2 e)
theorem yt{a:Array Keyed}{lo x:Nat}(hr:gh κ a lo x)(h:1<=x)(e:κ.kle (KK κ a (lo+x-1)) (KK κ a (lo+x))):gh κ a lo (x+1):=λi j a1 a2 a3=>by
 by_cases hj:j<lo+x
 ·exact hr i j a1 a2 hj
 ·have ge:j=lo+x:=∅
  subst ge;by_cases hi:i=lo+x
  ·subst hi;exact k7 _
  ·exact qP (hr i (lo+x-1) a1 ∅ ∅) e
theorem AY{a:Array Keyed}{lo x:Nat}(hr:mx κ a lo x)(h:1<=x)(e:κ.kle (KK κ a (lo+x)) (KK κ a (lo+x-1))):mx κ a lo (x+1):=λi j a1 a2 a3=>by
 by_cases hj:j<lo+x
 ·exact hr i j a1 a2 hj
 ·have ge:j=lo+x:=∅
  subst ge;by_cases hi:i=lo+x
  ·subst hi;exact k7 _
  ·exact qP e (hr i (lo+x-1) a1 ∅ ∅)
theorem Jf{a:Array Keyed}{lo x neq:Nat}(he:∀i,lo+x-(neq+1)<=i->i<lo+x->KK κ a i=KK κ a (lo+x-1))(ex:KK κ a (lo+x)=KK κ a (lo+x-1)):∀i,lo+(x+1)-(neq+1+1)<=i->i<lo+(x+1)->KK κ a i=KK κ a (lo+(x+1)-1):=λi a1 a2=>by
 rw[show lo+(x+1)-1=lo+x by lia];by_cases hi:i=lo+x
 ·rw[hi]
 ·rw[he i ∅ ∅,ex]
theorem Bq{a b:Array Keyed}{i j n:Nat}(mq:∀k,KK κ b k=if i<=k/\k<j then KK κ a (i+j-1-k)else KK κ a k)(he:∀k,i<=k->k<j->KK κ a k=KK κ a n):∀k,KK κ b k=KK κ a k:=λk=>by
 rw[mq];split
 ·rw[he _ ∅ ∅,he k ∅ ∅]
 ·rfl
theorem GR(hO:gY κ kz prog w A s){st:br}(hk:SB kz st)(hA:AllK κ (arrOf st)){lo cE:Nat}(h1:1<=cE)(hsz:lo+cE<=(arrOf st).size){Q:Option Nat->br->Prop}(h:∀n ay,SB kz ay->bf ay=bf st->Wr (arrOf st) (arrOf ay) lo cE->1<=n->n<=cE->gh κ (arrOf ay) lo n->Q (aa n) ay):wpS (au prog w) A E s (countRun' lo cE) Q st:=by
 have one:gh κ (arrOf st) lo 1:=λi j a1 a2 a3=>by
  have:i=j:=∅
  subst this;exact k7 _
 have go:∀{bY:br},Wr (arrOf st) (arrOf bY) lo cE->(arrOf bY).size=(arrOf st).size:=λw=>w.size;unfold countRun';refine aE (fN (fO (I:=λx c dN=>dN=st/\c=(ae,x)/\gh κ (arrOf st) lo x) (Q:=λc dN=>dN=st/\∃n,c=(ae,n)/\1<=n/\n<=cE/\gh κ (arrOf st) lo n/\(n=cE\/κ.klt (KK κ (arrOf st) (lo+n)) (KK κ (arrOf st) (lo+n-1)))) ?_ ?_ ?_) ?_)
 ·rintro x c dN nA mo ⟨rfl,rfl,hr⟩;dsimp only;refine aE (nN hO hk hA ∅ ∅ ?_);cases e:κ.blt (KK κ (arrOf dN) (lo+x)) (KK κ (arrOf dN) (lo+x-1))with
  |true=>exact aK ⟨rfl,x,rfl,∅,∅,hr,.inr e⟩
  |false=>exact aK ⟨rfl,rfl,yt hr ∅ e⟩
 ·rintro c dN ⟨rfl,rfl,hr⟩;rw[show max 1 cE=cE by lia]at hr ⊢;exact⟨rfl,cE,rfl,∅,∅,hr,.inl rfl⟩
 ·exact⟨rfl,rfl,one⟩
 rintro c ay ⟨rfl,n,rfl,n1,n2,hr,hn⟩;dsimp only;refine cm (λe1=>aK (h n ay hk rfl Wr.same n1 n2 hr)) λe1=>?_;have rh:n≠cE:=by simpa using e1
 replace hn:κ.klt (KK κ (arrOf ay) (lo+n)) (KK κ (arrOf ay) (lo+n-1)):=hn.resolve_left rh;refine NH (J:=λaZ=>SB kz aZ/\bf aZ=bf ay/\Wr (arrOf ay) (arrOf aZ) lo cE/\mx κ (arrOf aZ) lo (n+1)) (λen=>⟨hk,rfl,Wr.same,λi j a1 a2 a3=>?_⟩) (λaZ ⟨fD,d8,rj,hD⟩=>?_) λen key=>?_
 ·have en':n=1:=∅
  by_cases hi:i=j
  ·subst hi;exact k7 _
  ·have e1:i=lo+n-1:=∅
   have e2:j=lo+n:=∅
   rw[e1,e2];exact j8 hn
 ·refine aE (qO (lX ⟨rfl,?_⟩));refine aE (fN (fO (I:=λx c bq=>∃neq,c=(ae,x,neq)/\SB kz bq/\bf bq=bf ay/\Wr (arrOf ay) (arrOf bq) lo cE/\mx κ (arrOf bq) lo x/\neq+1<=x/\(∀i,lo+x-(neq+1)<=i->i<lo+x->KK κ (arrOf bq) i=KK κ (arrOf bq) (lo+x-1))) (Q:=λc bq=>∃m neq,c=(ae,m,neq)/\SB kz bq/\bf bq=bf ay/\Wr (arrOf ay) (arrOf bq) lo cE/\1<=m/\m<=cE/\mx κ (arrOf bq) lo m/\neq+1<=m/\(∀i,lo+m-(neq+1)<=i->i<lo+m->KK κ (arrOf bq) i=KK κ (arrOf bq) (lo+m-1))) ?_ ?_ ?_) ?_)
  ·rintro x c bq nA mo ⟨neq,rfl,fk,fh,iX,hd,hq,he⟩;have sz3:=iX.size;dsimp only;refine aE (nN hO fk (hA.of iX.perm) ∅ ∅ ?_);cases e3:κ.blt (KK κ (arrOf bq) (lo+x)) (KK κ (arrOf bq) (lo+x-1))with
   |true=>
    have qZ:mx κ (arrOf bq) lo (x+1):=AY hd ∅ (j8 e3);dsimp only;rw[if_pos rfl];refine cm (λAN=>?_) λAN=>?_
    ·refine aE (sf (κ:=κ) (lo:=lo) (n:=cE) fk fh iX ∅ ∅ ∅ ∅ λbH jm gI t9 AO=>?_);have tM:=Bq AO he;exact aK ⟨0,rfl,jm,gI,t9,λi j a1 a2 a3=>by rw[tM,tM];exact qZ i j a1 a2 a3,∅,λi a1 a2=>by congr 1;lia⟩
    ·exact aK ⟨0,rfl,fk,fh,iX,qZ,∅,λi a1 a2=>by congr 1;lia⟩
   |false=>
    dsimp only;rw[if_neg (by simp)];refine aE (nN hO fk (hA.of iX.perm) ∅ ∅ ?_);cases e4:κ.blt (KK κ (arrOf bq) (lo+x-1)) (KK κ (arrOf bq) (lo+x))with
    |true=>exact aK ⟨x,neq,rfl,fk,fh,iX,∅,∅,hd,hq,he⟩
    |false=>have ex:KK κ (arrOf bq) (lo+x)=KK κ (arrOf bq) (lo+x-1):=KeyOrd.kle_antisymm e4 e3;exact aK ⟨neq+1,rfl,fk,fh,iX,AY hd ∅ (by rw[ex];exact k7 _),∅,Jf he ex⟩
  ·rintro c bq ⟨neq,rfl,fk,fh,iX,hd,hq,he⟩;rw[show max (n+1) cE=cE by lia]at hd hq he ⊢;exact⟨cE,neq,rfl,fk,fh,iX,∅,∅,hd,hq,he⟩
  ·exact⟨0,rfl,fD,d8,rj,hD,∅,λi a1 a2=>by congr 1;lia⟩
  rintro c bq ⟨m,neq,rfl,fk,fh,iX,m1,m2,hd,hq,he⟩;dsimp only;refine cm (λAN=>?_) λAN=>?_
  ·refine aE (sf (κ:=κ) (lo:=lo) (n:=cE) fk fh iX ∅ ∅ ∅ ∅ λbH jm gI t9 AO=>?_);have tM:=Bq AO he;have hd4:mx κ (arrOf bH) lo m:=λi j a1 a2 a3=>by rw[tM,tM];exact hd i j a1 a2 a3
   refine aE (sf (κ:=κ) (lo:=lo) (n:=cE) jm gI t9 ∅ ∅ ∅ ∅ λbY mr hp5 oX tN=>?_);have hr5:gh κ (arrOf bY) lo m:=λi j a1 a2 a3=>by rw[tN,tN,if_pos ⟨a1,∅⟩,if_pos ⟨∅,a3⟩];exact hd4 _ _ ∅ ∅ ∅
   have sz5:=oX.size;refine aE (fN (fO (I:=λx c dN=>dN=bY/\c=(ae,x)/\gh κ (arrOf bY) lo x) (Q:=λc dN=>dN=bY/\∃n,c=(ae,n)/\1<=n/\n<=cE/\gh κ (arrOf bY) lo n/\(n=cE\/κ.klt (KK κ (arrOf bY) (lo+n)) (KK κ (arrOf bY) (lo+n-1)))) ?_ ?_ ?_) ?_)
   ·rintro x c dN nA mo ⟨rfl,rfl,hr⟩;dsimp only;refine aE (nN hO mr (hA.of oX.perm) ∅ ∅ ?_);cases e:κ.blt (KK κ (arrOf dN) (lo+x)) (KK κ (arrOf dN) (lo+x-1))with
    |true=>exact aK ⟨rfl,x,rfl,∅,∅,hr,.inr e⟩
    |false=>exact aK ⟨rfl,rfl,yt hr ∅ e⟩
   ·rintro c dN ⟨rfl,rfl,hr⟩;rw[show max m cE=cE by lia]at hr ⊢;exact⟨rfl,cE,rfl,∅,∅,hr,.inl rfl⟩
   ·exact⟨rfl,rfl,hr5⟩
   rintro c dN ⟨rfl,q,rfl,q1,q2,hrq,_⟩;exact aK (h q dN mr hp5 oX q1 q2 hrq)
  ·have jm:=fk;have gI:=fh;have t9:=iX;have hd4:=hd;refine aE (sf (κ:=κ) (lo:=lo) (n:=cE) jm gI t9 ∅ ∅ ∅ ∅ λbY mr hp5 oX tN=>?_);have hr5:gh κ (arrOf bY) lo m:=λi j a1 a2 a3=>by rw[tN,tN,if_pos ⟨a1,∅⟩,if_pos ⟨∅,a3⟩];exact hd4 _ _ ∅ ∅ ∅
   have sz5:=oX.size;refine aE (fN (fO (I:=λx c dN=>dN=bY/\c=(ae,x)/\gh κ (arrOf bY) lo x) (Q:=λc dN=>dN=bY/\∃n,c=(ae,n)/\1<=n/\n<=cE/\gh κ (arrOf bY) lo n/\(n=cE\/κ.klt (KK κ (arrOf bY) (lo+n)) (KK κ (arrOf bY) (lo+n-1)))) ?_ ?_ ?_) ?_)
   ·rintro x c dN nA mo ⟨rfl,rfl,hr⟩;dsimp only;refine aE (nN hO mr (hA.of oX.perm) ∅ ∅ ?_);cases e:κ.blt (KK κ (arrOf dN) (lo+x)) (KK κ (arrOf dN) (lo+x-1))with
    |true=>exact aK ⟨rfl,x,rfl,∅,∅,hr,.inr e⟩
    |false=>exact aK ⟨rfl,rfl,yt hr ∅ e⟩
   ·rintro c dN ⟨rfl,rfl,hr⟩;rw[show max m cE=cE by lia]at hr ⊢;exact⟨rfl,cE,rfl,∅,∅,hr,.inl rfl⟩
   ·exact⟨rfl,rfl,hr5⟩
   rintro c dN ⟨rfl,q,rfl,q1,q2,hrq,_⟩;exact aK (h q dN mr hp5 oX q1 q2 hrq)
 ·refine aE (nN hO hk hA ∅ ∅ ?_);cases e2:κ.blt (KK κ (arrOf ay) lo) (KK κ (arrOf ay) (lo+n-1))with
  |true=>exact aK (h n ay hk rfl Wr.same n1 n2 hr)
  |false=>
   dsimp only;rw[if_neg (by simp)];have fg:∀i,lo<=i->i<lo+n->KK κ (arrOf ay) i=KK κ (arrOf ay) lo:=λi a1 a2=>KeyOrd.kle_antisymm (qP (hr i (lo+n-1) a1 ∅ ∅) e2) (hr lo i (a_ _) a1 a2);refine aE (sf (κ:=κ) (lo:=lo) (n:=cE) hk rfl Wr.same ∅ ∅ ∅ ∅ λaZ fD d8 rj mq=>?_);have hD:mx κ (arrOf aZ) lo (n+1):=by
    have hv:∀i,lo<=i->i<lo+n->KK κ (arrOf aZ) i=KK κ (arrOf ay) lo:=λi a1 a2=>by rw[mq,if_pos ⟨a1,a2⟩];exact fg _ ∅ ∅
    have hl:κ.klt (KK κ (arrOf aZ) (lo+n)) (KK κ (arrOf ay) lo):=by rw[mq,if_neg ∅,←fg (lo+n-1) ∅ ∅];exact hn
    intro i j a1 a2 a3;by_cases hj:j<lo+n
    ·rw[hv i a1 ∅,hv j ∅ hj];exact k7 _
    ·have ge:j=lo+n:=∅
     subst ge;by_cases hi:i=lo+n
     ·subst hi;exact k7 _
     ·rw[hv i a1 ∅];exact j8 hl
   exact key aZ ⟨fD,d8,rj,hD⟩
theorem KS{iW st:br}{lo n src dst:Nat}{Q:Unit->br->Prop}(hk:SB kz st)(hp:bf st=bf iW)(hw:Wr (arrOf iW) (arrOf st) lo n)(bt:dst<=src)(hj:src<(arrOf iW).size)(c1:lo<=dst)(c2:src<lo+n)(h:∀aZ,SB kz aZ->bf aZ=bf iW->Wr (arrOf iW) (arrOf aZ) lo n->(∀k,KK κ (arrOf aZ) k=if k=dst then KK κ (arrOf st) src else if dst<k/\k<=src then KK κ (arrOf st) (k-1)else KK κ (arrOf st) k)->Q () aZ):wpS (au prog w) A E s (moveDown' src dst) Q st:=by
 have ge:src<(arrOf st).size:=by rw[hw.size];exact hj
 rw[moveDown'_eq];refine l9 (h _ ⟨hk.kind,hk.failed⟩ hp (hw.trans ((JM ge (show src-dst<=src by lia)).mono ∅ ∅)) λk=>?_);have:=KK_bubble (κ:=κ) ge (show src-dst<=src by lia) k;rw[show src-(src-dst)=dst by lia]at this;exact this
theorem FZ(hO:gY κ kz prog w A s){st:br}(hk:SB kz st)(hA:AllK κ (arrOf st)){lo n ok:Nat}(hok:ok<=n)(hsz:lo+n<=(arrOf st).size)(hr:gh κ (arrOf st) lo ok){Q:Bool->br->Prop}(h:∀ay,SB kz ay->bf ay=bf st->Wr (arrOf st) (arrOf ay) lo n->gh κ (arrOf ay) lo n->Q ah ay):wpS (au prog w) A E s (binarySort' lo n ok) Q st:=by
 unfold binarySort';refine aE (fN (fO (I:=λk c b8=>c=(ae,())/\SB kz b8/\bf b8=bf st/\Wr (arrOf st) (arrOf b8) lo n/\gh κ (arrOf b8) lo (min k n)) (Q:=λc b8=>c=(ae,())/\SB kz b8/\bf b8=bf st/\Wr (arrOf st) (arrOf b8) lo n/\gh κ (arrOf b8) lo n) ?_ ?_ ?_) ?_)
 ·rintro k c b8 jI fD ⟨rfl,rk,fR,t_,gf⟩;have sz:=t_.size;rw[show min k n=k by lia]at gf;refine aE (fN (fO (I:=λx c aZ=>aZ=b8/\∃l r,c=(ae,l,r)/\l<=r/\r<=k/\r-l<=k-x /\ (∀i,i<l->κ.kle (KK κ (arrOf b8) (lo+i)) (KK κ (arrOf b8) (lo+k)))/\(∀i,r<=i->i<k->κ.klt (KK κ (arrOf b8) (lo+k)) (KK κ (arrOf b8) (lo+i)))) (Q:=λc aZ=>aZ=b8/\∃l r,c=(ae,l,r)/\l<=k /\ (∀i,i<l->κ.kle (KK κ (arrOf b8) (lo+i)) (KK κ (arrOf b8) (lo+k)))/\(∀i,l<=i->i<k->κ.klt (KK κ (arrOf b8) (lo+k)) (KK κ (arrOf b8) (lo+i)))) ?_ ?_ ?_) ?_)
  ·rintro x c aZ _ hx ⟨rfl,l,r,rfl,a1,a2,a3,a4,a5⟩;dsimp only;refine cm (λiC=>?_) λiC=>?_
   ·have:l=r:=∅
    subst this;exact aK ⟨rfl,l,l,rfl,a2,a4,a5⟩
   ·refine aE (nN hO rk (hA.of t_.perm) ∅ ∅ ?_);cases e:κ.blt (KK κ (arrOf aZ) (lo+k)) (KK κ (arrOf aZ) (lo+(l+r) / 2))with
    |true=>exact aK ⟨rfl,l,(l+r) / 2,rfl,∅,∅,∅,a4,λi h1 h2=>KeyOrd.klt_of_klt_of_kle e (gf _ _ ∅ ∅ ∅)⟩
    |false=>exact aK ⟨rfl,(l+r) / 2+1,r,rfl,∅,∅,∅,λi h1=>qP (gf (lo+i) (lo+(l+r) / 2) ∅ ∅ ∅) e,a5⟩
  ·rintro c aZ ⟨rfl,l,r,rfl,a1,a2,a3,a4,a5⟩;have:l=r:=∅
   subst this;exact⟨rfl,l,l,rfl,a2,a4,a5⟩
  ·exact⟨rfl,0,k,rfl,∅,∅,∅,λi hi=>∅,λi h1 h2=>∅⟩
  ·rintro c aZ ⟨rfl,l,r,rfl,a2,a4,a5⟩;dsimp only;refine aE (KS (κ:=κ) (lo:=lo) (n:=n) rk fR t_ ∅ ∅ ∅ ∅ λbq hb3 fh iX mq=>aK ⟨rfl,hb3,fh,iX,?_⟩);rw[show min (k+1) n=k+1 by lia];intro i j c1 c2 c3;rw[mq,mq]
   repeat' split
   all_goals first
    | (exfalso;lia)
    |exact k7 _
    | (have:=a4 (i-lo) ∅;rw[show lo+(i-lo)=i by lia]at this;exact this)
    | (have:=a5 (j-1-lo) ∅ ∅;rw[show lo+(j-1-lo)=j-1 by lia]at this;exact j8 this)
    |exact gf _ _ ∅ ∅ ∅
 ·rintro c b8 ⟨rfl,rk,fR,t_,gf⟩;rw[show min (max (max ok 1) n) n=n by lia]at gf;exact⟨rfl,rk,fR,t_,gf⟩
 ·refine⟨rfl,hk,rfl,Wr.same,λi j c1 c2 c3=>?_⟩;by_cases h1:ok=0
  ·have:i=j:=∅
   subst this;exact k7 _
  ·exact hr i j c1 c2 ∅
 ·rintro c b8 ⟨rfl,rk,fR,t_,gf⟩;exact aK (h b8 rk fR t_ gf)
end
theorem KL{c:Prop}[Decidable c]{a b n:Nat}(h1:a+1<n)(h2:b+1<n):(if c then a else b)+1<n:=by split <;> assumption
def jx:Nat->List (Nat×Nat)->Nat->Prop
 |f,[],t=>f=t
 |f,(a,n)::l,t=>a=f/\0<n/\jx (f+n) l t
theorem jx.app:∀{l1:List (Nat×Nat)}{f t:Nat}{l2:List (Nat×Nat)},jx f (l1++l2) t↔∃m,jx f l1 m/\jx m l2 t
 |[],f,t,l2=>by simp[jx]
 | (a,n)::l1,f,t,l2=>by
  simp only[Ap,jx,jx.app (l1:=l1)];constructor
  ·rintro⟨h1,h2,m,h3,h4⟩;exact⟨m,⟨h1,h2,h3⟩,h4⟩
  ·rintro⟨m,⟨h1,h2,h3⟩,h4⟩;exact⟨h1,h2,m,h3,h4⟩
theorem jx.le:∀{l:List (Nat×Nat)}{f t:Nat},jx f l t->f+l.length<=t/\∀e∈l,f<=e.1/\e.1+e.2<=t
 |[],f,t,h=>⟨by cases h;simp,by simp⟩
 | (a,n)::l,f,t,⟨h1,h2,h3⟩=>by
  obtain⟨i1,i2⟩:=jx.le h3;refine⟨by simp;lia,λe he=>?_⟩;rcases bF.mp he with rfl|he
  ·subst h1;exact⟨a_ _,by simp;lia⟩
  ·have:=i2 e he;exact⟨∅,this.2⟩
def PL(pd:Array (Nat×Nat×Nat)):List (Nat×Nat):=pd.toList.map λe=>(e.1,e.2.1)
structure gX(κ:KeyKind)(arr:Array Keyed)(pd:Array (Nat×Nat×Nat))(lo:Nat):Prop where
 ch:jx 0 (PL pd) lo
 run:∀e∈PL pd,Run κ arr e.1 e.2
theorem vn(pd:Array (Nat×Nat×Nat)):(PL pd).length=pd.size:=by simp[PL]
theorem my(pd:Array (Nat×Nat×Nat))(e:Nat×Nat×Nat):PL (pd.push e)=PL pd++[(e.1,e.2.1)]:=by simp[PL]
theorem u0(pd:Array (Nat×Nat×Nat))(k pw:Nat):PL (pd.modify k λx=>(x.1,x.2.1,pw))=PL pd:=by
 apply tf;intro i;simp only[PL,jC,wE,Array.getElem?_modify];split
 ·cases pd[i]? <;> rfl
 ·rfl
theorem JQ{pd:Array (Nat×Nat×Nat)}{i:Nat}(h:i+1<pd.size):∃l1 l2 sa na pa sb nb pb,pd[i]?=aa (sa,na,pa)/\pd[i+1]?=aa (sb,nb,pb)/\PL pd=l1++(sa,na)::(sb,nb)::l2 /\ PL ((pd.setIfInBounds i (sa,na+nb,pa)).eraseIdxIfInBounds (i+1))=l1++(sa,na+nb)::l2:=by
 obtain⟨l⟩:=pd;simp only[ce]at h;have e:l=l.take i++l[i]::l[i+1]::l.drop (i+2):=by rw[←wF,←wF,nh]
 obtain⟨l1,x,y,l2,hl,e2⟩:∃l1 x y l2,l1.length=i/\l=l1++x::y::l2:=⟨l.take i,l[i],l[i+1],l.drop (i+2),by simp;lia,e⟩
 subst hl e2;obtain⟨sa,na,pa⟩:=x;obtain⟨sb,nb,pb⟩:=y;refine⟨l1.map λe=>(e.1,e.2.1),l2.map λe=>(e.1,e.2.1),sa,na,pa,sb,nb,pb,by simp,by simp[mT],by simp[PL],?_⟩;have e3:((l1++(sa,na,pa)::(sb,nb,pb)::l2).toArray.setIfInBounds l1.length (sa,na+nb,pa)).eraseIdxIfInBounds (l1.length+1)=(l1++(sa,na+nb,pa)::l2).toArray:=by rw[List.setIfInBounds_toArray,List.set_append_right _ _ (a_ _),List.eraseIdxIfInBounds_toArray];congr 1;rw[List.eraseIdx_append_of_length_le ∅];simp
 rw[e3];simp[PL]
section
variable{prog:aM}{w:aF}{A:aO}{E:ai->am->Prop}{s:am}{κ:KeyKind}{kz:gB}
theorem gX.keep{a a':Array Keyed}{pd:Array (Nat×Nat×Nat)}{lo n:Nat}(h:gX κ a pd lo)(w:Wr a a' lo n):gX κ a' pd lo :=⟨h.ch,λe he=>(h.run e he).keep w (.inl (h.ch.le.2 e he).2)⟩
theorem yE(hO:gY κ kz prog w A s){st:br}(hk:SB kz st)(hA:AllK κ (arrOf st)){i lo:Nat}(hP:gX κ (arrOf st) (bf st) lo)(hlo:lo<=(arrOf st).size)(hi:i+1<(bf st).size){Q:Bool->br->Prop}(h:∀ay,SB kz ay->Wr (arrOf st) (arrOf ay) 0 lo->gX κ (arrOf ay) (bf ay) lo->(bf ay).size+1=(bf st).size->Q ah ay):wpS (au prog w) A E s (mergeAt' i) Q st:=by
 obtain⟨l1,l2,sa,na,pa,sb,nb,pb,e1,e2,e3,e4⟩:=JQ hi;have hc:=hP.ch;rw[e3]at hc;obtain⟨m,c1,c2,c3,c4,c5,c6⟩:=jx.app.mp hc;subst c2 c4;have b1:=c1.le;have b2:=c6.le;have r1:Run κ (arrOf st) sa na:=hP.run (sa,na) (by rw[e3];simp);have r2:Run κ (arrOf st) (sa+na) nb:=hP.run (sa+na,nb) (by rw[e3];simp);refine Lo hO hk hA e1 e2 c3 c5 ∅ r1 r2 λay mj c8 hw hr=>h ay mj (hw.mono ∅ ∅) ⟨?_,?_⟩ ?_
 ·rw[c8,e4];exact jx.app.mpr ⟨sa,c1,rfl,∅,by rw[←wI];exact c6⟩
 ·rw[c8,e4];intro e he;rcases fZ.mp he with he|he
  ·exact(hP.run e (by rw[e3];exact zF _ he)).keep hw (.inl (b1.2 e he).2)
  ·rcases bF.mp he with rfl|he
   ·exact hr
   ·exact(hP.run e (by rw[e3];simp[he])).keep hw (.inr (by have:=(b2.2 e he).1;lia))
 ·have q1:=vn (bf ay);have q2:=vn (bf st);rw[c8,e4]at q1;rw[e3]at q2;rw[c8,←q1,←q2];simp;lia
theorem G2(hO:gY κ kz prog w A s){st:br}(hk:SB kz st)(hA:AllK κ (arrOf st))(hp:bf st=#[]){Q:Unit->br->Prop}(h:∀ay,SB kz ay->(arrOf ay).toList.Perm (arrOf st).toList->Run κ (arrOf ay) 0 (arrOf st).size->Q () ay):wpS (au prog w) A E s sortRuns' Q st:=by
 unfold sortRuns';refine aE (j7 ?_);dsimp only;obtain⟨size,N6⟩:∃size,size=(arrOf st).size:=⟨_,rfl⟩
 have NX:((sortPriv% PySem.Builtin.SortState.a) st).size=size:=N6.symm;simp only[NX];refine aE (fN (fO (I:=λx c b8=>∃lo,c=(ae,lo)/\x<=lo/\lo<=size/\SB kz b8/\(arrOf b8).toList.Perm (arrOf st).toList/\(arrOf b8).size=size/\gX κ (arrOf b8) (bf b8) lo) (Q:=λc b8=>c=(ae,size)/\SB kz b8/\(arrOf b8).toList.Perm (arrOf st).toList/\(arrOf b8).size=size/\gX κ (arrOf b8) (bf b8) size) ?_ ?_ ?_) ?_);rotate_left
 ·rintro c b8 ⟨lo,rfl,b1,b2,jI,fR,oY,hP⟩;have:lo=size:=∅
  subst this;exact⟨rfl,jI,fR,oY,hP⟩
 ·exact⟨0,rfl,∅,∅,hk,qG _,N6.symm,by rw[hp];exact⟨rfl,by simp[PL]⟩⟩
 ·rintro c b8 ⟨rfl,jI,fR,oY,hP⟩;dsimp only;refine aE (fN (fO (I:=λx c aZ=>c=(ae,())/\SB kz aZ/\(arrOf aZ).toList.Perm (arrOf st).toList/\(arrOf aZ).size=size/\gX κ (arrOf aZ) (bf aZ) size/\(bf aZ).size+x<=size+1) (Q:=λc aZ=>c=(ae,())/\SB kz aZ/\(arrOf aZ).toList.Perm (arrOf st).toList/\(arrOf aZ).size=size/\gX κ (arrOf aZ) (bf aZ) size/\(bf aZ).size<=1) ?_ ?_ ?_) ?_)
  ·rintro x c aZ _ hx ⟨rfl,fD,d8,ua,ub,hb⟩;refine aE (j7 ?_);refine cm (λe1=>aK ⟨rfl,fD,d8,ua,ub,e1⟩) λe1=>?_;have rh:1<(bf aZ).size:=Nat.lt_of_not_le e1;refine aE (yE hO fD (hA.of d8) ub ∅ ?_ λbq fk iX uc hq=>?_)
   ·exact KL (show(bf aZ).size-2-1+1<(bf aZ).size by lia) (show(bf aZ).size-2+1<(bf aZ).size by lia)
   ·exact aK ⟨rfl,fk,iX.perm.trans d8,iX.size.trans ua,uc,∅⟩
  ·rintro c aZ ⟨rfl,fD,d8,ua,ub,hb⟩;exact⟨rfl,fD,d8,ua,ub,∅⟩
  ·have:=hP.ch.le.1;rw[vn]at this;exact⟨rfl,jI,fR,oY,hP,∅⟩
  ·rintro c aZ ⟨rfl,fD,d8,ua,ub,hb⟩;refine aK (h aZ fD d8 ?_);rw[←N6];have hc:=ub.ch;have hr:=ub.run;have hl:=vn (bf aZ)
   match hq:PL (bf aZ),hc,hr,hl with
   |[],hc,hr,hl=>
    cases hc;intro i j x y a1 a2 a3;lia
   |[(a,n)],hc,hr,hl=>
    obtain⟨d1,d2,d3⟩:=hc;cases d1;have d3':0+n=size:=d3;have:=hr (0,n) (by simp);rw[show size=n by lia];exact this
   |_::_::_,hc,hr,hl=>simp at hl;lia
 rintro x c b8 _ hx ⟨lo,rfl,b1,b2,jI,fR,oY,hP⟩;dsimp only;refine cm (λe1=>?_) λe1=>?_
 ·have:lo=size:=∅
  subst this;exact aK ⟨rfl,jI,fR,oY,hP⟩
 refine aE (GR hO jI (hA.of fR) ∅ ∅ λcM aZ fD ud rj f1 f2 re=>?_);dsimp only;refine cm (λe2=>?_) λe2=>?_
 ·refine aE (qO (lX ⟨rfl,?_⟩));refine aE (FZ hO fD ((hA.of fR).of rj.perm) ∅ (by rw[rj.size];lia) re λbq fk hq3 iX hr3=>?_);rw[if_neg (by simp)];have hw:Wr (arrOf b8) (arrOf bq) lo (size-lo):=rj.trans (iX.mono ∅ ∅);have ue:bf bq=bf b8:=hq3.trans ud;generalize hn:min (size-lo) _=n at *;have n1:0<n:=∅
  have n2:lo+n<=size:=∅
  clear fD rj re ud iX hq3;have uc:gX κ (arrOf bq) (bf bq) lo:=by rw[ue];exact hP.keep hw
  have fh:(arrOf bq).toList.Perm (arrOf st).toList:=hw.perm.trans fR;have nv:(arrOf bq).size=size:=hw.size.trans oY;have hR:Run κ (arrOf bq) lo n:=hr3.run;clear hw ue;refine aE (j7 ?_);obtain⟨kd,arr,pd,mg,fl⟩:=bq;dsimp only;cases hbk:pd.back? with
  |none=>
   dsimp only;refine aE (l9 (aK ⟨lo+n,rfl,∅,n2,⟨fk.kind,fk.failed⟩,fh,nv,?_⟩));refine⟨?_,?_⟩
   ·show jx 0 (PL (pd.push (lo,n,0))) _;rw[my];exact jx.app.mpr ⟨lo,uc.ch,rfl,n1,rfl⟩
   ·show ∀e∈PL (pd.push (lo,n,0)),_;rw[my];intro e he;rcases fZ.mp he with he|he
    ·exact uc.run e he
    ·rw[hU.mp he];exact hR
  |some bk=>
   obtain⟨s1,m1,q1⟩:=bk;dsimp only;refine aE (fN (fO (I:=λx c bH=>c=(ae,())/\SB kz bH/\(arrOf bH).toList.Perm (arrOf st).toList/\(arrOf bH).size=size/\gX κ (arrOf bH) (bf bH) lo/\Run κ (arrOf bH) lo n) (Q:=λc bH=>c=(ae,())/\SB kz bH/\(arrOf bH).toList.Perm (arrOf st).toList/\(arrOf bH).size=size/\gX κ (arrOf bH) (bf bH) lo/\Run κ (arrOf bH) lo n) ?_ (λ_ _ hh=>hh) ?_) ?_)
   ·rintro y c bH _ hy ⟨rfl,jm,gI,mv,oZ,o0⟩;refine aE (j7 ?_);have tL:∀{bY:br},bY=bH->((ae,()):Option Unit×Unit)=(ae,())/\SB kz bY/\(arrOf bY).toList.Perm (arrOf st).toList/\(arrOf bY).size=size/\gX κ (arrOf bY) (bf bY) lo/\Run κ (arrOf bY) lo n:=λe=>by subst e;exact⟨rfl,jm,gI,mv,oZ,o0⟩
    by_cases hg:1<(bf bH).size
    ·obtain⟨kd4,arr4,pd4,mg4,fl4⟩:=bH;have kc:pd4.size > 1:=hg;dsimp only;rw[if_pos kc,getElem?_pos pd4 (pd4.size-2) ∅];obtain⟨u1,u2,u3⟩:=pd4[pd4.size-2];dsimp only;refine cm (λ_=>aK (tL rfl)) λ_=>?_;refine aE (yE hO jm (hA.of gI) oZ ∅ (show pd4.size-2+1<pd4.size by lia) λbY mr oX hP5 _=>?_);exact aK ⟨rfl,mr,oX.perm.trans gI,oX.size.trans mv,hP5,o0.keep oX (.inr ∅)⟩
    ·obtain⟨kd4,arr4,pd4,mg4,fl4⟩:=bH;have kc:¬pd4.size > 1:=hg;dsimp only;rw[if_neg kc];exact aK (tL rfl)
   ·exact⟨rfl,fk,fh,nv,uc,hR⟩
   rintro c bH ⟨rfl,jm,gI,mv,oZ,o0⟩;obtain⟨kd4,arr4,pd4,mg4,fl4⟩:=bH;dsimp only;refine aE (l9 (aE (l9 (aK ⟨lo+n,rfl,∅,n2,⟨jm.kind,jm.failed⟩,gI,mv,?_⟩))));refine⟨?_,?_⟩
   ·show jx 0 (PL ((pd4.modify (pd4.size-1) λx=>(x.1,x.2.1,_)).push (lo,n,0))) _;rw[my,u0];exact jx.app.mpr ⟨lo,oZ.ch,rfl,n1,rfl⟩
   ·show ∀e∈PL ((pd4.modify (pd4.size-1) λx=>(x.1,x.2.1,_)).push (lo,n,0)),_;rw[my,u0];intro e he;rcases fZ.mp he with he|he
    ·exact oZ.run e he
    ·rw[hU.mp he];exact o0
 ·have fk:=fD;have hr3:=re;have hw:Wr (arrOf b8) (arrOf aZ) lo (size-lo):=rj;have ue:bf aZ=bf b8:=ud;have n1:0<cM:=∅
  have n2:lo+cM<=size:=∅
  have uc:gX κ (arrOf aZ) (bf aZ) lo:=by rw[ue];exact hP.keep hw
  have fh:(arrOf aZ).toList.Perm (arrOf st).toList:=hw.perm.trans fR;have nv:(arrOf aZ).size=size:=hw.size.trans oY;have hR:Run κ (arrOf aZ) lo cM:=hr3.run;clear hw ue;refine aE (j7 ?_);obtain⟨kd,arr,pd,mg,fl⟩:=aZ;dsimp only;cases hbk:pd.back? with
  |none=>
   dsimp only;refine aE (l9 (aK ⟨lo+cM,rfl,∅,n2,⟨fk.kind,fk.failed⟩,fh,nv,?_⟩));refine⟨?_,?_⟩
   ·show jx 0 (PL (pd.push (lo,cM,0))) _;rw[my];exact jx.app.mpr ⟨lo,uc.ch,rfl,n1,rfl⟩
   ·show ∀e∈PL (pd.push (lo,cM,0)),_;rw[my];intro e he;rcases fZ.mp he with he|he
    ·exact uc.run e he
    ·rw[hU.mp he];exact hR
  |some bk=>
   obtain⟨s1,m1,q1⟩:=bk;dsimp only;refine aE (fN (fO (I:=λx c bH=>c=(ae,())/\SB kz bH/\(arrOf bH).toList.Perm (arrOf st).toList/\(arrOf bH).size=size/\gX κ (arrOf bH) (bf bH) lo/\Run κ (arrOf bH) lo cM) (Q:=λc bH=>c=(ae,())/\SB kz bH/\(arrOf bH).toList.Perm (arrOf st).toList/\(arrOf bH).size=size/\gX κ (arrOf bH) (bf bH) lo/\Run κ (arrOf bH) lo cM) ?_ (λ_ _ hh=>hh) ?_) ?_)
   ·rintro y c bH _ hy ⟨rfl,jm,gI,mv,oZ,o0⟩;refine aE (j7 ?_);have tL:∀{bY:br},bY=bH->((ae,()):Option Unit×Unit)=(ae,())/\SB kz bY/\(arrOf bY).toList.Perm (arrOf st).toList/\(arrOf bY).size=size/\gX κ (arrOf bY) (bf bY) lo/\Run κ (arrOf bY) lo cM:=λe=>by subst e;exact⟨rfl,jm,gI,mv,oZ,o0⟩
    by_cases hg:1<(bf bH).size
    ·obtain⟨kd4,arr4,pd4,mg4,fl4⟩:=bH;have kc:pd4.size > 1:=hg;dsimp only;rw[if_pos kc,getElem?_pos pd4 (pd4.size-2) ∅];obtain⟨u1,u2,u3⟩:=pd4[pd4.size-2];dsimp only;refine cm (λ_=>aK (tL rfl)) λ_=>?_;refine aE (yE hO jm (hA.of gI) oZ ∅ (show pd4.size-2+1<pd4.size by lia) λbY mr oX hP5 _=>?_);exact aK ⟨rfl,mr,oX.perm.trans gI,oX.size.trans mv,hP5,o0.keep oX (.inr ∅)⟩
    ·obtain⟨kd4,arr4,pd4,mg4,fl4⟩:=bH;have kc:¬pd4.size > 1:=hg;dsimp only;rw[if_neg kc];exact aK (tL rfl)
   ·exact⟨rfl,fk,fh,nv,uc,hR⟩
   rintro c bH ⟨rfl,jm,gI,mv,oZ,o0⟩;obtain⟨kd4,arr4,pd4,mg4,fl4⟩:=bH;dsimp only;refine aE (l9 (aE (l9 (aK ⟨lo+cM,rfl,∅,n2,⟨jm.kind,jm.failed⟩,gI,mv,?_⟩))));refine⟨?_,?_⟩
   ·show jx 0 (PL ((pd4.modify (pd4.size-1) λx=>(x.1,x.2.1,_)).push (lo,cM,0))) _;rw[my,u0];exact jx.app.mpr ⟨lo,oZ.ch,rfl,n1,rfl⟩
   ·show ∀e∈PL ((pd4.modify (pd4.size-1) λx=>(x.1,x.2.1,_)).push (lo,cM,0)),_;rw[my,u0];intro e he;rcases fZ.mp he with he|he
    ·exact oZ.run e he
    ·rw[hU.mp he];exact o0
end
theorem u7{n:Nat}(h:n<=1000000):n<ba:=oF h (by decide)
theorem Run.sortedTo{κ:KeyKind}{a:Array Keyed}{n:Nat}(h:Run κ a 0 n)(hn:n<=a.size):SortedToK κ a n:=by intro i j bt hj;have:=h i j _ _ (kY _) bt ∅ (getElem?_pos a i ∅) (getElem?_pos a j ∅);rw[p_ (show i<a.size by lia),p_ (show j<a.size by lia)];exact this
theorem KeysOf.all{κ:KeyKind}{a:Array Keyed}(h:KeysOf κ a):AllK κ a:=λi hi=>h _ (by simp)
section
variable{P:aM}{w:aF}{A:aO}{E:ai->am->Prop}{s:am}
theorem Bl{κ:KeyKind}{kz:gB}{a:af}{vs:List ai}{n:Nat}{F:Fin->am->Prop}(ho:s.heap.get? a=aa (fP "list" vs.toArray n))(h0:KeysOf κ (jF vs))(hz:vs.length<=1000000)(hk:∀h':aA,(∀b o,b≠a->s.heap.get? b=aa o->h'.get? b=aa o)->2<=vs.length->gY κ kz P w A {s with heap:=h'}/\∀{E:ai->am->Prop}{Q:gB->am->Prop},Q kz {s with heap:=h'}->aq (au P w) A (keyKind' vs.toArray) Q E {s with heap:=h'})(h:∀ay:br,(arrOf ay).Perm (jF vs)->SortedToK κ (arrOf ay) (jF vs).size->F (.done (.ret .none)) {s with heap:=sortedHeap s.heap a vs ((arrOf ay).map (·.2))}):aq (au P w) A (Builtin.«list.sort» ⟨[.ref a],[]⟩) F E s:=by
 rw[list_sort_plain];have ha:a<s.heap.objs.size:=bu ho;have hl:vs.length<=ba:=jW (u7 hz);refine ap (listItems_at ho rfl ?_);refine ap (z_ ho rfl ?_);obtain⟨e1,tX⟩:∃e1,(s.heap.update a (jg λ_=>#[])).get? a=aa (fP "list" #[] e1):=⟨_,get?_update_seq ho (λ_=>#[])⟩
 refine ap (seqEpoch_at tX rfl ?_);refine ap (wpAny_newTuple ?_ (hsz:=by rw[wx];exact hl));refine ap (wpAny_newList ?_);refine iw ?_;have ho6:(((s.heap.update a (jg λ_=>#[])).push (fP "tuple" vs.toArray 0)).push (fP "list" #[] 0)).get? a=aa (fP "list" #[] e1):=by rw[Heap.get?_push_ne _ _ _ (by rw[iT,E2];exact cR (j6 ha)),Heap.get?_push_ne _ _ _ (by rw[E2];exact cR ha)];exact tX
 have keep:∀b o,b≠a->s.heap.get? b=aa o->(((s.heap.update a (jg λ_=>#[])).push (fP "tuple" vs.toArray 0)).push (fP "list" #[] 0)).get? b=aa o:=λb o hb e=>bG _ (bG _ (by rw[EY _ _ _ _ hb];exact e));show aq (au P w) A _ F E {s with heap:=((s.heap.update a (jg λ_=>#[])).push (fP "tuple" vs.toArray 0)).push (fP "list" #[] 0)};dsimp only;have done:∀ay:br,failedOf ay=ae->(arrOf ay).Perm (jF vs)->SortedToK κ (arrOf ay) (jF vs).size ->
   aq (au P w) A (do
    let touched:=(←seqEpoch a) != e1
    Builtin.List.listUpdate (.ref a) λ_=>(arrOf ay).map (·.2)
    if let aa e:=failedOf ay then rule "list.sort.comparison-raised";throw e
    if touched then rule "list.sort.modified";raiseError "ValueError" "list modified during sort"
    ret .none) F E {s with heap:=((s.heap.update a (jg λ_=>#[])).push (fP "tuple" vs.toArray 0)).push (fP "list" #[] 0)}:=λay hb hp hs=>by
  refine ap (seqEpoch_at ho6 rfl ?_);refine ap (z_ ho6 rfl ?_ (hsz2:=by refine cS (lV ((Array.size_map ..).trans (hp.size_eq.trans (pairsOf_size _)))) (Nat.le_succ_of_le hl)));rw[hb];simp only[bne_self_eq_false,eC,if_false];exact aD (h ay hp hs)
 by_cases h2:vs.toArray.size<2
 ·rw[if_pos h2,if_pos h2];refine ap (aD ?_);refine ap (aD ?_);refine done (SortSt.mk' general' (vs.toArray.zip vs.toArray) #[] 7 ae) rfl (Array.Perm.refl _) λi j bt hj=>?_;have:i=j:=by rw[pairsOf_size]at hj;rw[ce]at h2;lia
  subst this;exact k7 _
 ·rw[if_neg h2,if_neg h2];obtain⟨hO,hK⟩:=hk _ keep (by rw[ce]at h2;lia);refine ap (hK ?_);refine ap (dY (G2 (κ:=κ) (kz:=kz) hO (st:=SortSt.mk' kz (vs.toArray.zip vs.toArray) #[] 7 ae) (Q:=λ_ ay=>SB kz ay/\(arrOf ay).toList.Perm (jF vs).toList/\Run κ (arrOf ay) 0 (jF vs).size) ⟨rfl,rfl⟩ (KeysOf.all h0) rfl λay a1 a2 a3=>⟨a1,a2,a3⟩) ?_ λ_ _ e=>e);rintro⟨⟨⟩,ay⟩ s' ⟨rfl,hb,hp,hs⟩;have c8:(arrOf ay).Perm (jF vs):=Ao.mpr hp;exact done ay hb.failed c8 (hs.sortedTo (by rw[c8.size_eq];exact a_ _))
theorem Mw{κ:KeyKind}(hO:κ.OneLt){a:af}{vs:List ai}{n:Nat}{F:Fin->am->Prop}(ho:s.heap.get? a=aa (fP "list" vs.toArray n))(h0:KeysOf κ (jF vs)) (mq:∀v₁ v₂ rest,vs=v₁::v₂::rest->keyKind' (v₁::v₂::rest).toArray=pure oneType') (hz:vs.length<=1000000)(h:∀ay:br,(arrOf ay).Perm (jF vs)->SortedToK κ (arrOf ay) (jF vs).size->F (.done (.ret .none)) {s with heap:=sortedHeap s.heap a vs ((arrOf ay).map (·.2))}):aq (au P w) A (Builtin.«list.sort» ⟨[.ref a],[]⟩) F E s :=
 Bl ho h0 hz (λh' _ h2=>⟨OneLt.ok hO,λq=>by
  obtain⟨v₁,v₂,rest,rfl⟩:∃v₁ v₂ rest,vs=v₁::v₂::rest:=by
   match vs,h2 with
   |[],h2=>simp at h2
   |[_],h2=>simp at h2
   |v₁::v₂::rest,_=>exact⟨v₁,v₂,rest,rfl⟩
  rw[mq _ _ _ rfl];exact aD q⟩) h
theorem Cr{v:ai}{Q:ai->am->Prop}(hc:aq (au P w) A.in1 (collect v) (λvs s1=>∃ss:List Str,df vs ss/\vs.length<=1000000/\∀(h':aA) (out:Array ai) (aI:List Str) (e:Nat),(∀b o,s1.heap.get? b=aa o->h'.get? b=aa o) -> h'.get? s1.heap.objs.size=aa (fP "list" out e)->df out.toList aI->aI.Perm ss->sortedS aI=ah->Q (.ref s1.heap.objs.size) {s1 with heap:=h'}) E s):aq (au P w) A (call (.builtin "sorted") [v]) Q E s:=by refine Calls.call_function_entry kind_sorted plain_sorted entry_sorted (args_sorted1 _) ?_;unfold Builtin.«sorted»;refine ap (m:=checkCount "sorted" 1 1 _) (aD ?_);refine ap (aV hc λvs s1 ⟨ss,hS,ki,fin⟩=>?_);refine ap (wpAny_newList ?_);have lf:(s1.heap.push (fP "list" vs.toArray 0)).get? s1.heap.objs.size=aa (fP "list" vs.toArray 0):=c0 _ rfl;refine ap (iw (qu slot_list_sort ⟨_,lf,rfl⟩ entry_list_sort (Mw strKind_oneLt lf hS.keysOf (λa b c e=>keyKind_strs (by rw[←e];exact hS)) ki λay hp hs=>⟨_,rfl,?_⟩) (args_list_sort _)));obtain⟨aI,a1,a2,a3⟩:=sorted_out_str hS hp hs;obtain⟨e,he⟩:=sortedHeap_at (out:=(arrOf ay).map (·.2)) lf;refine aD ⟨_,rfl,fin _ _ aI e (λb o hb=>?_) he a1 a2 a3⟩;have bb:b<s1.heap.objs.size:=bu hb;rw[sortedHeap_old (cR bb) (by rw[iT];exact j6 bb)];exact bG _ hb
end
section
variable{X:Cx}
theorem Inv.sorted2{ag:List (af×Obj)}{σ:St}{H:Hp}{s1:am}{ls:List Tx}{ss aI:List Str}{h':aA}{out:Array ai}{e:Nat}(I:Inv X ag σ H s1)(hl:ss=ls.map tS)(ki:ls.length<=1000000)(k:∀b o,s1.heap.get? b=aa o->h'.get? b=aa o) (ho:h'.get? s1.heap.objs.size=aa (fP "list" out e)) (a1:df out.toList aI) (a2:aI.Perm ss) (a3:sortedS aI=ah):Inv X ag σ (upd H s1.heap.objs.size (.lst (dA (aY ls)))) {s1 with heap:=h'}:=by
 have e1:aI.map (λz=>z.cps.toList)=aY ls:=by
  refine vF ?_ (Na a3);have:=a2.map λz=>z.cps.toList;rw[hl,c7]at this;have e2:(ls.map ((λz:Str=>z.cps.toList) ∘ tS))=ls:=by simp[tt,lI]
  rw[e2]at this;exact this
 have hv:bn (dA (aY ls)) out.toList:=by rw[←e1];exact C4 a1
 refine I.laid (t':=s1.toks) k (a_ _) ⟨?_,out.toList,e,hv,?_⟩
 ·rw[yW,vB];exact jW (u7 ∅)
 ·rw[Array.toArray_toList];exact ho
theorem uL:eA X (.builtin "sorted") (λxs H Q=>∃(p:af) (ls:List Tx),xs=[.ref p]/\(cc X.K H p (dA ls)\/cB X.K H p (dA ls))/\ls.length<=1000000/\∀l,H l=ae->Q (.ref l) (upd H l (.lst (dA (aY ls))))):=by
 intro ag s σ H xs us Q I r h;obtain⟨p,ls,rfl,hq,ki,q⟩:=h;obtain⟨u,rfl,ru⟩:=vals1 r;cases ru;have core:∀(T:String) (o:Obj) (its:List ai) (n:Nat),(T = "list"\/T = "tuple")->s.heap.get? p=aa o->o.cls=.type T->o.data=.seq its.toArray n->bn (dA ls) its ->
   aq (au X.prog X.w) X.A (call (.builtin "sorted") [Value.ref p]) (EP X ag σ Q) X.xe s:=λT o its n hT ho hc hd rv=>by
  have hl:=rv.length;rw[yW]at hl;have h1000:=u7 (n:=its.length) ∅;refine Cr (wpAny_collect_seq p hT ho hc hd (λh1 k1=>?_) (by rw[ce];lia));have I1:=I.kept (t':=s.toks) k1;refine⟨_,ux rv,by rw[wx];lia,λh' out aI e k ho a1 a2 a3=>?_⟩;exact⟨.ref _,_,Inv.sorted2 I1 rfl ki k ho a1 a2 a3,rfl,q _ I1.fresh⟩
 rcases hq with hq|hq
 ·obtain⟨its,rv,pl,hz⟩:=I.list hq;obtain⟨o,e,hc,n,hd⟩:=pl.isList;exact core "list" o its n (.inl rfl) e hc hd rv
 ·obtain⟨its,rv,⟨o,e,hc,n,hd⟩,hz⟩:=I.tuple hq;exact core "tuple" o its n (.inr rfl) e hc hd rv
end
end L2
namespace Pu
open L2
section
variable{X:Cx}{K:ax}
def lD:List PV->Option PO
 |[.lst xs]=>(ip xs).bind λls=>if ls.length<=1000000 then aa (.lst (ao (aY ls)))else ae
 |[.tup xs]=>(ip xs).bind λls=>if ls.length<=1000000 then aa (.lst (ao (aY ls)))else ae
 |_=>ae
theorem v5:kw K (λxs H Q=>∃(p:af) (ls:List Tx),xs=[.ref p]/\(cc K H p (dA ls)\/cB K H p (dA ls))/\ls.length<=1000000/\∀l,H l=ae->Q (.ref l) (upd H l (.lst (dA (aY ls))))) lD:=λF H xs vs Q po hF rs e q=>by
 have fin:∀{ys:List PV}{us:List V}{a:af},((ip ys).bind λls=>if ls.length<=1000000 then aa (PO.lst (ao (aY ls)))else ae)=aa po->Reps K H F ys us->(cc K H a us\/cB K H a us) ->
   ∃(p:af) (ls:List Tx),[V.ref a]=[.ref p]/\(cc K H p (dA ls)\/cB K H p (dA ls))/\ls.length<=1000000/\∀l,H l=ae->Q (.ref l) (upd H l (.lst (dA (aY ls)))):=λ{ys us a} e ra hs=>by
  cases q1:ip ys with
  |none=>rw[q1]at e;cases e
  |some ls=>
   rw[q1]at e;simp only[iy]at e;split at e
   ·rename_i ki;cases e;rw[uB q1]at ra;obtain⟨rfl,hm⟩:=Of.mp ra;refine⟨a,ls,rfl,hs,ki,λl hl=>q l F _ _ (Al.new0 hl) (uW hl (Of.mpr ⟨rfl,λx hx=>hm x ((jK ls).mem_iff.mp hx)⟩)) (vc hl hF trivial)⟩
   ·cases e
 unfold lD at e;split at e
 ·obtain⟨v,rfl,a,us,rfl,ha,_,ra⟩:=ig rs;exact fin e ra (.inl (.inl ha))
 ·obtain⟨v,rfl,a,us,rfl,ha,ra⟩:=ig rs;exact fin e ra (.inr (cB.of ha))
 ·cases e
end
end Pu
namespace L2
section
variable{X:Cx}
theorem JH(hc:X.calm=ah):eA X (.builtin "sorted") (λxs H Q=>∃(p:af) (ls:List Tx),xs=[.ref p]/\H p=aa (nJ X p ls)/\ls.length<4000/\∀l,H l=ae->Q (.ref l) (upd H l (.lst (dA (aY ls))))):=by
 intro ag s σ H xs us Q I r h;obtain⟨p,ls,rfl,hq,ki,q⟩:=h;obtain⟨u,rfl,ru⟩:=vals1 r;cases ru;obtain⟨S,_,_⟩:=(show cG X.prog X.w H s.heap p (nJ X p ls)from I.hok p _ hq)
 refine Cr (JJ (uy (I.ok.hd hc)) S λs' vs ss a1 a2 a3 k eg eo=>?_);obtain⟨h',g',d',t',o'⟩:=s';obtain rfl:g'=s.gens:=eg;obtain rfl:o'=s.os:=eo;have I1:Inv X ag σ H {s with heap:=h',drawn:=d',toks:=t'}:=by have:=Inv.call (ch:=[]) I (g':=s.gens) (d':=d') (t':=t') (Un.kept (fs:=eF X.stack) (ex:=[]) k) (I.hok.kept k) I.bare (λb hb=>absurd hb (by simp));exact this
 refine⟨ss,a1,∅,λh2 out aI e k2 ho b1 b2 b3=>?_⟩;exact⟨.ref _,_,Inv.sorted2 (s1:={s with heap:=h',drawn:=d',toks:=t'}) (ss:=ls.map tS) I1 rfl ∅ k2 ho b1 (b2.trans a2) b3,rfl,q _ I1.fresh⟩
end
end L2
namespace Pu
open L2
section
variable{X:Cx}{E:XK}{pin:List Nat}{e e2:aB}{ds ds2:ak->R (List PV)}{pos p q pos' p4 q2 pos2:Pos}
def sC:List PV->Option PO
 |[.lst xs]=>(ip xs).bind λls=>if(ft ls).length<4000 then aa (.lst (ao (aY (ft ls))))else ae
 |_=>ae
def Hh(X:Cx):List V->Hp->VK->Prop:=λxs H Q=>∃(p:af) (ls:List Tx),xs=[.ref p]/\H p=aa (nJ X p ls)/\ls.length<4000/\∀l,H l=ae->Q (.ref l) (upd H l (.lst (dA (aY ls))))
theorem G_:kw X.K (La X (Hh X)) sC:=λF H xs vs Q po hF rs e q=>by
 unfold sC at e;split at e
 ·obtain⟨v,rfl,a,us,rfl,ha,_,ru⟩:=ig rs;obtain⟨ls,e1,e2⟩:=wN.mp e;rw[uB e1]at ru;obtain⟨rfl,hl⟩:=Of.mp ru;split at e2
  ·rename_i hh;cases e2;refine⟨a,ls,rfl,.inl ha,hh,λb hb=>⟨b,ft ls,rfl,cC,hh,λl gH=>?_⟩⟩;have hlb:l≠b:=by rintro rfl;rw[cC]at gH;cases gH
   have uf:H l=ae:=by rw[b7 hlb]at gH;exact gH
   have al:Al F F H (upd (upd H b (nJ X b (ft ls))) l (.lst (dA (aY (ft ls))))):=(Al.new0 hb).trans (Al.new0 gH);refine q l F _ (λc=>c=l) al ⟨⟨_,cC,Of.mpr ⟨rfl,λx hx=>hl x ((u8 _ _).mp ((jK _).mem_iff.mp hx))⟩⟩,λc=>Iff.rfl⟩ λc z=>?_;subst z;exact⟨uf,λz=>Exists.elim (hF _ z) (λo w=>by rw[uf]at w;cases w),_,cC,trivial⟩
  ·cases e2
 ·cases e
theorem Il(hc:X.calm=ah)(ha:DA X E [e] ds)(hm:X.mg "sorted" = ae)(hm2:X.mg "set" = ae)(hg:Gl X "sorted":=by rfl)(hg2:Gl X "set":=by rfl)(h:kJ e=aj:=by rfl):DN X E (.Call (.Name "sorted" p) [.Call (.Name "set" q) [e] [] pos'] [] pos) (dL sC ds):=λF S ε σ H Q rl h'=>b9 (oj (JH hc) hg hm pR (ij (vE (IP hc) hg2 hm2 Cg gy (by decide) (by decide) (iY h) rfl) jt (iY rfl)) (by decide) (by decide) (iY rfl) rfl) (r_ G_ ha rl h')
end
end Pu
namespace Mx
theorem GO(p:Nat):∃o,5^(2^p)=1+2^(p+2)*(2*o+1):=by
 induction p with
 |zero=>exact⟨0,by decide⟩
 |succ p ih=>
  obtain⟨o,h⟩:=ih;refine⟨o+2^p*(2*o+1)*(2*o+1),?_⟩;rw[show 2^(p+1)=2^p*2 from tu ..,Nat.pow_mul,h];rw[show(2:Nat)^(p+1+2)=8*2^p from by rw[Nat.pow_add,tu];lia,show(2:Nat)^(p+2)=4*2^p from by rw[Nat.pow_add];lia];generalize 2^p=q
  grind
def F5:Nat->Nat->Nat
 |0,x=>x
 |n+1,x=>F5 n (5*x+1)
theorem Gs(m n x:Nat):F5 (m+n) x=F5 n (F5 m x):=by
 induction m generalizing x with
 |zero=>simp[F5]
 |succ m ih=>rw[tm];exact ih _
theorem GP(n x:Nat):4*F5 n x+1=5^n*(4*x+1):=by
 induction n generalizing x with
 |zero=>simp[F5]
 |succ n ih=>show 4*F5 n (5*x+1)+1=_;rw[ih,tu];grind
theorem MB(p x:Nat):∃o,F5 (2^p) x=x+2^p*(2*o+1):=by
 obtain⟨o,h⟩:=GO p;have c:=GP (2^p) x;rw[h,show(2:Nat)^(p+2)=4*2^p from by rw[Nat.pow_add];lia]at c;refine⟨o*(4*x+1)+2*x,?_⟩;generalize 2^p=q at c;generalize F5 q x=y at c
 grind
theorem D4(p:Nat):∀x y,y<2^p->∃n,n<2^p/\F5 n x % 2^p=y:=by
 induction p with
 |zero=>intro x y h;exact⟨0,by decide,by simp at h;subst h;simp[Nat.mod_one]⟩
 |succ p ih=>
  intro x y hy;obtain⟨n,hn,e⟩:=ih x (y % 2^p) (l5 _ (Nat.two_pow_pos p));have hp:(2:Nat)^(p+1)=2*2^p:=by rw[tu];lia
  obtain⟨o,j⟩:=MB p (F5 n x);have pos:=Nat.two_pow_pos p;by_cases q:F5 n x % 2^(p+1)=y
  ·exact⟨n,∅,q⟩
  ·refine⟨n+2^p,∅,?_⟩;rw[Gs,j];rw[hp]at q hy ⊢;generalize 2^p=N at *;generalize F5 n x=z at *;have h1:z % (2*N) % N=z % N:=Nat.mod_mod_of_dvd _ ⟨2,∅⟩;have h2:(z+N*(2*o+1)) % (2*N)=(z+N) % (2*N):=by rw[show z+N*(2*o+1)=(z+N)+(2*N)*o by grind,Nat.add_mul_mod_self_left]
   rw[h2];have hz:=l5 z (show 2*N > 0 by lia);have h3:(z+N) % (2*N)=(z % (2*N)+N) % (2*N):=by rw[Aq];simp[Aq,wO (show N<2*N by lia)]
   rw[h3];generalize z % (2*N)=u at *;rw[←h1]at e;have a1:=Nat.div_add_mod u N;have a2:=Nat.div_add_mod y N;have b1:u / N<2:=Nat.div_lt_of_lt_mul (by rw[Ar];exact hz);have b2:y / N<2:=Nat.div_lt_of_lt_mul (by rw[Ar];exact hy);rw[e]at a1;generalize u / N=uq at a1 b1;generalize y / N=yq at a2 b2;have m1:=l5 y pos;rcases(show uq=0\/uq=1 by lia)with c1|c1 <;> rcases(show yq=0\/yq=1 by lia)with c2|c2 <;> subst c1 <;> subst c2 <;> simp only[Nat.mul_zero,Nat.mul_one,qN]at a1 a2
   ·exact absurd (a1.symm.trans a2) q
   ·rw[wO ∅];lia
   ·rw[show u+N=y+2*N by lia,Nat.add_mod_right,wO ∅]
   ·exact absurd (a1.symm.trans a2) q
end Mx
namespace L2
open Mx
def dR(mask:Nat):Nat->Nat->Nat->Nat×Nat
 |0,i,p=>(i,p)
 |n+1,i,p=>dR mask n (k8 mask i p).1 (k8 mask i p).2
theorem xG(mask:Nat):∀(m n i p:Nat),dR mask (m+n) i p=dR mask n (dR mask m i p).1 (dR mask m i p).2
 |0,n,i,p=>by rw[qN];rfl
 |m+1,n,i,p=>by rw[tm];exact xG mask m n _ _
theorem yD(mask:Nat):∀(m i p:Nat),(dR mask m i p).2=p / 32^m
 |0,i,p=>by simp[dR]
 |m+1,i,p=>by show(dR mask m _ _).2=_;rw[yD mask m];show p / 32 / 32^m=_;rw[Nat.div_div_eq_div_mul,tu,Ar]
theorem yy(mask:Nat):∀(n i:Nat),(dR mask n i 0).1 % (mask+1)=F5 n i % (mask+1)
 |0,i=>rfl
 |n+1,i=>by show(dR mask n ((i*5+1+0 / 32) % (mask+1)) (0 / 32)).1 % _=F5 n (5*i+1) % _;rw[show 0 / 32=0 from rfl,yy mask n,Nat.add_zero,Ar i 5];exact F5_mod n (mask+1) (5*i+1)
where
 F5_mod:∀(n N x:Nat),F5 n (x % N) % N=F5 n x % N
  |0,N,x=>by simp[F5]
  |n+1,N,x=>by show F5 n (5*(x % N)+1) % N=F5 n (5*x+1) % N;rw[←F5_mod n N (5*(x % N)+1),←F5_mod n N (5*x+1)];congr 2;rw[Aq,Nat.mul_mod,Nat.mod_mod,←Nat.mul_mod,←Aq]
theorem zf(mask:Nat):∀(n i p:Nat),(dR mask (n+1) i p).1<mask+1
 |0,i,p=>l5 _ (qR _)
 |n+1,i,p=>zf mask n _ _
theorem Bk{mask:Nat}{owner:Array (Option Nat)}:∀(bP i p:Nat),(∃t,t<bP/\(owner.getD (dR mask t i p).1 (aa 0)).isNone=ah)->∃j,ni mask owner bP i p=aa j/\(owner.getD j (aa 0)).isNone=ah
 |0,i,p,⟨t,h,_⟩=>absurd h (l6 _)
 |bP+1,i,p,⟨t,h,e⟩=>by
  unfold ni;cases q:(bX (eO mask i+1-i)).find? (λk=>(owner.getD (i+k) (aa 0)).isNone)with
  |some k=>exact⟨i+k,rfl,by have:=List.find?_some q;exact this⟩
  |none=>
   cases t with
   |zero=>have:=As.mp q 0 (by rw[kP];unfold eO;split <;> lia);exact absurd (show(owner.getD (i+0) (aa 0)).isNone=ah from e) this
   |succ t=>exact Bk bP _ _ ⟨t,∅,e⟩
theorem Gz{mask q:Nat}{owner:Array (Option Nat)}(hm:mask+1=2^q)(hs:owner.size=mask+1){y:Nat}(hy:y<owner.size)(he:owner[y]?=aa ae)(i p:Nat)(hp:p<2^64):∃j,ni mask owner (oM mask) i p=aa j/\owner[j]?=aa ae:=by
 obtain⟨n,hn,e⟩:=D4 q (dR mask 13 i p).1 y (by rw[←hm,←hs];exact hy);have h0:(dR mask 13 i p).2=0:=by rw[yD];exact Nat.div_eq_of_lt (fL hp (by decide))
 have bb:(dR mask (13+n) i p).1<mask+1:=by rw[show 13+n=(12+n)+1 by lia];exact zf mask _ _ _
 have e1:(dR mask (13+n) i p).1=y:=by
  have e2:(dR mask (13+n) i p).1 % (mask+1)=y:=by rw[xG,h0,yy,hm];exact e
  rwa[wO bb]at e2
 obtain⟨j,f1,f2⟩:=Bk (mask:=mask) (owner:=owner) (oM mask) i p ⟨13+n,by unfold oM;lia,by rw[e1,tw,he];rfl⟩;refine⟨j,f1,?_⟩;rw[tw]at f2;cases hj:owner[j]? with
 |none=>rw[hj]at f2;cases f2
 |some o=>
  rw[hj]at f2;cases o with
  |none=>rfl
  |some v=>cases f2
theorem D5:∀(l:List (Option Nat)) (j k:Nat),l[j]?=aa ae->((l.set j (aa k)).filterMap id).Perm (k::l.filterMap id)
 |[],j,k,h=>by simp at h
 |x::l,0,k,h=>by simp at h;subst h;simp
 |x::l,j+1,k,h=>by
  have ih:=D5 l j k (by simpa using h);cases x with
  |none=>simpa using ih
  |some v=>simp only[List.set_cons_succ,kQ,id];exact(ih.cons v).trans (List.Perm.swap ..)
theorem Da:∀(l:List (Option Nat)),(∀y,y<l.length->l[y]?≠aa ae)->(l.filterMap id).length=l.length
 |[],_=>rfl
 |x::l,h=>by
  have ih:=Da l λy hy e=>h (y+1) (by simp;lia) (by simpa using e);cases x with
  |none=>exact absurd rfl (h 0 (by simp))
  |some v=>simp[ih]
def Laid(mask:Nat)(owner:Array (Option Nat))(k:Nat):Prop:=owner.size=mask+1/\(owner.toList.filterMap id).Perm (bX k)
theorem M8{mask q k:Nat}{owner:Array (Option Nat)}(hm:mask+1=2^q)(L:Laid mask owner k)(hk:k<mask+1)(h:Int):∃j,ni mask owner (oM mask) (dD h % (mask+1)) (dD h)=aa j/\Laid mask (owner.setIfInBounds j (aa k)) (k+1):=by
 obtain⟨hs,hp⟩:=L;have:∃y,y<owner.toList.length/\owner.toList[y]?=aa ae:=by
  by_cases z:∃y,y<owner.toList.length/\owner.toList[y]?=aa ae
  ·exact z
  ·have:=Da owner.toList λy hy e=>z ⟨y,hy,e⟩;have:=hp.length_eq;simp at this;simp at *;lia
 obtain⟨y,hy,he⟩:=this;have hb:dD h<2^64:=by unfold dD;have:=wP h (show(0:Int)<2^64 by decide);have:=wQ h (show(2^64:Int)≠0 by decide);lia
 obtain⟨j,f1,f2⟩:=Gz hm hs (by simpa using hy) (by simpa using he) (dD h % (mask+1)) _ hb;refine⟨j,f1,by simpa using hs,?_⟩;rw[Array.toList_setIfInBounds,oG];exact(D5 owner.toList j k (by simpa using f2)).trans ((hp.cons k).trans (List.perm_append_singleton ..).symm)
theorem below_go{xs:Array Nat}{j:Nat}(hx:xs.toList.Pairwise (· < ·)):∀(bP lo hi:Nat),hi-lo<=bP->lo<=hi->hi<=xs.size -> (∀i (h:i<xs.size),i<lo->xs[i]<j)->(∀i (h:i<xs.size),hi<=i->j<=xs[i]) -> qM xs j bP lo hi<=xs.size/\(∀i (h:i<xs.size),i<qM xs j bP lo hi->xs[i]<j)/\∀i (h:i<xs.size),qM xs j bP lo hi<=i->j<=xs[i]
 |0,lo,hi,h,hl,hs,h1,h2=>by
  have:lo=hi:=∅
  subst this;exact⟨hs,h1,h2⟩
 |bP+1,lo,hi,h,hl,hs,h1,h2=>by
  unfold qM;split
  ·rename_i bb;have hm:(lo+hi) / 2<xs.size:=∅
   have mono:∀a b (ha:a<xs.size) (hb:b<xs.size),a<b->xs[a]<xs[b]:=λa b ha hb iA=>by have:=qQ.mp hx a b (by simpa using ha) (by simpa using hb) iA;simpa using this
   have hg:xs.getD ((lo+hi) / 2) j=xs[(lo+hi) / 2]:=by simp[Array.getD,hm]
   dsimp only;rw[hg];split
   ·rename_i hc;refine below_go hx bP _ _ ∅ ∅ hs (λi gF hlo=>?_) h2;by_cases e:i=(lo+hi) / 2
    ·subst e;exact hc
    ·have:=mono i _ gF hm ∅;lia
   ·rename_i hc;refine below_go hx bP _ _ ∅ ∅ ∅ h1 (λi gF hlo=>?_);by_cases e:i=(lo+hi) / 2
    ·subst e;lia
    ·have:=mono _ i hm gF ∅;lia
  ·have:lo=hi:=∅
   subst this;exact⟨hs,h1,h2⟩
theorem below_ok{xs:Array Nat}(hx:xs.toList.Pairwise (· < ·))(j:Nat):gA xs j<=xs.size/\(∀i (h:i<xs.size),i<gA xs j->xs[i]<j)/\∀i (h:i<xs.size),gA xs j<=i->j<=xs[i] :=below_go hx xs.size 0 xs.size ∅ ∅ (a_ _) (λi _ h=>absurd h (l6 _)) λi h h'=>absurd h ∅
structure TOk(t:bR):Prop where
 dm:t.dummies=#[]
 ris:t.place.toList.Pairwise (· < ·)
 le:∀j∈t.place.toList,j<=t.mask
 sz:t.mask∈[7,31,127,511,2047,8191]
 roomy:t.place.size*5<t.mask*3
theorem TOk.pow{t:bR}(h:TOk t):∃q,t.mask+1=2^q:=by
 have:=h.sz;simp only[bF,f_,or_false]at this;rcases this with e|e|e|e|e|e <;> rw[e]
 ·exact⟨3,rfl⟩
 ·exact⟨5,rfl⟩
 ·exact⟨7,rfl⟩
 ·exact⟨9,rfl⟩
 ·exact⟨11,rfl⟩
 ·exact⟨13,rfl⟩
theorem TOk.most{t:bR}(h:TOk t):t.mask<=8191/\7<=t.mask/\t.mask % 2=1:=by have:=h.sz;simp only[bF,f_,or_false]at this;lia
theorem slot_of{t:bR}(dm:t.dummies=#[])(ris:t.place.toList.Pairwise (· < ·))(j:Nat):(j∉t.place.toList/\t.slot j=.empty)\/∃i,t.place[i]?=aa j/\t.slot j=.live i:=by
 obtain⟨b0,b1,b2⟩:=below_ok ris j;unfold SetTable.slot;dsimp only;by_cases hc:t.place[gA t.place j]?=aa j
 ·exact .inr ⟨_,hc,by rw[hc];simp⟩
 ·refine .inl ⟨λhm=>?_,?_⟩
  ·obtain⟨i,hi,e⟩:=l8 hm;have gF:i<t.place.size:=by simpa using hi
   have e':t.place[i]=j:=by simpa using e
   have h1:¬i<gA t.place j:=λz=>by have:=b1 i gF z;lia
   have hb:gA t.place j<t.place.size:=∅
   have h2:=b2 _ hb (a_ _);have:gA t.place j=i:=by
    by_cases q:gA t.place j=i
    ·exact q
    ·have:=qQ.mp ris _ i (by simpa using hb) (by simpa using gF) ∅;simp at this;lia
   exact hc (by rw[this,ji gF,e'])
  ·rw[if_neg (by simpa using hc),dm];simp[SetTable.has]
def stp(mask i p:Nat):jj:={j:=i,more:=eO mask i-i,i:=i,perturb:=p,dummy:=ae}
def pth(t:bR):Nat->jj->jj
 |0,p=>p
 |n+1,p=>pth t n (t.advance p)
theorem pth_add(t:bR):∀(m n:Nat) (p:jj),pth t (m+n) p=pth t n (pth t m p)
 |0,n,p=>by rw[qN];rfl
 |m+1,n,p=>by rw[tm];exact pth_add t m n _
theorem pth_succ(t:bR)(n:Nat)(p:jj):pth t (n+1) p=t.advance (pth t n p):=pth_add t n 1 p
theorem adv_dummy(t:bR)(p:jj):(t.advance p).dummy=p.dummy:=by unfold At;split <;> rfl
theorem pth_dummy(t:bR):∀(n:Nat) (p:jj),(pth t n p).dummy=p.dummy
 |0,p=>rfl
 |n+1,p=>(pth_dummy t n _).trans (adv_dummy t p)
theorem pth_mask{t t':bR}(h:t.mask=t'.mask):∀(n:Nat) (p:jj),pth t n p=pth t' n p
 |0,p=>rfl
 |n+1,p=>by
  have:t.advance p=t'.advance p:=by unfold At;rw[h]
  show pth t n (t.advance p)=pth t' n (t'.advance p);rw[this,pth_mask h n]
theorem pth_run(t:bR):∀(k:Nat) (p:jj),k<=p.more->pth t k p={p with j:=p.j+k,more:=p.more-k}
 |0,p,_=>rfl
 |k+1,p,h=>by
  show pth t k (t.advance p)=_;have:t.advance p={p with j:=p.j+1,more:=p.more-1}:=by unfold At;rw[if_pos ∅]
  rw[this,pth_run t k _ (by dsimp only;lia)];dsimp only;rw[show p.j+1+k=p.j+(k+1) by lia,show p.more-1-k=p.more-(k+1) by lia]
theorem run_le(mask i:Nat):eO mask i-i<=9:=by unfold eO;split <;> lia
theorem pth_leap(t:bR)(i p:Nat):pth t (eO t.mask i-i+1) (stp t.mask i p)=stp t.mask (k8 t.mask i p).1 (k8 t.mask i p).2:=by rw[pth_succ,pth_run t (eO t.mask i-i) (stp t.mask i p) (a_ _)];exact(if_neg (show ¬(eO t.mask i-i-(eO t.mask i-i) > 0) by lia)).trans rfl
theorem pth_orb(t:bR):∀(m i p:Nat),∃n,n<=10*m/\pth t n (stp t.mask i p)=stp t.mask (dR t.mask m i p).1 (dR t.mask m i p).2
 |0,i,p=>⟨0,a_ _,rfl⟩
 |m+1,i,p=>by obtain⟨n,h1,h2⟩:=pth_orb t m (k8 t.mask i p).1 (k8 t.mask i p).2;refine⟨eO t.mask i-i+1+n,by have:=run_le t.mask i;lia,?_⟩;rw[pth_add,pth_leap];exact h2
theorem nat_len_sub:∀{l m:List Nat},l.Nodup->(∀x∈l,x∈m)->l.length<=m.length
 |[],m,_,_=>kY _
 |x::l,m,nd,h=>by
  have hx:x∈m:=h x (eN ..);have nd':=jf.mp nd;have:=nat_len_sub (l:=l) (m:=m.erase x) nd'.2 λy hy=>by have:y≠x:=λe=>nd'.1 (e ▸ hy);exact(List.mem_erase_of_ne this).mpr (h y (dI _ hy))
  rw[Au hx]at this;have:0<m.length:=List.length_pos_of_mem hx;simp;lia
theorem bits_lt(h:Int):dD h<2^64:=by unfold dD;have:=wP h (show(0:Int)<2^64 by decide);have:=wQ h (show(2^64:Int)≠0 by decide);lia
theorem pth_empty{t:bR}(ok:TOk t)(h:Int):∃n,n<=10*(t.mask+14)/\(pth t n (t.probeStart h)).j∉t.place.toList:=by
 obtain⟨q,hm⟩:=ok.pow;have:∃y,y<t.mask+1/\y∉t.place.toList:=by
  by_cases z:∃y,y<t.mask+1/\y∉t.place.toList
  ·exact z
  ·have:=nat_len_sub (l:=bX (t.mask+1)) (m:=t.place.toList) List.nodup_range λx hx=>by
    by_cases hc:x∈t.place.toList
    ·exact hc
    ·exact absurd ⟨x,kP.mp hx,hc⟩ z
   have:=ok.roomy;simp at *;lia
 obtain⟨y,hy,he⟩:=this;obtain⟨n,hn,e⟩:=D4 q (dR t.mask 13 (dD h % (t.mask+1)) (dD h)).1 y ∅;have h0:(dR t.mask 13 (dD h % (t.mask+1)) (dD h)).2=0:=by rw[yD];exact Nat.div_eq_of_lt (fL (bits_lt h) (by decide))
 have bb:(dR t.mask (13+n) (dD h % (t.mask+1)) (dD h)).1<t.mask+1:=by rw[show 13+n=(12+n)+1 by lia];exact zf t.mask _ _ _
 have e1:(dR t.mask (13+n) (dD h % (t.mask+1)) (dD h)).1=y:=by
  have e2:(dR t.mask (13+n) (dD h % (t.mask+1)) (dD h)).1 % (t.mask+1)=y:=by rw[xG,h0,yy];generalize (dR t.mask 13 (dD h % (t.mask+1)) (dD h)).1=z at e ⊢;rw[hm];exact e
  rwa[wO bb]at e2
 obtain⟨k,hk,ek⟩:=pth_orb t (13+n) (dD h % (t.mask+1)) (dD h);refine⟨k,∅,?_⟩;show(pth t k (stp t.mask (dD h % (t.mask+1)) (dD h))).j∉_;rw[ek];show(dR t.mask (13+n) _ _).1∉_;rw[e1];exact he
theorem least{p:Nat->Prop}:∀(n:Nat),p n->∃m,m<=n/\p m/\∀k,k<m->¬p k
 |0,h=>⟨0,a_ _,h,λk hk=>absurd hk (l6 _)⟩
 |n+1,h=>by
  by_cases z:∃m,m<=n/\p m/\∀k,k<m->¬p k
  ·obtain⟨m,a,b,c⟩:=z;exact⟨m,∅,b,c⟩
  ·refine⟨n+1,a_ _,h,λk hk hp=>z ?_⟩;obtain⟨m,a,b,c⟩:=least k hp;exact⟨m,∅,b,c⟩
theorem go_met{t:bR}(dm:t.dummies=#[])(ris:t.place.toList.Pairwise (· < ·))(oN:Nat->Int)(h:Int):∀(bP n:Nat) (p:jj),n<bP->p.dummy=ae->(pth t n p).j∉t.place.toList->(∀k,k<n->(pth t k p).j∈t.place.toList) -> ((tz t oN h bP p=aa (.empty (pth t n p).j ae)/\∀k i,k<n->t.place[i]?=aa (pth t k p).j->t.slot (pth t k p).j=.live i->oN i≠h) \/ ∃m i,m<n/\t.place[i]?=aa (pth t m p).j/\t.slot (pth t m p).j=.live i/\oN i=h/\tz t oN h bP p=aa (.candidate (pth t m p).j i (pth t (m+1) p))/\∀k i,k<m->t.slot (pth t k p).j=.live i->oN i≠h)
 |0,n,p,hf,_,_,_=>absurd hf (l6 _)
 |bP+1,0,p,hf,hd,he,_=>by
  left;refine⟨?_,λk i hk=>absurd hk (l6 _)⟩;rcases slot_of dm ris p.j with⟨_,e⟩|⟨i,e,_⟩
  ·unfold tz;rw[e,hd];rfl
  ·exact absurd (mU (show t.place.toList[i]?=aa p.j by simpa using e)) he
 |bP+1,n+1,p,hf,hd,he,hb=>by
  rcases slot_of dm ris p.j with⟨e,_⟩|⟨i,e1,e2⟩
  ·exact absurd (hb 0 (qR _)) e
  ·unfold tz;rw[e2];dsimp only;by_cases hc:oN i=h
   ·right;refine⟨0,i,qR _,e1,e2,hc,?_,λk i hk=>absurd hk (l6 _)⟩;rw[if_pos (by simpa using hc)];rfl
   ·rw[if_neg (by simpa using hc)];rcases go_met dm ris oN h bP n (t.advance p) ∅ ((adv_dummy t p).trans hd) he (λk hk=>hb (k+1) ∅)with⟨g1,g2⟩|⟨m,i',g1,g2,g3,g4,g5,g6⟩
    ·refine .inl ⟨g1,λk i' hk h1 h2=>?_⟩;cases k with
     |zero=>
      have:i'=i:=by have cU:t.slot p.j=.live i':=h2;rw[e2]at cU;injection cU with z;exact z.symm
      subst this;exact hc
     |succ k=>exact g2 k i' ∅ h1 h2
    ·refine .inr ⟨m+1,i',∅,g2,g3,g4,g5,λk i' hk h2=>?_⟩;cases k with
     |zero=>
      have:i'=i:=by have cU:t.slot p.j=.live i':=h2;rw[e2]at cU;injection cU with z;exact z.symm
      subst this;exact hc
     |succ k=>exact g6 k i' ∅ h2
theorem ins_list{α:Type}(xs:Array α)(p:Nat)(x:α):(oI xs p x).toList=xs.toList.take p++x::xs.toList.drop p:=by unfold oI;simp[hV,qI,Array.toList_extract,List.extract,qB];exact wv (by simp)
theorem zip_ins{α β:Type}{a:List α}{b:List β}(h:a.length=b.length)(p:Nat)(x:α)(y:β)(q:α×β):q∈(a.take p++x::a.drop p).zip (b.take p++y::b.drop p)↔q=(x,y)\/q∈a.zip b:=by
 rw[List.zip_append (by simp[h]),fZ,Av,bF];have:a.zip b=(a.take p).zip (b.take p)++(a.drop p).zip (b.drop p):=by rw[←List.zip_append (by simp[h]),nh,nh]
 rw[this,fZ];constructor
 ·rintro(h|h|h)
  ·exact .inr (.inl h)
  ·exact .inl h
  ·exact .inr (.inr h)
 ·rintro(h|h|h)
  ·exact .inr (.inl h)
  ·exact .inl h
  ·exact .inr (.inr h)
def Rch(t:bR)(pl:List Nat)(j:Nat)(h:Int):Prop:=∃n,(pth t n (t.probeStart h)).j=j/\∀k,k<n->(pth t k (t.probeStart h)).j∈pl
structure TPl(t:bR)(hs:List Int):Prop where
 ok:TOk t
 len:t.place.size=hs.length
 rch:∀q∈t.place.toList.zip hs,Rch t t.place.toList q.1 q.2
theorem put_ris{pl:Array Nat}(ris:pl.toList.Pairwise (· < ·)){j:Nat}(hj:j∉pl.toList):(oI pl (gA pl j) j).toList.Pairwise (· < ·):=by
 obtain⟨b0,b1,b2⟩:=below_ok ris j;rw[ins_list];have up:∀y∈pl.toList.drop (gA pl j),j<y:=λy hy=>by
  obtain⟨k,hk,e⟩:=l8 hy;rw[wL]at e;rw[j3,g9]at hk;have h1:=b2 (gA pl j+k) ∅ ∅;have e':pl[gA pl j+k]'∅=y:=by simpa using e
  rw[e']at h1;have:y∈pl.toList:=List.mem_of_mem_drop hy;have:j≠y:=λz=>hj (z ▸ this);lia
 have dn:∀x∈pl.toList.take (gA pl j),x<j:=λx hx=>by
  obtain⟨k,hk,e⟩:=l8 hx;rw[Ak]at e;rw[mS,g9]at hk;have h1:=b1 k ∅ ∅;have e':pl[k]'∅=x:=by simpa using e
  lia
 refine Aj.mpr ⟨ris.sublist (List.take_sublist _ _),List.pairwise_cons.mpr ⟨up,ris.sublist (List.drop_sublist _ _)⟩,λx hx y hy=>?_⟩;rcases bF.mp hy with rfl|hy
 ·exact dn x hx
 ·exact qE (dn x hx) (up y hy)
theorem Rch.up{t t':bR}{pl pl':List Nat}{j:Nat}{h:Int}(hm:t.mask=t'.mask)(hs:∀x∈pl,x∈pl')(r:Rch t pl j h):Rch t' pl' j h:=by
 obtain⟨n,e,f⟩:=r;have es:t'.probeStart h=t.probeStart h:=by unfold SetTable.probeStart;rw[hm]
 exact⟨n,by rw[es,←pth_mask hm];exact e,λk hk=>by rw[es,←pth_mask hm];exact hs _ (f k hk)⟩
theorem put_tp{t:bR}{hs:List Int}(T:TPl t hs)(h:Int){n:Nat}(he:(pth t n (t.probeStart h)).j∉t.place.toList)(hb:∀k,k<n->(pth t k (t.probeStart h)).j∈t.place.toList)(hl:(pth t n (t.probeStart h)).j<=t.mask):let t':=(t.put (pth t n (t.probeStart h)).j).1
  let ny:=hs.take (t.put (pth t n (t.probeStart h)).j).2++h::hs.drop (t.put (pth t n (t.probeStart h)).j).2
  t'.dummies=#[]/\t'.place.toList.Pairwise (· < ·)/\(∀j∈t'.place.toList,j<=t'.mask)/\t'.mask=t.mask/\t'.place.size=t.place.size+1/\ny.length=hs.length+1 /\
   ∀q∈t'.place.toList.zip ny,Rch t' t'.place.toList q.1 q.2:=by
 intro t' ny;have e1:t'.place.toList=t.place.toList.take (gA t.place (pth t n (t.probeStart h)).j)++(pth t n (t.probeStart h)).j::t.place.toList.drop (gA t.place (pth t n (t.probeStart h)).j):=ins_list _ _ _;have mem:∀x,x∈t'.place.toList↔x=(pth t n (t.probeStart h)).j\/x∈t.place.toList:=λx=>by
  rw[e1,fZ,bF];have:=congrArg (x∈·) (nh (gA t.place (pth t n (t.probeStart h)).j) t.place.toList);simp only[fZ,eq_iff_iff]at this;rw[←this];constructor
  ·rintro(h|h|h)
   ·exact .inr (.inl h)
   ·exact .inl h
   ·exact .inr (.inr h)
  ·rintro(h|h|h)
   ·exact .inr (.inl h)
   ·exact .inl h
   ·exact .inr (.inr h)
 have Fk:t'.mask=t.mask:=rfl;have bw:t.place.toList.length=hs.length:=by have:=T.len;simpa using this
 refine⟨?_,put_ris T.ok.ris he,λj hj=>?_,rfl,?_,?_,λq hq=>?_⟩
 ·show(if SetTable.has t.dummies _ then _ else t.dummies)=#[];rw[T.ok.dm];simp[SetTable.has]
 ·rcases(mem j).mp hj with rfl|hj
  ·exact hl
  ·exact T.ok.le j hj
 ·rw[←g9,e1];simp;lia
 ·show(hs.take _++h::hs.drop _).length=_;simp;lia
 ·rw[e1]at hq;rcases(zip_ins bw _ _ _ q).mp hq with rfl|hq
  ·exact⟨n,by rw[pth_mask Fk];rfl,λk hk=>by rw[pth_mask Fk];exact(mem _).mpr (.inr (hb k hk))⟩
  ·exact(T.rch q hq).up Fk.symm λx hx=>(mem x).mpr (.inr hx)
theorem adv_le{t:bR}{p:jj}(h:p.j+p.more<=t.mask):(t.advance p).j+(t.advance p).more<=t.mask:=by
 unfold At;split
 ·dsimp only;lia
 ·show(k8 t.mask p.i p.perturb).1+(eO t.mask (k8 t.mask p.i p.perturb).1-(k8 t.mask p.i p.perturb).1)<=t.mask;have:(k8 t.mask p.i p.perturb).1<t.mask+1:=l5 _ (qR _);generalize (k8 t.mask p.i p.perturb).1=i at *;unfold eO;split <;> lia
theorem pth_le{t:bR}:∀(n:Nat) {p:jj},p.j+p.more<=t.mask->(pth t n p).j+(pth t n p).more<=t.mask
 |0,p,h=>h
 |n+1,p,h=>pth_le n (adv_le h)
theorem stp_le{mask i p:Nat}(h:i<mask+1):(stp mask i p).j+(stp mask i p).more<=mask:=by show i+(eO mask i-i)<=mask;unfold eO;split <;> lia
theorem start_le(t:bR)(h:Int)(n:Nat):(pth t n (t.probeStart h)).j<=t.mask:=by have:=pth_le (t:=t) n (p:=t.probeStart h) (stp_le (p:=dD h) (l5 (dD h) (qR t.mask)));lia
def Occ(owner:Array (Option Nat))(j:Nat):Prop:=∃k,owner[j]?=aa (aa k)
theorem free_path(t:bR){owner:Array (Option Nat)}(hs:owner.size=t.mask+1):∀(bP i p j:Nat),i<t.mask+1->ni t.mask owner bP i p=aa j -> ∃n,(pth t n (stp t.mask i p)).j=j/\∀k,k<n->Occ owner (pth t k (stp t.mask i p)).j
 |0,i,p,j,_,h=>by unfold ni at h;cases h
 |bP+1,i,p,j,hi,h=>by
  have occ:∀k,k<=eO t.mask i-i->(owner.getD (i+k) (aa 0)).isNone=aj->Occ owner (i+k):=λk hk e=>by
   have bb:i+k<owner.size:=by have:=stp_le (p:=p) hi;have:i+(eO t.mask i-i)<=t.mask:=this;lia
   rw[tw,ji bb]at e;unfold Occ;rw[ji bb];cases q:owner[i+k]with
   |none=>rw[q]at e;cases e
   |some v=>exact⟨v,rfl⟩
  have at_:∀k,k<=eO t.mask i-i->(pth t k (stp t.mask i p)).j=i+k:=λk hk=>by rw[pth_run t k (stp t.mask i p) hk];rfl
  unfold ni at h;cases q:(bX (eO t.mask i+1-i)).find? (λk=>(owner.getD (i+k) (aa 0)).isNone)with
  |some k=>
   rw[q]at h;cases h;obtain⟨_,as,bs,e1,e2⟩:=List.find?_eq_some_iff_append.mp q;have hk:k<eO t.mask i+1-i:=kP.mp (List.mem_of_find?_eq_some q);refine⟨k,at_ k ∅,λm hm=>?_⟩;rw[at_ m ∅];refine occ m ∅ ?_;have:m∈as:=by
    have hl:as.length=k:=by have:=congrArg (λl=>l[as.length]?) e1;simp only[mT (a_ _),Ah,List.getElem?_cons_zero]at this;rw[c_]at this;obtain⟨hh,e⟩:=this;rw[List.getElem_range]at e;exact e
    have:=congrArg (λl=>l[m]?) e1;rw[gz ∅,wq ∅]at this;exact mU this.symm
   have:=e2 m this;cases q2:(owner.getD (i+m) (aa 0)).isNone with
   |false=>rfl
   |true=>rw[q2]at this;cases this
  |none=>
   rw[q]at h;obtain⟨n,f1,f2⟩:=free_path t hs bP _ _ j (l5 _ (qR _)) h;refine⟨eO t.mask i-i+1+n,by rw[pth_add,pth_leap];exact f1,λk hk=>?_⟩;by_cases hc:k<eO t.mask i-i+1
   ·rw[at_ k ∅];refine occ k ∅ ?_;have:=As.mp q k (kP.mpr (by unfold eO at hc ⊢;split at hc <;> split <;> lia));exact wH.mpr this
   ·have e:k=eO t.mask i-i+1+(k-(eO t.mask i-i+1)):=∅
    rw[e,pth_add,pth_leap];exact f2 _ ∅
def LaidR(t:bR)(owner:Array (Option Nat))(hs:List Int):Prop:=∀(j k:Nat),owner[j]?=aa (aa k)->∃h,hs[k]?=aa h/\∃n,(pth t n (t.probeStart h)).j=j/\∀m,m<n->Occ owner (pth t m (t.probeStart h)).j
theorem layClean_ok2(t:bR){q:Nat}(hm:t.mask+1=2^q)(NY:Array Int)(hn:NY.size<=t.mask):∃owner,zZ t.mask NY=aa owner/\Laid t.mask owner NY.size/\LaidR t owner NY.toList:=by
 unfold zZ;have gen:∀(l pre:List Int) (owner:Array (Option Nat)),Laid t.mask owner pre.length->LaidR t owner pre->pre.length+l.length<=t.mask+1->∃owner',l.foldl (λaH h=>do
   let (owner,k) ←aH
   let j ←ni t.mask owner (oM t.mask) (dD h % (t.mask+1)) (dD h)
   pure (owner.setIfInBounds j (aa k),k+1)) (aa (owner,pre.length))=aa (owner',(pre++l).length)/\Laid t.mask owner' (pre++l).length/\LaidR t owner' (pre++l):=by
  intro l
  induction l with
  |nil=>intro pre owner L R _;rw[g_];exact⟨owner,rfl,L,R⟩
  |cons h l ih=>
   intro pre owner L R hk;simp only[ff]at hk;obtain⟨j,f1,L2⟩:=M8 hm L ∅ h;obtain⟨n,p1,p2⟩:=free_path t L.1 _ _ _ _ (l5 _ (qR _)) f1;have hjl:j<owner.size:=by rw[L.1,←p1];exact Nat.lt_succ_of_le (start_le t h n)
   have grow:∀x,Occ owner x->Occ (owner.setIfInBounds j (aa pre.length)) x:=λx ⟨k,e⟩=>by
    unfold Occ;rw[Array.getElem?_setIfInBounds];by_cases hx:j=x
    ·rw[if_pos hx,if_pos ∅];exact⟨_,rfl⟩
    ·rw[if_neg hx];exact⟨k,e⟩
   have R2:LaidR t (owner.setIfInBounds j (aa pre.length)) (pre++[h]):=λx k e=>by
    rw[Array.getElem?_setIfInBounds]at e;by_cases hx:j=x
    ·subst hx;rw[if_pos rfl,if_pos ∅]at e;cases e;exact⟨h,by simp,n,p1,λm ug=>grow _ (p2 m ug)⟩
    ·rw[if_neg hx]at e;obtain⟨h',e1,n',e2,e3⟩:=R x k e;have mj:k<pre.length:=(c_.mp e1).1;exact⟨h',by rw[gz mj];exact e1,n',e2,λm ug=>grow _ (e3 m ug)⟩
   have L2':Laid t.mask (owner.setIfInBounds j (aa pre.length)) (pre++[h]).length:=by rw[et];exact L2
   obtain⟨owner',e,L3,R3⟩:=ih (pre++[h]) _ L2' R2 (by simp;lia);refine⟨owner',?_,by simpa using L3,by simpa using R3⟩;rw[kX];show l.foldl _ ((ni t.mask owner (oM t.mask) (dD h % (t.mask+1)) (dD h)).bind λj=>aa (owner.setIfInBounds j (aa pre.length),pre.length+1))=_;rw[f1];have e':=e;rw[qB]at e';rw[et]at e';exact e'
 obtain⟨owner',e,L,R⟩:=gen NY.toList [] (Array.replicate (t.mask+1) ae) ⟨by simp,by simp⟩ (λj k e=>by
  rw[Array.getElem?_replicate]at e;split at e <;> cases e) (by simp;lia)
 refine⟨owner',?_,by simpa using L,by simpa using R⟩;rw[←Array.foldl_toList];have e':=congrArg (Option.map (·.1)) e;exact e'
theorem laid_tp{mask:Nat}(finger moves:Nat)(led plain:Bool){q:Nat}(hm:mask+1=2^q)(hz:mask∈[7,31,127,511,2047,8191])(es:Array (Int×ai))(hn:es.size*5<mask*3):∃t order,zY mask finger moves led plain (es.map (·.1))=aa (t,order)/\t.led=led/\t.plain=plain/\t.mask=mask/\t.moves=moves/\(order.filterMap (es[·]?)).toList.Perm es.toList/\TPl t ((order.filterMap (es[·]?)).toList.map (·.1)):=by
 let t0:bR:={mask:=mask,place:=#[],dummies:=#[],finger:=finger,led:=led,moves:=moves,plain:=plain}
 obtain⟨owner,e,L,R⟩:=layClean_ok2 t0 (q:=q) hm (es.map (·.1)) (by show(es.map _).size<=mask;simp;lia)
 let live:=(bX (mask+1)).filterMap λj=>(owner.getD j ae).map (j,·)
 let t:bR:={mask:=mask,place:=(live.map (·.1)).toArray,dummies:=#[],finger:=finger,led:=led,moves:=moves,plain:=plain}
 have eL:zY mask finger moves led plain (es.map (·.1))=aa (t,(live.map (·.2)).toArray):=by unfold zY;have e':zZ mask (es.map (·.1))=aa owner:=e;rw[e'];rfl
 have memL:∀x:Nat×Nat,x∈live↔x.1<mask+1/\owner[x.1]?=aa (aa x.2):=λx=>by
  show x∈(bX (mask+1)).filterMap _↔_;rw[Ey];constructor
  ·rintro⟨j,hj,e⟩;have ge:j<owner.size:=by rw[L.1];exact kP.mp hj
   rw[tw,ji ge]at e;simp only[wR,zR]at e;obtain⟨k,e1,rfl⟩:=e;exact⟨kP.mp hj,by rw[ji ge,e1]⟩
  ·rintro⟨h1,h2⟩;exact⟨x.1,kP.mpr h1,by rw[tw,h2];rfl⟩
 have e2:live.map (·.2)=owner.toList.filterMap id:=by
  show((bX (mask+1)).filterMap _).map _=_;rw[EX];have:owner.toList=(bX (mask+1)).map λj=>owner.getD j ae:=by
   refine tf λi=>?_;rw[jC];by_cases hi:i<mask+1
   ·rw[wq hi];simp[tw,show i<owner.size by rw[L.1];exact hi]
   ·rw[nc (by rw[g9,L.1];show mask+1<=i;lia),nc (by simpa using hi)];rfl
  rw[this,List.filterMap_map];refine fm_congr' λj _=>?_;show Option.map (λx=>x.snd) (Option.map (λx=>(j,x)) (owner.getD j ae))=owner.getD j ae;cases owner.getD j ae <;> rfl
 have pOrd:(live.map (·.2)).Perm (bX es.size):=by rw[e2];have:=L.2;simpa using this
 have bb:∀k∈live.map (·.2),k<es.size:=λk hk=>kP.mp (pOrd.mem_iff.mp hk);have fmE:∀l:List (Nat×Nat),(∀x∈l,x.2<es.size)->((l.map (·.2)).filterMap (es[·]?)).map (·.1)=l.map λx=>((es[x.2]?).map (·.1)).getD 0:=by
  intro l
  induction l with
  |nil=>intro _;rfl
  |cons x r ih=>intro h;have hx:=h x (eN ..);rw[eu,kQ,ji hx];dsimp only;rw[eu,eu,ih λy hy=>h y (dI _ hy),ji hx];rfl
 have Fq:∀x∈live,x.2<es.size:=λx hx=>bb _ (bO.mpr ⟨x,hx,rfl⟩);have toL:(((live.map (·.2)).toArray).filterMap (es[·]?)).toList=(live.map (·.2)).filterMap (es[·]?):=by simp
 have pE:((live.map (·.2)).filterMap (es[·]?)).Perm es.toList:=by have:=pOrd.filterMap (es[·]?);rwa[filterMap_getElem?_range]at this
 have plen:live.length=es.size:=by have:=pOrd.length_eq;simpa using this
 have mpl:∀x,Occ owner x->x∈t.place.toList:=λx ⟨k,hk⟩=>by
  show x∈(live.map (·.1)).toArray.toList;have hx:x<mask+1:=by have:=(kZ.mp hk).1;rw[L.1]at this;exact this
  exact bO.mpr ⟨(x,k),(memL _).mpr ⟨hx,hk⟩,rfl⟩
 refine⟨t,_,eL,rfl,rfl,rfl,rfl,by rw[toL];exact pE,⟨⟨rfl,?_,λj hj=>?_,hz,?_⟩,?_,λx hx=>?_⟩⟩
 ·show(live.map (·.1)).Pairwise (· < ·);have sub:(live.map (·.1)).Sublist (bX (mask+1)):=by
   show(((bX (mask+1)).filterMap _).map _).Sublist _;rw[EX];refine fm_sub _ λj k e=>?_;rw[Option.map_map]at e;cases q:owner.getD j ae with
   |none=>rw[q]at e;cases e
   |some v=>rw[q]at e;exact(dW e).symm
  exact List.pairwise_lt_range.sublist sub
 ·have ge:j∈live.map (·.1):=hj;obtain⟨x,hx,rfl⟩:=bO.mp ge;exact Nat.le_of_lt_succ ((memL x).mp hx).1
 ·show(live.map (·.1)).toArray.size*5<mask*3;simp[plen];exact hn
 ·rw[toL];show(live.map (·.1)).toArray.size=_;rw[fmE live Fq];simp
 ·rw[toL,fmE live Fq]at hx;have q_:x∈(live.map (·.1)).zip (live.map λx=>((es[x.2]?).map (·.1)).getD 0):=hx;rw[List.zip_map']at q_;obtain⟨y,hy,rfl⟩:=bO.mp q_;obtain⟨h1,h2⟩:=(memL y).mp hy;obtain⟨h,g1,n,g2,g3⟩:=R _ _ h2;have g1':((es[y.2]?).map (·.1))=aa h:=by have:(es.map (·.1)).toList[y.2]?=aa h:=g1;simpa using this
  show Rch t t.place.toList y.1 (((es[y.2]?).map (·.1)).getD 0);rw[g1'];have tU:t0.mask=t.mask:=rfl;refine Rch.up (t:=t0) tU (λx hx=>hx) ⟨n,g2,λm ug=>mpl _ (g3 m ug)⟩
where
 fm_congr' {α β:Type}{f g:α->Option β}:∀{l:List α},(∀k∈l,f k=g k)->l.filterMap f=l.filterMap g
  |[],_=>rfl
  |x::l,h=>by rw[kQ,kQ,h x (eN ..),fm_congr' λk hk=>h k (dI _ hk)]
 fm_sub {f:Nat->Option Nat}:∀(l:List Nat),(∀j k,f j=aa k->k=j)->(l.filterMap f).Sublist l
  |[],_=>.slnil
  |x::l,h=>by
   rw[kQ];cases q:f x with
   |none=>exact(fm_sub l h).cons _
   |some k=>rw[h x k q];exact(fm_sub l h).cons₂ _
section
variable{P:aM}{w:aF}{A:aO}{E:ai->am->Prop}{s:am}
structure Keyd(P:aM)(w:aF)(K:Type)[DecidableEq K] where
 is:aA->K->ai->Prop
 hash:K->Int
 room:aO->Prop
 keep:∀{h h':aA}{k:K}{v:ai},is h k v->(∀b o,h.get? b=aa o->o.cls=.type "tuple"->h'.get? b=aa o)->is h' k v
 ref:∀{h:aA}{k:K}{v:ai},is h k v->∃a o,v=.ref a/\h.get? a=aa o
 eqBool:∀{A:aO}{E:ai->am->Prop}{s:am}{x y:K}{u v:ai}{Q:Bool->am->Prop},room A->is s.heap x u->is s.heap y v->Q (decide (x=y)) s->aq (au P w) A (PySem.eqBool u v) Q E s
 quiet:∀{A:aO}{E:ai->am->Prop}{s:am}{k:K}{v:ai}{Q:Bool->am->Prop},is s.heap k v->Q ah s->aq (au P w) A (tD 8 v) Q E s
 cls:∀{A:aO}{E:ai->am->Prop}{s:am}{k:K}{v:ai}{Q:Bool->am->Prop},is s.heap k v->Q aj s->aq (au P w) A (tE 8 v) Q E s
 hbv:∀{A:aO}{E:ai->am->Prop}{s:am}{k:K}{v:ai}{Q:Bool->am->Prop},is s.heap k v->Q aj s->aq (au P w) A (qS 8 v) Q E s
variable{K:Type}[DecidableEq K]{kd:Keyd P w K}
def Els(kd:Keyd P w K)(h:aA)(es:List (Int×ai))(ks:List K):Prop:=es.length=ks.length/\∀q∈es.zip ks,q.1.1=kd.hash q.2/\kd.is h q.2 q.1.2
theorem seen_not{x:ai}{k:K}(hx:kd.is s.heap k x):∀(ys:List ai),(∀y∈ys,∃k,kd.is s.heap k y)->∀{Q:Bool->am->Prop},Q aj s->aq (au P w) A (E9 x ys) Q E s:=by
 intro ys hy Q q;unfold E9;refine ap ?_;refine tF _ (λrest r s'=>r.1=ae/\s'=s/\∀y∈rest,∃k,kd.is s.heap k y) _ ?_ ?_ _ _ ⟨rfl,rfl,hy⟩
 ·rintro y rest r s' ⟨hr,rfl,fg⟩;obtain⟨k',hy'⟩:=fg y eN;have next:∀z,z=(ForInStep.yield ((ae:Option Bool),()):ForInStep (Option Bool×Unit))->(∃b',z=ForInStep.yield b'/\b'.1=ae):=λz e=>⟨_,e,rfl⟩
  obtain⟨a,o,rfl,ho⟩:=kd.ref hx;obtain⟨b,o',rfl,gb⟩:=kd.ref hy';dsimp only;split
  ·exact aD ⟨rfl,rfl,λz hz=>fg z (dI _ hz)⟩
  ·refine ap (kd.quiet hx ?_);simp only[j9,eC,if_false];refine ap (kd.quiet hy' ?_);simp only[j9,eC,if_false];refine ap (kd.cls hx ?_);simp only[eC,if_false];refine ap (kd.cls hy' ?_);simp only[eC,if_false];exact aD ⟨rfl,rfl,λz hz=>fg z (dI _ hz)⟩
 ·rintro⟨r1,r2⟩ s' ⟨hr,rfl,_⟩;simp only at hr;subst hr;exact aD q
theorem search_eq(a:af)(x:ai)(h:Int)(adding:Bool)(bP:Nat)(stand:Option jj):qT a x h adding (bP+1) stand=(do
  let (es,_,t) ←setState a
  if t.gaveWay then j5 "set:on-a-table-that-gave-way"
  let aa met:=t.probe (λi=>(es[i]?.map (·.1)).getD 0) h (stand.getD (t.probeStart h))|j5 "internal:set-table-without-an-empty-slot"
  match met with
  |.empty j dummy=>
   match dummy with
   |none=>return .free j aj
   |some d=>
    if adding&&t.slot d != .dummy then rule "set.search.the-dummy-was-taken";return ←qT a x h adding bP ae
    return .free d ah
  |.candidate j i next=>
   if !t.led then
    if ←E9 x ((es.filter (·.1 == h)).toList.map (·.2))then j5 "set:the-search-would-show-the-table"
   let aa (_,y):=es[i]?|j5 "internal:set-entry"
   let equal ←jX [y] (eqBool y x)
   let (es',_,t') ←setState a
   if adding&&equal then return .there ae
   let aa same:=t'.sameMemory t.moves t.mask|j5 "set.changed-during-lookup:is-the-new-block-at-the-old-address"
   let still ←match (if same then t'.slot j else .empty)with
    |.live i'=>match es'[i']? with
     |some (_,y')=>do pure (if ←isSame y' y then aa i' else ae)
     |none=>pure ae
    |_=>pure ae
   match still with
   |none=>rule "set.search.anew";qT a x h adding bP ae
   |some i'=>if equal then return .there (aa i')else qT a x h adding bP (aa next)):=rfl
theorem same_self{a:af}{o:Obj}{Q:Bool->am->Prop}(h:s.heap.get? a=aa o)(q:Q ah s):aq (au P w) A (isSame (.ref a) (.ref a)) Q E s:=by unfold isSame;dsimp only;rw[if_pos (by simp)];exact aD q
theorem live_at{t:bR}(ok:TOk t){i:Nat}(hi:i<t.place.size):t.slot t.place[i]=.live i:=by
 rcases slot_of ok.dm ok.ris t.place[i]with⟨e,_⟩|⟨i',e1,e2⟩
 ·exact absurd (by simp) e
 ·rw[e2];obtain⟨h1,h2⟩:=kZ.mp e1;have:i'=i:=by
   rcases Nat.lt_trichotomy i' i with z|z|z
   ·have:=qQ.mp ok.ris i' i (by simpa using h1) (by simpa using hi) z;simp at this;lia
   ·exact z
   ·have:=qQ.mp ok.ris i i' (by simpa using hi) (by simpa using h1) z;simp at this;lia
  rw[this]
theorem searchV{a:af}{es:Array (Int×ai)}{ep:Nat}{t:bR}{ks:List K}{k:K}{x:ai}(hr:kd.room A)(ho:s.heap.get? a=aa {cls:=.type "set",dict:=ae,data:=.set es ep t})(hf:t.fits es.size=ah)(T:TPl t (es.toList.map (·.1))) (els:Els kd s.heap es.toList ks) (hx:kd.is s.heap k x) {N:Nat} (he:(pth t N (t.probeStart (kd.hash k))).j∉t.place.toList) (hb:∀m,m<N->(pth t m (t.probeStart (kd.hash k))).j∈t.place.toList) (hN:N<10*(t.mask+15)){Q:SetFound->am->Prop} (q1:k∈ks->Q (.there ae) s) (q2:k∉ks->Q (.free (pth t N (t.probeStart (kd.hash k))).j aj) s):∀(bP m:Nat) (stand:Option jj),N-m<bP->m<=N->stand.getD (t.probeStart (kd.hash k))=pth t m (t.probeStart (kd.hash k)) -> (∀j i k',j<m->t.slot (pth t j (t.probeStart (kd.hash k))).j=.live i->ks[i]?=aa k'->k'≠k)->aq (au P w) A (qT a x (kd.hash k) ah bP stand) Q E s
 |0,m,stand,h,_,_,_=>absurd h (l6 _)
 |bP+1,m,stand,h1,h2,h3,h4=>by
  rw[search_eq];refine ap (j4 ho rfl hf ?_);dsimp only;have hg:t.gaveWay=aj:=by unfold SetTable.gaveWay;have:=T.ok.most.2.2;simp[this]
  rw[hg];simp only[eC,if_false];have dE:∀i j,t.place[i]?=aa j->∃(hv:Int×ai) (k':K),es[i]?=aa hv/\ks[i]?=aa k'/\hv.1=kd.hash k'/\kd.is s.heap k' hv.2:=λi j hi=>by
   have bb:i<es.size:=by have:=(kZ.mp hi).1;have:=T.len;simp at this;lia
   have hlk:i<ks.length:=by have:=els.1;simp at this;lia
   refine⟨es[i],ks[i],ji bb,d7 hlk,?_⟩;exact els.2 (es[i],ks[i]) (mU (i:=i) (by rw[Aa];exact⟨by simp[bb],by simp[hlk]⟩))
  rcases go_met T.ok.dm T.ok.ris (λi=>((es[i]?).map (·.1)).getD 0) (kd.hash k) (10*oM t.mask) (N-m) (pth t m (t.probeStart (kd.hash k))) (by unfold oM;lia) (pth_dummy t m _)
    (by rw[←pth_add,show m+(N-m)=N by lia];exact he) (λj hj=>by rw[←pth_add];exact hb _ ∅)with⟨g1,g2⟩|⟨n,i,g1,g2,g3,g4,g5,g6⟩
  ·have e1:t.probe (λi=>((es[i]?).map (·.1)).getD 0) (kd.hash k) (stand.getD (t.probeStart (kd.hash k)))=aa (.empty (pth t N (t.probeStart (kd.hash k))).j ae):=by
    rw[h3];show tz t _ _ _ _=_;rw[g1,←pth_add,show m+(N-m)=N by lia]
   rw[e1];refine aD (q2 λhk=>?_);obtain⟨i,hi,ek⟩:=l8 hk;have hip:i<t.place.size:=by have:=T.len;have:=els.1;simp at *;lia
   obtain⟨hv,k',e2,e3,e4,e5⟩:=dE i _ (ji hip);have ek':k'=k:=by rw[d7 hi,ek]at e3;exact(dW e3).symm
   subst ek';obtain⟨n,r1,r2⟩:=T.rch (t.place[i],hv.1) (mU (i:=i) (by rw[Aa];exact⟨by simp[hip],by rw[jC,wE,e2];rfl⟩));rw[e4]at r1 r2;have iB:t.place[i]∈t.place.toList:=by simp
   have hnN:n<N:=by
    rcases Nat.lt_trichotomy n N with z|z|z
    ·exact z
    ·subst z;rw[r1]at he;exact absurd iB he
    ·exact absurd (r2 N z) he
   have hsl:t.slot (pth t n (t.probeStart (kd.hash k'))).j=.live i:=by rw[r1];exact live_at T.ok hip
   by_cases hc:n<m
   ·exact h4 n i k' hc hsl e3 rfl
   ·have:=g2 (n-m) i ∅ (by rw[←pth_add,show m+(n-m)=n by lia,r1];exact ji hip) (by rw[←pth_add,show m+(n-m)=n by lia];exact hsl);exact this (by rw[e2];exact e4)
  ·rw[←pth_add]at g2 g3;have e1:t.probe (λi=>((es[i]?).map (·.1)).getD 0) (kd.hash k) (stand.getD (t.probeStart (kd.hash k)))=aa (.candidate (pth t (m+n) (t.probeStart (kd.hash k))).j i (pth t (m+n+1) (t.probeStart (kd.hash k)))):=by rw[h3];show tz t _ _ _ _=_;rw[g5,←pth_add,←pth_add,wI]
   rw[e1];dsimp only;obtain⟨hv,k',e2,e3,e4,e5⟩:=dE i _ g2;have rest:aq (au P w) A (do
     let aa (_,y):=es[i]?|j5 "internal:set-entry"
     let equal ←jX [y] (PySem.eqBool y x)
     let (es',_,t') ←setState a
     if ah&&equal then return .there ae
     let aa same:=t'.sameMemory t.moves t.mask|j5 "set.changed-during-lookup:is-the-new-block-at-the-old-address"
     let still ←match (if same then t'.slot (pth t (m+n) (t.probeStart (kd.hash k))).j else .empty)with
      |.live i'=>match es'[i']? with
       |some (_,y')=>do pure (if ←isSame y' y then aa i' else ae)
       |none=>pure ae
      |_=>pure ae
     match still with
     |none=>rule "set.search.anew";qT a x (kd.hash k) ah bP ae
     |some i'=>if equal then return .there (aa i')else qT a x (kd.hash k) ah bP (aa (pth t (m+n+1) (t.probeStart (kd.hash k))))) Q E s:=by
    rw[e2];dsimp only;refine ap (iw (kd.eqBool hr e5 hx ?_));refine ap (j4 ho rfl hf ?_);dsimp only;by_cases hc:k'=k
    ·rw[decide_eq_true hc];simp only[Bool.and_self,if_true];exact aD (q1 (by subst hc;exact mU e3))
    ·rw[decide_eq_false hc];simp only[ww,eC,if_false];have hsm:t.sameMemory t.moves t.mask=aa ah:=by unfold SetTable.sameMemory;simp
     rw[hsm];dsimp only;rw[if_pos rfl,g3];dsimp only;rw[e2];dsimp only;obtain⟨b,ob,eb,hob⟩:=kd.ref e5;rw[eb];refine ap (same_self hob ?_);rw[if_pos rfl];refine ap (aD ?_);dsimp only;refine searchV hr ho hf T els hx he hb hN q1 q2 bP (m+n+1) _ ∅ ∅ rfl λj i' k'' hj hs hk=>?_;by_cases c1:j<m
     ·exact h4 j i' k'' c1 hs hk
     ·by_cases c2:j=m+n
      ·subst c2;rw[g3]at hs;injection hs with z;subst z;rw[e3]at hk;cases hk;exact hc
      ·intro z;subst z;have ny:t.slot (pth t (j-m) (pth t m (t.probeStart (kd.hash k'')))).j=.live i':=by rw[←pth_add,show m+(j-m)=j by lia];exact hs
       have:=g6 (j-m) i' ∅ ny;rcases slot_of T.ok.dm T.ok.ris (pth t j (t.probeStart (kd.hash k''))).j with⟨_,y⟩|⟨i2,y1,y2⟩
       ·rw[hs]at y;cases y
       ·rw[hs]at y2;injection y2 with z2;subst z2;obtain⟨uh,k2,f2,f3,f4,f5⟩:=dE i' _ y1;rw[hk]at f3;cases f3;exact this (by rw[f2];exact f4)
   cases hl:t.led with
   |true=>simp only[j9,eC,if_false];exact rest
   |false=>
    simp only[qU,if_true];refine ap (seen_not (kd:=kd) hx _ (λy hy=>?_) ?_)
    ·obtain⟨e,he',rfl⟩:=bO.mp hy;have he2:e∈es.toList:=by rw[Array.toList_filter]at he';exact(lP.mp he').1
     obtain⟨i3,hi3,e6⟩:=l8 he2;have hik:i3<ks.length:=by rw[←els.1];exact hi3
     exact⟨ks[i3],by have:=(els.2 (es.toList[i3],ks[i3]) (mU (i:=i3) (by rw[Aa];exact⟨d7 hi3,d7 hik⟩))).2;rw[e6]at this;exact this⟩
    ·simp only[eC,if_false];exact rest
end
section
variable{P:aM}{w:aF}{A:aO}{E:ai->am->Prop}{s:am}{K:Type}[DecidableEq K]
def elV(kd:Keyd P w K)(p:K×ai):Int×ai:=(kd.hash p.1,p.2)
structure SetV(kd:Keyd P w K)(h:aA)(a:af)(ps:List (K×ai)):Prop where
 ex:∃(es:Array (Int×ai)) (ep:Nat) (t:bR) (qs:List (K×ai)),h.get? a=aa {cls:=.type "set",dict:=ae,data:=.set es ep t}/\qs.Perm ps/\es.toList=qs.map (elV kd)/\es.size<4090/\TPl t (es.toList.map (·.1))/\t.led=(!dv w)/\(ps≠[]->t.plain=aj)
variable{kd:Keyd P w K}
theorem SetV.at{h h':aA}{a:af}{ps:List (K×ai)}(S:SetV kd h a ps)(k:∀o,h.get? a=aa o->h'.get? a=aa o):SetV kd h' a ps:=by obtain⟨es,ep,t,qs,e,r⟩:=S.ex;exact⟨es,ep,t,qs,k _ e,r⟩
theorem TPl.fits{t:bR}{hs:List Int}(T:TPl t hs){n:Nat}(hn:n=hs.length):t.fits n=ah:=by unfold SetTable.fits SetTable.fill;have:=T.len;have:=T.ok.roomy;rw[T.ok.dm];simp;lia
def addV(ps:List (K×ai))(p:K×ai):List (K×ai):=if p.1∈ps.map (·.1)then ps else ps++[p]
theorem relay_eq(a:af)(wanted:Nat):setRelay a wanted=(do
  let (es,_,t) ←setState a
  if EQ wanted > ba then j5 "set:memory"
  let (es,t) ←(do
   let aa (t,order):=t.relaid (es.map (·.1)) wanted|j5 "internal:set-table-without-room"
   let es':=order.filterMap (es[·]?)
   if es'.size != es.size then j5 "internal:set-table-lost-an-element"
   pure (es',t))
  storeSet a es t):=rfl
theorem grow_ok{mask n:Nat}(hm:mask∈[7,31,127,511,2047,8191])(h0:(n-1)*5<mask*3)(h1:mask*3<=n*5)(h2:n<4090):∃m' q,EQ (lY n)=m'+1/\m'+1=2^q/\m'∈[7,31,127,511,2047,8191]/\n*5<m' * 3/\m'+1<=ba:=by
 simp only[bF,f_,or_false]at hm;rcases hm with e|e|e|e|e|e <;> subst e
 ·obtain rfl:n=5:=∅
  exact⟨31,5,by decide,rfl,by decide,by decide,by decide⟩
 ·obtain rfl:n=19:=∅
  exact⟨127,7,by decide,rfl,by decide,by decide,by decide⟩
 ·obtain rfl:n=77:=∅
  exact⟨511,9,by decide,rfl,by decide,by decide,by decide⟩
 ·obtain rfl:n=307:=∅
  exact⟨2047,11,by decide,rfl,by decide,by decide,by decide⟩
 ·obtain rfl:n=1229:=∅
  exact⟨8191,13,by decide,rfl,by decide,by decide,by decide⟩
 ·lia
theorem els_of{h:aA}{es:List (Int×ai)}{qs:List (K×ai)}(e:es=qs.map (elV kd))(hk:∀p∈qs,kd.is h p.1 p.2):Els kd h es (qs.map (·.1)):=by subst e;refine⟨by simp,λq hq=>?_⟩;rw[List.zip_map']at hq;obtain⟨p,hp,rfl⟩:=bO.mp hq;exact⟨rfl,hk p hp⟩
theorem set_addV{a:af}{ps:List (K×ai)}{k:K}{x:ai}{Q:Bool->am->Prop}(hr:kd.room A)(S:SetV kd s.heap a ps)(hk:∀p∈ps,kd.is s.heap p.1 p.2)(hx:kd.is s.heap k x)(hn:ps.length<4000)(h:∀h' b,jB a s.heap h'->SetV kd h' a (addV ps (k,x))->Q b {s with heap:=h'}):aq (au P w) A (z5 a x (kd.hash k)) Q E s:=by
 obtain⟨es,ep,t,qs,ho,hp,rm,hsz,T,j_,cT⟩:=S.ex;have hqk:∀p∈qs,kd.is s.heap p.1 p.2:=λp hq=>hk p (hp.mem_iff.mp hq);have els:=els_of rm hqk;have bw:es.size=ps.length:=by have e1:=congrArg lS rm;have e2:=hp.length_eq;simp at e1;lia
 have hf:t.fits es.size=ah:=T.fits (by simp);have memk:k∈qs.map (·.1)↔k∈ps.map (·.1):=(hp.map (·.1)).mem_iff;obtain⟨bx,ox,rfl,hox⟩:=kd.ref hx;unfold z5 setAddHashedIn;refine iw (ap (j4 ho rfl hf ?_));dsimp only;have hbs:byScan (.ref bx) es=aj:=by unfold byScan;simp[Value.scannable]
 rw[hbs];simp only[eC,if_false];obtain⟨N0,hN0,hE0⟩:=pth_empty T.ok (kd.hash k);obtain⟨N,hN,hE,hB⟩:=least (p:=λn=>(pth t n (t.probeStart (kd.hash k))).j∉t.place.toList) N0 hE0;have hB':∀m,m<N->(pth t m (t.probeStart (kd.hash k))).j∈t.place.toList:=λm hm=>Classical.not_not.mp (hB m hm);have h8:=T.ok.most.1;unfold setSearch;refine ap (searchV hr ho hf T els hx hE hB' ∅ (λiB=>?_) (λFs=>?_) 100000 0 ae ∅ (kY _) rfl λj i k' hj=>absurd hj (l6 _))
 ·refine aD (h s.heap _ (ER a s.heap) ?_);unfold addV;rw[if_pos (memk.mp iB)];exact S
 ·dsimp only;refine ap (j4 ho rfl hf ?_);dsimp only;have bb:=start_le t (kd.hash k) N;obtain⟨p1,p2,p3,p4,p5,p6,p7⟩:=put_tp T (kd.hash k) hE hB' bb;have pl4:(t.put (pth t N (t.probeStart (kd.hash k))).j).1.led=t.led:=rfl;have hpp:(t.put (pth t N (t.probeStart (kd.hash k))).j).2<=es.size:=by
   have:=(below_ok T.ok.ris (pth t N (t.probeStart (kd.hash k))).j).1;have e:t.place.size=es.size:=by have:=T.len;simpa using this
   rw[←e];exact this
  generalize hPut:t.put (pth t N (t.probeStart (kd.hash k))).j=TP at p1 p2 p3 p4 p5 p6 p7 pl4 hpp ⊢;obtain⟨t1,pp⟩:=TP;dsimp only at p1 p2 p3 p4 p5 p6 p7 pl4 hpp ⊢;have AQ:(oI es pp (kd.hash k,.ref bx)).toList=(qs.take pp++(k,.ref bx)::qs.drop pp).map (elV kd):=by rw[ins_list,rm,m8,eu,List.map_take,List.map_drop];rfl
  have hhs:(oI es pp (kd.hash k,.ref bx)).toList.map (·.1)=(es.toList.map (·.1)).take pp++kd.hash k::(es.toList.map (·.1)).drop pp:=by rw[ins_list,m8,eu,List.map_take,List.map_drop]
  have o4:(qs.take pp++(k,Value.ref bx)::qs.drop pp).Perm (addV ps (k,.ref bx)):=by unfold addV;rw[if_neg (λz=>Fs (memk.mpr z))];refine List.perm_middle.trans ?_;rw[nh];exact(hp.cons _).trans (List.perm_append_singleton _ _).symm
  have AK:(oI es pp (kd.hash k,.ref bx)).size=es.size+1:=by rw[←g9,ins_list];simp;lia
  have dj:addV ps (k,Value.ref bx)≠[]:=by unfold addV;rw[if_neg (λz=>Fs (memk.mpr z))];simp
  rw[←hhs]at p6 p7;generalize hes2:oI es pp (kd.hash k,Value.ref bx)=es1 at AQ hhs AK p6 p7 ⊢;have tail:∀t2:bR,t2={t1 with plain:=aj}->aq (au P w) A (do
    storeSet a es1 t2
    if(!aj&&t2.tooFull)=ah then do
      setRelay a (lY (es.size+1))
      pure ah
     else pure ah) (λr s'=>∃h',r=ah/\s'={s with heap:=h'}/\jB a s.heap h'/\SetV kd h' a (addV ps (k,.ref bx))) E s:=by
   intro t2 e2;have jH:t2.led=(!dv w):=by rw[e2];exact pl4.trans j_
   have d8:t2.plain=aj:=by rw[e2]
   have d1:t2.dummies=#[]:=by rw[e2];exact p1
   have d2:t2.place=t1.place:=by rw[e2]
   have d3:t2.mask=t1.mask:=by rw[e2]
   have rch2:∀q∈t2.place.toList.zip (es1.toList.map (·.1)),Rch t2 t2.place.toList q.1 q.2:=λq hq=>by rw[d2]at hq ⊢;exact(p7 q hq).up d3.symm λx hx=>hx
   have AG:t2.fill=es.size+1:=by unfold SetTable.fill;rw[d1,d2,p5];have:=T.len;simp at this ⊢;lia
   have Fl:t2.mask∈[7,31,127,511,2047,8191]:=by rw[d3,p4];exact T.ok.sz
   have N7:t2.fits es1.size=ah:=by unfold SetTable.fits;rw[AG,AK,d2,p5];have h1:=T.len;have h2:=T.ok.roomy;have h3:=T.ok.most.2.1;simp at h1 ⊢;rw[d3,p4];lia
   refine ap (z6 ho rfl ?_ (z7 (qE (show es1.size<4090 by lia) (by decide))));have o1:=jz.put (es':=es1) (t':=t2) ho;have gG:=qJ s.heap a (Obj.putSet es1 t2);by_cases nj:t2.tooFull=ah
   ·rw[nj];simp only[qU,Bool.and_self,if_true];have NZ:t2.mask*3<=(es.size+1)*5:=by unfold SetTable.tooFull at nj;rw[AG]at nj;simpa using nj
    have hro:(es.size+1-1)*5<t2.mask*3:=by have h1:=T.len;have h2:=T.ok.roomy;simp at h1;rw[d3,p4];lia
    obtain⟨m',q,g1,g2,g3,g4,g5⟩:=grow_ok Fl hro NZ ∅;rw[relay_eq];refine ap (ap (j4 o1 rfl N7 ?_));dsimp only;rw[g1,if_neg ∅];obtain⟨t3,order,f1,f2,f3,f4,f5,f6,f7⟩:=laid_tp (mask:=m') t2.finger (t2.movedTo m') t2.led t2.plain g2 g3 es1 ∅;have er:t2.relaid (es1.map (·.1)) (lY (es.size+1))=aa (t3,order):=by unfold SetTable.relaid;rw[g1];exact f1
    rw[er];dsimp only;have w_:(order.filterMap (es1[·]?)).size=es1.size:=by have:=f6.length_eq;rwa[g9,g9]at this
    refine ap ?_;rw[if_neg (by rw[w_];simp)];refine aD ?_;dsimp only;obtain⟨qs3,r1,r2⟩:∃qs3:List (K×ai),(order.filterMap (es1[·]?)).toList=qs3.map (elV kd)/\qs3.Perm (qs.take pp++(k,Value.ref bx)::qs.drop pp):=by rw[AQ]at f6;exact perm_map_ex f6
    refine z6 o1 rfl ?_ (z7 (qE (show(order.filterMap (es1[·]?)).size<4090 by lia) (by decide)));refine aD ⟨_,rfl,rfl,gG.trans (qJ _ a _),⟨_,_,t3,qs3,jz.put o1,r2.trans o4,r1,∅,f7,f2.trans jH,λ_=>f3.trans d8⟩⟩
   ·rw[wH.mpr nj];simp only[ww,eC,if_false];have hro:t2.place.size*5<t2.mask*3:=by unfold SetTable.tooFull at nj;rw[AG]at nj;have h1:=T.len;simp at nj h1;rw[d2,p5];lia
    refine aD ⟨_,rfl,rfl,gG,⟨es1,_,t2,_,o1,o4,AQ,∅,⟨⟨d1,by rw[d2];exact p2,by rw[d2,d3];exact p3,Fl,hro⟩,?_,rch2⟩,jH,λ_=>d8⟩⟩;rw[d2,p5,p6];have:=T.len;lia
  split
  ·refine ap (kd.hbv hx ?_);simp only[eC,if_false];refine aV (tail _ rfl) λr s' ⟨h',e1,e2,e3,e4⟩=>?_;subst e1 e2;exact h h' _ e3 e4
  ·rename_i AL;refine ap (aD ?_);simp only[if_true];refine aV (tail t1 (by
    have:t1.plain=aj:=by simpa using AL
    rw[←this])) λr s' ⟨h',e1,e2,e3,e4⟩=>?_
   subst e1 e2;exact h h' _ e3 e4
where
 perm_map_ex {α β:Type}{f:α->β}{l:List β}{m:List α} (h:l.Perm (m.map f)):∃m':List α,l=m'.map f/\m'.Perm m:=by
  generalize hm:m.map f=mm at h
  induction h generalizing m with
  |nil=>
   cases m with
   |nil=>exact⟨[],rfl,.nil⟩
   |cons=>cases hm
  |cons x _ ih=>
   cases m with
   |nil=>cases hm
   |cons y r=>rw[eu]at hm;injection hm with h1 h2;obtain⟨m',e,p⟩:=ih h2;exact⟨y::m',by rw[eu,←e,h1],p.cons y⟩
  |swap x y l=>
   match m,hm with
   |a::b::r,hm=>simp only[eu,qV]at hm;obtain⟨h1,h2,h3⟩:=hm;exact⟨b::a::r,by simp[h1,h2,h3],.swap ..⟩
  |trans _ _ ih1 ih2=>obtain⟨m2,e2,p2⟩:=ih2 hm;obtain⟨m1,e1,p1⟩:=ih1 e2.symm;exact⟨m1,e1,p1.trans p2⟩
end
section
variable{P:aM}{w:aF}{A:aO}{E:ai->am->Prop}{s:am}
theorem tupTy{a:af}{items:Array ai}(h:IsTup s.heap a items):s.TypeIs (.ref a) "tuple":=let ⟨o,ho,hc,_⟩:=h;⟨o,ho,hc⟩
def HsAt(P:aM)(w:aF)(A:aO)(s:am)(v:ai)(x:Int):Prop :=
 ∀(tk:Nat) (E:ai->am->Prop) (Q:Int->am->Prop),(∀tk',tk<=tk'->Q x {s with toks:=tk'})->aq (au P w) A (pyHash v) Q E {s with toks:=tk}
theorem hash_tup{a:af}{items:Array ai}{hs:List (ai×Int)}(hu:A.units<cLine)(hT:IsTup s.heap a items)(hi:items.toList=hs.map (·.1))(hh:∀p∈hs,HsAt P w A.in1 s p.1 p.2):HsAt P w A s (.ref a) (tG (ma (hs.map (·.2)))):=λtk E Q h=>by
 have kj:Shared.TypeIs {s with toks:=tk} (.ref a) "tuple":=tupTy hT;obtain⟨o,ho,_,n,hd⟩:=hT;unfold pyHash
 first|unfold pyHashByItsType|skip
 first|refine ap (wpAny_cRoomFor_or (.inr hu) ?_)|skip
 refine ap (sW kj F.slot_tuple_hash.lookup ?_);show aq _ _ (if(aa (Value.builtin "tuple.__hash__") == aa Value.none)=ah then _ else _) Q E _;rw[if_neg (by rw[beq_builtin_none];exact eR)];refine ap (sW kj F.slot_tuple_hash.lookup ?_);show aq _ _ (callSpecialIfBoundUnlessNone? (.ref a) "__hash__" _ >>= _) Q E _;refine ap (wpAny_callSpecialIfBoundUnlessNone?_slot kj NS (qu NS kj F.entry_tuple_hash ?_ (F.args_tuple_hash_1 _)));show aq _ _ (Builtin.Tuple.tupleItemsOf (.ref a) >>= _) _ _ _;refine ap (wpAny_tupleItemsOf (s:={s with toks:=tk}) ho hd ?_);refine ap ?_;rw[←Aw,hi];refine tF _
  (λrest (b:Array Int) s'=>∃done left tk',hs=done++left/\rest=left.map (·.1)/\b.toList=done.map (·.2)/\tk<=tk'/\s'={s with toks:=tk'})
  _ ?_ ?_ _ _ ⟨[],hs,tk,rfl,rfl,rfl,a_ _,rfl⟩
 ·rintro x rest b s' ⟨done,left,tk',rfl,hl,hb,ht,rfl⟩;cases left with
  |nil=>cases hl
  |cons p left=>
   rw[eu]at hl;injection hl with h1 h2;subst h1 h2;refine ap (hh p (by simp) tk' _ _ λtk2 h2=>?_)
   first
    |exact aD ⟨done++[p],left,tk2,by simp,rfl,by simp[hb],∅,rfl⟩
    |exact ap (aD (aD ⟨done++[p],left,tk2,by simp,rfl,by simp[hb],∅,rfl⟩))
 ·rintro b s' ⟨done,left,tk',rfl,hl,hb,ht,rfl⟩;have:left=[]:=by cases left with|nil=>rfl|cons=>cases hl
  subst this;rw[g_]at h;show aq _ _ (retInt (ma b.toList)) _ _ _;rw[hb];refine wpAny_ret_mkInt ?_;show aq _ _ (if(decide (-(2:Int)^63<=ma (done.map (·.2)))&&decide (ma (done.map (·.2))<2^63))=ah then _ else _) Q E _;unfold tG at h;by_cases hr:(decide (-(2:Int)^63<=ma (done.map (·.2)))&&decide (ma (done.map (·.2))<2^63))=ah
  ·rw[if_pos hr];rw[if_pos hr]at h;exact aD (h _ (by simp;lia))
  ·rw[if_neg hr];rw[if_neg hr]at h;exact ap (lX (aD (h _ (by simp;lia))))
theorem hash_str(z:Str)(t:Tok):HsAt P w A s (.str z t) ((eU P w).hash z):=λtk E Q h=>(eU P w).pyHash (s:={s with toks:=tk}) (k:=z) (by show om z (.str z t)=ah;simp[om]) (h _ (sX _))
theorem hash_int(z:Int)(t:Tok):HsAt P w A s (.int z t) ((Ax P w).hash z):=λtk E Q h=>(Ax P w).pyHash (s:={s with toks:=tk}) (k:=z) (by show zD z (.int z t)=ah;simp[zD]) (h _ (sX _))
theorem quiet_tup{n:Nat}{a:af}{items:Array ai}{Q:Bool->am->Prop}(hT:IsTup s.heap a items)(hi:∀v∈items.toList,∀(E:ai->am->Prop) (Q:Bool->am->Prop),Q ah s->aq (au P w) A (tD n v) Q E s)(h:Q ah s):aq (au P w) A (tD (n+1) (.ref a)) Q E s:=by
 have kj:=tupTy hT;obtain⟨o,ho,_,m,hd⟩:=hT;unfold tD;refine ap (sW kj F.slot_tuple_eq.lookup ?_);show aq _ _ (wA (.ref a) (.type "tuple") >>= _) _ _ s;refine ap (EW kj isSubtype_tuple_tuple ?_);simp only[j9,eC,if_false];refine ap (z9 ho hd ?_);refine ap ?_;show aq _ _ (forIn items _ _) _ _ s;rw[←Aw];refine tF _ (λrest r s'=>r.1=ae/\s'=s/\∀v∈rest,v∈items.toList) _ ?_ ?_ _ _ ⟨rfl,rfl,λv hv=>hv⟩
 ·rintro v rest r s' ⟨hr,rfl,fg⟩;refine ap (hi v (fg v eN) _ _ ?_);simp only[j9,eC,if_false];exact aD ⟨rfl,rfl,λu ui=>fg u (dI _ ui)⟩
 ·rintro⟨r1,r2⟩ s' ⟨hr,rfl,_⟩;simp only at hr;subst hr;exact aD h
theorem cls_tup{n:Nat}{a:af}{items:Array ai}{Q:Bool->am->Prop}(hT:IsTup s.heap a items)(hi:∀v∈items.toList,∀(E:ai->am->Prop) (Q:Bool->am->Prop),Q aj s->aq (au P w) A (tE n v) Q E s)(h:Q aj s):aq (au P w) A (tE (n+1) (.ref a)) Q E s:=by
 have kj:=tupTy hT;obtain⟨o,ho,_,m,hd⟩:=hT;unfold tE;refine ap (zM kj ?_);dsimp only;rw[if_pos (by decide)];refine ap (aD ?_);simp only[j9,eC,if_false];refine ap (z9 ho hd ?_);dsimp only;refine ap ?_;rw[←Aw];refine tF _ (λrest r s'=>r.1=ae/\s'=s/\∀v∈rest,v∈items.toList) _ ?_ ?_ _ _ ⟨rfl,rfl,λv hv=>hv⟩
 ·rintro v rest r s' ⟨hr,rfl,fg⟩;refine ap (hi v (fg v eN) _ _ ?_);simp only[eC,if_false];exact aD ⟨rfl,rfl,λu ui=>fg u (dI _ ui)⟩
 ·rintro⟨r1,r2⟩ s' ⟨hr,rfl,_⟩;simp only at hr;subst hr;exact aD h
theorem hbv_tup{n:Nat}{a:af}{items:Array ai}{Q:Bool->am->Prop}{pre post:List ai}{x:ai}(hT:IsTup s.heap a items)(e:items.toList=pre++x::post)(hp:∀v∈pre,∀(E:ai->am->Prop) (Q:Bool->am->Prop),Q ah s->aq (au P w) A (qS n v) Q E s)(hx:∀(E:ai->am->Prop) (Q:Bool->am->Prop),Q aj s->aq (au P w) A (qS n x) Q E s) (h:Q aj s):aq (au P w) A (qS (n+1) (.ref a)) Q E s:=by
 have kj:=tupTy hT;obtain⟨o,ho,_,m,hd⟩:=hT;unfold qS;refine ap (sW kj F.slot_tuple_hash.lookup ?_);show aq _ _ (seqItems? (.ref a) >>= _) _ _ s;refine ap (z9 ho hd ?_);refine ap ?_;show aq _ _ (forIn items _ _) _ _ s;rw[←Aw,e];refine tF _ (λrest r s'=>r.1=ae/\s'=s/\∃p,rest=p++x::post/\∀v∈p,v∈pre) _ ?_ ?_ _ _ ⟨rfl,rfl,pre,rfl,λv hv=>hv⟩
 ·rintro v rest r s' ⟨hr,rfl,p,c8,fg⟩;cases p with
  |nil=>rw[iz]at c8;injection c8 with h1 h2;subst h1;refine ap (hx _ _ ?_);simp only[qU,if_true];exact aD (aD h)
  |cons y p=>rw[Ap]at c8;injection c8 with h1 h2;subst h1;refine ap (hp v (fg v eN) _ _ ?_);simp only[j9,eC,if_false];exact aD ⟨rfl,rfl,p,h2,λu ui=>fg u (dI _ ui)⟩
 ·rintro⟨r1,r2⟩ s' ⟨hr,rfl,p,c8,_⟩;cases p <;> cases c8
theorem tup_uniq{h:aA}{a:af}{x y:Array ai}(hx:IsTup h a x)(hy:IsTup h a y):x=y:=by
 obtain⟨o,e,_,n,d⟩:=hx;obtain⟨o',e',_,n',d'⟩:=hy;rw[e]at e';cases e';rw[d]at d';cases d';rfl
theorem strs_uniq:∀{vs:List ai}{x y:List Str},df vs x->df vs y->x=y
 |_,_,_,.nil,.nil=>rfl
 |_,_,_,.cons z t h,.cons _ _ h'=>by rw[strs_uniq h h']
theorem all_getD{ws vs:List Str}:((bX (min ws.length vs.length)).all (λj=>ws.getD j je == vs.getD j je)&&ws.length == vs.length)=decide (ws=vs):=by
 rw[jY,fB,k6,decide_eq_true_iff,beq_iff_eq];constructor
 ·rintro⟨h1,h2⟩;refine List.ext_getElem h2 λi hi gF=>?_;have:=h1 i (kP.mpr ∅);rw[beq_iff_eq]at this;simpa[hi,gF]using this
 ·rintro rfl;exact⟨λx _=>by simp,rfl⟩
theorem strs_len{vs:List ai}{ss:List Str}(h:df vs ss):vs.length=ss.length:=h.length
theorem eq_strs{b b':af}{its its':Array ai}{ws ws':List Str}(hu:A.units<cLine)(h1:IsTup s.heap b its)(h2:df its.toList ws)(eE:IsTup s.heap b' its')(cU:df its'.toList ws'):sU A s (.ref b) (.ref b') (decide (ws=ws')):=by
 by_cases hb:b=b'
 ·subst hb;obtain rfl:=tup_uniq h1 eE;obtain rfl:=strs_uniq h2 cU;rw[decide_eq_true rfl];exact .same _
 ·have l1:=strs_len h2;have l2:=strs_len cU;rw[g9]at l1 l2;rw[←all_getD,←l1,←l2];refine .of_refs hb (.tuples h1 eE hu λj j1 j2=>?_);obtain⟨t,e⟩:=vm j its[j] h2 (by simp[j1]);obtain⟨t',e'⟩:=vm j its'[j] cU (by simp[j2]);rw[e,e'];exact SeqAt.EqAt.str_str _ _ _ _
def PrIs(h:aA)(k:Int×List Str)(v:ai):Prop:=k.2≠[]/\∃(a b:af) (t:Tok) (its:Array ai),v=.ref a/\IsTup h a #[.int k.1 t,.ref b]/\IsTup h b its/\df its.toList k.2
theorem PrIs.inj{h:aA}{k k':Int×List Str}{v:ai}(x:PrIs h k v)(y:PrIs h k' v):k=k':=by
 obtain⟨_,a,b,t,its,rfl,h1,h2,h3⟩:=x;obtain⟨_,a',b',t',its',e,eE,cU,rn⟩:=y;cases e;have:=tup_uniq h1 eE;have e1:k.1=k'.1/\b=b':=by have:=congrArg Array.toList this;simp at this;exact⟨this.1.1,this.2⟩
 obtain⟨e1,rfl⟩:=e1;obtain rfl:=tup_uniq h2 cU;exact Prod.ext e1 (strs_uniq h3 rn)
theorem tup_kept{h h':aA}{a:af}{x:Array ai}(hx:IsTup h a x)(k:∀b o,h.get? b=aa o->o.cls=.type "tuple"->h'.get? b=aa o):IsTup h' a x:=by obtain⟨o,e,c,r⟩:=hx;exact⟨o,k a o e c,c,r⟩
def hashPr(P:aM)(w:aF)(k:Int×List Str):Int:=tG (ma [(Ax P w).hash k.1,tG (ma (k.2.map (eU P w).hash))])
theorem strs_pairs{vs:List ai}{ss:List Str}(h:df vs ss):vs=(vs.zip (ss.map (eU P w).hash)).map (·.1)/\(vs.zip (ss.map (eU P w).hash)).map (·.2)=ss.map (eU P w).hash/\∀p∈vs.zip (ss.map (eU P w).hash),HsAt P w A s p.1 p.2:=by
 induction h with
 |nil=>exact⟨rfl,rfl,λp hp=>by simp at hp⟩
 |cons z t _ ih=>
  obtain⟨i1,i2,i3⟩:=ih;rw[eu,Av,eu,eu];refine⟨by rw[←i1],by rw[i2],λp hp=>?_⟩;rcases bF.mp hp with rfl|hp
  ·exact hash_str z t
  ·exact i3 p hp
theorem hash_pr{k:Int×List Str}{v:ai}(hu:A.units+4<cLine)(x:PrIs s.heap k v):HsAt P w A s v (hashPr P w k):=by
 obtain⟨_,a,b,t,its,rfl,h1,h2,h3⟩:=x;obtain⟨i1,i2,i3⟩:=strs_pairs (P:=P) (w:=w) (A:=A.in1.in1) (s:=s) h3;have inner:HsAt P w A.in1 s (.ref b) (tG (ma (k.2.map (eU P w).hash))):=by have:=hash_tup (P:=P) (w:=w) (A:=A.in1) (s:=s) (show A.units+1<cLine by lia) h2 i1 i3;rw[i2]at this;exact this
 refine hash_tup (hs:=[(.int k.1 t,(Ax P w).hash k.1),(.ref b,tG (ma (k.2.map (eU P w).hash)))]) ∅ h1 rfl λp hp=>?_;simp only[bF,f_,or_false]at hp;rcases hp with rfl|rfl
 ·exact hash_int _ _
 ·exact inner
theorem strs_mem_shape{vs:List ai}{ss:List Str}(h:df vs ss):∀v∈vs,∃z t,v=Value.str z t:=λv hv=>h.all v hv
def prKd(P:aM)(w:aF):Keyd P w (Int×List Str) where
 is:=PrIs
 hash:=hashPr P w
 room:=λA=>A.units+4<cLine
 keep:=λ⟨h0,a,b,t,its,e,h1,h2,h3⟩ k=>⟨h0,a,b,t,its,e,tup_kept h1 k,tup_kept h2 k,h3⟩
 ref:=λ⟨_,a,_,_,_,e,⟨o,h1,_⟩,_⟩=>⟨a,o,e,h1⟩
 eqBool:=λ{A E s x y u v Q} hu hx hy q=>by
  by_cases huv:u=v
  ·subst huv;obtain rfl:=hx.inj hy;rw[decide_eq_true rfl]at q;exact SeqAt.EqAt.same _ _ _ _ _ q
  ·obtain⟨_,a,b,t,its,rfl,h1,h2,h3⟩:=hx;obtain⟨_,a',b',t',its',rfl,eE,cU,rn⟩:=hy;have e0:decide (x=y)=((bX (min 2 2)).all (λj=>if j=0 then x.1 == y.1 else decide (x.2=y.2))&&2 == 2):=by obtain⟨x1,x2⟩:=x;obtain⟨y1,y2⟩:=y;rw[jY];simp[oG]
   rw[e0]at q;refine SeqAt.EqAt.of_refs (λz=>huv (by rw[z])) (.tuples h1 eE ∅ λj j1 j2=>?_) _ _ _ _ q
   match j,j1 with
   |0,_=>exact EH _ _ _ _
   |1,_=>exact eq_strs (show A.units+1<cLine by lia) h2 h3 cU rn
 quiet:=λ⟨_,a,b,t,its,e,h1,h2,h3⟩ q=>by
  subst e;refine quiet_tup (n:=7) h1 (λv hv E Q q=>?_) q;simp only[bF,f_,or_false]at hv;rcases hv with rfl|rfl
  ·exact oJ (by unfold tD;rfl) q
  ·refine quiet_tup (n:=6) h2 (λv hv E Q q=>?_) q;obtain⟨z,t,rfl⟩:=strs_mem_shape h3 v hv;exact oJ (by unfold tD;rfl) q
 cls:=λ⟨_,a,b,t,its,e,h1,h2,h3⟩ q=>by
  subst e;refine cls_tup (n:=7) h1 (λv hv E Q q=>?_) q;simp only[bF,f_,or_false]at hv;rcases hv with rfl|rfl
  ·exact oJ (by unfold tE;rfl) q
  ·refine cls_tup (n:=6) h2 (λv hv E Q q=>?_) q;obtain⟨z,t,rfl⟩:=strs_mem_shape h3 v hv;exact oJ (by unfold tE;rfl) q
 hbv:=λ⟨h0,a,b,t,its,e,h1,h2,h3⟩ q=>by
  subst e;refine hbv_tup (n:=7) (pre:=[.int _ t]) (x:=.ref b) (post:=[]) h1 rfl (λv hv E Q q=>?_) (λE Q q=>?_) q
  ·simp only[bF,f_,or_false]at hv;subst hv;exact oJ (by unfold qS;rfl) q
  ·cases h4:its.toList with
   |nil=>rw[h4]at h3;have:=strs_len h3;exact absurd (oH this.symm) h0
   |cons v rest=>refine hbv_tup (n:=6) (pre:=[]) (x:=v) (post:=rest) h2 h4 (λv hv=>by simp at hv) (λE Q q=>?_) q;obtain⟨z,t,rfl⟩:=strs_mem_shape h3 v (by rw[h4];simp);exact oJ (by unfold qS;rfl) q
end
def ltL(a b:List Tx):Bool:=decide (a<b)
theorem ltL_cons(x y:Tx)(xs ys:List Tx):ltL (x::xs) (y::ys)=if x=y then ltL xs ys else decide (x<y):=by
 unfold ltL;by_cases h:x=y
 ·subst h;rw[if_pos rfl,jY,decide_eq_true_iff,decide_eq_true_iff,Ay];exact⟨λz=>z.elim (λq=>absurd q (List.lt_irrefl _)) λq=>q.2,λq=>.inr ⟨rfl,q⟩⟩
 ·rw[if_neg h,jY,decide_eq_true_iff,decide_eq_true_iff,Ay];exact⟨λz=>z.elim id λq=>absurd q.1 h,.inl⟩
def ordL:KeyOrd where
 α:=List Tx
 blt:=ltL
 irrefl:=λa=>decide_eq_false (List.lt_irrefl a)
 trans:=λa b c h1 h2=>decide_eq_true (List.lt_trans (of_decide_eq_true h1) (of_decide_eq_true h2))
 negTrans:=λa b c h=>by
  unfold ltL;by_cases iA:a<b
  ·exact .inl (decide_eq_true iA)
  ·have hba:b<=a:=List.not_lt.mp iA;exact .inr (decide_eq_true (List.lt_of_le_of_lt hba (of_decide_eq_true h)))
 total:=λa b h1 h2=>List.le_antisymm (List.not_lt.mp (of_decide_eq_false h2)) (List.not_lt.mp (of_decide_eq_false h1))
section
open PySem.SeqAt
open PySem.AutoSeq1 (wpAny_loadPart')
open PySem.MeetsSeq PySem.MeetsSeq2 PySem.MeetsSeq3
def cpsL(ss:List Str):List Tx:=ss.map λz=>z.cps.toList
theorem cps_inj{x y:Str}(h:x.cps.toList=y.cps.toList):x=y:=by rw[←ym x,←ym y,h]
theorem tuple_lt_strs(l b:af)(items items2:Array ai)(n n2:Nat)(dd dd2:Option af)(sl sl2:Array (Option ai))(ns ms:List Str)(hi:df items.toList ns)(hj:df items2.toList ms):Meets (Builtin.«tuple.__lt__» ⟨[.ref l,.ref b],[]⟩) (λ_ R s=>s.heap.get? l=aa {cls:=.type "tuple",dict:=dd,data:=.seq items n,slots:=sl}/\s.heap.get? b=aa {cls:=.type "tuple",dict:=dd2,data:=.seq items2 n2,slots:=sl2} /\ R (.ok (.ret (.bool (ltL (cpsL ns) (cpsL ms))))) s) :=
 .of_wp λprog w A R s h=>by
  obtain⟨hp,g,d,tk,os⟩:=s;obtain⟨hl,hb,h⟩:=h;have f2:=AutoSeq1.sub_tuple_tuple;have z1:items.size=ns.length:=by rw[←hi.length];simp
  have z2:items2.size=ms.length:=by rw[←hj.length];simp
  wp_walk using zK hl,zK hb,tF _ (λrest b s'=>b.1=ae/\s'=⟨hp,g,d,tk,os⟩/\∃(vs ws:List ai) (ns' ms':List Str),rest=vs.zip ws /\ df vs ns'/\df ws ms'/\ns'.length+items2.size=ms'.length+items.size/\R (.ok (.ret (.bool (ltL (cpsL ns') (cpsL ms'))))) ⟨hp,g,d,tk,os⟩) _
  case turn=>
   rintro⟨y,x⟩ rest b s' ⟨rg,rfl,vs,ws,ns',ms',hz,hvi,o5,bw,hR⟩;cases hvi with
   |nil=>rw[List.zip_nil_left]at hz;cases hz
   |cons a t hvi'=>
    cases o5 with
    |nil=>rw[List.zip_nil_right]at hz;cases hz
    |cons c u hwi'=>
     rw[Av]at hz;injection hz with hyx N8;injection hyx with hy hx;subst hy hx;rename_i vs1 ys1 vs2 ys2;have hR':R (.ok (.ret (.bool (if a.cps.toList=c.cps.toList then ltL (cpsL ys1) (cpsL ys2)else decide (a.cps.toList<c.cps.toList))))) ⟨hp,g,d,tk,os⟩:=by rw[←ltL_cons];exact hR
     simp only[ff]at bw;refine ap (EqAt.str_str a t c u prog w _ _ ?_);by_cases e:a=c
     ·subst e;rw[if_pos rfl]at hR';rw[beq_self_eq_true]
      wp_walk
      exact⟨rfl,rfl,_,_,_,_,N8,hvi',hwi',∅,hR'⟩
     ·rw[if_neg (λz=>e (cps_inj z))]at hR';rw[beq_false_of_ne e];have hri:∀(E:ai->am->Prop) (Q:ai->am->Prop),Q (.bool (decide (a.cps.toList<c.cps.toList))) ⟨hp,g,d,tk,os⟩->aq (au prog w) A.in1 (richCompare .Lt (.str a t) (.str c u)) Q E ⟨hp,g,d,tk,os⟩:=λE Q h=>(PyProof.Rows.lt_str h:aq (au prog w) A.in1 (eh .Lt (.str a t) (.str c u)) Q E _)
      wp_walk using hri
      exact⟨_,rfl,by simpa using hR'⟩
  case fin=>
   rintro⟨b1,b2⟩ s' ⟨rg,rfl,vs,ws,ns',ms',hz,hvi,o5,bw,hR⟩;simp only at rg;subst rg;have hv:ltL (cpsL ns') (cpsL ms')=decide (items.size<items2.size):=by
    cases hvi with
    |nil=>
     cases o5 with
     |nil=>simp only[mZ]at bw;exact(decide_eq_false (by simp[cpsL])).trans (decide_eq_false ∅).symm
     |cons c u hw=>simp only[mZ,ff]at bw;exact(decide_eq_true (by simp[cpsL])).trans (decide_eq_true ∅).symm
    |cons a t hv=>
     cases o5 with
     |nil=>simp only[mZ,ff]at bw;exact(decide_eq_false (by simp[cpsL])).trans (decide_eq_false ∅).symm
     |cons c u hw=>
      rw[Av]at hz;cases hz
   rw[hv]at hR
   wp_walk
   exact⟨_,rfl,by simpa[Builtin.Tuple.tupleCompareSizes]using hR⟩
  case h=>exact⟨rfl,rfl,items.toList,items2.toList,ns,ms,rfl,hi,hj,∅,h⟩
end
section
variable{P:aM}{w:aF}{A:aO}{E:ai->am->Prop}{s:am}
theorem lt_tupStrs{l b:af}{items items2:Array ai}{ns ms:List Str}{Q:ai->am->Prop}(hl:IsTup s.heap l items)(hb:IsTup s.heap b items2)(hi:df items.toList ns)(hj:df items2.toList ms)(hu:A.units<cLine) (h:Q (.bool (ltL (cpsL ns) (cpsL ms))) s):aq (au P w) A (eh .Lt (.ref l) (.ref b)) Q E s:=by
 obtain⟨⟨cls,dd,data,sl⟩,ho,hc,n,hd⟩:=id hl;obtain⟨⟨cls2,dd2,data2,sl2⟩,jl,oS,n2,nr⟩:=id hb;simp only at hc hd oS nr;subst hc hd oS nr;exact richCompare_meets_room (op:=.Lt) ⟨_,ho,rfl⟩ ⟨_,jl,rfl⟩ PySem.F.slot_tuple_lt PySem.F.entry_tuple_lt (PySem.F.args_tuple_lt_2 _ _) (tuple_lt_strs l b items items2 n n2 dd dd2 sl sl2 ns ms hi hj)
  ⟨ho,jl,show Value.bool (ltL (cpsL ns) (cpsL ms))≠Value.notImplemented/\Q (.bool (ltL (cpsL ns) (cpsL ms))) s from⟨(λx=>nomatch x),h⟩⟩ hu
def prKey(h:aA)(n:Int):KeyKind where
 toKeyOrd:=ordL
 keyOf:=λv=>open Classical in if z:∃ss,PrIs h (n,ss) v then aa (cpsL z.choose)else ae
 dflt:=([]:List Tx)
theorem prKey_of{h:aA}{n:Int}{ss:List Str}{v:ai}(x:PrIs h (n,ss) v):(prKey h n).keyOf v=aa (cpsL ss):=by
 have z:∃ss,PrIs h (n,ss) v:=⟨ss,x⟩
 have e:z.choose=ss:=(Prod.mk.inj (z.choose_spec.inj x)).2;show(open Classical in if z:∃ss,PrIs h (n,ss) v then aa (cpsL z.choose)else ae)=_;rw[dif_pos z,e]
theorem prKey_some{h:aA}{n:Int}{k:List Tx}{v:ai}(x:(prKey h n).keyOf v=aa k):∃ss,PrIs h (n,ss) v/\cpsL ss=k:=by
 by_cases z:∃ss,PrIs h (n,ss) v
 ·obtain⟨ss,z⟩:=z;rw[prKey_of z]at x;exact⟨ss,z,dW x⟩
 ·have:(prKey h n).keyOf v=ae:=dif_neg z;rw[this]at x;cases x
theorem prLt{h:aA}{n:Int}(hu:A.units+8<cLine)(k:∀b o,h.get? b=aa o->o.cls=.type "tuple"->s.heap.get? b=aa o):gY (prKey h n) (tuples' ah) P w A s:=λE x y a b Q ha hb hq=>by
 obtain⟨ss,hx,rfl⟩:=prKey_some ha;obtain⟨aI,hy,rfl⟩:=prKey_some hb;obtain⟨_,a1,b1,t,its,rfl,h1,h2,h3⟩:=(prKd P w).keep hx k;obtain⟨_,a2,b2,t',its',rfl,eE,cU,rn⟩:=(prKd P w).keep hy k;obtain⟨o,ho,_,m,hd⟩:=h1;obtain⟨o',gb,_,m',qZ⟩:=eE;refine PySem.W.kat_lt ho hd gb qZ ?_;show PySem.W.KatLex P w A ah _ Q [(Value.int n t,Value.int n t'),(Value.ref b1,Value.ref b2)] 0 s;refine PySem.W.kat_cons (EH n t n t' _ _ _ _ ?_);rw[beq_self_eq_true];refine PySem.W.kat_yes (PySem.W.kat_cons (eq_strs ∅ h2 h3 cU rn _ _ _ _ ?_));by_cases e:ss=aI
 ·subst e;rw[decide_eq_true rfl];refine PySem.W.kat_yes (PySem.W.kat_nil ?_);have:ltL (cpsL ss) (cpsL ss)=aj:=ordL.irrefl _;have hq':Q (ltL (cpsL ss) (cpsL ss)) s:=hq;rw[this]at hq';simpa using hq'
 ·rw[decide_eq_false e];refine PySem.W.kat_no ?_;show aq _ _ (oneLt' (ah&&(1 == 0)) _ _) _ _ _;simp only[show((1:Nat) == 0)=aj from rfl,ww];refine PySem.W.kat_one _ _ (lt_tupStrs h2 cU h3 rn ∅ ?_);exact hq
theorem kat_all{h:aA}{n:Int}:∀(vs:List ai),(∀v∈vs,∃ss,PrIs h (n,ss) v)->∃fs,PySem.W.KatTups h vs fs/\fs.length=vs.length/\∀f∈fs,∃t,f=Value.int n t
 |[],_=>⟨[],PySem.W.KatTups.nil,rfl,λf hf=>by simp at hf⟩
 |v::vs,hv=>by
  obtain⟨fs,i1,i2,i3⟩:=kat_all vs λu hu=>hv u (dI _ hu);obtain⟨ss,_,a,b,t,its,rfl,⟨o,ho,hc,m,hd⟩,_⟩:=hv v eN;refine⟨.int n t::fs,PySem.W.KatTups.cons ho hc hd rfl i1,by simp[i2],λf hf=>?_⟩;rcases bF.mp hf with rfl|hf
  ·exact⟨t,rfl⟩
  ·exact i3 f hf
theorem prKind{vs:List ai}{n:Int}{Q:gB->am->Prop}(hv:∀v∈vs,∃ss,PrIs s.heap (n,ss) v)(h2:2<=vs.length)(h:Q (tuples' ah) s):aq (au P w) A (keyKind' vs.toArray) Q E s:=by
 obtain⟨fs,i1,i2,i3⟩:=kat_all vs hv;refine PySem.W.kat_kind (T:=.type "int") i1 ∅ (λv hv=>?_) (by decide) ?_
 ·obtain⟨t,rfl⟩:=i3 v hv;exact .now
 ·have:(Value.type "int" != Value.type "tuple")=ah:=by decide
  rw[this];exact h
theorem sorted_genP{v:ai}{Q:ai->am->Prop}(hu:A.units+32<cLine)(hc:aq (au P w) A.in1 (collect v) (λvs s1=>∃n:Int,(∀v∈vs,∃ss,PrIs s1.heap (n,ss) v)/\vs.length<=1000000/\∀(h':aA) (out:Array ai) (e:Nat),(∀b o,s1.heap.get? b=aa o->h'.get? b=aa o) -> h'.get? s1.heap.objs.size=aa (fP "list" out e)->out.toList.Perm vs->out.toList.Pairwise (λx y=>∀p q,PrIs s1.heap (n,p) x->PrIs s1.heap (n,q) y->ltL (cpsL q) (cpsL p)=aj)->Q (.ref s1.heap.objs.size) {s1 with heap:=h'}) E s):aq (au P w) A (call (.builtin "sorted") [v]) Q E s:=by
 refine Calls.call_function_entry kind_sorted plain_sorted entry_sorted (args_sorted1 _) ?_;unfold Builtin.«sorted»;refine ap (m:=checkCount "sorted" 1 1 _) (aD ?_);refine ap (aV hc λvs s1 ⟨n,hS,ki,fin⟩=>?_);refine ap (wpAny_newList ?_);have lf:(s1.heap.push (fP "list" vs.toArray 0)).get? s1.heap.objs.size=aa (fP "list" vs.toArray 0):=c0 _ rfl;have kp:∀h':aA,(∀b o,b≠s1.heap.objs.size->(s1.heap.push (fP "list" vs.toArray 0)).get? b=aa o->h'.get? b=aa o)->∀b o,s1.heap.get? b=aa o->o.cls=.type "tuple"->h'.get? b=aa o:=λh' k b o e _=>
  k b o (cR (bu e)) (bG _ e)
 refine ap (iw (qu slot_list_sort ⟨_,lf,rfl⟩ entry_list_sort (Bl (κ:=prKey s1.heap n) (kz:=tuples' ah) lf (λp hp=>?_) ki (λh' k h2=>⟨prLt (by simp;lia) (kp h' k),λq=>prKind (n:=n) (λv hv=>?_) h2 q⟩) λay hp hs=>⟨_,rfl,?_⟩) (args_list_sort _)))
 ·have:p.1∈vs:=by
   have c8:p∈(vs.toArray.zip vs.toArray).toList:=hp;rw[Array.toList_zip]at c8;exact wp c8 |>.1
  obtain⟨ss,x⟩:=hS _ this;exact⟨_,prKey_of x⟩
 ·obtain⟨ss,x⟩:=hS v hv;exact⟨ss,(prKd P w).keep x (kp h' k)⟩
 ·obtain⟨e,he⟩:=sortedHeap_at (out:=(arrOf ay).map (·.2)) lf;have hpp:(arrOf ay).toList.Perm (vs.zip vs):=by
   have:=Ao.mp hp;have e0:(jF vs).toList=vs.zip vs:=by show(vs.toArray.zip vs.toArray).toList=_;rw[Array.toList_zip]
   rwa[e0]at this
  have same:∀p∈(arrOf ay).toList,p.1=p.2:=λp hp=>by have:=hpp.mem_iff.mp hp;rw[←List.map_id vs,List.zip_map']at this;obtain⟨x,_,rfl⟩:=bO.mp this;rfl
  have e2:((arrOf ay).map (·.2)).toList.Perm vs:=by rw[Array.toList_map];have:=hpp.map (·.2);rwa[List.map_snd_zip (a_ _)]at this
  refine aD ⟨_,rfl,fin _ _ e (λb o hb=>?_) he e2 ?_⟩
  ·have bb:b<s1.heap.objs.size:=bu hb;rw[sortedHeap_old (cR bb) (by rw[iT];exact j6 bb)];exact bG _ hb
  ·rw[Array.toList_map];refine wy.mpr (qQ.mpr λi j hi hj bt p q hx hy=>?_);have ge:j<(jF vs).size:=by rw[←hp.size_eq];simpa using hj
   have hi1:i<(arrOf ay).size:=by simpa using hi
   have hj1:j<(arrOf ay).size:=by simpa using hj
   have h:=hs i j (jW bt) ge;rw[p_ hi1,p_ hj1]at h;have f1:=same _ (sY hi);have f2:=same _ (sY hj);have g1:kO (prKey s1.heap n) (arrOf ay)[i]=cpsL p:=by
    unfold kO;have:(arrOf ay)[i].1=(arrOf ay).toList[i].2:=by rw[←f1];simp
    rw[this,prKey_of hx];rfl
   have g2:kO (prKey s1.heap n) (arrOf ay)[j]=cpsL q:=by
    unfold kO;have:(arrOf ay)[j].1=(arrOf ay).toList[j].2:=by rw[←f2];simp
    rw[this,prKey_of hy];rfl
   rw[g1,g2]at h;exact h
end
section
variable{X:Cx}
abbrev PrK:=Int×List Tx
def kS(k:PrK):Int×List Str:=(k.1,k.2.map tS)
theorem kS_inj{a b:PrK}(h:kS a=kS b):a=b:=by obtain⟨a1,a2⟩:=a;obtain⟨b1,b2⟩:=b;have h1:=congrArg Prod.fst h;have h2:=congrArg (λx=>cpsL x.2) h;simp only[kS,cpsL,c7,tt,lI,List.map_id']at h1 h2;rw[h1,h2]
def PrH(H:Hp)(k:PrK)(a:af):Prop:=k.2≠[]/\∃b,H a=aa (.tup [.int k.1,.ref b])/\H b=aa (.tup (dA k.2))
theorem PrH.is{P:aM}{w:aF}{H:Hp}{h:aA}{k:PrK}{a:af}(ok:cI P w H h)(x:PrH H k a):PrIs h (kS k) (.ref a):=by
 obtain⟨h0,b,h1,h2⟩:=x;obtain⟨_,its,r,p,_⟩:=(show cG P w H h a (.tup [.int k.1,.ref b])from ok a _ h1)
 obtain⟨_,its2,r2,p2,_⟩:=(show cG P w H h b (.tup (dA k.2))from ok b _ h2)
 obtain⟨u,v,rfl,ru,rv⟩:=vals2 r;obtain⟨t,rfl⟩:=ru;cases rv;exact⟨λz=>h0 (by simpa[kS]using z),a,b,t,its2.toArray,rfl,p,p2,by have:=ux r2;rw[wx];exact this⟩
where
 vals2 {x y:V}{us:List ai} (h:bn [x,y] us):∃u v,us=[u,v]/\RelV x u/\RelV y v:=by
  cases h with
  |cons h1 h=>cases h with
   |cons h2 h=>cases h with
    |nil=>exact⟨_,_,rfl,h1,h2⟩
def toV(q:PrK×af):(Int×List Str)×ai:=(kS q.1,.ref q.2)
def addQ(aH:List (PrK×af))(q:PrK×af):List (PrK×af):=if q.1∈aH.map (·.1)then aH else aH++[q]
def uniqQ(qs:List (PrK×af)):List (PrK×af):=qs.foldl addQ []
theorem addV_toV(aH:List (PrK×af))(q:PrK×af):addV (aH.map toV) (toV q)=(addQ aH q).map toV:=by
 unfold addV addQ;have hm:(toV q).1∈(aH.map toV).map (·.1)↔q.1∈aH.map (·.1):=by rw[c7,bO,bO];exact⟨λ⟨y,hy,e⟩=>⟨y,hy,kS_inj e⟩,λ⟨y,hy,e⟩=>⟨y,hy,by show kS y.1=kS q.1;rw[e]⟩⟩
 by_cases h:q.1∈aH.map (·.1)
 ·rw[if_pos h,if_pos (hm.mpr h)]
 ·rw[if_neg h,if_neg λz=>h (hm.mp z),m8];rfl
theorem uniqQ_take(qs:List (PrK×af))(i:Nat)(h:i<qs.length):uniqQ (qs.take (i+1))=addQ (uniqQ (qs.take i)) qs[i]:=by unfold uniqQ;rw[wM h,ES];rfl
theorem addQ_len(aH:List (PrK×af))(q:PrK×af):aH.length<=(addQ aH q).length:=by
 unfold addQ;split
 ·exact a_ _
 ·simp
theorem uniqQ_mono(l aH:List (PrK×af)):aH.length<=(l.foldl addQ aH).length:=by
 induction l generalizing aH with
 |nil=>exact a_ _
 |cons x r ih=>exact cS (addQ_len aH x) (ih _)
theorem uniqQ_le(qs:List (PrK×af))(i:Nat):(uniqQ (qs.take i)).length<=(uniqQ qs).length:=by
 have e:uniqQ qs=(qs.drop i).foldl addQ (uniqQ (qs.take i)):=by unfold uniqQ;rw[←ES,nh]
 rw[e];exact uniqQ_mono _ _
theorem uniqQ_mem(l aH:List (PrK×af)):∀x∈l.foldl addQ aH,x∈aH\/x∈l:=by
 induction l generalizing aH with
 |nil=>exact λx hx=>.inl hx
 |cons y r ih=>
  intro x hx;rcases ih _ x hx with z|z
  ·unfold addQ at z;split at z
   ·exact .inl z
   ·rcases fZ.mp z with z|z
    ·exact .inl z
    ·exact .inr (by rw[hU.mp z];exact eN)
  ·exact .inr (dI _ z)
theorem uniqQ_sub{qs:List (PrK×af)}{x:PrK×af}(h:x∈uniqQ qs):x∈qs:=(uniqQ_mem qs [] x h).elim (λz=>by simp at z) id
def setPHO(X:Cx)(a:af)(qs:List (PrK×af)):HO:=.ext λh=>SetV (prKd X.prog X.w) h a (qs.map toV)
def refs(qs:List (PrK×af)):List V:=qs.map λq=>.ref q.2
theorem refs_vals:∀{qs:List (PrK×af)}{us:List ai},bn (refs qs) us->us=qs.map λq=>Value.ref q.2
 |[],_,.nil=>rfl
 |q::qs,_,.cons r h=>by cases r;rw[refs_vals h];rfl
theorem vals_refs:∀(qs:List (PrK×af)),bn (refs qs) (qs.map λq=>Value.ref q.2)
 |[]=>.nil
 |q::qs=>.cons rfl (vals_refs qs)
theorem call_setLP(hu:X.A.units+64<cLine)(hc:X.calm=ah):eA X (.type "set") (λxs H Q=>∃(p:af) (qs:List (PrK×af)),xs=[.ref p]/\cc X.K H p (refs qs)/\(∀q∈qs,PrH H q.1 q.2)/\(uniqQ qs).length<4000/\∀a,H a=ae->Q (.ref a) (upd H a (setPHO X a (uniqQ qs)))):=by
 intro ag s σ H xs us Q I r h;obtain⟨p,qs,rfl,hq,hP,h4,q⟩:=h;obtain⟨u,rfl,ru⟩:=vals1 r;cases ru;obtain⟨its,rv,pl,hz⟩:=I.list hq;have oQ:=refs_vals rv;have hsz:its.toArray.size=qs.length:=by rw[ce,oQ,dw]
 have key:∀(h:aA),(∀b o,b<s.heap.objs.size->s.heap.get? b=aa o->h.get? b=aa o)->∀x∈qs,(prKd X.prog X.w).is h (kS x.1) (.ref x.2):=λh k x hx=>(prKd X.prog X.w).keep ((hP x hx).is I.hok) λb o e _=>k b o (bu e) e;refine El (P:=X.prog) (w:=X.w) (I.ok.hd hc) pl.isList (J:=λi h=>SetV (prKd X.prog X.w) h s.heap.objs.size ((uniqQ (qs.take i)).map toV)/\∀b o,b<s.heap.objs.size->s.heap.get? b=aa o->h.get? b=aa o)
  (λi h h' ⟨S,k⟩ g=>⟨S.at λo e=>g _ o (a_ _) e,λb o hb e=>g b o (jW hb) (k b o hb e)⟩) ⟨⟨#[],0,_,[],c0 _ rfl,qG _,rfl,by decide,⟨⟨rfl,List.Pairwise.nil,(λj hj=>by cases hj),(by show 7∈_;decide),(by show 0*5<7*3;decide)⟩,rfl,(λq hq=>by cases hq)⟩,rfl,λh=>absurd rfl h⟩,λb o _ e=>bG _ e⟩
  (λi v s1 E Q hi hv ⟨S,k⟩ q=>?_) λh' tk ⟨S,_⟩ k=>?_
 ·have gF:i<qs.length:=∅
  obtain rfl:v=.ref qs[i].2:=by rw[oQ]at hv;simp[gF]at hv;exact hv.symm
  have kx:=key s1.heap k qs[i] (sY gF);unfold setAdd;refine iw (ap (hash_pr (P:=X.prog) (w:=X.w) (s:=s1) (show X.A.units+3+4<cLine by lia) kx s1.toks _ _ λtk oR=>?_));refine set_addV (kd:=prKd X.prog X.w) (s:={s1 with toks:=tk}) (k:=kS qs[i].1) (show X.A.units+3+4<cLine by lia) S (λp hp=>?_) kx (by rw[dw];exact oF (uniqQ_le qs i) h4) λh' b iU li=>?_
  ·obtain⟨x,hx,rfl⟩:=bO.mp hp;exact key s1.heap k x (Az (uniqQ_sub hx))
  ·refine q h' tk b oR iU ⟨?_,λb o hb e=>by rw[iU.2 b (cR hb)];exact k b o hb e⟩;rw[uniqQ_take qs i gF,←addV_toV];exact li
 ·have S':SetV (prKd X.prog X.w) h' s.heap.objs.size ((uniqQ qs).map toV):=by
   rw[hsz,tq]at S;exact S
  refine⟨.ref s.heap.objs.size,_,I.laid (t':=tk) (o:=setPHO X s.heap.objs.size (uniqQ qs)) (λb o e=>k b o (bu e) e) (a_ _) ?_,rfl,q _ I.fresh⟩;obtain⟨es,ep,t,ss,e,_⟩:=S'.ex;exact⟨S',⟨_,e⟩,λh1 h2 q1 q2=>q1.at q2⟩
theorem call_sortedSetP(hu:X.A.units+64<cLine)(hc:X.calm=ah):eA X (.builtin "sorted") (λxs H Q=>∃(p:af) (qs:List (PrK×af)) (n:Int),xs=[.ref p]/\H p=aa (setPHO X p qs)/\(∀q∈qs,PrH H q.1 q.2/\q.1.1=n)/\qs.length<4000 /\ ∀l rs,H l=ae->NT rs qs->rs.Pairwise (λx y=>ltL y.1.2 x.1.2=aj)->Q (.ref l) (upd H l (.lst (refs rs)))):=by
 intro ag s σ H xs us Q I r h;obtain⟨p,qs,n,rfl,hq,hP,h4,q⟩:=h;obtain⟨u,rfl,ru⟩:=vals1 r;cases ru;obtain⟨S,_,_⟩:=(show cG X.prog X.w H s.heap p (setPHO X p qs)from I.hok p _ hq)
 obtain⟨es,ep,t,ps,ho,hp,rm,hsz,T,j_,cT⟩:=S.ex;have SE:pK X.w s.heap p es:=⟨ep,t,ho,hsz,T.fits (by simp),j_,λh0=>cT λz=>h0 (by have e1:=congrArg lS rm;have e2:=hp.length_eq;rw[z]at e2;simp at e1 e2;rw[e1,e2];rfl)⟩
 have pv0:(es.toList.map (·.2)).Perm (qs.map λq=>Value.ref q.2):=by rw[rm,c7];have:=hp.map (·.2);rwa[c7]at this
 refine sorted_genP ∅ (A5 (uy (I.ok.hd hc)) SE λs' vs pv k eg eo=>?_);obtain⟨h',g',d',t',o'⟩:=s';obtain rfl:g'=s.gens:=eg;obtain rfl:o'=s.os:=eo;have I1:Inv X ag σ H {s with heap:=h',drawn:=d',toks:=t'}:=by have:=Inv.call (ch:=[]) I (g':=s.gens) (d':=d') (t':=t') (Un.kept (fs:=eF X.stack) (ex:=[]) k) (I.hok.kept k) I.bare (λb hb=>absurd hb (by simp));exact this
 have pvq:=pv.trans pv0;have key:∀x∈qs,PrIs h' (n,x.1.2.map tS) (.ref x.2):=λx hx=>by have:=(hP x hx).1.is I1.hok;rw[←(hP x hx).2];exact this
 refine⟨n,λv hv=>?_,by have:=pvq.length_eq;rw[dw]at this;lia,λh2 out e k2 jl b1 b2=>?_⟩
 ·obtain⟨x,hx,rfl⟩:=bO.mp (pvq.mem_iff.mp hv);exact⟨_,key x hx⟩
 ·obtain⟨rs,e1,e2⟩:=set_addV.perm_map_ex (b1.trans pvq);refine⟨.ref _,_,I1.laid (t':=t') (o:=.lst (refs rs)) k2 (a_ _) ⟨?_,out.toList,e,by rw[e1];exact vals_refs rs,by rw[Array.toArray_toList];exact jl⟩,rfl,q _ rs I1.fresh e2 ?_⟩
  ·unfold refs;rw[dw,e2.length_eq];exact jW (u7 ∅)
  ·rw[e1]at b2;refine(wy.mp b2).imp_of_mem λ{x y} hx hy hh=>?_;have:=hh _ _ (key x (e2.mem_iff.mp hx)) (key y (e2.mem_iff.mp hy));simpa[cpsL,c7,tt,lI]using this
end
end L2
namespace Pu
open L2
section
variable{X:Cx}{E:XK}{e:aB}{ds:ak->R (List PV)}{pos p q pos':Pos}
def pr1:PV->Option PrK
 |.tup [.int n,.tup xs]=>(ip xs).bind λls=>if ls≠[] then aa (n,ls)else ae
 |_=>ae
def prs:List PV->Option (List PrK)
 |[]=>aa []
 |x::xs=>(pr1 x).bind λk=>(prs xs).bind λks=>aa (k::ks)
def prV(k:PrK):PV:=.tup [.int k.1,.tup (ao k.2)]
def uniqK(ks:List PrK):List PrK:=ks.foldl (λaH k=>if k∈aH then aH else aH++[k]) []
def leK2(a b:PrK):Bool:=!ltL b.2 a.2
def sortK(ks:List PrK):List PrK:=ks.mergeSort leK2
def sortSetVP:List PV->Option PO
 |[.lst xs]=>(prs xs).bind λks=>if(uniqK ks).length<4000/\∀k∈ks,k.1=(ks.headD (0,[])).1 then aa (.lst ((sortK (uniqK ks)).map prV))else ae
 |_=>ae
theorem pr1_eq{x:PV}{k:PrK}(h:pr1 x=aa k):x=prV k/\k.2≠[]:=by
 unfold pr1 at h;split at h
 ·obtain⟨ls,e1,e2⟩:=wN.mp h;split at e2
  ·rename_i hn;cases e2;rw[uB e1];exact⟨rfl,hn⟩
  ·cases e2
 ·cases h
theorem prs_eq:∀{xs:List PV}{ks:List PrK},prs xs=aa ks->xs=ks.map prV/\∀k∈ks,k.2≠[]
 |[],ks,h=>by cases h;exact⟨rfl,λk hk=>by cases hk⟩
 |x::xs,ks,h=>by
  obtain⟨k,e1,e2⟩:=wN.mp h;obtain⟨ks',e3,e4⟩:=wN.mp e2;cases e4;obtain⟨a1,a2⟩:=prs_eq e3;obtain⟨b1,b2⟩:=pr1_eq e1;refine⟨by rw[a1,b1];rfl,λy hy=>?_⟩;rcases bF.mp hy with rfl|hy
  ·exact b2
  ·exact a2 y hy
theorem pr_rep{K:ax}{H:Hp}{F:af->Prop}{k:PrK}{v:V}(h:aS K H F (prV k) v)(hn:k.2≠[]):∃a,v=.ref a/\PrH H k a:=by obtain⟨a,vs,rfl,h1,v1,r1,rfl,e1,v2,r2,rfl,⟨b,ws,rfl,h2,h3⟩,h4⟩:=h;rw[show r2=[] from h4,show v1=.int k.1 from e1]at h1;rw[(Of.mp h3).1]at h2;exact⟨a,rfl,hn,b,h1,h2⟩
theorem prs_rep{K:ax}{H:Hp}{F:af->Prop}:∀{ks:List PrK}{vs:List V},Reps K H F (ks.map prV) vs->(∀k∈ks,k.2≠[])->∃qs:List (PrK×af),qs.map (·.1)=ks/\vs=refs qs/\∀q∈qs,PrH H q.1 q.2/\aS K H F (prV q.1) (.ref q.2)
 |[],_,h,_=>⟨[],rfl,h,λq hq=>by cases hq⟩
 |k::ks,_,⟨v,r,e,h1,h2⟩,hn=>by
  obtain⟨a,rfl,h3⟩:=pr_rep h1 (hn k eN);obtain⟨qs,i1,i2,i3⟩:=prs_rep h2 λy hy=>hn y (dI _ hy);refine⟨(k,a)::qs,by rw[eu,i1],by rw[e,i2];rfl,λq hq=>?_⟩;rcases bF.mp hq with rfl|hq
  ·exact⟨h3,h1⟩
  ·exact i3 q hq
theorem reps_refs{K:ax}{H:Hp}{F:af->Prop}:∀{rs:List (PrK×af)},(∀q∈rs,aS K H F (prV q.1) (.ref q.2))->Reps K H F ((rs.map (·.1)).map prV) (refs rs)
 |[],_=>rfl
 |q::rs,h=>⟨_,_,rfl,h q eN,reps_refs λx hx=>h x (dI _ hx)⟩
theorem uniqQ_keys(l aH:List (PrK×af)):(l.foldl addQ aH).map (·.1)=(l.map (·.1)).foldl (λaH k=>if k∈aH then aH else aH++[k]) (aH.map (·.1)):=by
 induction l generalizing aH with
 |nil=>rfl
 |cons x r ih=>
  rw[kX,ih,eu,kX];congr 1;unfold addQ;split
  ·rfl
  ·rw[m8];rfl
theorem sortK_uniq{ks rs:List PrK}{n:Int}(hp:rs.Perm ks)(hn:∀k∈ks,k.1=n)(hs:rs.Pairwise (λx y=>ltL y.2 x.2=aj)):rs=sortK ks:=by
 refine List.Perm.eq_of_pairwise (le:=λa b=>leK2 a b=ah) (λa b ha hb h1 h2=>?_) (hs.imp λh=>by unfold leK2;rw[h];rfl) (List.pairwise_mergeSort (λa b c=>?_) (λa b=>?_) ks) (hp.trans (EO ks leK2).symm)
 ·have e1:=hn a (hp.mem_iff.mp ha);have e2:=hn b ((EO ks leK2).mem_iff.mp hb);unfold leK2 at h1 h2;have:=ordL.total a.2 b.2 (show ltL a.2 b.2=aj by simpa using h2) (show ltL b.2 a.2=aj by simpa using h1);exact Prod.ext (e1.trans e2.symm) this
 ·unfold leK2;intro h1 h2;have:=qP (O:=ordL) (a:=a.2) (b:=b.2) (c:=c.2) (show ltL b.2 a.2=aj by simpa using h1) (show ltL c.2 b.2=aj by simpa using h2);have:ltL c.2 a.2=aj:=this;rw[this];rfl
 ·unfold leK2;cases h:ltL b.2 a.2 with
  |false=>rfl
  |true=>
   have:ltL a.2 b.2=aj:=by
    cases h':ltL a.2 b.2 with
    |false=>rfl
    |true=>exact absurd (ordL.trans _ _ _ h h') (by have:ltL b.2 b.2=aj:=ordL.irrefl _;show ¬ltL b.2 b.2=ah;rw[this];decide)
   rw[this];rfl
def rSetThenP(X:Cx)(r:List V->Hp->VK->Prop):List V->Hp->VK->Prop:=λxs H Q=>∃(p:af) (qs:List (PrK×af)),xs=[.ref p]/\cc X.K H p (refs qs)/\(∀q∈qs,PrH H q.1 q.2)/\(uniqQ qs).length<4000/\∀a,H a=ae->r [.ref a] (upd H a (setPHO X a (uniqQ qs))) Q
def rSortP(X:Cx):List V->Hp->VK->Prop:=λxs H Q=>∃(p:af) (qs:List (PrK×af)) (n:Int),xs=[.ref p]/\H p=aa (setPHO X p qs)/\(∀q∈qs,PrH H q.1 q.2/\q.1.1=n)/\qs.length<4000 /\
  ∀l rs,H l=ae->NT rs qs->rs.Pairwise (λx y=>ltL y.1.2 x.1.2=aj)->Q (.ref l) (upd H l (.lst (refs rs)))
theorem pln_sortSetV:kw X.K (rSetThenP X (rSortP X)) sortSetVP:=λF H xs vs Q po hF rs e q=>by
 unfold sortSetVP at e;split at e
 ·obtain⟨v,rfl,a,us,rfl,ha,_,ru⟩:=ig rs;obtain⟨ks,e1,e2⟩:=wN.mp e;obtain⟨rfl,dj⟩:=prs_eq e1;obtain⟨qs,i1,rfl,i3⟩:=prs_rep ru dj;split at e2
  ·rename_i hh;cases e2;have hk:(uniqQ qs).map (·.1)=uniqK ks:=by unfold uniqQ uniqK;rw[uniqQ_keys,i1];rfl
   have hl4:(uniqQ qs).length<4000:=by rw[←dw (f:=(·.1)),hk];exact hh.1
   have jI:∀q∈qs,q.1.1=(ks.headD (0,[])).1:=λq hq=>hh.2 _ (by rw[←i1];exact bO.mpr ⟨q,hq,rfl⟩);refine⟨a,qs,rfl,.inl ha,λq hq=>(i3 q hq).1,hl4,λb hb=>⟨b,uniqQ qs,(ks.headD (0,[])).1,rfl,cC,λq hq=>⟨?_,jI q (uniqQ_sub hq)⟩,hl4,λl zs gH hp hs=>?_⟩⟩
   ·obtain⟨h0,c,h1,h2⟩:=(i3 q (uniqQ_sub hq)).1;exact⟨h0,c,by rw[b7 (jL h1 hb)];exact h1,by rw[b7 (jL h2 hb)];exact h2⟩
   ·have hlb:l≠b:=by rintro rfl;rw[cC]at gH;cases gH
    have uf:H l=ae:=by rw[b7 hlb]at gH;exact gH
    have al:Al F F H (upd (upd H b (setPHO X b (uniqQ qs))) l (.lst (refs zs))):=(Al.new0 hb).trans (Al.new0 gH);have ez:zs.map (·.1)=sortK (uniqK ks):=by rw[←hk];refine sortK_uniq (n:=(ks.headD (0,[])).1) (hp.map _) (λk mj=>?_) (wy.mpr hs);obtain⟨y,hy,rfl⟩:=bO.mp mj;exact jI y (uniqQ_sub hy)
    refine q l F _ (λc=>c=l) al ⟨⟨_,cC,?_⟩,λc=>Iff.rfl⟩ λc z=>?_
    ·rw[←ez];refine reps_refs λy hy=>?_;exact aS.mono (λ_ h=>h) (λ_ _ _ h=>al.same.rd h) (λc o h _=>al.same c o h) _ _ (i3 y (uniqQ_sub (hp.mem_iff.mp hy))).2
    ·subst z;exact⟨uf,λz=>Exists.elim (hF _ z) (λo w=>by rw[uf]at w;cases w),_,cC,trivial⟩
  ·cases e2
 ·cases e
theorem dn_sortSetV(hu:X.A.units+64<cLine)(hc:X.calm=ah)(ha:DA X E [e] ds)(hm:X.mg "sorted" = ae)(hm2:X.mg "set" = ae)(hg:Gl X "sorted":=by rfl)(hg2:Gl X "set":=by rfl)(h:kJ e=aj:=by rfl):DN X E (.Call (.Name "sorted" p) [.Call (.Name "set" q) [e] [] pos'] [] pos) (dL sortSetVP ds):=λF S ε σ H Q rl h'=>b9 (oj (call_sortedSetP hu hc) hg hm pR (ij (vE (call_setLP hu hc) hg2 hm2 Cg gy (by decide) (by decide) (iY h) rfl) jt (iY rfl)) (by decide) (by decide) (iY rfl) rfl) (r_ pln_sortSetV ha rl h')
end
end Pu
local macro_rules | `(tactic| simp! [$xs,*]) => `(tactic| simp [Pu.bd, Pu.dP, Pu.dB, Pu.d2, Pu.d1, Pu.dV, Pu.dC, Pu.dL, Pu.dF, Pu.ar, Pu.aC, Pu.cH, Pu.kq, Pu.cO, Pu.ju, Pu.a8, Pu.gV, Pu.gO, Pu.bB, Pu.fS, Pu.fY, Pu.cx, Pu.eM, Pu.gi, Pu.R.bind, Pu.bh, Pu.bD, Pu.fq, Pu.bC, Pu.back, Pu.gr, Pu.lq, Pu.vK, Pu.uO, Pu.vT, Pu.vq, Pu.bj, Pu.mG, Pu.eI, Pu.bi, Pu.eQ, Pu.sM, Pu.jA, Pu.ze, Pu.iD, Pu.sE, Pu.xv, Pu.nE, Pu.jJ, Pu.yx, Pu.kG, Pu.eV, Pu.dO, Pu.nZ, Pu.jb, Pu.nP, Pu.imm, Pu.qb, Pu.ly, bV, lS, $xs,*])
namespace Sh
open L2 Pu
set_option genInjectivity false in
structure Ad where
 SlitError:af
 NoText:af
 NoWidth:af
 NoView:af
 NoWindow:af
 Never:af
 Full:af
 Nothing:af
 Unlike:af
 NoPlace:af
 NoLetters:af
 BadText:af
 Seeker:af
 Slit:af
def gx(a:Ad):List af:=[a.NoText,a.NoWidth,a.NoView,a.NoWindow,a.Never,a.Full,a.Nothing,a.Unlike,a.NoPlace,a.NoLetters,a.BadText]
def lr(a:Ad)(c:ai):Bool:=match c with
 |.ref x=>(gx a).contains x
 |_=>aj
def ik(a:Ad)(c:ai)(D:V):Option Bool:=match c,D with
 |.ref x,.ref d=>if(gx a).contains x&&(gx a).contains d then aa (x == d)else ae
 |.ref x,.ty T=>if(gx a).contains x&&T == "ValueError" then aa ah else ae
 |_,_=>ae
def yas(a:Ad):ak->R aR:=cH (dL n6 (ar (dF (cz [1] (cg (dV 0)) (dH) (d2 (pq aj) (dV 0) (dV 1)))) (aC)))
def sH(a:Ad):ak->R Slot:=bD 2 [] (bC 0 (yas a))
def yaw(a:Ad):ak->R aR:=cH (jJ (dL dU (ar (dV 0) (ar (dC (.raw (.ty "int"))) (aC)))) (sE (dL dU (ar (dV 0) (ar (dC (.raw (.ty "bool"))) (aC))))))
def lu(a:Ad):ak->R Slot:=bD 1 [] (bC 0 (yaw a))
def yax(a:Ad):ak->R aR:=cH (jJ (bj (a8 (lu a) (gV (dV 0) (bB)))) (kG (eV λi j=>decide (i<=j)) (eV λi j=>decide (i<=j)) (dC (.int 1)) (dV 0) (dC (.int 4))))
def kM(a:Ad):ak->R Slot:=bD 1 [] (bC 0 (yax a))
def yay(a:Ad):ak->R aR:=cH (jJ (dL dU (ar (dV 0) (ar (dC (.raw (.ty "str"))) (aC)))) (jJ (d2 (eqT aj) (dL bI (ar (dV 0) (aC))) (dV 1)) (bj (a8 (sH a) (gV (dV 0) (gV (dV 2) (bB)))))))
def mK(a:Ad):ak->R Slot:=bD 3 [] (bC 0 (yay a))
def yan(a:Ad):ak->R aR:=bd (dP (nE (iD (dB (dL dU (ar (dV 0) (ar (dC (.raw (.ty "tuple"))) (aC)))))) (iD (dB (kG (eV λi j=>decide (i<=j)) (eV λi j=>decide (i<=j)) (dC (.int 1)) (dL bI (ar (dV 0) (aC))) (dC (.int 9)))))) (cH (dC (.bl aj))) (eQ))
 (bd (dP (iD (dB (dL n6 (ar (dF (cz [1,2] (cg (dV 0)) (dH) (bj (a8 (mK a) (gV (dV 0) (gV (dV 1) (gV (dV 2) (bB)))))))) (aC))))) (cH (dC (.bl aj))) (eQ))
 (cH (d2 (eqT aj) (dF (dL pV (ar (dV 0) (aC)))) (dF (dL lD (ar (dV 0) (aC)))))))
def i8(a:Ad):ak->R Slot:=bD 3 [] (bC 0 (yan a))
def yav(a:Ad):ak->R aR:=bd (dP (nE (iD (dB (dL dU (ar (dV 0) (ar (dC (.raw (.ty "tuple"))) (aC)))))) (dB (d2 (eqT ah) (dL bI (ar (dV 0) (aC))) (dC (.int 2))))) (cH (dC (.bl aj))) (eQ))
 (cH (jJ (bj (a8 (kM a) (gV (d2 cu (dV 0) (dC (.int 0))) (bB)))) (bj (a8 (i8 a) (gV (d2 cu (dV 0) (dC (.int 1))) (gV (d2 cu (dV 0) (dC (.int 0))) (gV (dV 1) (bB))))))))
def gu(a:Ad):ak->R Slot:=bD 2 [] (bC 0 (yav a))
def yau(a:Ad):ak->R aR:=kq (a8 (gu a) (gV (dV 0) (gV (dC (.str [97,98,99])) (bB))))
def lF(a:Ad):ak->R Slot:=bD 1 [] (bC 0 (yau a))
def yap(a:Ad):ak->R aR:=dP (iD (dB (bj (a8 (lF a) (gV (dV 0) (bB)))))) (mB (.ref a.NoView) (λε=>bN ((dC (.str [97,32,118,105,101,119,32,105,115,32,97,32,116,117,112,108,101,32,111,102,32,97,32,119,105,100,116,104,32,97,110,100,32,97,32,114,105,115,105,110,103,32,116,117,112,108,101,32,111,102,32,49,32,116,111,32,57,32,119,105,110,100,111,119,115])) ε))) (eQ)
def kD(a:Ad):ak->R Slot:=bD 1 [] (bC 0 (yap a))
def yaP(a:Ad):ak->R aR:=bd (dP (iD (dB (kG (eV λi j=>decide (i<=j)) (eV λi j=>decide (i<=j)) (dC (.int 1)) (dL bI (ar (dV 1) (aC))) (dC (.int 9))))) (mB (.ref a.NoView) (λε=>bN ((dC (.str [97,32,118,105,101,119,32,104,97,115,32,49,32,116,111,32,57,32,119,105,110,100,111,119,115])) ε))) (eQ))
 (cH (dL bi (ar (dV 0) (ar (dL mH (ar (dF (dL lD (ar (dV 1) (aC)))) (aC))) (aC)))))
def v_(a:Ad):ak->R Slot:=bD 2 [] (bC 0 (yaP a))
def yar(a:Ad):ak->R aR:=bd (ju 1 (xZ))
 (bd (λε=>iL (gm 2 (cg (dV 0)) (ln 1 (dV 2) (d2 a9 (lK 1 (dV 2) (dC (.int 0))) (dC (.int 1)))) ε))
 (pZ 1))
def sL(a:Ad):ak->R Slot:=bD 1 [] (bC 2 (yar a))
def yam(a:Ad)(rc:ak->R Slot):ak->R aR:=bd (dP (iD (dB (r9 2))) (bd (nZ 3 (dV 0)) (sM (.ret (.val .non)))) (eQ))
 (bd (cO 4 (iZ ie (dV 0) (gq (d2 a9 (d2 ir (dL bI (ar (dV 0) (aC))) (dV 1)) (dC (.int 1)))) (nO)))
 (λε=>iL (gm 5 (cg (dC (.str [97,98,99]))) (bd (cO 6 (d2 a9 (dV 4) (dV 5)))
 (dP (dB (d2 (eV λi j=>decide (j<i)) (lK 2 (dV 6) (dC (.int 0))) (dC (.int 0)))) (bd (ln 2 (dV 6) (d2 ir (oi 2 (dV 6)) (dC (.int 1))))
 (bd (jA (a8 (rc) (gV (d2 a9 (dV 0) (dV 5)) (gV (dV 1) (gO 2 (gO 3 (bB)))))))
 (ln 2 (dV 6) (d2 a9 (oi 2 (dV 6)) (dC (.int 1)))))) (eQ))) ε)))
def mO(a:Ad):Nat->ak->R Slot
 |0=>bD 4 [2,3] (bC 3 Cb)
 |k+1=>bD 4 [2,3] (bC 3 (yam a (mO a k)))
def yaO(a:Ad):ak->R aR:=bd (jA (a8 (kD a) (gV (dV 0) (bB))))
 (bd (cO 1 (d2 cu (dV 0) (dC (.int 0))))
 (bd (ju 2 (dL eI (aC)))
 (bd (λε=>iL (gm 3 (cg (dF (dL sC (ar (dF (cz [] (cg (d2 cu (dV 0) (dC (.int 1)))) (dH) (iZ ie (dV 0) (nO) (gq (d1 nV (dC (.int 1))))))) (aC))))) (jA (rG (mO a 12) (pO (dV 3) (pO (dV 1) (gN (mG (a8 (sL a) (gV (d2 cu (dV 0) (dC (.int 1))) (bB)))) (gO 2 (bB))))))) ε))
 (pZ 2))))
def vJ(a:Ad):ak->R Slot:=bD 1 [] (bC 3 (yaO a))
def yaC(a:Ad):ak->R aR:=bd (dP (dB (d2 (eV λi j=>decide (i<j)) (dV 1) (dL bI (ar (dV 0) (aC))))) (cH (d2 cu (dV 0) (dV 1))) (eQ))
 (bd (dP (dB (d2 (eqT aj) (dV 0) (dF (dL eI (aC))))) (cH (dC (.int 0))) (eQ))
 (cH (d2 a9 (d2 jS (d2 cu (dV 0) (d2 fG (dV 1) (dL bI (ar (dV 0) (aC))))) (dC (.int 31))) (dV 1))))
def pN(a:Ad):ak->R Slot:=bD 2 [] (bC 0 (yaC a))
def yaE(a:Ad):ak->R aR:=bd (cO 3 (d2 fG (d2 a9 (d2 a9 (d2 jS (bj (a8 (pN a) (gV (dV 0) (gV (dV 1) (bB))))) (dC (.int 1103515245))) (d2 jS (dC (.int 7919)) (dV 1))) (dC (.int 12345))) (dC (.int 2147483647))))
 (cH (d2 fG (d2 fG (d2 fG (d2 rX (dV 3) (dC (.int 5))) (dC (.int 2147483647))) (dC (.int 999983))) (dV 2)))
def vX(a:Ad):ak->R Slot:=bD 3 [] (bC 1 (yaE a))
def yaD(a:Ad):ak->R aR:=bd (nZ 1 (dC (.int 0)))
 (kq (a8 (vX a) (gV (dV 0) (gV (jb (λxs=>nP (bI xs)) 1) (gV (dV 2) (bB))))))
def iR(a:Ad):ak->R Slot:=bD 3 [1] (bC 0 (yaD a))
def yaG(a:Ad):ak->R aR:=cH (d2 cu (dV 2) (bj (a8 (iR a) (gV (dV 0) (gO 1 (gV (dL bI (ar (dV 2) (aC))) (bB)))))))
def r8(a:Ad):ak->R Slot:=bD 3 [1] (bC 0 (yaG a))
def yaI(a:Ad):ak->R aR:=bd (cO 4 (bj (a8 (r8 a) (gV (dV 0) (gO 1 (gV (dF (dL eI (ar (dC (.int 1)) (ar (dC (.int 2)) (ar (dC (.int 2)) (ar (dC (.int 3)) (ar (dC (.int 3)) (ar (dC (.int 3)) (aC))))))))) (bB)))))))
 (bd (cO 5 (dC (.str [])))
 (bd (λε=>iL (gm 6 (dL i_ (ar (d2 a9 (dV 2) (bj (a8 (iR a) (gV (dV 0) (gO 1 (gV (d2 a9 (d2 ir (dV 3) (dV 2)) (dC (.int 1))) (bB))))))) (aC))) (cO 5 (d2 a9 (dV 5) (d2 cu (dC (.str [97,98,99])) (bj (a8 (iR a) (gV (dV 0) (gO 1 (gV (dV 4) (bB))))))))) ε))
 (cH (dV 5))))
def pB(a:Ad):ak->R Slot:=bD 4 [1] (bC 3 (yaI a))
def yaH(a:Ad):ak->R aR:=cH (dL mH (ar (dF (dL lD (ar (dF (cz [0,1] (dL i_ (ar (dL bI (ar (dV 0) (aC))) (aC))) (dB (d2 (eV λi j=>decide (i<=j)) (d2 a9 (dV 0) (dV 2)) (dL bI (ar (dV 1) (aC))))) (iZ ie (dV 1) (gq (dV 0)) (gq (d2 a9 (dV 0) (dV 2)))))) (aC)))) (aC)))
def jn(a:Ad):ak->R Slot:=bD 2 [] (bC 0 (yaH a))
def yaK(a:Ad):ak->R aR:=bd (cO 4 (dP (dB (d2 (eqT ah) (dV 2) (dC (.int 2)))) (d2 a9 (dC (.int 2)) (bj (a8 (iR a) (gV (dV 0) (gO 1 (gV (dC (.int 3)) (bB))))))) (d2 a9 (dC (.int 1)) (bj (a8 (iR a) (gV (dV 0) (gO 1 (gV (dC (.int 4)) (bB)))))))))
 (bd (ju 5 (dL pV (ar (bj (a8 (jn a) (gV (bj (a8 (pB a) (gV (dV 0) (gO 1 (gV (dV 4) (gV (d2 ir (d2 a9 (dV 4) (dV 3)) (dC (.int 1))) (bB))))))) (gV (dV 4) (bB))))) (aC))))
 (bd (λε=>iL (gm 6 (dL i_ (ar (d2 fG (dV 2) (dC (.int 3))) (aC))) (vZ 5 (bj (a8 (iR a) (gV (dV 0) (gO 1 (gV (jb (λxs=>nP (bI xs)) 5) (bB)))))) (bj (a8 (pB a) (gV (dV 0) (gO 1 (gV (dV 4) (gV (dV 4) (bB)))))))) ε))
 (cH (dL bi (ar (dV 4) (ar (dL mH (ar (dF (jb (λxs=>qb (lD xs)) 5)) (aC))) (aC)))))))
def rD(a:Ad):ak->R Slot:=bD 4 [1] (bC 3 (yaK a))
def yaF(a:Ad):ak->R aR:=bd (cO 2 (dF (dL eI (ar (dC .non) (ar (dC (.int 5)) (ar (dC (.str [50,58,32,97,98])) (ar (dF (dL eI (ar (dC (.int 1)) (ar (dL bi (ar (dC (.str [97])) (aC))) (aC))))) (ar (dL bi (ar (dC (.int 1)) (ar (dL bi (aC)) (aC)))) (ar (dL bi (ar (dC (.int 2)) (ar (dL bi (ar (dC (.str [97])) (aC))) (aC)))) (ar (dL bi (ar (dC (.int 0)) (ar (dL bi (ar (dC (.str [])) (aC))) (aC)))) (ar (dL bi (ar (dC (.int 5)) (ar (dL bi (ar (dC (.str [97,97,97,97,97])) (aC))) (aC)))) (ar (dL bi (ar (dC (.bl ah)) (ar (dL bi (ar (dC (.str [97])) (aC))) (aC)))) (aC)))))))))))))
 (bd (cO 2 (d2 a9 (dV 2) (dF (dL eI (ar (dL bi (ar (dC (.int 1)) (ar (dL bi (ar (dC (.str [98])) (ar (dC (.str [97])) (aC)))) (aC)))) (ar (dL bi (ar (dC (.int 1)) (ar (d2 uT (dL bi (ar (dC (.str [97])) (aC))) (dC (.int 10))) (aC)))) (ar (dL bi (ar (dC (.int 1)) (ar (dL bi (ar (dC (.str [100])) (aC))) (aC)))) (ar (dL bi (ar (dC (.int 1)) (ar (dL bi (ar (dC (.str [65])) (aC))) (aC)))) (ar (dL bi (ar (dC (.int 1)) (ar (dF (dL eI (ar (dC (.str [97])) (aC)))) (aC)))) (ar (dL bi (ar (dC (.int 1)) (ar (dL bi (ar (dC (.int 1)) (aC))) (aC)))) (aC)))))))))))
 (bd (cO 2 (d2 a9 (dV 2) (dF (dL eI (ar (dL bi (ar (dC (.int 1)) (aC))) (ar (dL bi (ar (dC (.int 1)) (ar (dL bi (ar (dC (.str [97])) (aC))) (ar (dC (.int 1)) (aC))))) (ar (dL bi (ar (dC (.str [49])) (ar (dL bi (ar (dC (.str [97])) (aC))) (aC)))) (aC))))))))
 (kq (a8 (r8 a) (gV (dV 0) (gO 1 (gV (dV 2) (bB))))))))
def v6(a:Ad):ak->R Slot:=bD 2 [1] (bC 1 (yaF a))
def yaL(a:Ad):ak->R aR:=bd (ju 1 (dL eI (ar (dL (iH (ik a)) (ar (dV 0) (ar (dC (.raw (.ref a.NoText))) (aC)))) (ar (dL (iH (ik a)) (ar (dV 0) (ar (dC (.raw (.ref a.NoWidth))) (aC)))) (ar (dL (iH (ik a)) (ar (dV 0) (ar (dC (.raw (.ref a.NoView))) (aC)))) (ar (dL (iH (ik a)) (ar (dV 0) (ar (dC (.raw (.ref a.NoWindow))) (aC)))) (aC)))))))
 (bd (lG 1 (dF (dL eI (ar (dL (iH (ik a)) (ar (dV 0) (ar (dC (.raw (.ref a.Never))) (aC)))) (ar (dL (iH (ik a)) (ar (dV 0) (ar (dC (.raw (.ref a.Full))) (aC)))) (ar (dL (iH (ik a)) (ar (dV 0) (ar (dC (.raw (.ref a.Nothing))) (aC)))) (ar (dL (iH (ik a)) (ar (dV 0) (ar (dC (.raw (.ref a.Unlike))) (aC)))) (aC))))))))
 (bd (lG 1 (dF (dL eI (ar (dL (iH (ik a)) (ar (dV 0) (ar (dC (.raw (.ref a.NoPlace))) (aC)))) (ar (dL (iH (ik a)) (ar (dV 0) (ar (dC (.raw (.ref a.NoLetters))) (aC)))) (ar (dL (iH (ik a)) (ar (dV 0) (ar (dC (.raw (.ref a.BadText))) (aC)))) (aC)))))))
 (bd (dP (nE (dB (d2 (eqT ah) (pP kF 1 (dC (.bl ah))) (dC (.int 1)))) (iD (dB (dL (iH (ik a)) (ar (dV 0) (ar (dC (.raw (.ty "ValueError"))) (aC))))))) (cH (dL bi (ar (dC (.str [114,101,102,117,115,101,100])) (ar (d1 nV (dC (.int 1))) (aC))))) (eQ))
 (cH (dL bi (ar (dC (.str [114,101,102,117,115,101,100])) (ar (pP yP 1 (dC (.bl ah))) (aC))))))))
def lJ(a:Ad):ak->R Slot:=bD 1 [] (bC 1 (yaL a))
def yaJ(a:Ad):ak->R aR:=bd (cO 3 (bj (a8 (jn a) (gV (dV 0) (gV (dV 1) (bB))))))
 (cH (dL n6 (ar (dF (cz [3,2] (cg (dV 3)) (dH) (d2 (eV λi j=>decide (i<=j)) (pC kF (dV 1) (dV 0)) (pC kF (dV 2) (dV 0))))) (aC))))
def mL(a:Ad):ak->R Slot:=bD 3 [] (bC 1 (yaJ a))
def yaA(a:Ad):ak->R aR:=bd (yw 1 2 (dV 0))
 (bd (cO 3 (dF (dL eI (ar (dC (.str [])) (aC)))))
 (bd (λε=>iL (gm 4 (dL i_ (ar (d2 ir (d2 a9 (dL bI (ar (dV 2) (aC))) (dV 1)) (dC (.int 1))) (aC))) (bd (ju 5 (dL eI (aC)))
 (bd (gm 6 (cg (dV 3)) (lG 5 (dF (cz [6,1,2] (cg (dC (.str [97,98,99]))) (dB (bj (a8 (mL a) (gV (d2 a9 (dV 1) (dV 0)) (gV (dV 2) (gV (dV 3) (bB))))))) (d2 a9 (dV 1) (dV 0))))))
 (cO 3 (dM 5)))) ε))
 (mw (cz [1,2] (cg (dV 3)) (dB (d2 (eqT aj) (bj (a8 (jn a) (gV (dV 0) (gV (dV 1) (bB))))) (dV 2))) (dV 0)))))
def rT(a:Ad):ak->R Slot:=bD 1 [] (bC 6 (yaA a))
def yat(a:Ad):ak->R aR:=cH (jJ (dL dU (ar (dV 0) (ar (dC (.raw (.ty "str"))) (aC)))) (jJ (kG (eV λi j=>decide (i<=j)) (eV λi j=>decide (i<=j)) (dC (.int 1)) (dL bI (ar (dV 0) (aC))) (dV 1)) (bj (a8 (sH a) (gV (dV 0) (gV (dC (.str [97,98,99])) (bB)))))))
def vW(a:Ad):ak->R Slot:=bD 2 [] (bC 0 (yat a))
def yao(a:Ad):ak->R aR:=dP (iD (dB (bj (a8 (vW a) (gV (dV 0) (gV (dC (.int 12)) (bB))))))) (mB (.ref a.NoText) (λε=>bN ((dC (.str [97,32,116,101,120,116,32,104,97,115,32,49,32,116,111,32,49,50,32,108,101,116,116,101,114,115,32,97,44,32,98,44,32,99])) ε))) (eQ)
def vL(a:Ad):ak->R Slot:=bD 1 [] (bC 0 (yao a))
def yaq(a:Ad):ak->R aR:=dP (iD (dB (bj (a8 (kM a) (gV (dV 0) (bB)))))) (mB (.ref a.NoWidth) (λε=>bN ((dC (.str [97,32,119,105,100,116,104,32,105,115,32,97,32,119,104,111,108,101,32,110,117,109,98,101,114,32,102,114,111,109,32,49,32,116,111,32,52])) ε))) (eQ)
def vx(a:Ad):ak->R Slot:=bD 1 [] (bC 0 (yaq a))
def yaM(a:Ad):ak->R aR:=mw (cz [0,1] (dL i_ (ar (d2 a9 (d2 ir (dL bI (ar (dV 0) (aC))) (dV 1)) (dC (.int 1))) (aC))) (dH) (iZ ie (dV 1) (gq (dV 0)) (gq (d2 a9 (dV 0) (dV 2)))))
def sO(a:Ad):ak->R Slot:=bD 2 [] (bC 0 (yaM a))
def yaN(a:Ad):ak->R aR:=bd (jA (a8 (vL a) (gV (dV 0) (bB))))
 (bd (jA (a8 (vx a) (gV (dV 1) (bB))))
 (kq (a8 (v_ a) (gV (dV 1) (gV (bj (a8 (sO a) (gV (dV 0) (gV (dV 1) (bB))))) (bB))))))
def qj(a:Ad):ak->R Slot:=bD 2 [] (bC 0 (yaN a))
def yaQ(a:Ad):ak->R aR:=bd (jA (a8 (kD a) (gV (dV 0) (bB))))
 (bd (dP (dB (d2 (eqT aj) (d2 cu (dV 0) (dC (.int 0))) (dC (.int 4)))) (mB (.ref a.NoWidth) (λε=>bN ((dC (.str [110,111,32,119,105,100,116,104,32,105,115,32,103,114,101,97,116,101,114,32,116,104,97,110,32,52])) ε))) (eQ))
 (bd (dP (dB (d2 (eqT aj) (dL bI (ar (d2 cu (dV 0) (dC (.int 1))) (aC))) (dC (.int 1)))) (mw (dL eI (aC))) (eQ))
 (cH (dF (dL sortSetVP (ar (dF (cz [0] (cg (bj (a8 (vJ a) (gV (dV 0) (bB))))) (dH) (bj (a8 (qj a) (gV (dV 0) (gV (d2 a9 (d2 cu (dV 1) (dC (.int 0))) (dC (.int 1))) (bB))))))) (aC)))))))
def i4(a:Ad):ak->R Slot:=bD 1 [] (bC 0 (yaQ a))
end Sh
namespace K23
open L2 Pu Sh
def cY(i:Nat):a6:=PySem.Challenge.pw_slitview_k23_whole_wider.main.body.getD i (.Pass ⟨0,0,0,0⟩)
abbrev xq:a6:=cY 39
abbrev xi:a6:=cY 40
abbrev yn:a6:=cY 41
abbrev uz:a6:=cY 44
abbrev zj:a6:=cY 42
abbrev x_:a6:=cY 43
abbrev xF:a6:=cY 45
abbrev xN:a6:=cY 19
abbrev zw:a6:=cY 21
abbrev uS:a6:=cY 18
abbrev yY:a6:=cY 22
abbrev uV:a6:=cY 23
abbrev yS:a6:=cY 24
abbrev yA:a6:=cY 25
abbrev zy:a6:=cY 28
abbrev y9:a6:=cY 20
abbrev zq:a6:=cY 26
abbrev zC:a6:=cY 27
abbrev xI:a6:=cY 30
abbrev u5:a6:=cY 29
abbrev xK:a6:=cY 31
abbrev xV:a6:=cY 34
abbrev xB:a6:=cY 33
abbrev wb:a6:=cY 35
abbrev vp:a6:=cY 37
abbrev xX:a6:=cY 49
abbrev xL:a6:=cY 50
abbrev zu:a6:=cY 48
abbrev v7:a6:=cY 46
abbrev rK:a6:=cY 47
abbrev o7:a6:=cY 51
structure cQ(K:ax)(mg:Str->Option ai)(base:aA)(a:Ad):Prop where
 yaC:cn K mg "_law_cell_at" xq
 yaE:cn K mg "_law_mixed" xi
 yaD:cn K mg "_law_draw" yn
 yaH:cn K mg "_law_seen" uz
 yaG:cn K mg "_law_pick" zj
 yaI:cn K mg "_law_text" x_
 yaK:cn K mg "_law_view" xF
 yaw:cn K mg "is_whole_number" xN
 yax:cn K mg "is_width" zw
 yas:cn K mg "has_only" uS
 yay:cn K mg "is_window" yY
 yan:cn K mg "are_windows" uV
 yav:cn K mg "is_view_with" yS
 yau:cn K mg "is_view" yA
 yap:cn K mg "check_view" zy
 yat:cn K mg "is_text_up_to" y9
 yao:cn K mg "check_text" zq
 yaq:cn K mg "check_width" zC
 yaP:cn K mg "view_of" xI
 yaM:cn K mg "pieces" u5
 yaN:cn K mg "text_view" xK
 yam:cn K mg "add_endings" xV
 yar:cn K mg "counted" xB
 yaO:cn K mg "texts" wb
 yaQ:cn K mg "wider" vp
 yaL:cn K mg "_law_which" xX
 yaB:cn K mg "_law_ask" xL
 yaF:cn K mg "_law_odd" zu
 yaJ:cn K mg "_law_under" v7
 yaA:cn K mg "_law_all" rK
 yaz:cn K mg "law" o7
 yaR:mg "ValueError" = ae
 yaS:mg "all" = ae
 yaT:mg "any" = ae
 yaU:mg "bool" = ae
 yaV:mg "int" = ae
 yaW:mg "isinstance" = ae
 yaX:mg "len" = ae
 yaY:mg "list" = ae
 yaZ:mg "range" = ae
 ya0:mg "set" = ae
 ya1:mg "sorted" = ae
 ya2:mg "str" = ae
 ya3:mg "tuple" = ae
 ya7:∃t,mg "LETTERS" = aa (.str (tS [97,98,99]) t)
 ya8:∃t,mg "MOST_LETTERS" = aa (.int 12 t)
 ya9:∃t,mg "MOST_WINDOWS" = aa (.int 9 t)
 yba:∃t,mg "WIDEST" = aa (.int 4 t)
 yak:mg "SlitError" = aa (.ref a.SlitError)
 yaf:mg "NoText" = aa (.ref a.NoText)
 yah:mg "NoWidth" = aa (.ref a.NoWidth)
 yag:mg "NoView" = aa (.ref a.NoView)
 yai:mg "NoWindow" = aa (.ref a.NoWindow)
 yac:mg "Never" = aa (.ref a.Never)
 yab:mg "Full" = aa (.ref a.Full)
 yaj:mg "Nothing" = aa (.ref a.Nothing)
 yal:mg "Unlike" = aa (.ref a.Unlike)
 yae:mg "NoPlace" = aa (.ref a.NoPlace)
 yad:mg "NoLetters" = aa (.ref a.NoLetters)
 yaa:mg "BadText" = aa (.ref a.BadText)
 ya5:OwnCls "NoView" a.NoView [.type "ValueError",.type "Exception",.type "BaseException",.type "object"] "ValueError.__new__" mg base
 ya4:OwnCls "NoText" a.NoText [.type "ValueError",.type "Exception",.type "BaseException",.type "object"] "ValueError.__new__" mg base
 ya6:OwnCls "NoWidth" a.NoWidth [.type "ValueError",.type "Exception",.type "BaseException",.type "object"] "ValueError.__new__" mg base
 err_SlitError:oh base a.SlitError
 und:∀c,lr a c=ah->Under base a.SlitError c
 tab:xS K (ik a)
section
variable{P:aM}{w:aF}{K:ax}{mg:Str->Option ai}{base:aA}{a:Ad}
theorem Lh:b_ ["_law_script","_law_k"] ["_law_script","_law_k"] (aX xq):=by ac_nf
theorem Lv(G:cQ K mg base a):cA (cf P w) P w K mg base "_law_cell_at" 1 ["_law_script","_law_k"] (bE K (pN a)) :=
 c9 (k:=0) (pin:=[]) G.yaC Lh rfl (λ_ _ _ _ _ _ us hl=>Pu.Oc (λ_ _=>rfl) us hl) (λf aJ A outer s H E hr=>by exact
  (bz (gS (iI L8 jc (aw 1) (cy gW gZ G.yaX gR (az (aw 0) aG)) rfl) (bo (dS (iE iO iQ (aw 0) (aw 1)))) gL)
  (bz (gS (iI (lM hr.units) lw (aw 0) (kK aG) rfl) (bo (dS aU)) gL)
  (bo (dS (bZ d_ d9 (bZ yg xR (iE iO iQ (aw 0) (bZ pi qo (aw 1) (cy gW gZ G.yaX gR (az (aw 0) aG)))) aU) (aw 1)))))))
theorem Kt:b_ ["_law_script","_law_k","_law_many","_law_drawn"] ["_law_script","_law_k","_law_many"] (aX xi):=by ac_nf
theorem FC(G:cQ K mg base a):cA (cf P w) P w K mg base "_law_mixed" 2 ["_law_script","_law_k","_law_many"] (bE K (vX a)) :=
 c9 (k:=1) (pin:=[]) G.yaE Kt rfl (λ_ _ _ _ _ _ us hl=>Pu.Oj (λ_ _ _=>rfl) us hl) (λf aJ A outer s H E hr=>by exact
  (bz (gk 3 Kt.nd (bZ pi qo (bZ d_ d9 (bZ d_ d9 (bZ yg xR ((bU (Lv G) (hr.mono (by decide)) cF (aQ (aw 0) (aQ (aw 1) bM)))).de aU) (bZ yg xR aU (aw 1))) aU) aU))
  (bo (dS (bZ pi qo (bZ pi qo (bZ pi qo (bZ LZ NI (aw 3) aU) aU) aU) (aw 2))))))
theorem MR:b_ ["_law_script","_law_town","_law_many"] ["_law_script","_law_town","_law_many"] (aX yn):=by ac_nf
theorem nG(G:cQ K mg base a):cA (cf P w) P w K mg base "_law_draw" 3 ["_law_script","_law_town","_law_many"] (bE K (iR a)) :=
 c9 (k:=2) (pin:=[1]) G.yaD MR rfl (λ_ _ _ _ _ _ us hl=>Pu.Oj (λ_ _ _=>rfl) us hl) (λf aJ A outer s H E hr=>by exact
  (bz (CL 1 aU)
  (bo (rJ (bU (FC G) (hr.mono (by decide)) cF (aQ (aw 0) (aQ (Dh 1 gW gZ G.yaX gR) (aQ (aw 2) bM))))))))
theorem Mj:b_ ["_law_text_here","_law_width"] ["_law_text_here","_law_width"] (aX uz):=by ac_nf
theorem uC(G:cQ K mg base a):cA (cf P w) P w K mg base "_law_seen" 1 ["_law_text_here","_law_width"] (bE K (jn a)) :=
 c9 (k:=0) (pin:=[]) G.yaH Mj rfl (λ_ _ _ _ _ _ us hl=>Pu.Oc (λ_ _=>rfl) us hl) (λf aJ A outer s H E hr=>by exact
  (bo (dS (zt y0 y6 G.ya3 rS (az (xz uL v5 G.ya1 pR (az (km (cap:=[0,1]) (N':=["_law_at","_law_text_here","_law_width"]) (jO.of ["_law_text_here","_law_width"] (aX uz) rfl rfl (by decide +kernel)) rfl (rO G.yaZ (az (cy gW gZ G.yaX gR (az (aw 0) aG)) aG)) (λC s₀ H₀ ex pn=>by exact vg (iI kn jc (bZ d_ d9 (aw 0) (aw 2)) (cy gW gZ G.yaX gR (az (aw 1) aG)) rfl)) (λC s₀ H₀ ex pn=>by exact(vO v8 vU (aw 1) (pe (aw 0)) (pe (bZ d_ d9 (aw 0) (aw 2)))))).de aG)).de aG)))))
theorem Kw:b_ ["_law_script","_law_town","_law_some"] ["_law_script","_law_town","_law_some"] (aX zj):=by ac_nf
theorem Ej(G:cQ K mg base a):cA (cf P w) P w K mg base "_law_pick" 4 ["_law_script","_law_town","_law_some"] (bE K (r8 a)) :=
 c9 (k:=3) (pin:=[1]) G.yaG Kw rfl (λ_ _ _ _ _ _ us hl=>Pu.Oj (λ_ _ _=>rfl) us hl) (λf aJ A outer s H E hr=>by exact
  (bo (dS (iE iO iQ (aw 2) ((bU (nG G) (hr.mono (by decide)) cF (aQ (aw 0) (gK 1 (aQ (cy gW gZ G.yaX gR (az (aw 2) aG)) bM))))).de))))
theorem Nv:b_ ["_law_script","_law_town","_law_low","_law_most","_law_few","_law_made","_law_k"] ["_law_script","_law_town","_law_low","_law_most"] (aX x_):=by ac_nf
theorem Bj(G:cQ K mg base a):cA (cf P w) P w K mg base "_law_text" 5 ["_law_script","_law_town","_law_low","_law_most"] (bE K (pB a)) :=
 c9 (k:=4) (pin:=[1]) G.yaI Nv rfl (λ_ _ _ _ _ _ us hl=>Pu.Ow (λ_ _ _ _=>rfl) us hl) (λf aJ A outer s H E hr=>by exact
  (bz (gk 4 Nv.nd ((bU (Ej G) (hr.mono (by decide)) cF (aQ (aw 0) (gK 1 (aQ (kK (az aU (az aU (az aU (az aU (az aU (az aU aG))))))) bM))))).de)
  (bz (gk 5 Nv.nd (dz []))
  (bz (pH (nS 6 qW rfl Nv.nd (rO G.yaZ (az (bZ d_ d9 (aw 2) ((bU (nG G) (hr.mono (by decide)) jy (aQ (aw 0) (gK 1 (aQ (bZ d_ d9 (bZ pc pf (aw 3) (aw 2)) aU) bM))))).de) aG)) (bo (gk 5 Nv.nd (bZ d_ d9 (aw 5) (iE iO iQ (dz [97,98,99]) ((bU (nG G) (hr.mono (by decide)) jy (aQ (aw 0) (gK 1 (aQ (aw 4) bM))))).de))))))
  (bo (dS (aw 5)))))))
theorem MC:b_ ["_law_script","_law_town","_law_spoil","_law_most","_law_width","_law_windows","_law_k"] ["_law_script","_law_town","_law_spoil","_law_most"] (aX xF):=by ac_nf
theorem LS(G:cQ K mg base a):cA (cf P w) P w K mg base "_law_view" 6 ["_law_script","_law_town","_law_spoil","_law_most"] (bE K (rD a)) :=
 c9 (k:=5) (pin:=[1]) G.yaK MC rfl (λ_ _ _ _ _ _ us hl=>Pu.Ow (λ_ _ _ _=>rfl) us hl) (λf aJ A outer s H E hr=>by exact
  (bz (gk 4 MC.nd (C0 (iI (rP hr.units) sq (aw 2) aU rfl) (bZ d_ d9 aU ((bU (nG G) (hr.mono (by decide)) cF (aQ (aw 0) (gK 1 (aQ aU bM))))).de) (bZ d_ d9 aU ((bU (nG G) (hr.mono (by decide)) cF (aQ (aw 0) (gK 1 (aQ aU bM))))).de)))
  (bz (p8 5 MC.nd (Ck Ek CV G.yaY BA (az ((bU (uC G) (hr.mono (by decide)) cF (aQ ((bU (Bj G) (hr.mono (by decide)) cF (aQ (aw 0) (gK 1 (aQ (aw 4) (aQ (bZ pc pf (bZ d_ d9 (aw 4) (aw 3)) aU) bM)))))).de (aQ (aw 4) bM)))).de aG)))
  (bz (pH (nS 6 qW rfl MC.nd (rO G.yaZ (az (bZ pi qo (aw 2) aU) aG)) (bo (KQ 5 ((bU (nG G) (hr.mono (by decide)) jy (aQ (aw 0) (gK 1 (aQ (Dh 5 gW gZ G.yaX gR) bM))))).de ((bU (Bj G) (hr.mono (by decide)) jy (aQ (aw 0) (gK 1 (aQ (aw 4) (aQ (aw 4) bM)))))).de))))
  (bo (dS (cr (az (aw 4) (az (zt y0 y6 G.ya3 rS (az (K1 5 uL v5 G.ya1 pR).de aG)) aG)))))))))
theorem IY:b_ ["thing"] ["thing"] (aX xN):=by ac_nf
theorem GT(G:cQ K mg base a):cA (cf P w) P w K mg base "is_whole_number" 1 ["thing"] (bE K (lu a)) :=
 c9 (k:=0) (pin:=[]) G.yaw IY rfl (λ_ _ _ _ _ _ us hl=>Pu.On (λ_=>rfl) us hl) (λf aJ A outer s H E hr=>by exact
  (bo (dS (og (cy nI nY G.yaW fX (az (aw 0) (az (nK G.yaV KP) aG))) (rF (LJ (cy nI nY G.yaW fX (az (aw 0) (az (nK G.yaU KF) aG)))))))))
theorem MA:b_ ["thing"] ["thing"] (aX zw):=by ac_nf
theorem B0(G:cQ K mg base a):cA (cf P w) P w K mg base "is_width" 2 ["thing"] (bE K (kM a)) :=
 c9 (k:=1) (pin:=[]) G.yax MA rfl (λ_ _ _ _ _ _ us hl=>Pu.On (λ_=>rfl) us hl) (λf aJ A outer s H E hr=>by exact
  (bo (dS (og ((bU (GT G) (hr.mono (by decide)) cF (aQ (aw 0) bM))).de (rF (D_ kn kn jc jc aU (aw 0) (sD G.yba)))))))
theorem G8:b_ ["text","signs"] ["text","signs"] (aX uS):=by ac_nf
theorem C6(G:cQ K mg base a):cA (cf P w) P w K mg base "has_only" 1 ["text","signs"] (bE K (sH a)) :=
 c9 (k:=0) (pin:=[]) G.yas G8 rfl (λ_ _ _ _ _ _ us hl=>Pu.Oc (λ_ _=>rfl) us hl) (λf aJ A outer s H E hr=>by exact
  (bo (dS (cy (y_ rfl) zA G.yaS zr (az (km (cap:=[1]) (N':=["sign","signs"]) (jO.of ["text","signs"] (aX uS) rfl rfl (by decide +kernel)) rfl (jd (aw 0)) (λC s₀ H₀ ex pn=>by exact nL) (λC s₀ H₀ ex pn=>by exact(qe Mb FV (aw 0) (aw 1) rfl))).de aG)))))
theorem Hc:b_ ["thing","width","signs"] ["thing","width","signs"] (aX yY):=by ac_nf
theorem II(G:cQ K mg base a):cA (cf P w) P w K mg base "is_window" 2 ["thing","width","signs"] (bE K (mK a)) :=
 c9 (k:=1) (pin:=[]) G.yay Hc rfl (λ_ _ _ _ _ _ us hl=>Pu.Oj (λ_ _ _=>rfl) us hl) (λf aJ A outer s H E hr=>by exact
  (bo (dS (og (cy nI nY G.yaW fX (az (aw 0) (az (nK G.ya2 Cm) aG))) (og (qe (lM hr.units) lw (cy gW gZ G.yaX gR (az (aw 0) aG)) (aw 1) rfl) (rF ((bU (C6 G) (hr.mono (by decide)) cF (aQ (aw 0) (aQ (aw 2) bM)))).de))))))
theorem LN:b_ ["thing","width","signs"] ["thing","width","signs"] (aX uV):=by ac_nf
theorem Js(G:cQ K mg base a):cA (cf P w) P w K mg base "are_windows" 3 ["thing","width","signs"] (bE K (i8 a)) :=
 c9 (k:=2) (pin:=[]) G.yan LN rfl (λ_ _ _ _ _ _ us hl=>Pu.Oj (λ_ _ _=>rfl) us hl) (λf aJ A outer s H E hr=>by exact
  (bz (gS ((xx (kt (lN (cy nI nY G.yaW fX (az (aw 0) (az (nK G.ya3 rS) aG))))) (xt (kt (Bn kn kn jc jc aU (cy gW gZ G.yaX gR (az (aw 0) aG)) (sD G.ya9)))))).dt (bo (dS n0)) gL)
  (bz (gS (kt (lN (cy (y_ rfl) zA G.yaS zr (az (km (cap:=[1,2]) (N':=["window","width","signs"]) (jO.of ["thing","width","signs"] (aX uV) rfl rfl (by decide +kernel)) rfl (jd (aw 0)) (λC s₀ H₀ ex pn=>by exact nL) (λC s₀ H₀ ex pn=>by exact((bU (II G) (hr.mono (by decide)) jy (aQ (aw 0) (aQ (aw 1) (aQ (aw 2) bM))))).de)).de aG)))) (bo (dS n0)) gL)
  (bo (dS (qe (lM hr.units) lw (Ck Ek CV G.yaY BA (az (aw 0) aG)).de (xz uL v5 G.ya1 pR (az (aw 0) aG)).de rfl))))))
theorem FL:b_ ["thing","signs"] ["thing","signs"] (aX yS):=by ac_nf
theorem He(G:cQ K mg base a):cA (cf P w) P w K mg base "is_view_with" 4 ["thing","signs"] (bE K (gu a)) :=
 c9 (k:=3) (pin:=[]) G.yav FL rfl (λ_ _ _ _ _ _ us hl=>Pu.Oc (λ_ _=>rfl) us hl) (λf aJ A outer s H E hr=>by exact
  (bz (gS ((xx (kt (lN (cy nI nY G.yaW fX (az (aw 0) (az (nK G.ya3 rS) aG))))) (xt (iI (rP hr.units) sq (cy gW gZ G.yaX gR (az (aw 0) aG)) aU rfl)))).dt (bo (dS n0)) gL)
  (bo (dS (og ((bU (B0 G) (hr.mono (by decide)) cF (aQ (iE iO iQ (aw 0) aU) bM))).de (rF ((bU (Js G) (hr.mono (by decide)) cF (aQ (iE iO iQ (aw 0) aU) (aQ (iE iO iQ (aw 0) aU) (aQ (aw 1) bM))))).de))))))
theorem GI:b_ ["thing"] ["thing"] (aX yA):=by ac_nf
theorem LK(G:cQ K mg base a):cA (cf P w) P w K mg base "is_view" 5 ["thing"] (bE K (lF a)) :=
 c9 (k:=4) (pin:=[]) G.yau GI rfl (λ_ _ _ _ _ _ us hl=>Pu.On (λ_=>rfl) us hl) (λf aJ A outer s H E hr=>by exact
  (bo (rJ (bU (He G) (hr.mono (by decide)) cF (aQ (aw 0) (aQ (zb G.ya7) bM))))))
theorem Ny:b_ ["thing"] ["thing"] (aX zy):=by ac_nf
theorem DD(G:cQ K mg base a):cA (cf P w) P w K mg base "check_view" 6 ["thing"] (bE K (kD a)) :=
 c9 (k:=5) (pin:=[]) G.yap Ny rfl (λ_ _ _ _ _ _ us hl=>Pu.On (λ_=>rfl) us hl) (λf aJ A outer s H E hr=>by exact
  (bo (gS (kt (lN ((bU (LK G) (hr.mono (by decide)) cF (aQ (aw 0) bM))).de)) (bo (sh rM rfl G.ya5 wS (dz [97,32,118,105,101,119,32,105,115,32,97,32,116,117,112,108,101,32,111,102,32,97,32,119,105,100,116,104,32,97,110,100,32,97,32,114,105,115,105,110,103,32,116,117,112,108,101,32,111,102,32,49,32,116,111,32,57,32,119,105,110,100,111,119,115]))) gL)))
theorem Go:b_ ["thing","most"] ["thing","most"] (aX y9):=by ac_nf
theorem M7(G:cQ K mg base a):cA (cf P w) P w K mg base "is_text_up_to" 2 ["thing","most"] (bE K (vW a)) :=
 c9 (k:=1) (pin:=[]) G.yat Go rfl (λ_ _ _ _ _ _ us hl=>Pu.Oc (λ_ _=>rfl) us hl) (λf aJ A outer s H E hr=>by exact
  (bo (dS (og (cy nI nY G.yaW fX (az (aw 0) (az (nK G.ya2 Cm) aG))) (og (D_ kn kn jc jc aU (cy gW gZ G.yaX gR (az (aw 0) aG)) (aw 1)) (rF ((bU (C6 G) (hr.mono (by decide)) cF (aQ (aw 0) (aQ (zb G.ya7) bM)))).de))))))
theorem Km:b_ ["thing"] ["thing"] (aX zq):=by ac_nf
theorem NC(G:cQ K mg base a):cA (cf P w) P w K mg base "check_text" 3 ["thing"] (bE K (vL a)) :=
 c9 (k:=2) (pin:=[]) G.yao Km rfl (λ_ _ _ _ _ _ us hl=>Pu.On (λ_=>rfl) us hl) (λf aJ A outer s H E hr=>by exact
  (bo (gS (kt (lN ((bU (M7 G) (hr.mono (by decide)) cF (aQ (aw 0) (aQ (sD G.ya8) bM)))).de)) (bo (sh rM rfl G.ya4 wS (dz [97,32,116,101,120,116,32,104,97,115,32,49,32,116,111,32,49,50,32,108,101,116,116,101,114,115,32,97,44,32,98,44,32,99]))) gL)))
theorem FG:b_ ["thing"] ["thing"] (aX zC):=by ac_nf
theorem ML(G:cQ K mg base a):cA (cf P w) P w K mg base "check_width" 3 ["thing"] (bE K (vx a)) :=
 c9 (k:=2) (pin:=[]) G.yaq FG rfl (λ_ _ _ _ _ _ us hl=>Pu.On (λ_=>rfl) us hl) (λf aJ A outer s H E hr=>by exact
  (bo (gS (kt (lN ((bU (B0 G) (hr.mono (by decide)) cF (aQ (aw 0) bM))).de)) (bo (sh rM rfl G.ya6 wS (dz [97,32,119,105,100,116,104,32,105,115,32,97,32,119,104,111,108,101,32,110,117,109,98,101,114,32,102,114,111,109,32,49,32,116,111,32,52]))) gL)))
theorem My:b_ ["width","windows"] ["width","windows"] (aX xI):=by ac_nf
theorem Hw(G:cQ K mg base a):cA (cf P w) P w K mg base "view_of" 1 ["width","windows"] (bE K (v_ a)) :=
 c9 (k:=0) (pin:=[]) G.yaP My rfl (λ_ _ _ _ _ _ us hl=>Pu.Oc (λ_ _=>rfl) us hl) (λf aJ A outer s H E hr=>by exact
  (bz (gS (kt (Bn kn kn jc jc aU (cy gW gZ G.yaX gR (az (aw 1) aG)) (sD G.ya9))) (bo (sh rM rfl G.ya5 wS (dz [97,32,118,105,101,119,32,104,97,115,32,49,32,116,111,32,57,32,119,105,110,100,111,119,115]))) gL)
  (bo (dS (cr (az (aw 0) (az (zt y0 y6 G.ya3 rS (az (xz uL v5 G.ya1 pR (az (aw 1) aG)).de aG)) aG)))))))
theorem Mq:b_ ["text","length"] ["text","length"] (aX u5):=by ac_nf
theorem Nj(G:cQ K mg base a):cA (cf P w) P w K mg base "pieces" 1 ["text","length"] (bE K (sO a)) :=
 c9 (k:=0) (pin:=[]) G.yaM Mq rfl (λ_ _ _ _ _ _ us hl=>Pu.Oc (λ_ _=>rfl) us hl) (λf aJ A outer s H E hr=>by exact
  (bo (yc (km (cap:=[0,1]) (N':=["place","text","length"]) (jO.of ["text","length"] (aX u5) rfl rfl (by decide +kernel)) rfl (rO G.yaZ (az (bZ d_ d9 (bZ pc pf (cy gW gZ G.yaX gR (az (aw 0) aG)) (aw 1)) aU) aG)) (λC s₀ H₀ ex pn=>by exact nL) (λC s₀ H₀ ex pn=>by exact(vO v8 vU (aw 1) (pe (aw 0)) (pe (bZ d_ d9 (aw 0) (aw 2)))))))))
theorem Gr:b_ ["text","width"] ["text","width"] (aX xK):=by ac_nf
theorem Lk(G:cQ K mg base a):cA (cf P w) P w K mg base "text_view" 4 ["text","width"] (bE K (qj a)) :=
 c9 (k:=3) (pin:=[]) G.yaN Gr rfl (λ_ _ _ _ _ _ us hl=>Pu.Oc (λ_ _=>rfl) us hl) (λf aJ A outer s H E hr=>by exact
  (bz (o_ (bU (NC G) (hr.mono (by decide)) cF (aQ (aw 0) bM)))
  (bz (o_ (bU (ML G) (hr.mono (by decide)) cF (aQ (aw 1) bM)))
  (bo (rJ (bU (Hw G) (hr.mono (by decide)) cF (aQ (aw 1) (aQ ((bU (Nj G) (hr.mono (by decide)) cF (aQ (aw 0) (aQ (aw 1) bM)))).de bM))))))))
theorem Bh:b_ ["text","width","left","found","head","letter","window"] ["text","width","left","found"] (aX xV):=by ac_nf
theorem JD(G:cQ K mg base a)(m:Nat):cA (cf P w) P w K mg base "add_endings" (1+m) ["text","width","left","found"] (bE K (mO a m)):=by
 induction m with
 |zero=>exact c9 (k:=0) (pin:=[2,3]) G.yam Bh rfl (λ_ _ _ _ _ _ us hl=>Pu.Ow (λ_ _ _ _=>rfl) us hl) (λf aJ A outer s H E hr=>MT)
 |succ m ih=>exact c9 (k:=1+m) (pin:=[2,3]) G.yam Bh rfl (λ_ _ _ _ _ _ us hl=>Pu.Ow (λ_ _ _ _=>rfl) us hl) (λf aJ A outer s H E hr=>by exact
  (bz (gS (kt (lN (Kb 2 rfl G.yaT))) (bz (CL 3 (aw 0))
  (bo MP)) gL)
  (bz (gk 4 Bh.nd (vO v8 vU (aw 0) (pe (bZ d_ d9 (bZ pc pf (cy gW gZ G.yaX gR (az (aw 0) aG)) (aw 1)) aU)) Cz))
  (bo (pH (nS 5 qW rfl Bh.nd (jd (zb G.ya7)) (bz (gk 6 Bh.nd (bZ d_ d9 (aw 4) (aw 5)))
  (bo (gS (iI B6 jc (Do 2 hr.units (aw 6) aU) aU rfl) (bz (zn 2 hr.units (aw 6) (bZ pc pf (B8 2 hr.units (aw 6)) aU))
  (bz (o_ (bU ih (hr.mono ∅) jy (aQ (bZ d_ d9 (aw 0) (aw 5)) (aQ (aw 1) (gK 2 (gK 3 bM))))))
  (bo (zn 2 hr.units (aw 6) (bZ d_ d9 (B8 2 hr.units (aw 6)) aU))))) gL)))))))))
theorem Gp:b_ ["windows","counts","window"] ["windows"] (aX xB):=by ac_nf
theorem HI(G:cQ K mg base a):cA (cf P w) P w K mg base "counted" 1 ["windows"] (bE K (sL a)) :=
 c9 (k:=0) (pin:=[]) G.yar Gp rfl (λ_ _ _ _ _ _ us hl=>Pu.On (λ_=>rfl) us hl) (λf aJ A outer s H E hr=>by exact
  (bz (p8 1 Gp.nd (Hk))
  (bz (pH (nS 2 qW rfl Gp.nd (jd (aw 0)) (bo (zn 1 hr.units (aw 2) (bZ d_ d9 (Do 1 hr.units (aw 2) aU) aU)))))
  (bo (C9 1)))))
theorem Nz:b_ ["view","width","found","head"] ["view"] (aX wb):=by ac_nf
theorem Gu(G:cQ K mg base a):cA (cf P w) P w K mg base "texts" 14 ["view"] (bE K (vJ a)) :=
 c9 (k:=13) (pin:=[]) G.yaO Nz rfl (λ_ _ _ _ _ _ us hl=>Pu.On (λ_=>rfl) us hl) (λf aJ A outer s H E hr=>by exact
  (bz (o_ (bU (DD G) (hr.mono (by decide)) cF (aQ (aw 0) bM)))
  (bz (gk 1 Nz.nd (iE iO iQ (aw 0) aU))
  (bz (p8 2 Nz.nd (pF aG))
  (bz (pH (nS 3 qW rfl Nz.nd (jd (Il rfl (az (km (cap:=[]) (N':=["window"]) (jO.of ["view","width","found","head"] (aX wb) rfl rfl (by decide +kernel)) rfl (jd (iE iO iQ (aw 0) aU)) (λC s₀ H₀ ex pn=>by exact nL) (λC s₀ H₀ ex pn=>by exact(vO v8 vU (aw 0) Cz (pe (CN BR D6 aU))))).de aG) G.ya1 G.ya0).de) (bo (o_ (LR (JD G 12) (hr.mono (by decide)) jy (A8 (aw 3) (A8 (aw 1) (Ih (((bU (HI G) (hr.mono (by decide)) jy (aQ (iE iO iQ (aw 0) aU) bM))).dn) (gK 2 bM)))))))))
  (bo (C9 2)))))))
theorem Hg:b_ ["view"] ["view"] (aX vp):=by ac_nf
theorem Ky(G:cQ K mg base a):cA (cf P w) P w K mg base "wider" 15 ["view"] (bE K (i4 a)) :=
 c9 (k:=14) (pin:=[]) G.yaQ Hg rfl (λ_ _ _ _ _ _ us hl=>Pu.On (λ_=>rfl) us hl) (λf aJ A outer s H E hr=>by exact
  (bz (o_ (bU (DD G) (hr.mono (by decide)) cF (aQ (aw 0) bM)))
  (bz (gS (iI (lM hr.units) lw (iE iO iQ (aw 0) aU) (sD G.yba) rfl) (bo (sh rM rfl G.ya6 wS (dz [110,111,32,119,105,100,116,104,32,105,115,32,103,114,101,97,116,101,114,32,116,104,97,110,32,52]))) gL)
  (bz (gS (iI (lM hr.units) lw (cy gW gZ G.yaX gR (az (iE iO iQ (aw 0) aU) aG)) aU rfl) (bo (yc (pF aG))) gL)
  (bo (dS (dn_sortSetV hr.units rfl (az (km (cap:=[0]) (N':=["text","view"]) (jO.of ["view"] (aX vp) rfl rfl (by decide +kernel)) rfl (jd ((bU (Gu G) (hr.mono (by decide)) cF (aQ (aw 0) bM))).de) (λC s₀ H₀ ex pn=>by exact nL) (λC s₀ H₀ ex pn=>by exact((bU (Lk G) (hr.mono (by decide)) jy (aQ (aw 0) (aQ (bZ d_ d9 (iE iO iQ (aw 1) aU) aU) bM)))).de)).de aG) G.ya1 G.ya0).de))))))
theorem Hm:b_ ["_law_e","_law_own"] ["_law_e"] (aX xX):=by ac_nf
theorem IZ(G:cQ K mg base a):uU P w K mg base "_law_which" 1 ["_law_e"] (bE K (lJ a)) :=
 Hv (k:=0) (pin:=[]) G.yaL Hm rfl (λ_ _ _ _ _ _ us hl=>Pu.On (λ_=>rfl) us hl) (λf aJ A outer s H hr=>by exact
  (bz (p8 1 Hm.nd (pF (az (cy jv (jq G.tab) G.yaW fX (az (aw 0) (az (jR G.yaf) aG))) (az (cy jv (jq G.tab) G.yaW fX (az (aw 0) (az (jR G.yah) aG))) (az (cy jv (jq G.tab) G.yaW fX (az (aw 0) (az (jR G.yag) aG))) (az (cy jv (jq G.tab) G.yaW fX (az (aw 0) (az (jR G.yai) aG))) aG))))))
  (bz (ya 1 (kK (az (cy jv (jq G.tab) G.yaW fX (az (aw 0) (az (jR G.yac) aG))) (az (cy jv (jq G.tab) G.yaW fX (az (aw 0) (az (jR G.yab) aG))) (az (cy jv (jq G.tab) G.yaW fX (az (aw 0) (az (jR G.yaj) aG))) (az (cy jv (jq G.tab) G.yaW fX (az (aw 0) (az (jR G.yal) aG))) aG))))))
  (bz (ya 1 (kK (az (cy jv (jq G.tab) G.yaW fX (az (aw 0) (az (jR G.yae) aG))) (az (cy jv (jq G.tab) G.yaW fX (az (aw 0) (az (jR G.yad) aG))) (az (cy jv (jq G.tab) G.yaW fX (az (aw 0) (az (jR G.yaa) aG))) aG)))))
  (bz (gS ((xx (iI (rP hr.units) sq (HU 1 n0) aU rfl) (xt (kt (lN (cy jv (jq G.tab) G.yaW fX (az (aw 0) (az (nK G.yaR LO) aG)))))))).dt (bo (dS (cr (az (dz [114,101,102,117,115,101,100]) (az (CN BR D6 aU) aG))))) gL)
  (bo (dS (cr (az (dz [114,101,102,117,115,101,100]) (az (GE 1 n0) aG))))))))))
def yaB(a:Ad):ak->R aR:=n5 1 (lr a) (pW (i4 a) (gV (dV 0) (bB))) (kq (λε=>bN (a8 (lJ a) (gV (dV 1) (bB)) ε)))
def iN(a:Ad):ak->R Slot:=bD 1 [] (bC 1 (yaB a))
theorem ME:b_ ["_law_asked","_law_e"] ["_law_asked"] (aX xL):=by ac_nf
theorem xH(G:cQ K mg base a):cA (cf P w) P w K mg base "_law_ask" 16 ["_law_asked"] (bE K (iN a)) :=
 c9 (k:=15) (pin:=[]) G.yaB ME rfl (λ_ _ _ _ _ _ us hl=>Pu.On (λ_=>rfl) us hl) (λf aJ A outer s H E hr=>by
  have hrh:=λad=>eX.hand (v:=aa (.ref ad)) hr;exact
  (bo (IM 1 ME.nd (Hd (Ky G) (hr.mono (by decide)) (aQ (aw 0) bM)) G.yak G.err_SlitError G.und (λad=>by exact(bo (rJ (J7 (IZ G) ((hrh ad).mono (by decide)) (aQ (aw 1) bM))))))))
theorem Gg:b_ ["_law_script","_law_town","_law_some"] ["_law_script","_law_town"] (aX zu):=by ac_nf
theorem K8(G:cQ K mg base a):cA (cf P w) P w K mg base "_law_odd" 5 ["_law_script","_law_town"] (bE K (v6 a)) :=
 c9 (k:=4) (pin:=[1]) G.yaF Gg rfl (λ_ _ _ _ _ _ us hl=>Pu.Oc (λ_ _=>rfl) us hl) (λf aJ A outer s H E hr=>by exact
  (bz (gk 2 Gg.nd (kK (az F9 (az aU (az (dz [50,58,32,97,98]) (az (kK (az aU (az (cr (az (dz [97]) aG)) aG))) (az (cr (az aU (az (cr aG) aG))) (az (cr (az aU (az (cr (az (dz [97]) aG)) aG))) (az (cr (az aU (az (cr (az (dz []) aG)) aG))) (az (cr (az aU (az (cr (az (dz [97,97,97,97,97]) aG)) aG))) (az (cr (az n0 (az (cr (az (dz [97]) aG)) aG))) aG)))))))))))
  (bz (gk 2 Gg.nd (bZ d_ d9 (aw 2) (kK (az (cr (az aU (az (cr (az (dz [98]) (az (dz [97]) aG))) aG))) (az (cr (az aU (az (bZ NF Nh (cr (az (dz [97]) aG)) aU) aG))) (az (cr (az aU (az (cr (az (dz [100]) aG)) aG))) (az (cr (az aU (az (cr (az (dz [65]) aG)) aG))) (az (cr (az aU (az (kK (az (dz [97]) aG)) aG))) (az (cr (az aU (az (cr (az aU aG)) aG))) aG)))))))))
  (bz (gk 2 Gg.nd (bZ d_ d9 (aw 2) (kK (az (cr (az aU aG)) (az (cr (az aU (az (cr (az (dz [97]) aG)) (az aU aG)))) (az (cr (az (dz [49]) (az (cr (az (dz [97]) aG)) aG))) aG))))))
  (bo (rJ (bU (Ej G) (hr.mono (by decide)) cF (aQ (aw 0) (gK 1 (aQ (aw 2) bM))))))))))
theorem Gf:b_ ["_law_text_here","_law_width","_law_windows","_law_made"] ["_law_text_here","_law_width","_law_windows"] (aX v7):=by ac_nf
theorem JZ(G:cQ K mg base a):cA (cf P w) P w K mg base "_law_under" 2 ["_law_text_here","_law_width","_law_windows"] (bE K (mL a)) :=
 c9 (k:=1) (pin:=[]) G.yaJ Gf rfl (λ_ _ _ _ _ _ us hl=>Pu.Oj (λ_ _ _=>rfl) us hl) (λf aJ A outer s H E hr=>by exact
  (bz (gk 3 Gf.nd ((bU (uC G) (hr.mono (by decide)) cF (aQ (aw 0) (aQ (aw 1) bM)))).de)
  (bo (dS (cy (y_ rfl) zA G.yaS zr (az (km (cap:=[3,2]) (N':=["_law_window","_law_made","_law_windows"]) (jO.of ["_law_text_here","_law_width","_law_windows","_law_made"] (aX v7) rfl rfl (by decide +kernel)) rfl (jd (aw 3)) (λC s₀ H₀ ex pn=>by exact nL) (λC s₀ H₀ ex pn=>by exact(qe kn jc (CP (aw 1) (aw 0)) (CP (aw 2) (aw 0)) rfl))).de aG))))))
theorem HP:b_ ["_law_asked","_law_width","_law_windows","_law_rows","_law_k","_law_longer","_law_line"] ["_law_asked"] (aX rK):=by ac_nf
theorem Hu(G:cQ K mg base a):cA (cf P w) P w K mg base "_law_all" 3 ["_law_asked"] (bE K (rT a)) :=
 c9 (k:=2) (pin:=[]) G.yaA HP rfl (λ_ _ _ _ _ _ us hl=>Pu.On (λ_=>rfl) us hl) (λf aJ A outer s H E hr=>by exact
  (bz (Nb 1 2 rfl HP.nd (aw 0))
  (bz (gk 3 HP.nd (kK (az (dz []) aG)))
  (bz (pH (nS 4 qW rfl HP.nd (rO G.yaZ (az (bZ pc pf (bZ d_ d9 (cy gW gZ G.yaX gR (az (aw 2) aG)) (aw 1)) aU) aG)) (bz (p8 5 HP.nd (pF aG))
  (bz (nS 6 qW rfl HP.nd (jd (aw 3)) (bo (ya 5 (km (cap:=[6,1,2]) (N':=["_law_letter","_law_line","_law_width","_law_windows"]) (jO.of ["_law_asked","_law_width","_law_windows","_law_rows","_law_k","_law_longer","_law_line"] (aX rK) rfl rfl (by decide +kernel)) rfl (jd (dz [97,98,99])) (λC s₀ H₀ ex pn=>by exact vg (lN ((bU (JZ G) (hr.mono (by decide)) jy (aQ (bZ d_ d9 (aw 1) (aw 0)) (aQ (aw 2) (aQ (aw 3) bM))))).de)) (λC s₀ H₀ ex pn=>by exact(bZ d_ d9 (aw 1) (aw 0)))).de)))
  (bo (gk 3 HP.nd (Nl 5)))))))
  (bo (yc (km (cap:=[1,2]) (N':=["_law_line","_law_width","_law_windows"]) (jO.of ["_law_asked","_law_width","_law_windows","_law_rows","_law_k","_law_longer","_law_line"] (aX rK) rfl rfl (by decide +kernel)) rfl (jd (aw 3)) (λC s₀ H₀ ex pn=>by exact vg (iI (lM hr.units) lw ((bU (uC G) (hr.mono (by decide)) jy (aQ (aw 0) (aQ (aw 1) bM)))).de (aw 2) rfl)) (λC s₀ H₀ ex pn=>by exact(aw 0)))))))))
def yaz(a:Ad):ak->R aR:=bd (ju 1 (dL eI (aC)))
 (bd (cO 2 (bj (a8 (iR a) (gV (dV 0) (gO 1 (gV (dC (.int 3)) (bB)))))))
 (bd (cO 3 (bj (a8 (rD a) (gV (dV 0) (gO 1 (gV (dV 2) (gV (dP (dB (d2 (eV λi j=>decide (j<i)) (dV 2) (dC (.int 0)))) (dC (.int 9)) (dC (.int 7))) (bB))))))))
 (bd (cO 4 (d2 a9 (d2 cu (dV 3) (dC (.int 0))) (dC (.int 1))))
 (bd (dP (dB (d2 (eqT ah) (bj (a8 (iN a) (gV (bj (a8 (v6 a) (gV (dV 0) (gO 1 (bB))))) (bB)))) (dL bi (ar (dC (.str [114,101,102,117,115,101,100])) (ar (dC (.int 2)) (aC)))))) (cH (dC (.bl aj))) (eQ))
 (bd (dP (dB (d2 (eqT aj) (dV 4) (dC (.int 5)))) (cH (d2 (eqT aj) (bj (a8 (iN a) (gV (dV 3) (bB)))) (dL bi (ar (dC (.str [114,101,102,117,115,101,100])) (ar (dC (.int 1)) (aC)))))) (eQ))
 (bd (cO 5 (dF (cz [4] (cg (bj (a8 (rT a) (gV (dV 3) (bB))))) (dH) (bj (a8 (jn a) (gV (dV 0) (gV (dV 1) (bB))))))))
 (cH (d2 (eqT aj) (bj (a8 (iN a) (gV (dV 3) (bB)))) (dF (dL sortSetVP (ar (dF (cz [4] (cg (dV 5)) (dB (d2 (eqT ah) (dV 0) (dL bi (aC)))) (dL bi (ar (dV 1) (ar (dV 0) (aC)))))) (aC))))))))))))
def pt(a:Ad):ak->R Slot:=bD 1 [] (bC 5 (yaz a))
theorem Ka:b_ ["_law_script","_law_town","_law_spoil","_law_asked","_law_width","_law_rows"] ["_law_script"] (aX o7):=by ac_nf
theorem JW(G:cQ K mg base a){f:af}{fd:f8}(Fn:nR K "law" "law" o7 f fd):jM P w K mg base (cf P w) 17 f fd ["_law_script"] (bE K (pt a)) :=
 Jd (k:=16) (pin:=[]) Fn Ka rfl (λ_ _ _ _ _ _ us hl=>Pu.On (λ_=>rfl) us hl) (λf aJ A outer s H E hr=>by exact
  (bz (p8 1 Ka.nd (pF aG))
  (bz (gk 2 Ka.nd ((bU (nG G) (hr.mono (by decide)) cF (aQ (aw 0) (gK 1 (aQ aU bM))))).de)
  (bz (gk 3 Ka.nd ((bU (LS G) (hr.mono (by decide)) cF (aQ (aw 0) (gK 1 (aQ (aw 2) (aQ (C0 (iI B6 jc (aw 2) aU rfl) aU aU) bM)))))).de)
  (bz (gk 4 Ka.nd (bZ d_ d9 (iE iO iQ (aw 3) aU) aU))
  (bz (gS (iI (rP hr.units) sq ((bU (xH G) (hr.mono (by decide)) cF (aQ ((bU (K8 G) (hr.mono (by decide)) cF (aQ (aw 0) (gK 1 bM)))).de bM))).de (cr (az (dz [114,101,102,117,115,101,100]) (az aU aG))) rfl) (bo (dS n0)) gL)
  (bz (gS (iI (lM hr.units) lw (aw 4) aU rfl) (bo (dS (qe (lM hr.units) lw ((bU (xH G) (hr.mono (by decide)) cF (aQ (aw 3) bM))).de (cr (az (dz [114,101,102,117,115,101,100]) (az aU aG))) rfl))) gL)
  (bz (F_ 5 Ka.nd (cap:=[4]) (N':=["_law_line","_law_width"]) (jO.of ["_law_script","_law_town","_law_spoil","_law_asked","_law_width","_law_rows"] (aX o7) rfl rfl (by decide +kernel)) rfl (jd ((bU (Hu G) (hr.mono (by decide)) cF (aQ (aw 3) bM))).de) (λC s₀ H₀ ex pn=>by exact nL) (λC s₀ H₀ ex pn=>by exact((bU (uC G) (hr.mono (by decide)) jy (aQ (aw 0) (aQ (aw 1) bM)))).de))
  (bo (dS (qe (lM hr.units) lw ((bU (xH G) (hr.mono (by decide)) cF (aQ (aw 3) bM))).de (dn_sortSetV hr.units rfl (az (km (cap:=[4]) (N':=["_law_row","_law_width"]) (jO.of ["_law_script","_law_town","_law_spoil","_law_asked","_law_width","_law_rows"] (aX o7) rfl rfl (by decide +kernel)) rfl (jd (aw 5)) (λC s₀ H₀ ex pn=>by exact vg (iI (rP hr.units) sq (aw 0) (cr aG) rfl)) (λC s₀ H₀ ex pn=>by exact(cr (az (aw 1) (az (aw 0) aG))))).de aG) G.ya1 G.ya0).de rfl)))))))))))
end
end K23
namespace Mx
open L2 Pu
def bL:Tx:=[97,98,99]
def dr:Nat->List Tx
 |0=>[[]]
 |k+1=>bL.flatMap λc=>(dr k).map (c::·)
theorem mJ:∀(k:Nat) (x:Tx),x∈dr k↔x.length=k/\∀c∈x,c∈bL
 |0,x=>by
  simp only[dr,hU];constructor
  ·rintro rfl;simp
  ·rintro⟨h,_⟩;exact AA.mp h
 |k+1,x=>by
  simp only[dr,List.mem_flatMap,bO];constructor
  ·rintro⟨c,hc,y,hy,rfl⟩;obtain⟨h1,h2⟩:=(mJ k y).mp hy;refine⟨by simp[h1],λd hd=>?_⟩;rcases bF.mp hd with rfl|hd
   ·exact hc
   ·exact h2 d hd
  ·rintro⟨h1,h2⟩;cases x with
   |nil=>cases h1
   |cons c y=>exact⟨c,h2 c (by simp),y,(mJ k y).mpr ⟨wJ h1,λd hd=>h2 d (by simp[hd])⟩,rfl⟩
theorem zh:∀k:Nat,(dr k).length=3^k
 |0=>rfl
 |k+1=>by simp only[dr,bL,qX,E_,et,dw,zh k,mZ,tu];lia
theorem CC(i j:Nat):dr (i+j)=(dr i).flatMap λh=>(dr j).map (h++·):=by
 induction i with
 |zero=>simp[dr]
 |succ i ih=>rw[show i+1+j=(i+j)+1 by lia];simp only[dr,ih,List.flatMap_assoc,List.map_flatMap,List.flatMap_map,c7,tt,Ap]
theorem Gy(k:Nat):dr (k+1)=(dr k).flatMap λh=>bL.map λc=>h++[c]:=by rw[CC k 1];congr 1
theorem yZ:∀k:Nat,(dr k).Pairwise (λa b=>a<b)
 |0=>by simp[dr]
 |k+1=>by
  simp only[dr];rw[List.pairwise_flatMap];refine⟨λc _=>?_,?_⟩
  ·rw[wy];exact(yZ k).imp λh=>Ay.mpr (.inr ⟨rfl,h⟩)
  ·have:bL.Pairwise (λa b=>a<b):=by decide
   refine this.imp λh=>?_;intro x hx y hy;obtain⟨x',_,rfl⟩:=bO.mp hx;obtain⟨y',_,rfl⟩:=bO.mp hy;exact Ay.mpr (.inl h)
theorem FK{a b:Tx}(h:a<b):cZ a b=ah:=by simp only[cZ,decide_eq_true_eq];exact List.le_of_lt h
theorem Gm(k:Nat):(dr k).Pairwise (λa b=>cZ a b=ah):=(yZ k).imp FK
theorem CA(k:Nat):(dr k).Nodup:=(yZ k).imp λh z=>by subst z;exact List.lt_irrefl _ h
def aW(z:Tx)(w:Nat):List Tx:=((bX z.length).filter λi=>decide (i+w<=z.length)).map λi=>(z.drop i).take w
theorem CS(w L:Nat):∀m:Nat,(bX m).filter (λi=>decide (i+w<=L))=bX (min m (L+1-w))
 |0=>by simp
 |m+1=>by
  rw[oG,List.filter_append,CS w L m];by_cases h:m+w<=L
  ·rw[show min m (L+1-w)=m by lia,show min (m+1) (L+1-w)=m+1 by lia,oG];simp[h]
  ·rw[show min (m+1) (L+1-w)=min m (L+1-w) by lia];simp[h]
theorem qd(z:Tx)(w:Nat)(hw:1<=w):aW z w=(bX (z.length+1-w)).map λi=>(z.drop i).take w:=by unfold aW;rw[CS,show min z.length (z.length+1-w)=z.length+1-w by lia]
def nw(w:Nat)(t:Tx):Tx->List Tx
 |[]=>[]
 |c::s=>(t.drop (t.length+1-w)++[c])::nw w (t++[c]) s
theorem DU(w:Nat)(hw:1<=w):∀(s t:Tx),w<=t.length+1->nw w t s=(bX s.length).map λi=>((t++s).drop (t.length+1-w+i)).take w
 |[],t,_=>by simp[nw]
 |c::s,t,h=>by
  rw[nw,DU w hw s (t++[c]) (by simp;lia),ff,zV,eu,c7];congr 1
  ·show _=((t++c::s).drop (t.length+1-w)).take w;rw[NU ∅,List.take_append];have e1:(t.drop (t.length+1-w)).length=w-1:=by rw[j3];lia
   rw[e1,wv (by rw[e1];lia),show w-(w-1)=1 by lia];rfl
  ·refine lW λi _=>?_;simp only[me];rw[et,sV,show t.length+1+1-w+i=t.length+1-w+Nat.succ i by lia];simp
theorem Bm{w:Nat}(hw:1<=w){h s:Tx}(hh:h.length=w-1):aW (h++s) w=nw w h s:=by rw[qd _ _ hw,DU w hw s h ∅,et,show h.length+s.length+1-w=s.length by lia];refine lW λi _=>?_;rw[show h.length+1-w+i=i by lia]
theorem L4{w:Nat}(hw:1<=w)(t:Tx)(c:Nat):aW (t++[c]) w=aW t w++(if w<=t.length+1 then [((t++[c]).drop (t.length+1-w)).take w] else []):=by
 rw[qd _ _ hw,qd _ _ hw,et,sV];by_cases h:w<=t.length+1
 ·rw[if_pos h,show t.length+1+1-w=(t.length+1-w)+1 by lia,oG,m8];congr 1;refine lW λi hi=>?_;have hi:i<t.length+1-w:=by simpa using hi
  rw[NU ∅,List.take_append_of_le_length (by rw[j3];lia)]
 ·rw[if_neg h,show t.length+1+1-w=0 by lia,show t.length+1-w=0 by lia];simp
def gw(w:Nat):Nat->Tx->List Tx->List Tx
 |0,t,_=>[t]
 |r+1,t,q=>bL.flatMap λc=>if t.drop (t.length+1-w)++[c]∈q then gw w r (t++[c]) (q.erase (t.drop (t.length+1-w)++[c]))else []
theorem A0(w:Nat):∀(r:Nat) (t:Tx) (q:List Tx),q.length=r->gw w r t q=((dr r).filter λs=>(nw w t s).isPerm q).map (t++·)
 |0,t,q,hq=>by have:q=[]:=AA.mp hq;subst this;simp[gw,dr,nw,List.isPerm]
 |r+1,t,q,hq=>by
  simp only[gw,dr,Fa,List.map_flatMap];congr 1;funext c;rw[tI,c7];by_cases h:t.drop (t.length+1-w)++[c]∈q
  ·rw[if_pos h,A0 w r (t++[c]) _ (by rw[Au h,hq];rfl)];have e:((λs=>(nw w t s).isPerm q) ∘ λx=>c::x)=λs=>(nw w (t++[c]) s).isPerm (q.erase (t.drop (t.length+1-w)++[c])):=by funext s;show(q.contains (t.drop (t.length+1-w)++[c])&&(nw w (t++[c]) s).isPerm (q.erase (t.drop (t.length+1-w)++[c])))=_;rw[List.contains_iff_mem.mpr h,Bool.true_and]
   rw[e];refine lW λs _=>?_;simp
  ·rw[if_neg h];have e:((λs=>(nw w t s).isPerm q) ∘ λx=>c::x)=λ_=>aj:=by
    funext s;show(q.contains (t.drop (t.length+1-w)++[c])&&(nw w (t++[c]) s).isPerm (q.erase (t.drop (t.length+1-w)++[c])))=_;have:q.contains (t.drop (t.length+1-w)++[c])=aj:=by rw[wH];intro z;exact h (List.contains_iff_mem.mp z)
    rw[this,Bool.false_and]
   rw[e];simp
def bJ(w:Nat)(ls:List Tx):List Tx:=(aY (ft (ls.map oO))).flatMap λh=>gw w ls.length h ls
theorem CM{α β:Type}{l:List α}{f:α->List β}(p:α->Bool)(h:∀x∈l,p x=aj->f x=[]):l.flatMap f=(l.filter p).flatMap f:=by
 induction l with
 |nil=>rfl
 |cons x l ih=>
  rw[qX,ih λy hy=>h y (by simp[hy]),Fb];cases e:p x with
  |true=>simp
  |false=>rw[h x (by simp) e];simp
theorem sy{w:Nat}{ls:List Tx}(hw:1<=w)(hn:1<=ls.length)(hl:∀x∈ls,x.length=w/\∀c∈x,c∈bL):bJ w ls=(dr (w-1+ls.length)).filter λz=>(aW z w).isPerm ls:=by
 rw[CC,Fa];have e1:(λh=>((dr ls.length).map (h++·)).filter λz=>(aW z w).isPerm ls)=λh=>((dr ls.length).filter λs=>(aW (h++s) w).isPerm ls).map (h++·):=by funext h;rw[tI];rfl
 rw[e1,CM (λh=>decide (h∈ls.map oO))]
 ·have e2:(dr (w-1)).filter (λh=>decide (h∈ls.map oO))=aY (ft (ls.map oO)):=by
   refine vF ?_ ((Gm (w-1)).filter _);refine(List.perm_ext_iff_of_nodup ((CA (w-1)).filter _) (Ng _)).mpr λx=>?_;rw[lP,decide_eq_true_eq,u8,mJ];refine⟨λh=>h.2,λh=>⟨?_,h⟩⟩;obtain⟨y,hy,rfl⟩:=bO.mp h;obtain⟨h1,h2⟩:=hl y hy;exact⟨by rw[Ai,h1],λc hc=>h2 c ((List.dropLast_sublist _).mem hc)⟩
  rw[e2];unfold bJ;have:∀l:List Tx,(∀h∈l,h.length=w-1)->l.flatMap (λh=>gw w ls.length h ls)=l.flatMap λh=>((dr ls.length).filter λs=>(aW (h++s) w).isPerm ls).map (h++·):=by
   intro l
   induction l with
   |nil=>intro _;rfl
   |cons h l ih=>
    intro hh;rw[qX,qX,ih λy hy=>hh y (by simp[hy]),A0 w _ h ls rfl];have e3:(λs=>(nw w h s).isPerm ls)=λs=>(aW (h++s) w).isPerm ls:=by funext s;rw[Bm hw (hh h (by simp))]
    rw[e3]
  refine this _ λh hh=>?_;have hm:=(u8 _ _).mp ((jK _).mem_iff.mp hh);obtain⟨y,hy,rfl⟩:=bO.mp hm;rw[Ai,(hl y hy).1]
 ·intro h hh hp;have bw:=((mJ _ h).mp hh).1;rw[List.map_eq_nil_iff,List.filter_eq_nil_iff];intro s hs hq;have hsl:=((mJ _ s).mp hs).1;rw[Bm hw bw,List.isPerm_iff]at hq;cases s with
  |nil=>rw[mZ]at hsl;lia
  |cons c s=>rw[nw,show h.length+1-w=0 by lia,wu]at hq;have:h++[c]∈ls:=hq.mem_iff.mp (by simp);rw[decide_eq_false_iff_not]at hp;exact hp (bO.mpr ⟨_,this,by simp⟩)
def unD(w:Nat)(ls:List Tx)(t:Tx):Bool:=(aW t w).all λx=>decide ((aW t w).count x<=ls.count x)
theorem B4{w:Nat}{ls:List Tx}{t:Tx}:unD w ls t=ah↔∀x,(aW t w).count x<=ls.count x:=by
 unfold unD;rw[k6];constructor
 ·intro h x;by_cases hx:x∈aW t w
  ·simpa using h x hx
  ·rw[Fc hx];lia
 ·intro h x _;simpa using h x
theorem Hl{w:Nat}(hw:1<=w){ls:List Tx}{t:Tx}{c:Nat}(h:unD w ls (t++[c])=ah):unD w ls t=ah:=by rw[B4]at h ⊢;intro x;have:=h x;rw[L4 hw,Fd]at this;lia
def rowsOf(w:Nat)(ls:List Tx)(k:Nat):List Tx:=(dr k).filter (unD w ls)
theorem FX{w:Nat}(hw:1<=w)(ls:List Tx):rowsOf w ls 0=[[]]:=by simp[rowsOf,dr,unD,aW]
theorem LA{w:Nat}(hw:1<=w)(ls:List Tx)(k:Nat):rowsOf w ls (k+1)=(rowsOf w ls k).flatMap λt=>(bL.map λc=>t++[c]).filter (unD w ls):=by
 unfold rowsOf;rw[Gy,Fa];refine CM _ λt _ ht=>?_;rw[List.filter_eq_nil_iff];intro z hz hu;obtain⟨c,_,rfl⟩:=bO.mp hz;rw[Hl hw hu]at ht;cases ht
theorem Ni(w:Nat)(ls:List Tx)(k:Nat):(rowsOf w ls k).length<=3^k:=by rw[←zh k];exact Fe _ _
theorem G7{w:Nat}{ls:List Tx}(hs:ls.Pairwise (λa b=>cZ a b=ah))(L:Nat):(rowsOf w ls L).filter (λz=>decide (aY (aW z w)=ls))=(dr L).filter λz=>(aW z w).isPerm ls:=by
 unfold rowsOf;rw[List.filter_filter];refine List.filter_congr λz _=>?_;rw[jY,fB,decide_eq_true_eq,List.isPerm_iff];constructor
 ·rintro⟨h,_⟩;rw[←h];exact(jK _).symm
 ·intro h;refine⟨by rw[GS h,vH hs],?_⟩;rw[B4];intro x;rw[h.count_eq];exact a_ _
end Mx
namespace Sh
open L2 Pu Mx
theorem LG{α:Type}{f:List PV->Option α}{ds:ak->R (List PV)}{ε ε1:ak}{xs:List PV}{v:α}(h:ds ε=.ok xs ε1)(hf:f xs=aa v):dL f ds ε=.ok v ε1:=by unfold dL;rw[h];show bh (f xs) ε1=_;rw[hf];rfl
theorem Jk{d:ak->R PV}{ds:ak->R (List PV)}{ε ε1 ε2:ak}{x:PV}{xs:List PV}(h:d ε=.ok x ε1)(hs:ds ε1=.ok xs ε2):ar d ds ε=.ok (x::xs) ε2:=by unfold ar;rw[h];show(ds ε1).bind _=_;rw[hs];rfl
theorem HB{ε:ak}:aC ε=.ok [] ε:=rfl
theorem Kg{f:PV->PV->Option PV}{da db:ak->R PV}{ε ε1 ε2:ak}{x y z:PV}(h:da ε=.ok x ε1)(h2:db ε1=.ok y ε2)(hf:f x y=aa z):d2 f da db ε=.ok z ε2:=by unfold d2;rw[h];show(db ε1).bind _=_;rw[h2];show bh (f x y) ε2=_;rw[hf];rfl
section
theorem yb{ls:List Tx}(h:ls.length<=1000000):lD [.lst (ao ls)]=aa (.lst (ao (aY ls))):=by show(ip (ao ls)).bind _=_;rw[uK,iy,if_pos h]
end
section
variable{a:Ad}
abbrev bA(ns:List Int):Slot:=.val (.lst (ns.map .int))
theorem D8(ns:List Int)(k:Int)(h0:0<=k)(h:k<ns.length):∃v,fW (ns.map PV.int) k=aa (.int v):=by
 have hk:k.toNat<ns.length:=∅
 refine⟨ns[k.toNat],?_⟩;rw[Dd h0 (by rw[dw];exact hk)];simp
theorem Iy(ns:List Int):Pu.eqT aj (.lst (ns.map .int)) (.lst [])=aa (.bl ns.isEmpty):=by
 cases ns with
 |nil=>rfl
 |cons x xs=>
  have hd:∀l:List Int,fK (l.map .int)=0:=λl=>by induction l with|nil=>rfl|cons y l ih=>simp[fK,fH,ih]
  have:fK ((x::xs).map .int)=0:=hd _;simp only[eu]at this;simp[Pu.eqT,cV,cp,eJ,fH,this]
theorem lE(neg:Bool)(i j:Int):Pu.eqT neg (.int i) (.int j)=aa (.bl (neg^^decide (i=j))):=by show(if sm (V.int i) (V.int j)then aa (PV.bl (neg^^decide (V.int i=V.int j)))else ae)=_;have:sm (V.int i) (V.int j)=ah:=rfl;rw[if_pos this];simp
theorem GA(ns:List Int)(k:Int)(h0:0<=k):∃v,pN a [bA ns,.val (.int k)]=.ok (.val (.int v)) [bA ns,.val (.int k)]:=by
 by_cases h:k<ns.length
 ·obtain⟨v,hv⟩:=D8 ns k h0 h;refine⟨v,?_⟩;simp![pN,yaC,bI,cu,hv,h]
 ·have e:=Iy ns;by_cases hn:ns=[]
  ·subst hn;refine⟨0,?_⟩;simp only[List.map_nil,Ff]at e;have h':¬k<0:=∅
   simp![pN,yaC,bI,cu,e,h']
  ·have hpos:0<ns.length:=by cases ns with|nil=>exact absurd rfl hn|cons=>simp
   obtain⟨v,hv⟩:=D8 ns (k % ns.length) (wQ _ ∅) (wP _ ∅);refine⟨v*31+k,?_⟩;have e2:ns.isEmpty=aj:=by cases ns with|nil=>exact absurd rfl hn|cons=>rfl
   rw[e2]at e;have hm:fG (.int k) (.int (ns.length:Int))=aa (.int (k % ns.length)):=by simp[fG];lia
   have Fp:jS (.int v) (.int 31)=aa (.int (v*31)):=by simp[jS,sG]
   simp![pN,yaC,bI,cu,h,e,hm,hv,Fp,a9]
theorem JX(ns:List Int)(k m:Int)(h0:0<=k)(hm:0<m):∃v,0<=v/\v<m/\vX a [bA ns,.val (.int k),.val (.int m)]=.ok (.val (.int v)) [bA ns,.val (.int k),.val (.int m)]:=by
 obtain⟨c,hc⟩:=GA (a:=a) ns k h0;have d0:0<=(c*1103515245+7919*k+12345) % 2147483647:=wQ _ (by decide);have d1:(c*1103515245+7919*k+12345) % 2147483647<2147483647:=wP _ (by decide);have m1:jS (.int c) (.int 1103515245)=aa (.int (c*1103515245)):=by simp[jS,sG]
 have m2:jS (.int 7919) (.int k)=aa (.int (7919*k)):=by simp[jS,sG]
 have m3:fG (.int (c*1103515245+7919*k+12345)) (.int 2147483647)=aa (.int ((c*1103515245+7919*k+12345) % 2147483647)):=by simp[fG]
 generalize (c*1103515245+7919*k+12345) % 2147483647=d at d0 d1 m3;have m4:rX (.int d) (.int 5)=aa (.int (d^5)):=by
  have:d.natAbs<2^64:=∅
  simp[rX,this]
 have m5:fG (.int (d^5)) (.int 2147483647)=aa (.int (d^5 % 2147483647)):=by simp[fG]
 generalize d^5 % 2147483647=d5 at m5;have m6:fG (.int d5) (.int 999983)=aa (.int (d5 % 999983)):=by simp[fG]
 generalize d5 % 999983=d6 at m6;have m7:fG (.int d6) (.int m)=aa (.int (d6 % m)):=by simp[fG,hm]
 refine⟨d6 % m,wQ _ ∅,wP _ hm,?_⟩;simp![vX,yaE,hc,m1,m2,m3,m4,m5,m6,m7,a9]
theorem ol(ns:List Int)(xs:List PV)(m:Int)(hm:0<m)(hx:xs.length<=1000):∃v,0<=v/\v<m/\iR a [bA ns,.own (.lst xs),.val (.int m)]=.ok (.val (.int v)) [bA ns,.own (.lst (xs++[.int 0])),.val (.int m)]:=by
 obtain⟨v,v0,v1,hv⟩:=JX (a:=a) ns ((xs.length:Int)+1) m ∅ hm;refine⟨v,v0,v1,?_⟩;have q_:xs.length<cq:=by unfold cq;lia
 simp![iR,yaD,bI,q_,hv]
theorem BS{α:Type}(ps:List α)(v:Int)(h0:0<=v)(h1:v<ps.length):∃x∈ps,fW ps v=aa x:=by
 have hk:v.toNat<ps.length:=∅
 exact⟨ps[v.toNat],sY _,Dd h0 hk⟩
theorem Dx(ns:List Int)(xs ps:List PV)(hx:xs.length<=1000)(hp:0<ps.length):∃x∈ps,r8 a [bA ns,.own (.lst xs),.val (.lst ps)]=.ok (.val x) [bA ns,.own (.lst (xs++[.int 0])),.val (.lst ps)]:=by obtain⟨v,v0,v1,hv⟩:=ol (a:=a) ns xs (ps.length:Nat) ∅ hx;obtain⟨x,hm,mo⟩:=BS ps v v0 v1;refine⟨x,hm,?_⟩;simp![r8,yaG,bI,cu,hv,mo]
theorem su{n:Nat}(h:n<=1000000):i_ [.int n]=aa (dG 0 n):=by show(if(n:Int)<=1000000/\-1000000<=(n:Int)then aa (dG 0 (n:Int).toNat)else ae)=_;rw[if_pos ⟨∅,∅⟩];simp
theorem u9{x y:Tx}(h:x.length+y.length<=cq):a9 (.str x) (.str y)=aa (.str (x++y)):=by show(if(x++y).length<=cq then aa (PV.str (x++y))else ae)=_;rw[if_pos (by rw[et];exact h)]
theorem kC{d1 d2:ak->R aR}{ε ε1:ak}(h:d1 ε=.ok .next ε1):bd d1 d2 ε=d2 ε1:=by unfold bd;rw[h]
theorem L6{i:Nat}{d:ak->R PV}{ε ε1:ak}{x:PV}(h:d ε=.ok x ε1):cO i d ε=.ok .next (ε1.set i (.val x)):=by unfold cO;rw[h];rfl
theorem uQ{i:Nat}{db:ak->R aR}{I:Nat->ak->Prop}{N:Nat}(step:∀k ε x,k<N->I k ε->∃ε',db (ε.set i (.val x))=.ok .next ε'/\I (k+1) ε'):∀(xs:List PV) (k:Nat) (ε:ak),k+xs.length<=N->I k ε->∃ε',jV i db xs ε=.ok .next ε'/\I (k+xs.length) ε'
 |[],k,ε,_,h=>⟨ε,rfl,h⟩
 |x::xs,k,ε,hk,h=>by simp only[ff]at hk;obtain⟨ε1,e1,h1⟩:=step k ε x ∅ h;obtain⟨ε2,e2,h2⟩:=uQ step xs (k+1) ε1 ∅ h1;refine⟨ε2,by unfold jV;rw[e1];exact e2,?_⟩;rw[ff,show k+(xs.length+1)=k+1+xs.length by lia];exact h2
theorem sK{i:Nat}{db:ak->R aR}{I:List PV->ak->Prop}(step:∀(x:PV) (r:List PV) ε,I (x::r) ε->∃ε',db (ε.set i (.val x))=.ok .next ε'/\I r ε'):∀(xs:List PV) (ε:ak),I xs ε->∃ε',jV i db xs ε=.ok .next ε'/\I [] ε'
 |[],ε,h=>⟨ε,rfl,h⟩
 |x::xs,ε,h=>by obtain⟨ε1,e1,h1⟩:=step x xs ε h;obtain⟨ε2,e2,h2⟩:=sK step xs ε1 h1;exact⟨ε2,by unfold jV;rw[e1];exact e2,h2⟩
theorem C8(ns:List Int)(xs:List PV)(low most:Nat)(hlm:low<=most)(hm:most<=100)(hx:xs.length<=500):∃(z:Tx) (ys:List PV),low<=z.length/\z.length<=most/\(∀c∈z,c∈bL)/\ys.length<=xs.length+2+most /\ pB a [bA ns,.own (.lst xs),.val (.int low),.val (.int most)]=.ok (.val (.str z)) [bA ns,.own (.lst ys),.val (.int low),.val (.int most)]:=by
 obtain⟨f,hf,hp⟩:=Dx (a:=a) ns xs [.int 1,.int 2,.int 2,.int 3,.int 3,.int 3] ∅ (by decide);obtain⟨few,rfl,f0,f1⟩:∃few:Int,f=.int few/\0<few/\few<=3:=by simp only[bF,f_,or_false]at hf;rcases hf with rfl|rfl|rfl|rfl|rfl|rfl <;> exact⟨_,rfl,by decide,by decide⟩
 obtain⟨m,m0,m1,hd⟩:=ol (a:=a) ns (xs++[.int 0]) ((most:Int)-low+1) ∅ (by simp;lia);obtain⟨n,hn⟩:∃n:Nat,(low:Int)+m=n:=⟨(low+m).toNat,∅⟩
 have hr:i_ [.int ((low:Int)+m)]=aa (dG 0 n):=by rw[hn];exact su ∅
 have bw:(dG 0 n).length=n:=by simp[dG]
 obtain⟨ε',e1,ys,z,s6,rfl,hz,hy,AR⟩:=uQ (i:=6) (db:=cO 5 (d2 a9 (dV 5) (d2 cu (dC (.str [97,98,99])) (bj (a8 (iR a) (gV (dV 0) (gO 1 (gV (dV 4) (Pu.bB)))))))))
  (I:=λk ε=>∃ys z s6,ε=[bA ns,.own (.lst ys),.val (.int low),.val (.int most),.val (.int few),.val (.str z),s6]/\z.length=k/\ys.length<=xs.length+2+k/\∀c∈z,c∈bL) (N:=n)
  (by
   rintro k ε x hk ⟨ys,z,s6,rfl,hz,hy,AR⟩;obtain⟨v,v0,v1,hv⟩:=ol (a:=a) ns ys few f0 ∅;obtain⟨c,hc,oS⟩:=BS bL v v0 (by simp[bL];lia);refine⟨[bA ns,.own (.lst (ys++[.int 0])),.val (.int low),.val (.int most),.val (.int few),.val (.str (z++[c])),.val x],?_,ys++[.int 0],z++[c],.val x,rfl,by simp[hz],by simp;lia,λd hd=>?_⟩
   ·have hc3:cu (.str [97,98,99]) (.int v)=aa (.str [c]):=by
     show(fW bL v).map _=_;rw[oS];rfl
    have k9:a9 (.str z) (.str [c])=aa (.str (z++[c])):=u9 (by simp[cq];lia);simp![hv,hc3,k9]
   ·simp only[fZ,hU]at hd;rcases hd with hd|rfl
    ·exact AR d hd
    ·exact hc)
  (dG 0 n) 0 [bA ns,.own (.lst (xs++[.int 0]++[.int 0])),.val (.int low),.val (.int most),.val (.int few),.val (.str []),.none] ∅ ⟨xs++[.int 0]++[.int 0],[],.none,rfl,rfl,by simp,by simp⟩
 refine⟨z,ys,∅,∅,AR,∅,?_⟩;have nq:ir (.int most) (.int low)=aa (.int ((most:Int)-low)):=rfl;have ha1:a9 (.int ((most:Int)-low)) (.int 1)=aa (.int ((most:Int)-low+1)):=rfl;have ha2:a9 (.int low) (.int m)=aa (.int ((low:Int)+m)):=rfl;simp only[qB,Ap,iz]at e1;simp![pB,yaI,hp,nq,ha1,ha2,hd,gm,hr,iL,e1]
theorem i6{cap:List Nat}{dt:ak->R Bool}{de:ak->R PV}{ε:ak}(p:PV->Bool)(f:PV->PV):∀(xs:List PV),(∀x∈xs,bN (cX cap dt x ε)=.ok (p x) ε/\(p x=ah->bN (cX cap de x ε)=.ok (f x) ε))->∀aH,im cap dt de xs aH ε=.ok (aH++(xs.filter p).map f) ε
 |[],_,aH=>by simp[im]
 |x::xs,h,aH=>by
  have h1:=h x (by simp);have ih:=i6 p f xs (λy hy=>h y (by simp[hy]));unfold im;rw[h1.1];simp only[R.bind_ok];cases hp:p x with
  |false=>simp only[ih aH,Fb,hp];simp
  |true=>simp only[h1.2 hp,R.bind_ok,ih (aH++[f x]),Fb,hp];simp
theorem Cw{z:Tx}{i w:Nat}(h:i+w<=z.length):fu z (aa (i:Int)) (aa ((i:Int)+w))=(z.drop i).take w:=by
 unfold fu;have e1:HT.sIx z.length 0 (aa (i:Int))=i:=by rw[HT.sIx_nat];lia
 have e2:HT.sIx z.length z.length (aa ((i:Int)+w))=i+w:=by rw[show(i:Int)+w=((i+w:Nat):Int) by lia,HT.sIx_nat];lia
 rw[e1,e2,Nat.add_sub_cancel_left]
theorem vD(z:Tx)(w:Nat)(hz:z.length<=60):jn a [.val (.str z),.val (.int w)]=.ok (.val (.tup (ao (aY (aW z w))))) [.val (.str z),.val (.int w)]:=by
 have hr:i_ [.int (z.length:Nat)]=aa (dG 0 z.length):=su ∅;have hc:=i6 (cap:=[0,1]) (dt:=(dB (d2 (eV λi j=>decide (i<=j)) (d2 a9 (dV 0) (dV 2)) (dL bI (ar (dV 1) (aC)))))) (de:=(iZ ie (dV 1) (gq (dV 0)) (gq (d2 a9 (dV 0) (dV 2)))))
  (ε:=[.val (.str z),.val (.int w)]) (λx=>match x with|.int i=>decide (i+w<=z.length)|_=>aj) (λx=>match x with|.int i=>.str (fu z (aa i) (aa (i+w)))|_=>.non) (dG 0 z.length)
  (by
   intro x hx;simp only[dG,bO]at hx;obtain⟨i,hi,rfl⟩:=hx;refine⟨?_,λh=>?_⟩
   ·simp![cX,cN,bN,bI,a9]
   ·simp![cX,cN,bN,bI,a9,iZ,gq,ie]) []
 have hl:(aW z w).length<=1000000:=by unfold aW;rw[dw];have:=Fe (λi=>decide (i+w<=z.length)) (bX z.length);rw[EN]at this;lia
 have he:(((dG 0 z.length).filter (λx=>match x with|.int i=>decide (i+w<=z.length)|_=>aj)).map (λx=>match x with|.int i=>PV.str (fu z (aa i) (aa (i+w)))|_=>.non))=ao (aW z w):=by
  unfold dG aW ao;rw[tI,c7,c7];have e0:((λx=>match x with|PV.int i=>decide (i+(w:Int)<=(z.length:Nat))|_=>aj) ∘ λ(i:Nat)=>PV.int (0+(i:Nat)))=λi=>decide (i+w<=z.length):=by funext i;simp only[me];congr 1;simp;lia
  rw[e0];refine lW λi hi=>?_;have:=(lP.mp hi).2;simp only[decide_eq_true_eq]at this;simp only[me,Int.zero_add];rw[Cw this]
 simp only[iz]at hc;rw[he]at hc;have dE:=yb hl;generalize ao (aY (aW z w))=T at dE;generalize ao (aW z w)=B at hc dE;simp![jn,yaH,bI,hr,cz,hc,dE,mH]
theorem uw{z:Tx}{w:Nat}:∀x∈aW z w,x.length=w/\∀c∈x,c∈z:=by intro x hx;simp only[aW,bO,lP,kP,decide_eq_true_eq]at hx;obtain⟨i,⟨_,h⟩,rfl⟩:=hx;exact⟨by rw[mS,j3];lia,λc hc=>List.mem_of_mem_drop (Az hc)⟩
theorem DB{z:Tx}{w m:Nat}(hw:1<=w)(h1:w<=z.length)(h2:z.length<=w+m):1<=(aW z w).length/\(aW z w).length<=m+1:=by
 unfold aW;rw[dw];have:∀n,((bX n).filter λi=>decide (i+w<=z.length)).length=min n (z.length+1-w):=by
  intro n
  induction n with
  |zero=>simp
  |succ n ih=>
   rw[oG,List.filter_append,et,ih];by_cases h:n+w<=z.length
   ·simp[List.filter,h];lia
   ·simp[List.filter,h];lia
 rw[this];lia
structure Good(l:Tx)(w:Nat)(ls:List Tx):Prop where
 len:∀x∈ls,x.length=w
 abc:∀x∈ls,∀c∈x,c∈l
 some:1<=ls.length
 few:ls.length<=9
theorem Good.perm{l:Tx}{w:Nat}{ls ms:List Tx}(g:Good l w ls)(p:ms.Perm ls):Good l w ms:=⟨λx h=>g.len x (p.mem_iff.mp h),λx h=>g.abc x (p.mem_iff.mp h),by rw[p.length_eq];exact g.some,by rw[p.length_eq];exact g.few⟩
theorem Good.put{l:Tx}{w:Nat}{ls:List Tx}{z:Tx}{j:Nat}(g:Good l w ls)(hz:z.length=w)(ha:∀c∈z,c∈l):Good l w (ls.set j z):=by
 refine⟨λx h=>?_,λx h=>?_,by rw[fC];exact g.some,by rw[fC];exact g.few⟩
 ·rcases List.mem_or_eq_of_mem_set h with h|rfl
  ·exact g.len x h
  ·exact hz
 ·rcases List.mem_or_eq_of_mem_set h with h|rfl
  ·exact g.abc x h
  ·exact ha
theorem Iv(ls:List Tx)(j:Nat)(z:Tx):(ao ls).set j (.str z)=ao (ls.set j z):=by simp[ao,List.map_set]
theorem kI(ls:List Tx):(ao ls).length=ls.length:=by simp[ao]
theorem MF{n:Nat}{v:Int}(h0:0<=v)(h1:v<n):jo n v=aa v.toNat:=by unfold jo;rw[if_pos h0,if_pos h1]
theorem Jg(ls:List Tx):ly (ao ls)=ah:=by
 induction ls with
 |nil=>rfl
 |cons x ls ih=>show(imm (.str x)&&ly (ao ls))=ah;rw[ih];rfl
theorem Kd(ns:List Int)(xs:List PV)(spoil most:Nat)(hs:spoil<3)(m1:1<=most)(m9:most<=9)(hx:xs.length<=300):∃(w:Nat) (ls:List Tx) (ys:List PV),1<=w/\w<=4/\(spoil≠2->2<=w)/\Good bL w ls/\ls.Pairwise (λa b=>cZ a b=ah)/\ls.length<=most/\(spoil=0->∃z:Tx,ls=aY (aW z w)/\w<=z.length/\z.length+1<=w+most/\∀c∈z,c∈bL)/\ys.length<=xs.length+60 /\ rD a [bA ns,.own (.lst xs),.val (.int spoil),.val (.int most)]=.ok (.val (.tup [.int w,.tup (ao ls)])) [bA ns,.own (.lst ys),.val (.int spoil),.val (.int most)]:=by
 obtain⟨w,w1,w4,w2,hw⟩:∃w:Nat,1<=w/\w<=4/\(spoil≠2->2<=w)/\(dP (dB (d2 (Pu.eqT ah) (dV 2) (dC (.int 2)))) (d2 a9 (dC (.int 2)) (bj (a8 (iR a) (gV (dV 0) (gO 1 (gV (dC (.int 3)) (Pu.bB))))))) (d2 a9 (dC (.int 1)) (bj (a8 (iR a) (gV (dV 0) (gO 1 (gV (dC (.int 4)) (Pu.bB)))))))) [bA ns,.own (.lst xs),.val (.int spoil),.val (.int most),.none,.none,.none] =
   .ok (.int w) [bA ns,.own (.lst (xs++[.int 0])),.val (.int spoil),.val (.int most),.none,.none,.none]:=by
  by_cases h2:spoil=2
  ·subst h2;obtain⟨v,v0,v1,hv⟩:=ol (a:=a) ns xs 4 (by decide) ∅;refine⟨(1+v).toNat,∅,∅,λz=>absurd rfl z,?_⟩;have e:Pu.eqT ah (.int 2) (.int 2)=aa (.bl aj):=by rw[lE];rfl
   have:((1+v).toNat:Int)=1+v:=∅
   simp![e,hv,a9,this]
  ·obtain⟨v,v0,v1,hv⟩:=ol (a:=a) ns xs 3 (by decide) ∅;refine⟨(2+v).toNat,∅,∅,λ_=>∅,?_⟩;have e:Pu.eqT ah (.int ((spoil:Nat):Int)) (.int 2)=aa (.bl ah):=by
    have:spoil=0\/spoil=1:=∅
    rcases this with rfl|rfl <;> (rw[lE];rfl)
   have:((2+v).toNat:Int)=2+v:=∅
   simp![e,hv,a9,this]
 obtain⟨z,y1,z1,z2,zabc,hy1,hz⟩:=C8 (a:=a) ns (xs++[.int 0]) w (w+(most-1)) ∅ ∅ (by simp;lia);simp only[et,sV]at hy1;have nk:=vD (a:=a) z w ∅;have N9:=DB (z:=z) (w:=w) (m:=most-1) w1 z1 z2;have g0:Good bL w (aY (aW z w)):=by exact Good.perm ⟨λx h=>(uw x h).1,λx h c hc=>zabc c ((uw x h).2 c hc),N9.1,∅⟩ (jK _)
 have hrng:fG (.int spoil) (.int 3)=aa (.int spoil):=by
  have:spoil=0\/spoil=1\/spoil=2:=∅
  rcases this with rfl|rfl|rfl <;> rfl
 have hr:i_ [.int spoil]=aa (dG 0 spoil):=su ∅;have bw:(dG 0 spoil).length=spoil:=by simp[dG]
 obtain⟨ε',e1,ys,ls,s6,rfl,gd,hln,h0,hy⟩:=uQ (i:=6) (db:=(vZ 5 (bj (a8 (iR a) (gV (dV 0) (gO 1 (gV (jb (λxs=>nP (bI xs)) 5) (Pu.bB)))))) (bj (a8 (pB a) (gV (dV 0) (gO 1 (gV (dV 4) (gV (dV 4) (Pu.bB)))))))))
  (I:=λk ε=>∃ys ls s6,ε=[bA ns,.own (.lst ys),.val (.int spoil),.val (.int most),.val (.int w),.own (.lst (ao ls)),s6]/\Good bL w ls/\ls.length<=most/\(k=0->ls=aY (aW z w))/\ys.length<=y1.length+10*k) (N:=spoil)
  (by
   rintro k ε x hk ⟨ys,ls,s6,rfl,gd,hln,_,hy⟩;obtain⟨z,y2,z1,z2,zabc,hy2,hz⟩:=C8 (a:=a) ns ys w w ∅ ∅ ∅;obtain⟨v,v0,v1,hv⟩:=ol (a:=a) ns y2 (ls.length:Nat) (by have:=gd.some;lia) ∅;refine⟨[bA ns,.own (.lst (y2++[.int 0])),.val (.int spoil),.val (.int most),.val (.int w),.own (.lst (ao (ls.set v.toNat z))),.val x],?_,_,_,_,rfl,gd.put ∅ zabc,by rw[fC];exact hln,λz=>∅,by simp;lia⟩;have hix:jo (ao ls).length v=aa v.toNat:=MF v0 (by rw[kI];exact v1);have hl:bI [.lst (ao ls)]=aa (.int (ls.length:Nat)):=by simp[bI,kI]
   simp![vZ,hz,hl,hv,hix,Iv])
  (dG 0 spoil) 0 [bA ns,.own (.lst y1),.val (.int spoil),.val (.int most),.val (.int w),.own (.lst (ao (aY (aW z w)))),.none] ∅ ⟨y1,_,.none,rfl,g0,by rw[vB];lia,λ_=>rfl,∅⟩
 refine⟨w,aY ls,ys,w1,w4,w2,gd.perm (jK _),sw _,by rw[vB];exact hln,λz0=>⟨z,by rw[h0 ∅,vH (sw _)],z1,∅,zabc⟩,∅,?_⟩;have k9:a9 (.int w) (.int most)=aa (.int ((w:Int)+most)):=rfl;have AH:ir (.int ((w:Int)+most)) (.int 1)=aa (.int (((w+(most-1):Nat)):Int)):=by show aa (PV.int ((w:Int)+most-1))=_;congr 2;lia
 have dE:=yb (ls:=ls) (by have:=gd.few;lia);have body:yaK a [bA ns,.own (.lst xs),.val (.int spoil),.val (.int most),.none,.none,.none]=.ok (.ret (.val (.tup [.int w,.tup (ao (aY ls))]))) [bA ns,.own (.lst ys),.val (.int spoil),.val (.int most),.val (.int w),.own (.lst (ao ls)),s6]:=by unfold yaK;refine(kC (L6 hw)).trans ?_;have him:=Jg (aY ls);generalize ao (aY ls)=T at dE him;generalize ((w+(most-1):Nat):Int)=q at AH hz;generalize (w:Int)+most=q2 at k9 AH;simp[bd,dP,dB,d2,d1,dV,dC,dL,dF,ar,aC,cH,kq,cO,ju,a8,gV,gO,Pu.bB,fS,fY,cx,eM,gi,R.bind,bh,bD,fq,bC,back,gr,lq,vK,uO,vT,vq,bj,mG,eI,bi,eQ,sM,jA,ze,iD,sE,xv,nE,jJ,yx,kG,eV,dO,nZ,jb,qb,bV,lS,k9,AH,hz,nk,pV,hrng,gm,hr,iL,e1,dE,Dv,him,mH]
 simp[rD,bD,fq,bC,body,back,gr]
theorem map_set{α β:Type}(f:α->β)(l:List α)(j:Nat)(x:α):(l.map f).set j (f x)=(l.set j x).map f:=by simp[List.map_set]
theorem J3{α:Type}(xs:List α)(n:Nat):fu xs (aa (n:Int)) ae=xs.drop n:=by
 unfold fu;have e2:HT.sIx xs.length xs.length ae=xs.length:=rfl;rw[e2,HT.sIx_nat];by_cases h:n<=xs.length
 ·rw[Nat.min_eq_left h,wv (by rw[j3];lia)]
 ·rw[Nat.min_eq_right ∅,List.drop_of_length_le ∅,List.drop_of_length_le ∅];simp
theorem gv{t T:String}{b:Bool}{x:PV}(h:qh x=aa t)(e:d4 [] (.type t) (.type T)=aa b):dU [x,.raw (.ty T)]=aa (.bl b):=by show((qh x).bind λt=>(d4 [] (.type t) (.type T)).map λb=>PV.bl b)=_;rw[h,iy,e];rfl
theorem KC:d4 [] (.type "int") (.type "int")=aa ah:=by decide +kernel
theorem Me:d4 [] (.type "int") (.type "bool")=aa aj:=by decide +kernel
theorem Ig:d4 [] (.type "bool") (.type "int")=aa ah:=by decide +kernel
theorem NA:d4 [] (.type "bool") (.type "bool")=aa ah:=by decide +kernel
theorem Ld:d4 [] (.type "str") (.type "int")=aa aj:=by decide +kernel
theorem CD:d4 [] (.type "str") (.type "str")=aa ah:=by decide +kernel
theorem Gd:d4 [] (.type "int") (.type "str")=aa aj:=by decide +kernel
theorem nM:d4 [] (.type "tuple") (.type "tuple")=aa ah:=by decide +kernel
theorem KR:d4 [] (.type "int") (.type "tuple")=aa aj:=by decide +kernel
theorem IW:d4 [] (.type "NoneType") (.type "tuple")=aa aj:=by decide +kernel
theorem K7:d4 [] (.type "str") (.type "tuple")=aa aj:=by decide +kernel
theorem Cu:d4 [] (.type "list") (.type "tuple")=aa aj:=by decide +kernel
theorem G1(bs:List Bool):lp (bs.map .bl)=aa bs:=by
 induction bs with
 |nil=>rfl
 |cons b bs ih=>show(lp (bs.map .bl)).map (b::·)=_;rw[ih];rfl
theorem xU(bs:List Bool):n6 [.lst (bs.map .bl)]=aa (.bl (bs.all id)):=by show(lp (bs.map .bl)).map _=_;rw[G1];rfl
theorem Cn(z s:Tx):sH a [.val (.str z),.val (.str s)]=.ok (.val (.bl (z.all s.contains))) [.val (.str z),.val (.str s)]:=by
 have hc:=i6 (cap:=[1]) (dt:=dH) (de:=(d2 (pq aj) (dV 0) (dV 1))) (ε:=[.val (.str z),.val (.str s)]) (λ_=>ah) (λx=>match x with|.str [c]=>.bl (s.contains c)|_=>.non) (z.map λc=>.str [c])
  (by
   intro x hx;obtain⟨c,_,rfl⟩:=bO.mp hx;refine⟨by simp![cX,cN,bN,dH],λ_=>?_⟩;have iB:pq aj (.str [c]) (.str s)=aa (.bl (s.contains c)):=by rw[←GQ];simp[pq]
   simp![cX,cN,bN,iB]) []
 have he:((z.map λc=>PV.str [c]).filter (λ_=>ah)).map (λx=>match x with|.str [c]=>PV.bl (s.contains c)|_=>.non)=(z.map s.contains).map .bl:=by rw[oP.mpr (by simp),c7,c7];rfl
 rw[iz,he]at hc;have fQ:(z.map s.contains).all id=z.all s.contains:=by rw[wt];rfl
 generalize z.map s.contains=bs at hc fQ;have ha:=xU bs;rw[fQ]at ha;simp![sH,yas,cz,cg,iq,hc,ha]
def gJ(w:Int)(s z:Tx):Bool:=decide ((z.length:Int)=w)&&z.all s.contains
theorem Hb(z s:Tx)(w:Int):mK a [.val (.str z),.val (.int w),.val (.str s)]=.ok (.val (.bl (gJ w s z))) [.val (.str z),.val (.int w),.val (.str s)]:=by
 have h1:dU [.str z,.raw (.ty "str")]=aa (.bl ah):=gv rfl CD;have hh:=Cn (a:=a) z s;have hl:bI [.str z]=aa (.int (z.length:Nat)):=rfl;have he:=lE aj (z.length:Nat) w;unfold gJ;by_cases h:((z.length:Nat):Int)=w
 ·simp only[h,decide_true,Bool.xor_true,qU]at he;simp![mK,yay,h1,hl,he,hh,h]
 ·simp only[h,decide_false,Bool.xor_false]at he;simp![mK,yay,h1,hl,he,h]
theorem IH(i w:Int)(s:Tx):mK a [.val (.int i),.val (.int w),.val (.str s)]=.ok (.val (.bl aj)) [.val (.int i),.val (.int w),.val (.str s)]:=by have h1:dU [.int i,.raw (.ty "str")]=aa (.bl aj):=gv rfl Gd;simp![mK,yay,h1]
theorem xo(ls ms:List Tx):eJ (ao ls) (ao ms)=aa (decide (ls=ms)):=by
 induction ls generalizing ms with
 |nil=>cases ms <;> simp[ao,eJ]
 |cons x ls ih=>
  cases ms with
  |nil=>simp[ao,eJ]
  |cons y ms=>
   show(cp (.str x) (.str y)).bind (λa=>(eJ (ao ls) (ao ms)).map λb=>a&&b)=_;rw[ih];have:cp (.str x) (.str y)=aa (decide (x=y)):=by
    show aa (tS x == tS y)=_;by_cases h:x=y
    ·subst h;simp
    ·have:tS x≠tS y:=λz=>h (uX z);simp[h,this]
   rw[this];simp[qV]
theorem xu(ls:List Tx):fK (ao ls)=0:=by
 induction ls with
 |nil=>rfl
 |cons x ls ih=>show max (fH (.str x)) (fK (ao ls))=0;rw[ih];rfl
theorem MQ(neg:Bool)(ls ms:List Tx):Pu.eqT neg (.lst (ao ls)) (.lst (ao ms))=aa (.bl (neg^^decide (ls=ms))):=by show(if fH (.lst (ao ls))<=8 then(eJ (ao ls) (ao ms)).map (λk=>PV.bl (neg^^k))else ae)=_;rw[if_pos (by show fK (ao ls)+1<=8;rw[xu];decide),xo];rfl
theorem Hy(ls:List Tx)(w:Int)(s:Tx)(h1:1<=ls.length)(h9:ls.length<=9):i8 a [.val (.tup (ao ls)),.val (.int w),.val (.str s)]=.ok (.val (.bl (ls.all (gJ w s)&&decide (ls=aY ls)))) [.val (.tup (ao ls)),.val (.int w),.val (.str s)]:=by
 have k1:dU [.tup (ao ls),.raw (.ty "tuple")]=aa (.bl ah):=gv rfl nM;have hl:bI [.tup (ao ls)]=aa (.int (ls.length:Nat)):=by simp[bI,kI]
 have c1:(1:Int)<=(ls.length:Nat):=∅
 have c2:((ls.length:Nat):Int)<=9:=∅
 have hc:=i6 (cap:=[1,2]) (dt:=dH) (de:=(bj (a8 (mK a) (gV (dV 0) (gV (dV 1) (gV (dV 2) (Pu.bB))))))) (ε:=[.val (.tup (ao ls)),.val (.int w),.val (.str s)]) (λ_=>ah) (λx=>match x with|.str z=>.bl (gJ w s z)|_=>.non) (ao ls)
  (by intro x hx;obtain⟨z,_,rfl⟩:=bO.mp hx;refine⟨by simp![cX,cN,bN,dH],λ_=>?_⟩;have hw:=Hb (a:=a) z s w;simp![cX,cN,bN,hw]) []
 have he:((ao ls).filter (λ_=>ah)).map (λx=>match x with|.str z=>PV.bl (gJ w s z)|_=>.non)=(ls.map (gJ w s)).map .bl:=by rw[oP.mpr (by simp)];unfold ao;rw[c7,c7];rfl
 rw[iz,he]at hc;have fQ:(ls.map (gJ w s)).all id=ls.all (gJ w s):=by rw[wt];rfl
 generalize ls.map (gJ w s)=bs at hc fQ;have ha:=xU bs;have ki:ls.length<=1000000:=∅
 have heq:=MQ aj ls (aY ls);cases hb:ls.all (gJ w s)with
 |false=>rw[fQ,hb]at ha;simp![i8,yan,k1,hl,c1,c2,cz,cg,iq,hc,ha]
 |true=>rw[fQ,hb]at ha;simp only[Bool.false_xor]at heq;simp![i8,yan,k1,hl,c1,c2,cz,cg,iq,hc,ha,pV,lD,uK,ki,heq]
theorem Nx(ls:List Tx)(w:Int)(s:Tx)(h9:ls.length=0\/9<ls.length):i8 a [.val (.tup (ao ls)),.val (.int w),.val (.str s)]=.ok (.val (.bl aj)) [.val (.tup (ao ls)),.val (.int w),.val (.str s)]:=by
 have k1:dU [.tup (ao ls),.raw (.ty "tuple")]=aa (.bl ah):=gv rfl nM;have hl:bI [.tup (ao ls)]=aa (.int (ls.length:Nat)):=by simp[bI,kI]
 by_cases c1:(1:Int)<=(ls.length:Nat)
 ·have c2:¬((ls.length:Nat):Int)<=9:=∅
  simp![i8,yan,k1,hl,c1,c2]
 ·simp![i8,yan,k1,hl,c1]
theorem L7(i:Int):lu a [.val (.int i)]=.ok (.val (.bl ah)) [.val (.int i)]:=by have h1:dU [.int i,.raw (.ty "int")]=aa (.bl ah):=gv rfl KC;have h2:dU [.int i,.raw (.ty "bool")]=aa (.bl aj):=gv rfl Me;simp![lu,yaw,h1,h2]
theorem Hf(b:Bool):lu a [.val (.bl b)]=.ok (.val (.bl aj)) [.val (.bl b)]:=by have h1:dU [.bl b,.raw (.ty "int")]=aa (.bl ah):=gv rfl Ig;have h2:dU [.bl b,.raw (.ty "bool")]=aa (.bl ah):=gv rfl NA;simp![lu,yaw,h1,h2]
theorem HW(x:Tx):lu a [.val (.str x)]=.ok (.val (.bl aj)) [.val (.str x)]:=by have h1:dU [.str x,.raw (.ty "int")]=aa (.bl aj):=gv rfl Ld;simp![lu,yaw,h1]
theorem xM(i:Int):kM a [.val (.int i)]=.ok (.val (.bl (decide (1<=i/\i<=4)))) [.val (.int i)]:=by
 have h:=L7 (a:=a) i;by_cases c1:1<=i
 ·by_cases c2:i<=4
  ·simp![kM,yax,h,c1,c2]
  ·simp![kM,yax,h,c1,c2]
 ·simp![kM,yax,h,c1]
theorem Cs{x:PV}(h:lu a [.val x]=.ok (.val (.bl aj)) [.val x]):kM a [.val x]=.ok (.val (.bl aj)) [.val x]:=by simp![kM,yax,h]
def iG(s:Tx)(w:Int)(ls:List Tx):Bool:=decide (1<=w/\w<=4)&&(decide (1<=ls.length/\ls.length<=9)&&(ls.all (gJ w s)&&decide (ls=aY ls)))
theorem Ep(s:Tx)(w:Int)(ls:List Tx):gu a [.val (.tup [.int w,.tup (ao ls)]),.val (.str s)]=.ok (.val (.bl (iG s w ls))) [.val (.tup [.int w,.tup (ao ls)]),.val (.str s)]:=by
 have k1:dU [.tup [.int w,.tup (ao ls)],.raw (.ty "tuple")]=aa (.bl ah):=gv rfl nM;have hl:bI [.tup [.int w,.tup (ao ls)]]=aa (.int 2):=rfl;have e2:=lE ah 2 2;simp only[decide_true,AB,j9]at e2;have i0:cu (.tup [.int w,.tup (ao ls)]) (.int 0)=aa (.int w):=rfl;have i1:cu (.tup [.int w,.tup (ao ls)]) (.int 1)=aa (.tup (ao ls)):=rfl;have hw:=xM (a:=a) w;unfold iG;by_cases c:1<=w/\w<=4
 ·rw[decide_eq_true c]at hw ⊢;by_cases c2:1<=ls.length/\ls.length<=9
  ·have hh:=Hy (a:=a) ls w s c2.1 c2.2;rw[decide_eq_true c2];simp![gu,yav,k1,hl,e2,i0,i1,hw,hh]
  ·have hh:=Nx (a:=a) ls w s ∅;rw[decide_eq_false c2];simp![gu,yav,k1,hl,e2,i0,i1,hw,hh]
 ·rw[decide_eq_false c]at hw ⊢;simp![gu,yav,k1,hl,e2,i0,i1,hw]
abbrev vw(w:Int)(ls:List Tx):Bool:=iG bL w ls
theorem IG(w:Int)(ls:List Tx):lF a [.val (.tup [.int w,.tup (ao ls)])]=.ok (.val (.bl (vw w ls))) [.val (.tup [.int w,.tup (ao ls)])]:=by have hv:=Ep (a:=a) bL w ls;simp only[bL]at hv;simp![lF,yau,hv];rfl
theorem vI{w:Int}{ls:List Tx}(h:vw w ls=ah):kD a [.val (.tup [.int w,.tup (ao ls)])]=.ok (.val .non) [.val (.tup [.int w,.tup (ao ls)])]:=by have hv:=IG (a:=a) w ls;rw[h]at hv;simp![kD,yap,hv]
theorem Good.vw{w:Nat}{ls:List Tx}(g:Good bL w ls)(w1:1<=w)(w4:w<=4)(hs:ls.Pairwise (λa b=>cZ a b=ah)):vw w ls=ah:=by
 have e1:ls.all (gJ w bL)=ah:=by rw[k6];intro x hx;unfold gJ;rw[g.len x hx,decide_eq_true rfl,Bool.true_and,k6];intro c hc;simpa using g.abc x hx c hc
 have e2:decide (ls=aY ls)=ah:=decide_eq_true (vH hs).symm;show iG bL w ls=ah;unfold iG;rw[e1,e2,decide_eq_true (show 1<=(w:Int)/\(w:Int)<=4 by lia),decide_eq_true (show 1<=ls.length/\ls.length<=9 from⟨g.some,g.few⟩)];rfl
theorem JF{x:PV}(h:gu a [.val x,.val (.str bL)]=.ok (.val (.bl aj)) [.val x,.val (.str bL)]):lF a [.val x]=.ok (.val (.bl aj)) [.val x]:=by simp only[bL]at h;simp![lF,yau,h]
theorem F8{x:PV}(h:lF a [.val x]=.ok (.val (.bl aj)) [.val x]):kD a [.val x]=.er (.ref a.NoView) [.val x]:=by simp![kD,yap,h,mB,bN]
theorem uu(s:Tx){x:PV}{t:String}(h:qh x=aa t)(e:d4 [] (.type t) (.type "tuple")=aa aj):gu a [.val x,.val (.str s)]=.ok (.val (.bl aj)) [.val x,.val (.str s)]:=by have k1:=gv (T:="tuple") h e;simp![gu,yav,k1]
theorem B3(s:Tx){xs:List PV}(h:xs.length≠2):gu a [.val (.tup xs),.val (.str s)]=.ok (.val (.bl aj)) [.val (.tup xs),.val (.str s)]:=by
 have k1:dU [.tup xs,.raw (.ty "tuple")]=aa (.bl ah):=gv rfl nM;have hl:bI [.tup xs]=aa (.int (xs.length:Nat)):=rfl;have ee:=lE ah (xs.length:Nat) 2;have:¬((xs.length:Nat):Int)=2:=∅
 simp only[this,decide_false,AB,qU]at ee;simp![gu,yav,k1,hl,ee]
theorem A4(s:Tx){x y:PV}(h:kM a [.val x]=.ok (.val (.bl aj)) [.val x]):gu a [.val (.tup [x,y]),.val (.str s)]=.ok (.val (.bl aj)) [.val (.tup [x,y]),.val (.str s)]:=by have k1:dU [.tup [x,y],.raw (.ty "tuple")]=aa (.bl ah):=gv rfl nM;have hl:bI [.tup [x,y]]=aa (.int 2):=rfl;have e2:=lE ah 2 2;simp only[decide_true,AB,j9]at e2;have i0:cu (.tup [x,y]) (.int 0)=aa x:=rfl;simp![gu,yav,k1,hl,e2,i0,h]
theorem C7(s:Tx){w:Int}{y:PV}(hw:1<=w/\w<=4)(h:i8 a [.val y,.val (.int w),.val (.str s)]=.ok (.val (.bl aj)) [.val y,.val (.int w),.val (.str s)]):gu a [.val (.tup [.int w,y]),.val (.str s)]=.ok (.val (.bl aj)) [.val (.tup [.int w,y]),.val (.str s)]:=by have k1:dU [.tup [.int w,y],.raw (.ty "tuple")]=aa (.bl ah):=gv rfl nM;have hl:bI [.tup [.int w,y]]=aa (.int 2):=rfl;have e2:=lE ah 2 2;simp only[decide_true,AB,j9]at e2;have i0:cu (.tup [.int w,y]) (.int 0)=aa (.int w):=rfl;have i1:cu (.tup [.int w,y]) (.int 1)=aa y:=rfl;have o5:=xM (a:=a) w;rw[decide_eq_true hw]at o5;simp![gu,yav,k1,hl,e2,i0,i1,o5,h]
theorem FT(s:Tx)(xs:List PV)(w:Int):i8 a [.val (.lst xs),.val (.int w),.val (.str s)]=.ok (.val (.bl aj)) [.val (.lst xs),.val (.int w),.val (.str s)]:=by have k1:dU [.lst xs,.raw (.ty "tuple")]=aa (.bl aj):=gv rfl Cu;simp![i8,yan,k1]
theorem NJ(s:Tx)(i w:Int):i8 a [.val (.tup [.int i]),.val (.int w),.val (.str s)]=.ok (.val (.bl aj)) [.val (.tup [.int i]),.val (.int w),.val (.str s)]:=by have k1:dU [.tup [.int i],.raw (.ty "tuple")]=aa (.bl ah):=gv rfl nM;have hl:bI [.tup [.int i]]=aa (.int 1):=rfl;have hw:=IH (a:=a) i w s;have fQ:n6 [.lst [.bl aj]]=aa (.bl aj):=rfl;simp![i8,yan,k1,hl,cz,cg,iq,im,cX,cN,bN,dH,hw,fQ]
theorem mE(s:Tx){w:Int}{ls:List Tx}(h:iG s w ls=aj):gu a [.val (.tup [.int w,.tup (ao ls)]),.val (.str s)]=.ok (.val (.bl aj)) [.val (.tup [.int w,.tup (ao ls)]),.val (.str s)]:=by have:=Ep (a:=a) s w ls;rwa[h]at this
def p9:List PV:=[.non,.int 5,.str [50,58,32,97,98],.lst [.int 1,.tup [.str [97]]],.tup [.int 1,.tup []],.tup [.int 2,.tup [.str [97]]],.tup [.int 0,.tup [.str []]],.tup [.int 5,.tup [.str [97,97,97,97,97]]],.tup [.bl ah,.tup [.str [97]]],.tup [.int 1,.tup [.str [98],.str [97]]],.tup [.int 1,.tup (bV 10 (.str [97]))],.tup [.int 1,.tup [.str [100]]],.tup [.int 1,.tup [.str [65]]],.tup [.int 1,.lst [.str [97]]],.tup [.int 1,.tup [.int 1]],.tup [.int 1],.tup [.int 1,.tup [.str [97]],.int 1],.tup [.str [49],.tup [.str [97]]]]
theorem FN(s:Tx)(h1:¬100∈s)(h2:¬65∈s):∀x∈p9,gu a [.val x,.val (.str s)]=.ok (.val (.bl aj)) [.val x,.val (.str s)]:=by
 intro x hx;simp only[p9,bF,f_,or_false]at hx;rcases hx with rfl|rfl|rfl|rfl|rfl|rfl|rfl|rfl|rfl|rfl|rfl|rfl|rfl|rfl|rfl|rfl|rfl|rfl
 ·exact uu s rfl IW
 ·exact uu s rfl KR
 ·exact uu s rfl K7
 ·exact uu s rfl Cu
 ·exact mE s (w:=1) (ls:=[]) (by simp[iG])
 ·exact mE s (w:=2) (ls:=[[97]]) (by simp[iG,gJ])
 ·exact mE s (w:=0) (ls:=[[]]) (by simp[iG])
 ·exact mE s (w:=5) (ls:=[[97,97,97,97,97]]) (by simp[iG])
 ·exact A4 s (Cs (Hf ah))
 ·refine mE s (w:=1) (ls:=[[98],[97]]) ?_;have:¬[[98],[97]]=aY [[98],[97]]:=λh=>by have r:=sw [[98],[97]];rw[←h]at r;simp[cZ]at r;exact absurd r (by decide)
  simp[iG,this]
 ·exact mE s (w:=1) (ls:=bV 10 [97]) (by simp[iG])
 ·exact mE s (w:=1) (ls:=[[100]]) (by simp[iG,gJ,h1,h2])
 ·exact mE s (w:=1) (ls:=[[65]]) (by simp[iG,gJ,h1,h2])
 ·exact C7 s (by decide) (FT s _ _)
 ·exact C7 s (by decide) (NJ s _ _)
 ·exact B3 s (by decide)
 ·exact B3 s (by decide)
 ·exact A4 s (Cs (HW _))
theorem M5:∀x∈p9,lF a [.val x]=.ok (.val (.bl aj)) [.val x]:=λx hx=>JF (FN bL (by decide) (by decide) x hx)
theorem FJ(ns:List Int)(xs:List PV)(hx:xs.length<=900):∃x∈p9,∃ys,ys.length<=xs.length+1/\v6 a [bA ns,.own (.lst xs)]=.ok (.val x) [bA ns,.own (.lst ys)]:=by
 obtain⟨x,hm,hp⟩:=Dx (a:=a) ns xs p9 ∅ (by decide);refine⟨x,hm,xs++[.int 0],by simp,?_⟩;have hr:uT (.tup [.str [97]]) (.int 10)=aa (.tup (bV 10 (.str [97]))):=by show(if([PV.str [97]]≠[]/\(2:Int)<=10/\(10:Int)<=1000/\[PV.str [97]].length<=1000)then aa (PV.tup (bV (10:Int).toNat [PV.str [97]]).flatten)else ae)=_;rw[if_pos ⟨by simp,by decide,by decide,by decide⟩];rfl
 simp only[p9]at hp;simp[v6,yaF,bd,dP,dB,d2,d1,dV,dC,dL,dF,ar,aC,cH,kq,cO,ju,a8,gV,gO,Pu.bB,fS,fY,cx,eM,gi,R.bind,bh,bD,fq,bC,back,gr,lq,vK,uO,vT,vq,bj,mG,eI,bi,eQ,sM,jA,ze,iD,sE,xv,nE,jJ,yx,kG,eV,dO,nZ,jb,qb,bV,lS,a9,cq,hr];simp at hp;simp[bd,dP,dB,d2,d1,dV,dC,dL,dF,ar,aC,cH,kq,cO,ju,a8,gV,gO,Pu.bB,fS,fY,cx,eM,gi,R.bind,bh,bD,fq,bC,back,gr,lq,vK,uO,vT,vq,bj,mG,eI,bi,eQ,sM,jA,ze,iD,sE,xv,nE,jJ,yx,kG,eV,dO,nZ,jb,qb,bV,lS,hp]
end
def cJ(m:List (Tx×Int))(x:Tx):Option Int:=(m.find? λp=>decide (p.1=x)).map (·.2)
def dq(m:List (Tx×Int))(x:Tx)(n:Int):List (Tx×Int):=if(m.any λp=>decide (p.1=x))=ah then m.map (λp=>if p.1=x then(p.1,n)else p)else m++[(x,n)]
def dk(m:List (Tx×Int)):List (aN×PV):=m.map λp=>(Sum.inr (tS p.1),PV.int p.2)
theorem zo(x y:Tx):((Sum.inr (tS x):aN)=Sum.inr (tS y))=(x=y):=propext ⟨λh=>uX (Sum.inr.inj h),λh=>by rw[h]⟩
theorem uG(m:List (Tx×Int))(x:Tx):lv (dk m) (Sum.inr (tS x))=(cJ m x).map .int:=by
 induction m with
 |nil=>rfl
 |cons p m ih=>
  show((List.find? _ ((Sum.inr (tS p.1),PV.int p.2)::dk m)).map (·.2))=_;unfold cJ;rw[jD,jD];simp only[zo];by_cases h:p.1=x
  ·simp[h]
  ·simp only[h,decide_false];exact ih
theorem MW(m:List (Tx×Int))(x:Tx):((dk m).any λkv=>decide (kv.1=(Sum.inr (tS x):aN)))=m.any λp=>decide (p.1=x):=by unfold dk;rw[List.any_map];congr 1;funext p;simp only[me,zo]
theorem xC(m:List (Tx×Int))(x:Tx)(n:Int):pr (dk m) (Sum.inr (tS x)) (.int n)=dk (dq m x n):=by
 unfold pr dq;rw[MW];split
 ·unfold dk;rw[c7,c7];refine lW λp _=>?_;simp only[me,zo];split <;> rfl
 ·unfold dk;simp
theorem Db(m:List (Tx×Int)):n_ (dk m)=aa (m.any λp=>decide (p.2≠0)):=by
 induction m with
 |nil=>rfl
 |cons p m ih=>show(n_ (dk m)).map _=_;rw[ih];simp
theorem xn{m:List (Tx×Int)}{x:Tx}(h:(m.any λp=>decide (p.1=x))=aj):cJ m x=ae:=by unfold cJ;rw[Option.map_eq_none_iff,As];intro p hp;have:=EA.mp h p hp;simpa using this
theorem I_{m:List (Tx×Int)}{x y:Tx}{n:Int}(h:(m.any λp=>decide (p.1=x))=aj):cJ (m++[(x,n)]) y=if y=x then aa n else cJ m y:=by
 have hn:=xn h;unfold cJ at hn ⊢;rw[List.find?_append];by_cases e:y=x
 ·subst e;rw[Option.map_eq_none_iff]at hn;simp[hn]
 ·rw[if_neg e];have:¬x=y:=λz=>e z.symm;cases hf:m.find? (λp=>decide (p.1=y))with
  |none=>simp[this]
  |some p=>simp
theorem Gv{m:List (Tx×Int)}{x y:Tx}{n:Int}:cJ (m.map λp=>if p.1=x then(p.1,n)else p) y=(cJ m y).map λz=>if y=x then n else z:=by
 induction m with
 |nil=>rfl
 |cons p m ih=>
  unfold cJ at ih ⊢;rw[eu,jD,jD];by_cases h:p.1=x
  ·rw[if_pos h];by_cases e:p.1=y
   ·simp[e,show y=x from e.symm.trans h]
   ·simp only[e,decide_false];exact ih
  ·rw[if_neg h];by_cases e:p.1=y
   ·simp[e,show ¬y=x from λz=>h (e.trans z)]
   ·simp only[e,decide_false];exact ih
theorem Nm{m:List (Tx×Int)}{x:Tx}(h:(m.any λp=>decide (p.1=x))=ah):∃n,cJ m x=aa n:=by
 unfold cJ;cases hf:m.find? (λp=>decide (p.1=x))with
 |none=>rw[As]at hf;obtain⟨p,hp,hq⟩:=wT.mp h;exact absurd hq (hf p hp)
 |some p=>exact⟨_,rfl⟩
theorem xh(m:List (Tx×Int))(x y:Tx)(n:Int):cJ (dq m x n) y=if y=x then aa n else cJ m y:=by
 unfold dq;by_cases h:(m.any λp=>decide (p.1=x))=ah
 ·rw[if_pos h,Gv];by_cases e:y=x
  ·subst e;obtain⟨k,hk⟩:=Nm h;rw[hk];simp
  ·simp[e]
 ·rw[if_neg h,I_ (wH.mpr h)]
structure mF(m:List (Tx×Int))(q:List Tx):Prop where
 nd:(m.map (·.1)).Nodup
 get:∀x,(cJ m x).getD 0=(q.count x:Nat)
theorem mF.mem{m:List (Tx×Int)}{q:List Tx}(h:mF m q){p:Tx×Int}(hp:p∈m):cJ m p.1=aa p.2:=by
 have nd:=h.nd;clear h
 induction m with
 |nil=>cases hp
 |cons r m ih=>
  unfold cJ;rw[jD];rcases bF.mp hp with rfl|hp
  ·simp
  ·rw[eu,jf]at nd;have:¬r.1=p.1:=λz=>nd.1 (bO.mpr ⟨p,hp,z.symm⟩);simp only[this,decide_false];exact ih hp nd.2
theorem BC{m:List (Tx×Int)}{x:Tx}{n:Int}:(dq m x n).map (·.1)=if(m.any λp=>decide (p.1=x))=ah then m.map (·.1)else m.map (·.1)++[x]:=by
 unfold dq;split
 ·rw[c7];refine lW λp _=>?_;simp only[me];split <;> rfl
 ·simp
theorem B5{m:List (Tx×Int)}{x:Tx}{n:Int}(h:(m.map (·.1)).Nodup):((dq m x n).map (·.1)).Nodup:=by
 rw[BC];split
 ·exact h
 ·rename_i hn;rw[List.nodup_append];refine⟨h,by simp,λa ha b hb=>?_⟩;rw[hU]at hb;subst hb;rintro rfl;obtain⟨p,hp,rfl⟩:=bO.mp ha;exact hn (wT.mpr ⟨p,hp,by simp⟩)
theorem mF.any{m:List (Tx×Int)}{q:List Tx}(h:mF m q):(m.any λp=>decide (p.2≠0))=!q.isEmpty:=by
 cases q with
 |nil=>rw[Ff,j9,EA];intro p hp;have h1:=h.get p.1;rw[h.mem hp]at h1;simpa using h1
 |cons x q=>
  rw[List.isEmpty_cons,qU,wT];have h1:=h.get x;rw[AC]at h1;cases e:m.find? (λp=>decide (p.1=x))with
  |none=>unfold cJ at h1;rw[e]at h1;simp at h1;lia
  |some p=>unfold cJ at h1;rw[e]at h1;refine⟨p,List.mem_of_find?_eq_some e,?_⟩;simp at h1;simp;lia
theorem mF.dec{m:List (Tx×Int)}{q:List Tx}(h:mF m q){x:Tx}(hx:x∈q):∃n,cJ m x=aa n/\0<n/\mF (dq m x (n-1)) (q.erase x)/\cJ (dq m x (n-1)) x=aa (n-1)/\dq (dq m x (n-1)) x (n-1+1)=m:=by
 have h1:=h.get x;have hc:0<q.count x:=List.count_pos_iff.mpr hx;cases e:cJ m x with
 |none=>rw[e]at h1;simp at h1;lia
 |some n=>
  rw[e]at h1;simp only[wR]at h1;refine⟨n,rfl,∅,⟨B5 h.nd,λy=>?_⟩,by rw[xh,if_pos rfl],?_⟩
  ·rw[xh];by_cases c:y=x
   ·subst c;rw[if_pos rfl,List.count_erase_self];simp only[wR];lia
   ·rw[if_neg c,List.count_erase_of_ne (ef (ef c))];exact h.get y
  ·have ha:(m.any λp=>decide (p.1=x))=ah:=by
    cases z:(m.any λp=>decide (p.1=x))with
    |true=>rfl
    |false=>rw[xn z]at e;cases e
   have hb:((dq m x (n-1)).any λp=>decide (p.1=x))=ah:=by unfold dq;rw[if_pos ha];obtain⟨p,hp,hq⟩:=wT.mp ha;refine wT.mpr ⟨_,bO.mpr ⟨p,hp,rfl⟩,?_⟩;rw[decide_eq_true_eq]at hq;rw[if_pos hq];simpa using hq
   have e1:dq (dq m x (n-1)) x (n-1+1)=(m.map λp=>if p.1=x then(p.1,n-1)else p).map λp=>if p.1=x then(p.1,n-1+1)else p:=by show(if((dq m x (n-1)).any λp=>decide (p.1=x))=ah then _ else _)=_;rw[if_pos hb];unfold dq;rw[if_pos ha]
   rw[e1,c7];have:∀p∈m,((λp:Tx×Int=>if p.1=x then(p.1,n-1+1)else p) ∘ λp:Tx×Int=>if p.1=x then(p.1,n-1)else p) p=p:=by
    intro p hp;simp only[me];by_cases c:p.1=x
    ·rw[if_pos c,if_pos c];have h2:=h.mem hp;rw[c,e]at h2;cases h2;rw[show p.2-1+1=p.2 by lia]
    ·rw[if_neg c,if_neg c]
   rw[lW this,List.map_id''];intro p;rfl
theorem mF.zero{m:List (Tx×Int)}{q:List Tx}(h:mF m q){x:Tx}(hx:x∉q):(cJ m x).getD 0=0:=by rw[h.get,Fc hx];rfl
section
variable{a:Ad}
theorem Mn(ls:List Tx)(hl:ls.length<=100):∃m,mF m ls/\m.length<=ls.length/\sL a [.val (.tup (ao ls))]=.ok (.own (.dK (dk m))) [.val (.tup (ao ls))]:=by
 obtain⟨ε',e1,m,s2,l,rfl,hm,rq,jH⟩:=sK (i:=2) (db:=(ln 1 (dV 2) (d2 a9 (lK 1 (dV 2) (dC (.int 0))) (dC (.int 1)))))
  (I:=λr ε=>∃(m:List (Tx×Int)) (s2:Slot) (l:List Tx),ε=[.val (.tup (ao ls)),.own (.dK (dk m)),s2]/\mF m l/\m.length<=l.length/\∃q,ls=l++q/\r=ao q)
  (by
   rintro x r ε ⟨m,s2,l,rfl,hm,rq,q,hq,hr⟩;cases q with
   |nil=>cases hr
   |cons y q=>
    have kl:x::r=.str y::ao q:=hr;simp only[qV]at kl;obtain⟨rfl,rfl⟩:=kl;have bw:m.length<cq:=by have:=congrArg lS hq;simp at this;unfold cq;lia
    refine⟨[.val (.tup (ao ls)),.own (.dK (dk (dq m y ((cJ m y).getD 0+1)))),.val (.str y)],?_,dq m y ((cJ m y).getD 0+1),_,l++[y],rfl,⟨B5 hm.nd,λz=>?_⟩,?_,q,by rw[hq];simp,rfl⟩
    ·have hv:=uG m y;have hp:=xC m y ((cJ m y).getD 0+1);have hd:(dk m).length<cq:=by unfold dk;rw[dw];exact bw
     have hg:((cJ m y).map PV.int).getD (.int 0)=.int ((cJ m y).getD 0):=by cases cJ m y <;> rfl
     generalize dk m=D at hv hp hd;simp![ln,lK,e_,jN,hv,hg,a9,hd,hp]
    ·rw[xh];by_cases c:z=y
     ·subst c;rw[if_pos rfl,Fd,List.count_singleton_self];have:=hm.get z;simp only[wR];lia
     ·rw[if_neg c,Fd,hm.get z];have:[y].count z=0:=Fc (by simpa using c);rw[this];rfl
    ·have:(dq m y ((cJ m y).getD 0+1)).length<=m.length+1:=by
      unfold dq;split <;> simp
     rw[et,sV];lia)
  (ao ls) [.val (.tup (ao ls)),.own (.dK (dk [])),.none] ⟨[],.none,[],rfl,⟨by simp,λx=>by simp[cJ]⟩,by simp,ls,by simp,rfl⟩
 obtain⟨q,hq,ud⟩:=jH;have:q=[]:=by cases q with|nil=>rfl|cons=>cases ud
 subst this;rw[g_]at hq;subst hq;refine⟨m,hm,rq,?_⟩;have e0:dk []=[]:=rfl;rw[e0]at e1;simp![sL,yar,xZ,gm,cg,iq,iL,e1,pZ]
theorem KN{t:Tx}{w:Nat}(hw:w<=t.length+1)(h1:1<=w):ie (.str t) (aa ((t.length:Int)-w+1)) ae=aa (.str (t.drop (t.length+1-w))):=by show aa (PV.str (fu t _ ae))=_;rw[show((t.length:Int)-w+1)=((t.length+1-w:Nat):Int) by lia,J3]
def jr(c:Nat):PV:=.str [c]
theorem CJ(w:Nat)(w1:1<=w):∀(r bP:Nat) (t:Tx) (m:List (Tx×Int)) (q:List Tx) (cM:List Tx),r<bP->q.length=r->mF m q->w<=t.length+1->t.length+r<=1000->m.length<=1000->cM.length+(gw w r t q).length<=cq -> mO a bP [.val (.str t),.val (.int w),.own (.dK (dk m)),.own (.lst (ao cM))]=.ok (.val .non) [.val (.str t),.val (.int w),.own (.dK (dk m)),.own (.lst (ao (cM++gw w r t q)))]
 |0,0,_,_,_,_,h,_,_,_,_,_,_=>absurd h ∅
 |r+1,0,_,_,_,_,h,_,_,_,_,_,_=>absurd h ∅
 |0,bP+1,t,m,q,cM,_,hq,hm,hw,ht,rq,hs=>by
  have hq0:q=[]:=AA.mp hq;subst hq0;have ha:=Db m;rw[hm.any]at ha;simp only[Ff,j9]at ha;have hl:(ao cM).length<cq:=by rw[kI];simp only[gw,sV]at hs;lia
  have e:ao (cM++gw w 0 t [])=ao cM++[.str t]:=by simp[ao,gw]
  rw[e];generalize dk m=D at ha;generalize ao cM=L at hl;simp![mO,yam,r9,e_,ha,hl]
 |r+1,bP+1,t,m,q,cM,hf,hq,hm,hw,ht,rq,hs=>by
  have dj:q.isEmpty=aj:=by cases q with|nil=>cases hq|cons=>rfl
  have ha:=Db m;rw[hm.any,dj]at ha;simp only[qU]at ha;have hcut:=KN (t:=t) hw w1;have bb:bI [.str t]=aa (.int (t.length:Nat)):=rfl;have nq:ir (.int (t.length:Nat)) (.int w)=aa (.int ((t.length:Int)-w)):=rfl;have k9:a9 (.int ((t.length:Int)-w)) (.int 1)=aa (.int ((t.length:Int)-w+1)):=rfl
  let H:=t.drop (t.length+1-w)
  let f:=λc=>if H++[c]∈q then gw w r (t++[c]) (q.erase (H++[c]))else []
  have hE:gw w (r+1) t q=bL.flatMap f:=rfl;have hH:H.length<=1000:=by simp only[H,j3];lia
  obtain⟨ε',e1,s5,s6,p,rest,hp,uj,rfl⟩:=sK (i:=5) (db:=(bd (cO 6 (d2 a9 (dV 4) (dV 5)))
 (dP (dB (d2 (eV λi j=>decide (j<i)) (lK 2 (dV 6) (dC (.int 0))) (dC (.int 0)))) (bd (ln 2 (dV 6) (d2 ir (oi 2 (dV 6)) (dC (.int 1))))
 (bd (jA (a8 (mO a bP) (gV (d2 a9 (dV 0) (dV 5)) (gV (dV 1) (gO 2 (gO 3 (Pu.bB)))))))
 (ln 2 (dV 6) (d2 a9 (oi 2 (dV 6)) (dC (.int 1)))))) (eQ))))
   (I:=λr' ε=>∃(s5 s6:Slot) (p rest:Tx),bL=p++rest/\r'=rest.map jr/\ε=[.val (.str t),.val (.int w),.own (.dK (dk m)),.own (.lst (ao (cM++p.flatMap f))),.val (.str H),s5,s6])
   (by
    rintro x r' ε ⟨s5,s6,p,rest,hp,kl,rfl⟩;cases rest with
    |nil=>cases kl
    |cons c rest=>
     have Ft:x::r'=jr c::rest.map jr:=kl;simp only[qV]at Ft;obtain⟨rfl,rfl⟩:=Ft;have nA:a9 (.str H) (.str [c])=aa (.str (H++[c])):=u9 (by simp[cq];lia);have mo:a9 (.str t) (.str [c])=aa (.str (t++[c])):=u9 (by simp[cq];lia);have N1:cM.length+(p.flatMap f).length+(f c).length<=cq:=by rw[hE,hp,Fg,qX,et,et]at hs;lia
     have lj:ao (cM++(p++[c]).flatMap f)=ao ((cM++p.flatMap f)++f c):=by simp
     by_cases hc:H++[c]∈q
     ·obtain⟨n,g1,g2,g3,g4,g5⟩:=hm.dec hc;have hfc:f c=gw w r (t++[c]) (q.erase (H++[c])):=if_pos hc;have ih:=CJ w w1 r bP (t++[c]) (dq m (H++[c]) (n-1)) (q.erase (H++[c])) (cM++p.flatMap f) ∅ (by rw[Au hc,hq];rfl) g3 (by simp;lia) (by simp;lia)
       (by
        have:(dq m (H++[c]) (n-1)).length=m.length:=by
         have:=congrArg lS (BC (m:=m) (x:=H++[c]) (n:=n-1));have ha:(m.any λp=>decide (p.1=H++[c]))=ah:=by
          cases z:(m.any λp=>decide (p.1=H++[c]))with
          |true=>rfl
          |false=>rw[xn z]at g1;cases g1
         rw[if_pos ha]at this;simpa using this
        lia)
       (by rw[←hfc,et];exact N1)
      rw[←hfc]at ih;have o6:=uG m (H++[c]);rw[g1]at o6;have fR:=xC m (H++[c]) (n-1);have uh:=uG (dq m (H++[c]) (n-1)) (H++[c]);rw[g4]at uh;have d8:=xC (dq m (H++[c]) (n-1)) (H++[c]) (n-1+1);rw[g5,show n-1+1=n by lia]at d8;have hd1:(dk m).length<cq:=by unfold dk;rw[dw];unfold cq;lia
      have nr:(dk (dq m (H++[c]) (n-1))).length<cq:=by
       unfold dk;rw[dw];have:(dq m (H++[c]) (n-1)).length<=m.length+1:=by unfold dq;split <;> simp
       unfold cq;lia
      have gt:(0:Int)<n:=g2;refine⟨[.val (.str t),.val (.int w),.own (.dK (dk m)),.own (.lst (ao (cM++(p++[c]).flatMap f))),.val (.str H),.val (.str [c]),.val (.str (H++[c]))],?_,_,_,p++[c],rest,by rw[hp];simp,rfl,rfl⟩;rw[lj];have s1:ir (.int n) (.int 1)=aa (.int (n-1)):=rfl;have s2:a9 (.int (n-1)) (.int 1)=aa (.int n):=by show aa (PV.int (n-1+1))=_;congr 2;lia
      simp only[wC]at o6 uh;generalize dk m=D at o6 fR d8 hd1;generalize dk (dq m (H++[c]) (n-1))=D2 at uh fR d8 ih nr;generalize ao (cM++p.flatMap f)=L at ih;generalize ao ((cM++p.flatMap f)++f c)=L2 at ih;clear_value H f;simp![jr,nA,lK,oi,ln,e_,jN,o6,gt,s1,hd1,fR,mo,ih,uh,s2,nr,d8]
     ·have hfc:f c=[]:=if_neg hc;have hz:=hm.zero hc;have o6:=uG m (H++[c]);have hg:((cJ m (H++[c])).map PV.int).getD (.int 0)=.int 0:=by
       cases e:cJ m (H++[c])with
       |none=>rfl
       |some k=>rw[e]at hz;simp at hz;subst hz;rfl
      refine⟨[.val (.str t),.val (.int w),.own (.dK (dk m)),.own (.lst (ao (cM++(p++[c]).flatMap f))),.val (.str H),.val (.str [c]),.val (.str (H++[c]))],?_,_,_,p++[c],rest,by rw[hp];simp,rfl,rfl⟩;rw[lj,hfc,g_];generalize dk m=D at o6;generalize ao (cM++p.flatMap f)=L;clear_value H f;simp![jr,nA,lK,e_,jN,o6,hg])
   (bL.map jr) [.val (.str t),.val (.int w),.own (.dK (dk m)),.own (.lst (ao (cM++([]:Tx).flatMap f))),.val (.str H),.none,.none] ⟨.none,.none,[],bL,by simp,rfl,rfl⟩
  have gf:rest=[]:=by cases rest with|nil=>rfl|cons=>cases uj
  subst gf;rw[g_]at hp;rw[hE];rw[←hp]at e1;simp only[E_,g_]at e1;have oQ:iq (.str [97,98,99])=aa (bL.map jr):=rfl;have N_:ie (.str t) (aa ((t.length:Int)-w+1)) ae=aa (.str H):=hcut;generalize dk m=D at ha e1;generalize ao cM=L at e1;generalize ao (cM++bL.flatMap f)=L2 at e1;clear_value H f;simp![mO,yam,r9,e_,ha,iZ,gq,nO,bb,nq,k9,N_,iL,gm,cg,oQ,e1]
end
section
variable{a:Ad}
abbrev bg(w:Nat)(ls:List Tx):PV:=.tup [.int w,.tup (ao ls)]
theorem J9{α:Type}(xs:List α):fu xs ae (aa (-1))=xs.dropLast:=by unfold fu;rw[show HT.sIx xs.length 0 ae=0 from rfl,wu,Nat.sub_zero,List.dropLast_eq_take];congr 1;show(HT.sIx xs.length xs.length (aa (-1)))=_;show(if(-1:Int)<0 then((-1:Int)+(xs.length:Int)).toNat else min (-1:Int).toNat xs.length)=_;rw[if_pos (by decide)];lia
theorem Kh{w:Nat}{ls:List Tx}(g:Good bL w ls)(w1:1<=w)(w4:w<=4):(bJ w ls).length<=531441:=by rw[sy w1 g.some λx hx=>⟨g.len x hx,g.abc x hx⟩];refine cS (Fe _ _) ?_;rw[zh];exact cS (Nat.pow_le_pow_right (by decide) (show w-1+ls.length<=12 by have:=g.few;lia)) (by decide)
theorem Ge(V:PV)(ls:List Tx)(w:Nat)(s2 s3:Slot):im [] dH (iZ ie (dV 0) nO (gq (d1 nV (dC (.int 1))))) (ao ls) [] [.val V,.val (.int w),s2,s3]=.ok (ao (ls.map oO)) [.val V,.val (.int w),s2,s3]:=by
 have hc:=i6 (cap:=[]) (dt:=dH) (de:=(iZ ie (dV 0) nO (gq (d1 nV (dC (.int 1)))))) (ε:=[.val V,.val (.int w),s2,s3]) (λ_=>ah) (λx=>match x with|.str z=>.str z.dropLast|_=>.non) (ao ls)
  (by
   intro x hx;obtain⟨z,_,rfl⟩:=bO.mp hx;refine⟨by simp![cX,cN,bN,dH],λ_=>?_⟩;have hs:ie (.str z) ae (aa (-1))=aa (.str z.dropLast):=by show aa (PV.str (fu z ae (aa (-1))))=_;rw[J9]
   have hn:nV (.int 1)=aa (.int (-1)):=rfl;simp![cX,cN,bN,iZ,nO,gq,hn,hs]) []
 rw[hc,iz,oP.mpr (by simp)];unfold ao;rw[c7,c7];rfl
theorem MJ{w:Nat}{ls:List Tx}(g:Good bL w ls)(w1:1<=w)(w4:w<=4)(hs:ls.Pairwise (λa b=>cZ a b=ah)):vJ a [.val (bg w ls)]=.ok (.own (.lst (ao (bJ w ls)))) [.val (bg w ls)]:=by
 have hck:=vI (a:=a) (g.vw w1 w4 hs);have i0:cu (bg w ls) (.int 0)=aa (.int w):=rfl;have i1:cu (bg w ls) (.int 1)=aa (.tup (ao ls)):=rfl;obtain⟨m,hm,hml0,hcm⟩:=Mn (a:=a) ls (by have:=g.few;lia);have rq:m.length<=1000:=by have:=g.few;lia
 let hd:=aY (ft (ls.map oO))
 have hdl:∀h∈hd,h.length=w-1:=λh hh=>by have hm:=(u8 _ _).mp ((jK _).mem_iff.mp hh);obtain⟨y,hy,rfl⟩:=bO.mp hm;rw[Ai,g.len y hy]
 let f:=λh=>gw w ls.length h ls
 have hT:bJ w ls=hd.flatMap f:=rfl;have hTl:=Kh g w1 w4;obtain⟨ε',e1,s3,p,rest,hp,uj,rfl⟩:=sK (i:=3) (db:=(jA (rG (mO a 12) (pO (dV 3) (pO (dV 1) (gN (mG (a8 (sL a) (gV (d2 cu (dV 0) (dC (.int 1))) (Pu.bB)))) (gO 2 (Pu.bB))))))))
  (I:=λr ε=>∃(s3:Slot) (p rest:List Tx),hd=p++rest/\r=ao rest/\ε=[.val (bg w ls),.val (.int w),.own (.lst (ao (p.flatMap f))),s3])
  (by
   rintro x r ε ⟨s3,p,rest,hp,hr,rfl⟩;cases rest with
   |nil=>cases hr
   |cons h rest=>
    have kl:x::r=.str h::ao rest:=hr;simp only[qV]at kl;obtain⟨rfl,rfl⟩:=kl;have hh:h.length=w-1:=hdl h (by rw[hp];simp);have ha:=CJ (a:=a) w w1 ls.length 12 h m ls (p.flatMap f) (by have:=g.few;lia) rfl hm ∅ (by have:=g.few;lia) rq (by rw[hT,hp,Fg,qX,et,et]at hTl;show(p.flatMap f).length+(f h).length<=cq;unfold cq;lia);refine⟨[.val (bg w ls),.val (.int w),.own (.lst (ao ((p++[h]).flatMap f))),.val (.str h)],?_,_,p++[h],rest,by rw[hp];simp,rfl,rfl⟩;have e2:(p++[h]).flatMap f=p.flatMap f++gw w ls.length h ls:=by simp[f]
    rw[e2];generalize ao (p.flatMap f)=L at ha;generalize ao (p.flatMap f++gw w ls.length h ls)=L2 at ha;generalize dk m=D at ha hcm;simp only[bg]at i1 ⊢;generalize ao ls=T at hcm i1;clear_value f hd;simp![rG,pO,gN,B_,i1,hcm,ha])
  (ao hd) [.val (bg w ls),.val (.int w),.own (.lst (ao (([]:List Tx).flatMap f))),.none] ⟨.none,[],hd,by simp,rfl,rfl⟩
 have gf:rest=[]:=by cases rest with|nil=>rfl|cons=>cases uj
 subst gf;rw[g_]at hp;rw[←hp,←hT]at e1;simp only[E_]at e1;have hco:=Ge (bg w ls) ls w (.own (.lst [])) .none;have hss:sC [.lst (ao (ls.map oO))]=aa (.lst (ao hd)):=by show(ip (ao _)).bind _=_;have h2:=g.few;rw[uK,iy,if_pos (oF (Lj _) (by rw[dw];lia))]
 have e0:ao ([]:List Tx)=[]:=rfl;rw[e0]at e1;generalize ao (bJ w ls)=L at e1;generalize ao hd=D at e1 hss;generalize ao (ls.map oO)=D0 at hco hss;simp only[bg]at hck i0 i1 hco e1 ⊢;generalize hTT:ao ls=T at hck i0 i1 hco e1;clear_value f hd;simp![vJ,yaO,hck,i0,i1,iL,gm,cg,iq,cz,hco,hss,e1,pZ]
theorem Jl(ls:List Tx):gU (ao ls)=aa (dA ls):=by
 induction ls with
 |nil=>rfl
 |cons x ls ih=>show(cV (.str x)).bind (λv=>(gU (ao ls)).map (v::·))=_;rw[ih];rfl
theorem Dt(ls:List Tx)(x:Tx):kF (ao ls) (.str x)=aa (.int (ls.count x:Nat)):=by show(cV (.str x)).bind (λv=>(gU (ao ls)).map λws=>PV.int (ws.countP λz=>dy z v))=_;rw[Jl,←Hq];rfl
theorem Ml(w:Nat)(ls:List Tx)(t:Tx)(ht:t.length<=60):mL a [.val (.str t),.val (.int w),.val (.tup (ao ls))]=.ok (.val (.bl (unD w ls t))) [.val (.str t),.val (.int w),.val (.tup (ao ls))]:=by
 have nk:=vD (a:=a) t w ht
 let M:=aY (aW t w)
 have hc:=i6 (cap:=[3,2]) (dt:=dH) (de:=(d2 (eV λi j=>decide (i<=j)) (pC kF (dV 1) (dV 0)) (pC kF (dV 2) (dV 0)))) (ε:=[.val (.str t),.val (.int w),.val (.tup (ao ls)),.val (.tup (ao M))]) (λ_=>ah) (λx=>match x with|.str z=>.bl (decide (M.count z<=ls.count z))|_=>.non) (ao M)
  (by intro x hx;obtain⟨z,_,rfl⟩:=bO.mp hx;refine⟨by simp![cX,cN,bN,dH],λ_=>?_⟩;have h1:=Dt M z;have h2:=Dt ls z;generalize ao M=A at h1;generalize ao ls=B at h2;simp![cX,cN,bN,pC,h1,h2]) []
 have he:((ao M).filter (λ_=>ah)).map (λx=>match x with|.str z=>PV.bl (decide (M.count z<=ls.count z))|_=>.non)=(M.map λz=>decide (M.count z<=ls.count z)).map .bl:=by rw[oP.mpr (by simp)];unfold ao;rw[c7,c7];rfl
 rw[iz,he]at hc;have fQ:(M.map λz=>decide (M.count z<=ls.count z)).all id=unD w ls t:=by
  rw[wt];unfold unD;have hp:=jK (aW t w);rw[jY,k6,k6];constructor
  ·intro h x hx;have:=h x (hp.mem_iff.mpr hx);simp only[me,id,M,hp.count_eq]at this;exact this
  ·intro h x hx;have:=h x (hp.mem_iff.mp hx);simp only[me,id,M,hp.count_eq];exact this
 generalize (M.map λz=>decide (M.count z<=ls.count z))=bs at hc fQ;have ha:=xU bs;rw[fQ]at ha;change jn a _=R.ok (Slot.val (.tup (ao M))) _ at nk;generalize ao M=MM at nk hc;clear_value M;simp![mL,yaJ,nk,cz,cg,iq,hc,ha]
theorem DK(neg:Bool)(ls ms:List Tx):Pu.eqT neg (.tup (ao ls)) (.tup (ao ms))=aa (.bl (neg^^decide (ls=ms))):=by show(if fH (.tup (ao ls))<=8 then(eJ (ao ls) (ao ms)).map (λk=>PV.bl (neg^^k))else ae)=_;rw[if_pos (by show fK (ao ls)+1<=8;rw[xu];decide),xo];rfl
def nextT(w:Nat)(ls:List Tx)(t:Tx):List Tx:=(bL.map λc=>t++[c]).filter (unD w ls)
theorem MO(w:Nat)(ls:List Tx)(V s3 s4 s6:Slot)(rows:List Tx)(ht:∀t∈rows,t.length<=50)(hb:(rows.flatMap (nextT w ls)).length<=999999):∃nD,jV 6 (lG 5 (dF (cz [6,1,2] (cg (dC (.str [97,98,99]))) (dB (bj (a8 (mL a) (gV (d2 a9 (dV 1) (dV 0)) (gV (dV 2) (gV (dV 3) (Pu.bB))))))) (d2 a9 (dV 1) (dV 0))))) (ao rows) [V,.val (.int w),.val (.tup (ao ls)),s3,s4,.own (.lst []),s6]=.ok .next [V,.val (.int w),.val (.tup (ao ls)),s3,s4,.own (.lst (ao (rows.flatMap (nextT w ls)))),nD]:=by
 let f:=nextT w ls
 obtain⟨ε',e1,nD,p,rest,hp,uj,rfl⟩:=sK (i:=6) (db:=(lG 5 (dF (cz [6,1,2] (cg (dC (.str [97,98,99]))) (dB (bj (a8 (mL a) (gV (d2 a9 (dV 1) (dV 0)) (gV (dV 2) (gV (dV 3) (Pu.bB))))))) (d2 a9 (dV 1) (dV 0))))))
  (I:=λr ε=>∃(nD:Slot) (p rest:List Tx),rows=p++rest/\r=ao rest/\ε=[V,.val (.int w),.val (.tup (ao ls)),s3,s4,.own (.lst (ao (p.flatMap f))),nD])
  (by
   rintro x r ε ⟨nD,p,rest,hp,hr,rfl⟩;cases rest with
   |nil=>cases hr
   |cons t rest=>
    have kl:x::r=.str t::ao rest:=hr;simp only[qV]at kl;obtain⟨rfl,rfl⟩:=kl;have htl:=ht t (by rw[hp];simp);have hc:=i6 (cap:=[6,1,2]) (dt:=(dB (bj (a8 (mL a) (gV (d2 a9 (dV 1) (dV 0)) (gV (dV 2) (gV (dV 3) (Pu.bB)))))))) (de:=(d2 a9 (dV 1) (dV 0))) (ε:=[V,.val (.int w),.val (.tup (ao ls)),s3,s4,.own (.lst (ao (p.flatMap f))),.val (.str t)])
     (λx=>match x with|.str [c]=>unD w ls (t++[c])|_=>aj) (λx=>match x with|.str [c]=>.str (t++[c])|_=>.non) (bL.map jr)
     (by
      intro x hx;obtain⟨c,_,rfl⟩:=bO.mp hx;have hw:=Ml (a:=a) w ls (t++[c]) (by simp;lia);have ha:a9 (.str t) (.str [c])=aa (.str (t++[c])):=u9 (by simp[cq];lia);simp only[jr];generalize ao (p.flatMap f)=L;generalize unD w ls (t++[c])=b at hw;generalize t++[c]=tc at hw ha;generalize ao ls=B at hw;refine⟨?_,λ_=>?_⟩
      ·simp![cX,cN,bN,ha,hw]
      ·simp![cX,cN,bN,ha]) []
    have he:((bL.map jr).filter (λx=>match x with|.str [c]=>unD w ls (t++[c])|_=>aj)).map (λx=>match x with|.str [c]=>PV.str (t++[c])|_=>.non)=ao (f t):=by simp only[f,nextT];rw[tI,c7,tI];unfold ao;rw[c7];rfl
    rw[iz,he]at hc;have oQ:iq (.str [97,98,99])=aa (bL.map jr):=rfl;have uk:(ao (p.flatMap f)).length+(ao (f t)).length<=cq:=by
     rw[kI,kI];have h2:(p.flatMap f).length+(f t).length<=(rows.flatMap (nextT w ls)).length:=by rw[hp,Fg,qX,et,et];simp only[f];lia
     unfold cq;lia
    refine⟨[V,.val (.int w),.val (.tup (ao ls)),s3,s4,.own (.lst (ao ((p++[t]).flatMap f))),.val (.str t)],?_,.val (.str t),p++[t],rest,by rw[hp];simp,rfl,rfl⟩;have e2:ao ((p++[t]).flatMap f)=ao (p.flatMap f)++ao (f t):=by simp[ao]
    rw[e2];generalize ao (f t)=Y at hc uk;generalize ao (p.flatMap f)=L at hc uk;generalize ao ls=B at hc;generalize bL.map jr=A3 at hc oQ;clear_value f;simp![lG,cz,cg,oQ,hc,uk])
  (ao rows) [V,.val (.int w),.val (.tup (ao ls)),s3,s4,.own (.lst (ao (([]:List Tx).flatMap f))),s6] ⟨s6,[],rows,by simp,rfl,rfl⟩
 have gf:rest=[]:=by cases rest with|nil=>rfl|cons=>cases uj
 subst gf;rw[g_]at hp;rw[←hp]at e1;exact⟨nD,e1⟩
theorem Mv{k:Nat}(h:k<=12):3^k<=531441:=cS (Nat.pow_le_pow_right (by decide) h) (by decide)
theorem KU{w:Nat}{ls:List Tx}(g:Good bL w ls)(w1:1<=w)(w4:w<=4)(hs:ls.Pairwise (λa b=>cZ a b=ah)):rT a [.val (bg w ls)]=.ok (.own (.lst (ao (bJ w ls)))) [.val (bg w ls)]:=by
 have hL:bJ w ls=(rowsOf w ls (ls.length+w-1)).filter (λz=>decide (aY (aW z w)=ls)):=by rw[G7 hs,sy w1 g.some λx hx=>⟨g.len x hx,g.abc x hx⟩];congr 2;lia
 obtain⟨L,hLe⟩:∃L:Nat,ls.length+w-1=L:=⟨_,rfl⟩
 rw[hLe]at hL;have hL12:L<=12:=by have:=g.few;lia
 have bw:bI [.tup (ao ls)]=aa (.int (ls.length:Nat)):=by simp[bI,kI]
 have ha1:a9 (.int (ls.length:Nat)) (.int w)=aa (.int ((ls.length:Int)+w)):=rfl;have ha2:ir (.int ((ls.length:Int)+w)) (.int 1)=aa (.int L):=by show aa (PV.int ((ls.length:Int)+w-1))=_;congr 2;lia
 have hr:i_ [.int L]=aa (dG 0 L):=su ∅;have hlr:(dG 0 L).length=L:=by simp[dG]
 obtain⟨ε',e1,s4,s5,s6,rfl⟩:=uQ (i:=4) (db:=(bd (ju 5 (dL eI (aC)))
 (bd (gm 6 (cg (dV 3)) (lG 5 (dF (cz [6,1,2] (cg (dC (.str [97,98,99]))) (dB (bj (a8 (mL a) (gV (d2 a9 (dV 1) (dV 0)) (gV (dV 2) (gV (dV 3) (Pu.bB))))))) (d2 a9 (dV 1) (dV 0))))))
 (cO 3 (dM 5)))))
  (I:=λk ε=>∃(s4 s5 s6:Slot),ε=[.val (bg w ls),.val (.int w),.val (.tup (ao ls)),.val (.lst (ao (rowsOf w ls k))),s4,s5,s6]) (N:=L)
  (by
   rintro k ε x hk ⟨s4,s5,s6,rfl⟩;have hrow:∀t∈rowsOf w ls k,t.length<=50:=λt ht=>by have:=((mJ k t).mp (lP.mp ht).1).1;lia
   have e:(rowsOf w ls k).flatMap (nextT w ls)=rowsOf w ls (k+1):=(LA w1 ls k).symm;have uk:((rowsOf w ls k).flatMap (nextT w ls)).length<=999999:=by rw[e];have h1:=Ni w ls (k+1);have h2:=Mv (show k+1<=12 by lia);lia
   obtain⟨nD,h1⟩:=MO (a:=a) w ls (.val (bg w ls)) (.val (.lst (ao (rowsOf w ls k)))) (.val x) s6 (rowsOf w ls k) hrow uk;rw[e]at h1;refine⟨_,?_,.val x,.val (.lst (ao (rowsOf w ls (k+1)))),nD,rfl⟩;generalize ao (rowsOf w ls (k+1))=R1 at h1;generalize hR0:ao (rowsOf w ls k)=R0 at h1;simp only[bg]at h1 ⊢;have hfor:∀(d:ak->R aR) (xs:List PV) (ε:ak),ε[3]?=aa (.val (.lst xs))->gm 6 (cg (dV 3)) d ε=jV 6 d xs ε:=λd xs ε h=>by unfold gm cg dV;rw[h];rfl
   refine(kC (ε1:=[.val (.tup [.int w,.tup (ao ls)]),.val (.int w),.val (.tup (ao ls)),.val (.lst R0),.val x,.own (.lst []),s6]) (by simp![])).trans ?_;refine(kC ((hfor _ R0 _ rfl).trans h1)).trans ?_;simp[cO,dM,R.bind])
  (dG 0 L) 0 [.val (bg w ls),.val (.int w),.val (.tup (ao ls)),.val (.lst (ao (rowsOf w ls 0))),.none,.none,.none] ∅ ⟨.none,.none,.none,rfl⟩
 rw[hlr,qN,FX w1]at e1;have hc:=i6 (cap:=[1,2]) (dt:=(dB (d2 (Pu.eqT aj) (bj (a8 (jn a) (gV (dV 0) (gV (dV 1) (Pu.bB))))) (dV 2)))) (de:=dV 0) (ε:=[.val (bg w ls),.val (.int w),.val (.tup (ao ls)),.val (.lst (ao (rowsOf w ls L))),s4,s5,s6])
  (λx=>match x with|.str z=>decide (aY (aW z w)=ls)|_=>aj) (λx=>x) (ao (rowsOf w ls L))
  (by
   intro x hx;obtain⟨z,hz,rfl⟩:=bO.mp hx;have hzl:z.length<=60:=by have:=((mJ L z).mp (lP.mp hz).1).1;lia
   have nk:=vD (a:=a) z w hzl;have he:=DK aj (aY (aW z w)) ls;simp only[Bool.false_xor]at he;generalize ao (aY (aW z w))=M at nk he;generalize hD:decide (aY (aW z w)=ls)=D at he;generalize ao (rowsOf w ls L)=RR;simp only[bg];refine⟨?_,λ_=>?_⟩
   ·simp only[hD];generalize ao ls=B at he;simp![cX,cN,bN,nk,he]
   ·generalize ao ls=B;simp![cX,cN,bN]) []
 have he:((ao (rowsOf w ls L)).filter (λx=>match x with|.str z=>decide (aY (aW z w)=ls)|_=>aj)).map (λx=>x)=ao (bJ w ls):=by rw[List.map_id',hL];unfold ao;rw[tI];rfl
 rw[iz,he]at hc;have e0:ao [[]]=[.str []]:=rfl;rw[e0]at e1;generalize ao (bJ w ls)=T at hc;generalize ao (rowsOf w ls L)=RR at hc e1;simp only[bg]at hc e1 ⊢;generalize ao ls=B at hc e1 bw;simp![rT,yaA,yw,bw,ha1,ha2,iL,gm,hr,e1,mw,cz,cg,iq,hc]
end
end Sh
namespace Mx
open L2 Pu
def ku:Nat->Nat->Nat->Nat->List Tx
 |0,_,_,_=>[[]]
 |n+1,i,j,k=>(match i with|0=>[]|i+1=>(ku n i j k).map (97::·))++((match j with|0=>[]|j+1=>(ku n i j k).map (98::·))++(match k with|0=>[]|k+1=>(ku n i j k).map (99::·)))
theorem BN:∀(n:Nat) (z:Tx),z.length=n->(∀c∈z,c∈bL)->z∈ku n (z.count 97) (z.count 98) (z.count 99)
 |0,z,h,_=>by rw[AA.mp h];simp[ku]
 |n+1,z,h,hc=>by
  cases z with
  |nil=>cases h
  |cons c z=>
   have ih:=BN n z (wJ h) λd hd=>hc d (by simp[hd]);have h3:c=97\/c=98\/c=99:=by have:=hc c (by simp);simpa[bL]using this
   rcases h3 with rfl|rfl|rfl
   ·rw[AC,tJ (by decide),tJ (by decide)];simp only[ku,fZ];exact .inl (bO.mpr ⟨z,ih,rfl⟩)
   ·rw[AC,tJ (by decide),tJ (by decide)];simp only[ku,fZ];exact .inr (.inl (bO.mpr ⟨z,ih,rfl⟩))
   ·rw[AC,tJ (by decide),tJ (by decide)];simp only[ku,fZ];exact .inr (.inr (bO.mpr ⟨z,ih,rfl⟩))
theorem len_sub{l m:List Tx}(nd:l.Nodup)(h:∀x∈l,x∈m):l.length<=m.length:=by
 induction l generalizing m with
 |nil=>simp
 |cons x l ih=>rw[jf]at nd;have hx:x∈m:=h x (by simp);have:=ih (m:=m.erase x) nd.2 λy hy=>(List.mem_erase_of_ne (λz=>nd.1 (by rw[←z];exact hy))).mpr (h y (by simp[hy]));rw[Au hx]at this;have h0:0<m.length:=List.length_pos_of_mem hx;rw[ff];lia
theorem IT{z:Tx}(h:∀c∈z,c∈bL):z.count 97+z.count 98+z.count 99=z.length:=by
 induction z with
 |nil=>rfl
 |cons c z ih=>
  have:=ih λd hd=>h d (by simp[hd]);have h3:c=97\/c=98\/c=99:=by have:=h c (by simp);simpa[bL]using this
  rcases h3 with rfl|rfl|rfl <;> (rw[List.count_cons,List.count_cons,List.count_cons,ff];simp;lia)
theorem Dy{z:Tx}{w:Nat}(hw:1<=w):(aW z w).length=z.length+1-w:=by rw[qd z w hw];simp
theorem K5{w:Nat}{ls:List Tx}(hw:1<=w)(hn:1<=ls.length)(hl:∀x∈ls,x.length=w/\∀c∈x,c∈bL):(bJ w ls).Nodup:=by rw[sy hw hn hl];exact(CA _).filter _
theorem rE{w:Nat}{ls:List Tx}(hw:1<=w)(hn:1<=ls.length)(hl:∀x∈ls,x.length=w/\∀c∈x,c∈bL){z:Tx}(h:z∈bJ w ls):z.length=w-1+ls.length/\∀c∈z,c∈bL:=by rw[sy hw hn hl,lP,mJ]at h;exact h.1
end Mx
namespace Sh
open L2 Pu Mx
structure Vd where
 w:Nat
 ls:List Tx
def tx(v:Vd):List Tx:=bJ v.w v.ls
section
variable{a:Ad}
theorem FA{z:Tx}(h1:1<=z.length)(h2:z.length<=12)(hc:∀c∈z,c∈bL):vL a [.val (.str z)]=.ok (.val .non) [.val (.str z)]:=by
 have k1:dU [.str z,.raw (.ty "str")]=aa (.bl ah):=gv rfl CD;have hh:=Cn (a:=a) z bL;have fQ:z.all bL.contains=ah:=by rw[k6];intro c h;simpa using hc c h
 rw[fQ]at hh;simp only[bL]at hh;have hl:bI [.str z]=aa (.int (z.length:Nat)):=rfl;have c1:(1:Int)<=(z.length:Nat):=∅
 have c2:((z.length:Nat):Int)<=12:=∅
 have ht:vW a [.val (.str z),.val (.int 12)]=.ok (.val (.bl ah)) [.val (.str z),.val (.int 12)]:=by simp![vW,yat,k1,hl,c1,c2,hh]
 simp![vL,yao,ht]
theorem zg{w:Nat}(w1:1<=w)(w4:w<=4):vx a [.val (.int w)]=.ok (.val .non) [.val (.int w)]:=by have h:=xM (a:=a) w;rw[decide_eq_true (show 1<=(w:Int)/\(w:Int)<=4 by lia)]at h;simp![vx,yaq,h]
def rN(t:Tx)(v:Nat):List Tx:=(bX (t.length+1-v)).map λi=>(t.drop i).take v
theorem GD{t:Tx}{w:Nat}(hw:w<=t.length+1)(ht:t.length<=60):sO a [.val (.str t),.val (.int w)]=.ok (.own (.lst (ao (rN t w)))) [.val (.str t),.val (.int w)]:=by
 have hl:bI [.str t]=aa (.int (t.length:Nat)):=rfl;have hs:ir (.int (t.length:Nat)) (.int w)=aa (.int ((t.length:Int)-w)):=rfl;have ha:a9 (.int ((t.length:Int)-w)) (.int 1)=aa (.int ((t.length+1-w:Nat):Int)):=by show aa (PV.int ((t.length:Int)-w+1))=_;congr 2;lia
 have hr:i_ [.int ((t.length+1-w:Nat):Int)]=aa (dG 0 (t.length+1-w)):=su ∅;have hc:=i6 (cap:=[0,1]) (dt:=dH) (de:=(iZ ie (dV 1) (gq (dV 0)) (gq (d2 a9 (dV 0) (dV 2))))) (ε:=[.val (.str t),.val (.int w)]) (λ_=>ah) (λx=>match x with|.int i=>.str (fu t (aa i) (aa (i+w)))|_=>.non) (dG 0 (t.length+1-w))
  (by intro x hx;obtain⟨i,_,rfl⟩:=bO.mp hx;refine⟨by simp![cX,cN,bN,dH],λ_=>?_⟩;simp![cX,cN,bN,a9,iZ,gq,ie]) []
 have he:((dG 0 (t.length+1-w)).filter (λ_=>ah)).map (λx=>match x with|.int i=>PV.str (fu t (aa i) (aa (i+w)))|_=>.non)=ao (rN t w):=by
  rw[oP.mpr (by simp)];unfold dG ao rN;rw[c7,c7];refine lW λi hi=>?_;have hi:i<t.length+1-w:=by simpa using hi
  simp only[me,Int.zero_add];rw[Cw ∅]
 rw[iz,he]at hc;generalize ao (rN t w)=T at hc;generalize dG 0 (t.length+1-w)=RR at hr hc;generalize ((t.length+1-w:Nat):Int)=n at ha hr;simp![sO,yaM,mw,cz,hl,hs,ha,hr,hc]
theorem H_{t:Tx}{w:Nat}(w1:1<=w):rN t w=aW t w:=(qd t w w1).symm
theorem Ju{t:Tx}{w:Nat}(w1:1<=w)(hw:w<=t.length+1)(ht:t.length<=60):sO a [.val (.str t),.val (.int w)]=.ok (.own (.lst (ao (aW t w)))) [.val (.str t),.val (.int w)]:=by rw[←H_ w1];exact GD hw ht
theorem L9{w:Nat}{ls:List Tx}(h1:1<=ls.length)(h9:ls.length<=9):v_ a [.val (.int w),.val (.lst (ao ls))]=.ok (.val (bg w (aY ls))) [.val (.int w),.val (.lst (ao ls))]:=by
 have hl:bI [.lst (ao ls)]=aa (.int (ls.length:Nat)):=by simp[bI,kI]
 have c1:(1:Int)<=(ls.length:Nat):=∅
 have c2:((ls.length:Nat):Int)<=9:=∅
 have dE:lD [.lst (ao ls)]=aa (.lst (ao (aY ls))):=yb ∅;simp only[bg];generalize ao (aY ls)=T at dE;generalize ao ls=B at hl dE;simp![v_,yaP,hl,c1,c2,dE,mH]
structure Tv(t:Tx)(w:Nat):Prop where
 w1:1<=w
 w4:w<=4
 h1:w<=t.length
 h9:t.length+1<=w+9
 abc:∀c∈t,c∈bL
theorem Tv.good{t:Tx}{w:Nat}(h:Tv t w):Good bL w (aW t w):=by have hm:=DB (m:=8) h.w1 h.h1 (by have:=h.h9;lia);exact⟨λx hx=>(uw x hx).1,λx hx c hc=>h.abc c ((uw x hx).2 c hc),hm.1,hm.2⟩
theorem GC{t:Tx}{w:Nat}(h:Tv t w):qj a [.val (.str t),.val (.int w)]=.ok (.val (bg w (aY (aW t w)))) [.val (.str t),.val (.int w)]:=by have b1:=h.w1;have b2:=h.w4;have b3:=h.h1;have b4:=h.h9;have e1:=FA (a:=a) (z:=t) ∅ ∅ h.abc;have e2:=zg (a:=a) h.w1 h.w4;have e4:=Ju (a:=a) (t:=t) h.w1 ∅ ∅;have e5:=L9 (a:=a) (w:=w) (ls:=aW t w) h.good.some h.good.few;generalize bg w (aY (aW t w))=V at e5;generalize ao (aW t w)=C at e4 e5;simp![qj,yaN,e1,e2,e4,e5]
end
end Sh
namespace Mx
open L2
theorem wins_at{z:Tx}{w k:Nat}(hw:k<w)(hz:w<=z.length):(aW z w).map (λx=>x.getD k 0)=(z.drop k).take (z.length+1-w):=by
 rw[qd z w ∅,c7];refine tf λi=>?_;rw[jC,E8];by_cases c:i<z.length+1-w
 ·rw[wq c,if_pos c];have h1:i+k<z.length:=∅
  simp[E8,EZ,hw,h1,Nat.add_comm k i]
 ·rw[if_neg c,nc (by simpa using c)];rfl
theorem take_tells{t u:Tx}{w:Nat}(hl:t.length=u.length)(hz:w<=t.length)(w1:1<=w)(hp:(aW t w).Perm (aW u w))(h:t.take (t.length+1-w)=u.take (t.length+1-w)):t=u:=by
 have key:∀k,k<w->t.take (t.length+1-w+k)=u.take (t.length+1-w+k):=by
  intro k
  induction k with
  |zero=>intro _;exact h
  |succ k ih=>
   intro hk;have ih:=ih ∅;have p:=hp.map (λx=>x.getD (k+1) 0);rw[wins_at ∅ hz,wins_at ∅ ∅,←hl]at p;generalize hn:t.length+1-w=n at *;obtain⟨m,rfl⟩:∃m,n=m+1:=⟨n-1,∅⟩
   have e1:∀z:Tx,z.length=t.length->(z.drop (k+1)).take (m+1)=(z.drop (k+1)).take m++[z.getD (m+1+k) 0]:=λz hz'=>by
    have bb:m<(z.drop (k+1)).length:=by rw[j3];lia
    rw[wM bb,wL];congr 2;rw[Fh,d7 ∅,wR];congr 1;lia
   rw[e1 t rfl,e1 u hl.symm]at p;have e2:(t.drop (k+1)).take m=(u.drop (k+1)).take m:=by have:=congrArg (List.drop (k+1)) ih;rw[List.drop_take,List.drop_take]at this;rw[show m+1+k-(k+1)=m by lia]at this;exact this
   rw[e2,List.perm_append_left_iff]at p;have e3:t.getD (m+1+k) 0=u.getD (m+1+k) 0:=by simpa using p
   have bb:m+1+k<t.length:=∅
   have hlu:m+1+k<u.length:=∅
   rw[show m+1+(k+1)=m+1+k+1 by lia,wM bb,wM hlu,ih];congr 2;rw[Fh,Fh,d7 bb,d7 hlu]at e3;exact e3
 have:=key (w-1) ∅;rw[show t.length+1-w+(w-1)=t.length by lia,tq]at this;rw[this,hl,tq]
theorem words9:∀m:Fin 10,∀i:Fin 10,∀j:Fin 10,i.val+j.val<=m.val->(ku m.val i.val j.val (m.val-i.val-j.val)).length<=1680:=by decide +kernel
theorem texts_1680{w:Nat}{ls:List Tx}(w1:1<=w)(hn:1<=ls.length)(h9:ls.length<=9)(hl:∀x∈ls,x.length=w/\∀c∈x,c∈bL):(bJ w ls).length<=1680:=by
 by_cases h0:bJ w ls=[]
 ·rw[h0];exact kY _
 have iA:∀z∈bJ w ls,z.length=w-1+ls.length/\∀c∈z,c∈bL:=λz hz=>rE w1 hn hl hz;have o4:∀z∈bJ w ls,(aW z w).Perm ls:=λz hz=>by rw[sy w1 hn hl,lP]at hz;exact List.isPerm_iff.mp hz.2
 obtain⟨t,ht⟩:∃t,t∈bJ w ls:=by
  cases q:bJ w ls with
  |nil=>exact absurd q h0
  |cons t r=>exact⟨t,eN⟩
 obtain⟨tl,tc⟩:=iA t ht;have nd:((bJ w ls).map λz=>z.take ls.length).Nodup:=by refine nodup_of (K5 w1 hn hl) λz hz u hu e=>?_;have z1:=(iA z hz).1;have u1:=(iA u hu).1;exact take_tells ∅ ∅ w1 ((o4 z hz).trans (o4 u hu).symm) (by rw[show z.length+1-w=ls.length by lia];exact e)
 have sub:∀x∈(bJ w ls).map (λz=>z.take ls.length),x∈ku ls.length ((t.take ls.length).count 97) ((t.take ls.length).count 98) ((t.take ls.length).count 99):=by
  intro x hx;obtain⟨z,hz,rfl⟩:=bO.mp hx;obtain⟨z1,z2⟩:=iA z hz;have p:(z.take ls.length).Perm (t.take ls.length):=by have q:=((o4 z hz).trans (o4 t ht).symm).map (λx=>x.getD 0 0);rw[wins_at ∅ ∅,wins_at ∅ ∅,wu,wu,show z.length+1-w=ls.length by lia,show t.length+1-w=ls.length by lia]at q;exact q
  have:=BN ls.length (z.take ls.length) (by simp;lia) λc hc=>z2 c (Az hc);rwa[p.count_eq,p.count_eq,p.count_eq]at this
 have:=len_sub nd sub;rw[dw]at this;refine cS this ?_;have hc:=IT (z:=t.take ls.length) λc hc=>tc c (Az hc);have gH:(t.take ls.length).length=ls.length:=by simp;lia
 have:=words9 ⟨ls.length,∅⟩ ⟨(t.take ls.length).count 97,∅⟩ ⟨(t.take ls.length).count 98,∅⟩ (show(t.take ls.length).count 97+(t.take ls.length).count 98<=ls.length by lia);have e:ls.length-(t.take ls.length).count 97-(t.take ls.length).count 98=(t.take ls.length).count 99:=∅
 simp only[e]at this;exact this
where
 nodup_of {l:List Tx}{f:Tx->Tx} (h:l.Nodup) (hi:∀x∈l,∀y∈l,f x=f y->x=y):(l.map f).Nodup:=by
  induction l with
  |nil=>simp
  |cons x l ih=>rw[eu,jf];have h':=jf.mp h;refine⟨λhm=>?_,ih h'.2 λa ha b hb=>hi a (dI _ ha) b (dI _ hb)⟩;obtain⟨y,hy,e⟩:=bO.mp hm;have:=hi y (dI _ hy) x eN e;subst this;exact h'.1 hy
end Mx
namespace Sh
open L2 Pu Mx
def vwK(w:Nat)(t:Tx):PrK:=((w:Int),aY (aW t w))
def vwL(w:Nat)(T:List Tx):PV:=.lst ((sortK (uniqK (T.map (vwK w)))).map prV)
theorem prs_map:∀{ks:List PrK},(∀k∈ks,k.2≠[])->prs (ks.map prV)=aa ks
 |[],_=>rfl
 |k::ks,h=>by
  have h1:pr1 (prV k)=aa k:=by show(ip (ao k.2)).bind _=_;rw[uK,iy,if_pos (h k eN)]
  show(pr1 (prV k)).bind _=_;rw[h1,iy,prs_map λy hy=>h y (dI _ hy)];rfl
theorem uniqK_len(l aH:List PrK):(l.foldl (λaH k=>if k∈aH then aH else aH++[k]) aH).length<=aH.length+l.length:=by
 induction l generalizing aH with
 |nil=>simp
 |cons x r ih=>rw[kX];refine cS (ih _) ?_;split <;> simp <;> lia
theorem wins_some{t:Tx}{w:Nat}(w1:1<=w)(h:w<=t.length):aY (aW t w)≠[]:=λz=>by have:=congrArg lS z;rw[vB,Dy w1]at this;simp at this;lia
theorem sortV_eq{w:Nat}(w1:1<=w){T:List Tx}(hT:∀t∈T,w<=t.length)(hl:T.length<4000):sortSetVP [.lst (T.map λt=>prV (vwK w t))]=aa (.lst ((sortK (uniqK (T.map (vwK w)))).map prV)):=by
 have e:(T.map λt=>prV (vwK w t))=(T.map (vwK w)).map prV:=by rw[c7];rfl
 rw[e];show(prs _).bind _=_;rw[prs_map (λk hk=>by obtain⟨t,ht,rfl⟩:=bO.mp hk;exact wins_some w1 (hT t ht)),iy,if_pos];refine⟨oF (uniqK_len _ []) (by simpa using hl),λk hk=>?_⟩;obtain⟨t,ht,rfl⟩:=bO.mp hk;cases T with
 |nil=>cases ht
 |cons x r=>rfl
theorem dep_prV(k:PrK):fH (prV k)<=2:=by
 show max (fH (.int k.1)) (max (fH (.tup (ao k.2))) 0)+1<=2;have:fH (.tup (ao k.2))=1:=by show fK (ao k.2)+1=1;rw[xu]
 rw[this];show max 0 (max 1 0)+1<=2;decide
theorem deps_prs(ks:List PrK):fK (ks.map prV)<=2:=by
 induction ks with
 |nil=>exact kY _
 |cons k ks ih=>exact Nat.max_le.mpr ⟨dep_prV k,ih⟩
theorem eqP_prV(k:PrK):cp (prV k) (prV k)=aa ah:=by
 have h1:eJ (ao k.2) (ao k.2)=aa ah:=by rw[xo,decide_eq_true rfl]
 have h2:cp (.int k.1) (.int k.1)=aa ah:=by show aa (dy (.int k.1) (.int k.1))=_;simp[dy]
 show(cp (.int k.1) (.int k.1)).bind (λa=>((eJ (ao k.2) (ao k.2)).bind λa=>(aa ah).map λb=>a&&b).map λb=>a&&b)=_;rw[h1,h2];rfl
theorem eqPs_prs:∀(ks:List PrK),eJ (ks.map prV) (ks.map prV)=aa ah
 |[]=>rfl
 |k::ks=>by show(cp (prV k) (prV k)).bind (λa=>(eJ (ks.map prV) (ks.map prV)).map λb=>a&&b)=_;rw[eqP_prV,eqPs_prs ks];rfl
theorem eqT_vwL(w:Nat)(T:List Tx):Pu.eqT aj (vwL w T) (vwL w T)=aa (.bl ah):=by show(if fH (vwL w T)<=8 then(eJ _ _).map (λk=>PV.bl (aj^^k))else ae)=_;rw[if_pos (by show fK _+1<=8;have:=deps_prs (sortK (uniqK (T.map (vwK w))));lia),eqPs_prs];rfl
section
variable{a:Ad}
theorem tv_of{w v:Nat}{ls:List Tx}(g:Good bL w ls)(w1:1<=w)(v1:1<=v)(v4:v<=4)(hv:v+1<=w+ls.length)(h9:w+ls.length<=v+9){t:Tx}(ht:t∈bJ w ls):Tv t v:=by obtain⟨h1,h2⟩:=rE w1 g.some (λx hx=>⟨g.len x hx,g.abc x hx⟩) ht;exact⟨v1,v4,∅,∅,h2⟩
theorem views_comp{w v:Nat}{ls:List Tx}(g:Good bL w ls)(w1:1<=w)(v1:1<=v)(v4:v<=4)(hv:v+1<=w+ls.length)(h9:w+ls.length<=v+9)(op:PV->PV->Option PV)(ho:op (.int w) (.int 1)=aa (.int v)):im [0] dH (bj (a8 (qj a) (gV (dV 0) (gV (d2 op (d2 cu (dV 1) (dC (.int 0))) (dC (.int 1))) (Pu.bB))))) (ao (bJ w ls)) [] [.val (bg w ls)]=.ok ((bJ w ls).map λt=>prV (vwK v t)) [.val (bg w ls)]:=by
 have hi:cu (bg w ls) (.int 0)=aa (.int w):=rfl;have hc:=i6 (cap:=[0]) (dt:=dH) (de:=(bj (a8 (qj a) (gV (dV 0) (gV (d2 op (d2 cu (dV 1) (dC (.int 0))) (dC (.int 1))) (Pu.bB)))))) (ε:=[.val (bg w ls)]) (λ_=>ah) (λx=>match x with|.str t=>prV (vwK v t)|_=>.non) (ao (bJ w ls))
  (by intro x hx;obtain⟨t,ht,rfl⟩:=bO.mp hx;have hv:=GC (a:=a) (tv_of g w1 v1 v4 hv h9 ht);have e:bg v (aY (aW t v))=prV (vwK v t):=rfl;rw[e]at hv;refine⟨by simp![cX,cN,bN,dH],λ_=>?_⟩;show _=R.ok (prV (vwK v t)) _;generalize prV (vwK v t)=Y at hv ⊢;generalize ((v:Nat):Int)=VI at hv ho;generalize ((w:Nat):Int)=WI at ho hi;generalize bg w ls=V at hi;simp![cX,cN,bN,hi,ho,hv]) []
 rw[iz,oP.mpr (by simp)]at hc;rw[hc];congr 1;simp[ao,c7,tt]
theorem few{w:Nat}{ls:List Tx}(g:Good bL w ls)(w1:1<=w):(bJ w ls).length<4000 :=oF (texts_1680 w1 g.some g.few λx hx=>⟨g.len x hx,g.abc x hx⟩) (by decide)
theorem long{w v:Nat}{ls:List Tx}(g:Good bL w ls)(w1:1<=w)(hv:v+1<=w+ls.length):∀t∈bJ w ls,v<=t.length:=λt ht=>by have:=(rE w1 g.some (λx hx=>⟨g.len x hx,g.abc x hx⟩) ht).1;lia
theorem eq_no{m k:Nat}(h:m≠k):Pu.eqT aj (.int m) (.int k)=aa (.bl aj):=by rw[lE,decide_eq_false ∅];rfl
theorem eq_yes{m k:Nat}(h:m=k):Pu.eqT aj (.int m) (.int k)=aa (.bl ah):=by rw[lE,decide_eq_true ∅];rfl
theorem vw_facts(w:Nat)(ls:List Tx):cu (bg w ls) (.int 0)=aa (.int w)/\cu (bg w ls) (.int 1)=aa (.tup (ao ls))/\bI [.tup (ao ls)]=aa (.int (ls.length:Nat)) :=⟨rfl,rfl,by show aa (PV.int ((ao ls).length:Nat))=_;rw[kI]⟩
end
end Sh
namespace K23
open L2 Pu Mx Sh
section
variable{a:Ad}
def rf(n:Int):PV:=.tup [.str [114,101,102,117,115,101,100],.int n]
def Wh(a:Ad):Prop:=[lJ a [.val (.exc (.ref a.NoView))],lJ a [.val (.exc (.ref a.NoWidth))]] =
 [.ok (.val (rf 2)) [.val (.exc (.ref a.NoView))],.ok (.val (rf 1)) [.val (.exc (.ref a.NoWidth))]]
theorem Ou (h:[lJ a [.val (.exc (.ref a.NoView))],lJ a [.val (.exc (.ref a.NoWidth))]]=[.ok (.val (rf 2)) [.val (.exc (.ref a.NoView))],.ok (.val (rf 1)) [.val (.exc (.ref a.NoWidth))]]):Wh a:=h
theorem Nk(h:Wh a):lJ a [.val (.exc (.ref a.NoView))]=.ok (.val (rf 2)) [.val (.exc (.ref a.NoView))]/\lJ a [.val (.exc (.ref a.NoWidth))]=.ok (.val (rf 1)) [.val (.exc (.ref a.NoWidth))]:=by unfold Wh at h;simp only[qV,and_true]at h;exact h
theorem Et{c:af}{n:Int}{x:PV}(hc:lr a (.ref c)=ah)(hq:lJ a [.val (.exc (.ref c))]=.ok (.val (rf n)) [.val (.exc (.ref c))])(h:i4 a [.val x]=.er (.ref c) [.val x]):iN a [.val x]=.ok (.val (rf n)) [.val x]:=by generalize rf n=Y at hq;simp![iN,yaB,n5,pW,bN,h,hc,hq]
theorem Ll{x y:PV}(h:i4 a [.val x]=.ok (.val y) [.val x]):iN a [.val x]=.ok (.val y) [.val x]:=by simp![iN,yaB,n5,pW,bN,h]
theorem KZ{x:PV}(h:i4 a [.val x]=.ok (.own (.lst [])) [.val x]):iN a [.val x]=.ok (.own (.lst [])) [.val x]:=by simp![iN,yaB,n5,pW,bN,h]
theorem Hn{x:PV}(h:lF a [.val x]=.ok (.val (.bl aj)) [.val x]):i4 a [.val x]=.er (.ref a.NoView) [.val x]:=by have:=F8 (a:=a) h;simp![i4,yaQ,this]
theorem GW{w:Nat}{ls:List Tx}(g:Good bL w ls)(w1:1<=w)(w4:w<=4)(hs:ls.Pairwise (λa b=>cZ a b=ah))(h1:w=4):i4 a [.val (bg w ls)]=.er (.ref a.NoWidth) [.val (bg w ls)]:=by have eD:kD a [.val (bg w ls)]=.ok (.val .non) [.val (bg w ls)]:=vI (a:=a) (g.vw w1 w4 hs);obtain⟨i0,_,_⟩:=vw_facts w ls;have he:Pu.eqT aj (.int w) (.int 4)=aa (.bl ah):=eq_yes (k:=4) h1;generalize ((w:Nat):Int)=WI at i0 he;generalize bg w ls=V at eD i0;simp![i4,yaQ,eD,i0,he,mB,bN]
theorem MV{w:Nat}{ls:List Tx}(g:Good bL w ls)(w1:1<=w)(w4:w<=4)(hs:ls.Pairwise (λa b=>cZ a b=ah))(h1:w≠4)(h9:ls.length=1):i4 a [.val (bg w ls)]=.ok (.own (.lst [])) [.val (bg w ls)]:=by have eD:kD a [.val (bg w ls)]=.ok (.val .non) [.val (bg w ls)]:=vI (a:=a) (g.vw w1 w4 hs);obtain⟨i0,i1,il⟩:=vw_facts w ls;have he:Pu.eqT aj (.int w) (.int 4)=aa (.bl aj):=eq_no (k:=4) h1;have ul:Pu.eqT aj (.int (ls.length:Nat)) (.int 1)=aa (.bl ah):=eq_yes (k:=1) h9;generalize ((ls.length:Nat):Int)=LI at il ul;generalize ((w:Nat):Int)=WI at i0 he;generalize ao ls=LP at i1 il;generalize bg w ls=V at eD i0 i1;simp![i4,yaQ,eD,i0,i1,il,he,ul,mw]
theorem zg{w:Nat}{ls:List Tx}(g:Good bL w ls)(w1:1<=w)(w4:w<=4)(hs:ls.Pairwise (λa b=>cZ a b=ah))(h1:w≠4)(h9:ls.length≠1):i4 a [.val (bg w ls)]=.ok (.val (vwL (w+1) (bJ w ls))) [.val (bg w ls)]:=by have h9':=g.few;have h0':=g.some;have eD:kD a [.val (bg w ls)]=.ok (.val .non) [.val (bg w ls)]:=vI (a:=a) (g.vw w1 w4 hs);obtain⟨i0,i1,il⟩:=vw_facts w ls;have he:Pu.eqT aj (.int w) (.int 4)=aa (.bl aj):=eq_no (k:=4) h1;have ul:Pu.eqT aj (.int (ls.length:Nat)) (.int 1)=aa (.bl aj):=eq_no (k:=1) h9;have ht:=MJ (a:=a) g w1 w4 hs;have ho:a9 (.int w) (.int 1)=aa (.int ((w+1:Nat):Int)):=rfl;have hv:=views_comp (a:=a) (v:=w+1) g w1 ∅ ∅ ∅ ∅ a9 ho;have um:=sortV_eq (w:=w+1) (T:=bJ w ls) ∅ (long g w1 ∅) (few g w1);have ei:iq (.lst (ao (bJ w ls)))=aa (ao (bJ w ls)):=rfl;unfold vwL;generalize (sortK (uniqK ((bJ w ls).map (vwK (w+1))))).map prV=RV at um;generalize ((bJ w ls).map λt=>prV (vwK (w+1) t))=VV at hv um;generalize ao (bJ w ls)=TP at ht hv ei;generalize ((ls.length:Nat):Int)=LI at il ul;generalize ((w:Nat):Int)=WI at i0 he hv;generalize ao ls=LP at i1 il;generalize bg w ls=V at eD i0 i1 ht hv;simp![i4,yaQ,eD,i0,i1,il,he,ul,ht,cz,cg,ei,hv,um]
theorem MZ{v:Nat}{T:List Tx}(hT:∀t∈T,t.length<=60)(s0 s1 s2 s3 s5:Slot):im [4] dH (bj (a8 (jn a) (gV (dV 0) (gV (dV 1) (Pu.bB))))) (ao T) [] [s0,s1,s2,s3,.val (.int v),s5]=.ok (T.map λt=>PV.tup (ao (aY (aW t v)))) [s0,s1,s2,s3,.val (.int v),s5]:=by
 have hc:=i6 (cap:=[4]) (dt:=dH) (de:=(bj (a8 (jn a) (gV (dV 0) (gV (dV 1) (Pu.bB)))))) (ε:=[s0,s1,s2,s3,.val (.int v),s5]) (λ_=>ah) (λx=>match x with|.str t=>PV.tup (ao (aY (aW t v)))|_=>.non) (ao T)
  (by intro x hx;obtain⟨t,ht,rfl⟩:=bO.mp hx;have hv:=vD (a:=a) t v (hT t ht);refine⟨by simp![cX,cN,bN,dH],λ_=>?_⟩;show _=R.ok (PV.tup (ao (aY (aW t v)))) _;generalize ao (aY (aW t v))=Y at hv ⊢;generalize ((v:Nat):Int)=VI at hv;simp![cX,cN,bN,hv]) []
 rw[iz,oP.mpr (by simp)]at hc;rw[hc];congr 1;simp[ao,c7,tt]
theorem FH{v:Nat}(v1:1<=v){T:List Tx}(hT:∀t∈T,v<=t.length)(s0 s1 s2 s3 s5:Slot):im [4] (dB (d2 (Pu.eqT ah) (dV 0) (dL bi aC))) (dL bi (ar (dV 1) (ar (dV 0) aC))) (T.map λt=>PV.tup (ao (aY (aW t v)))) [] [s0,s1,s2,s3,.val (.int v),s5]=.ok (T.map λt=>prV (vwK v t)) [s0,s1,s2,s3,.val (.int v),s5]:=by
 have hc:=i6 (cap:=[4]) (dt:=(dB (d2 (Pu.eqT ah) (dV 0) (dL bi aC)))) (de:=(dL bi (ar (dV 1) (ar (dV 0) aC)))) (ε:=[s0,s1,s2,s3,.val (.int v),s5]) (λ_=>ah) (λx=>PV.tup [.int v,x]) (T.map λt=>PV.tup (ao (aY (aW t v))))
  (by
   intro x hx;obtain⟨t,ht,rfl⟩:=bO.mp hx;have dj:=wins_some v1 (hT t ht);have he:Pu.eqT ah (.tup (ao (aY (aW t v)))) (.tup [])=aa (.bl ah):=by have:=DK ah (aY (aW t v)) [];rw[decide_eq_false dj]at this;exact this
   have h0:bi []=aa (.tup []):=rfl;have h2:bi [.int v,.tup (ao (aY (aW t v)))]=aa (.tup [.int v,.tup (ao (aY (aW t v)))]):=rfl;generalize ao (aY (aW t v))=Y at he h2;generalize ((v:Nat):Int)=VI at h2;refine⟨?_,λ_=>?_⟩
   ·simp![cX,cN,bN,he]
   ·simp![cX,cN,bN]) []
 rw[iz,oP.mpr (by simp)]at hc;rw[hc];congr 1;rw[c7];rfl
theorem Jz{v:Nat}{T:List Tx}(hT:∀t∈T,aY (aW t v)=[])(s0 s1 s2 s3 s5:Slot):im [4] (dB (d2 (Pu.eqT ah) (dV 0) (dL bi aC))) (dL bi (ar (dV 1) (ar (dV 0) aC))) (T.map λt=>PV.tup (ao (aY (aW t v)))) [] [s0,s1,s2,s3,.val (.int v),s5]=.ok [] [s0,s1,s2,s3,.val (.int v),s5]:=by
 have hc:=i6 (cap:=[4]) (dt:=(dB (d2 (Pu.eqT ah) (dV 0) (dL bi aC)))) (de:=(dL bi (ar (dV 1) (ar (dV 0) aC)))) (ε:=[s0,s1,s2,s3,.val (.int v),s5]) (λ_=>aj) (λx=>x) (T.map λt=>PV.tup (ao (aY (aW t v))))
  (by
   intro x hx;obtain⟨t,ht,rfl⟩:=bO.mp hx;rw[hT t ht];have he:Pu.eqT ah (.tup (ao [])) (.tup [])=aa (.bl aj):=rfl;generalize ao []=Y at he;generalize ((v:Nat):Int)=VI;refine⟨?_,λz=>by cases z⟩;simp![cX,cN,bN,he]) []
 rw[hc];simp
theorem Nt:sortSetVP [.lst []]=aa (.lst []):=by
 have:=sortV_eq (w:=1) (T:=[]) ∅ (λt ht=>by cases ht) (by decide);simpa[sortK,uniqK]using this
theorem JP(nd:Wh a)(ns:List Int):pt a [bA ns]=.ok (.val (.bl ah)) [bA ns]:=by
 obtain⟨q2,q1⟩:=Nk nd;have c2:lr a (.ref a.NoView)=ah:=by simp[lr,gx]
 have c1:lr a (.ref a.NoWidth)=ah:=by simp[lr,gx]
 obtain⟨sp,p0,p3,hd⟩:=ol (a:=a) ns [] 3 (by decide) (by simp);obtain⟨s,rfl⟩:∃s:Nat,sp=(s:Nat):=⟨sp.toNat,∅⟩
 obtain⟨m,m1,m9,M,hM,uo⟩:∃m:Nat,1<=m/\m<=9/\∃M:Int,((m:Nat):Int)=M/\(if decide ((0:Int)<(s:Nat))=ah then(9:Int)else 7)=M:=by
  by_cases q:(0:Int)<(s:Nat)
  ·exact⟨9,∅,∅,9,rfl,if_pos (decide_eq_true q)⟩
  ·exact⟨7,∅,∅,7,rfl,if_neg (by rw[decide_eq_false q];decide)⟩
 obtain⟨w,ls,ys,w1,w4,_,g,hs,_,_,hys,hv⟩:=Kd (a:=a) ns ([]++[.int 0]) s m ∅ m1 m9 (by simp);have rA:rD a [bA ns,.own (.lst ([]++[.int 0])),.val (.int s),.val (.int m)]=.ok (.val (bg w ls)) [bA ns,.own (.lst ys),.val (.int s),.val (.int m)]:=hv;rw[iz]at rA hd;rw[hM]at rA;obtain⟨x,hx,y1,hy1,hodd⟩:=FJ (a:=a) ns ys (by simp at hys;lia);have Fu:=Et c2 q2 (Hn (a:=a) (M5 x hx));have hrn:Pu.eqT ah (rf 2) (.tup [.str [114,101,102,117,115,101,100],.int 2])=aa (.bl aj):=rfl;obtain⟨i0,i1,il⟩:=vw_facts w ls;have ho:a9 (.int w) (.int 1)=aa (.int ((w+1:Nat):Int)):=rfl;have st:∀{r:R aR},((bd (dP (dB (d2 (Pu.eqT aj) (dV 4) (dC (.int 5)))) (cH (d2 (Pu.eqT aj) (bj (a8 (iN a) (gV (dV 3) (Pu.bB)))) (dL bi (ar (dC (.str [114,101,102,117,115,101,100])) (ar (dC (.int 1)) (aC)))))) (eQ)) (bd (cO 5 (dF (cz [4] (cg (bj (a8 (rT a) (gV (dV 3) (Pu.bB))))) (dH) (bj (a8 (jn a) (gV (dV 0) (gV (dV 1) (Pu.bB)))))))) (cH (d2 (Pu.eqT aj) (bj (a8 (iN a) (gV (dV 3) (Pu.bB)))) (dF (dL sortSetVP (ar (dF (cz [4] (cg (dV 5)) (dB (d2 (Pu.eqT ah) (dV 0) (dL bi (aC)))) (dL bi (ar (dV 1) (ar (dV 0) (aC)))))) (aC)))))))) [bA ns,.own (.lst y1),.val (.int s),.val (bg w ls),.val (.int ((w+1:Nat):Int)),.none]=r)->yaz a [bA ns,.none,.none,.none,.none,.none]=r:=by
  intro r hr;unfold yaz;refine(kC (ε1:=[bA ns,.own (.lst []),.none,.none,.none,.none]) (by simp![])).trans ?_;refine(kC (ε1:=[bA ns,.own (.lst [.int 0]),.val (.int s),.none,.none,.none]) (by simp![hd])).trans ?_;refine(kC (ε1:=[bA ns,.own (.lst ys),.val (.int s),.val (bg w ls),.none,.none]) ?_).trans ?_
  ·generalize bg w ls=V at rA;generalize ((s:Nat):Int)=SP at rA uo;by_cases q:(0:Int)<SP
   ·simp only[q,decide_true,if_true]at uo;subst uo;simp![q,rA]
   ·simp only[q,decide_false,eC,if_false]at uo;subst uo;simp![q,rA]
  refine(kC (ε1:=[bA ns,.own (.lst ys),.val (.int s),.val (bg w ls),.val (.int ((w+1:Nat):Int)),.none]) ?_).trans ?_
  ·generalize ((w+1:Nat):Int)=VI at ho;generalize ((w:Nat):Int)=WI at ho i0;generalize bg w ls=V at i0;simp![i0,ho]
  refine(kC (ε1:=[bA ns,.own (.lst y1),.val (.int s),.val (bg w ls),.val (.int ((w+1:Nat):Int)),.none]) ?_).trans hr;generalize rf 2=Rf at Fu hrn;simp![hodd,Fu,hrn]
 by_cases h1:w=4
 ·have ha:=Et c1 q1 (GW (a:=a) g w1 w4 hs h1);have he:Pu.eqT aj (.int ((w+1:Nat):Int)) (.int 5)=aa (.bl ah):=eq_yes (k:=5) ∅;have gf:Pu.eqT aj (rf 1) (.tup [.str [114,101,102,117,115,101,100],.int 1])=aa (.bl ah):=rfl;have hb:=st (r:=.ok (.ret (.val (.bl ah))) [bA ns,.own (.lst y1),.val (.int s),.val (bg w ls),.val (.int ((w+1:Nat):Int)),.none]) (by generalize ((w+1:Nat):Int)=VI at he;generalize bg w ls=V at ha;generalize rf 1=Rf at ha gf;simp![he,ha,gf]);simp[pt,bD,fq,bC,bV,hb,back,gr,bh,R.bind]
 have he:Pu.eqT aj (.int ((w+1:Nat):Int)) (.int 5)=aa (.bl aj):=eq_no (k:=5) ∅;have h9':=g.few;have h0':=g.some;have fg:=KU (a:=a) g w1 w4 hs;have h60:∀t∈bJ w ls,t.length<=60:=λt ht=>by have:=(rE w1 g.some (λx hx=>⟨g.len x hx,g.abc x hx⟩) ht).1;lia
 have rB:=MZ (a:=a) (v:=w+1) h60 (bA ns) (.own (.lst y1)) (.val (.int s)) (.val (bg w ls)) .none;have ei:iq (.lst (ao (bJ w ls)))=aa (ao (bJ w ls)):=rfl;have ei2:iq (.lst ((bJ w ls).map λt=>PV.tup (ao (aY (aW t (w+1))))))=aa ((bJ w ls).map λt=>PV.tup (ao (aY (aW t (w+1))))):=rfl;obtain⟨RV,VV,sl,ha,ur,um,hA0,heq⟩:∃(RV VV:List PV) (sl:Slot),iN a [.val (bg w ls)]=.ok sl [.val (bg w ls)] /\
   im [4] (dB (d2 (Pu.eqT ah) (dV 0) (dL bi aC))) (dL bi (ar (dV 1) (ar (dV 0) aC))) ((bJ w ls).map λt=>PV.tup (ao (aY (aW t (w+1))))) [] [bA ns,.own (.lst y1),.val (.int s),.val (bg w ls),.val (.int ((w+1:Nat):Int)),.val (.lst ((bJ w ls).map λt=>PV.tup (ao (aY (aW t (w+1))))))] =
    .ok VV [bA ns,.own (.lst y1),.val (.int s),.val (bg w ls),.val (.int ((w+1:Nat):Int)),.val (.lst ((bJ w ls).map λt=>PV.tup (ao (aY (aW t (w+1))))))] /\
   sortSetVP [.lst VV]=aa (.lst RV)/\(sl=.val (.lst RV)\/(sl=.own (.lst [])/\RV=[]))/\Pu.eqT aj (.lst RV) (.lst RV)=aa (.bl ah):=by
  by_cases h9:ls.length=1
  ·refine⟨[],[],_,KZ (MV (a:=a) g w1 w4 hs h1 h9),Jz (λt ht=>?_) _ _ _ _ _,Nt,.inr ⟨rfl,rfl⟩,rfl⟩;have hl:=(rE w1 g.some (λx hx=>⟨g.len x hx,g.abc x hx⟩) ht).1;have:aW t (w+1)=[]:=oH (by rw[Dy ∅];lia);rw[this];exact vH List.Pairwise.nil
  ·have wY:∀t∈bJ w ls,w+1<=t.length:=long g w1 ∅;exact⟨_,_,_,Ll (zg (a:=a) g w1 w4 hs h1 h9),FH (v:=w+1) ∅ wY _ _ _ _ _,sortV_eq (w:=w+1) (T:=bJ w ls) ∅ wY (few g w1),.inl rfl,eqT_vwL (w+1) (bJ w ls)⟩
 have hb:=st (r:=.ok (.ret (.val (.bl ah))) [bA ns,.own (.lst y1),.val (.int s),.val (bg w ls),.val (.int ((w+1:Nat):Int)),.val (.lst ((bJ w ls).map λt=>PV.tup (ao (aY (aW t (w+1))))))]) (by
  generalize ((bJ w ls).map λt=>PV.tup (ao (aY (aW t (w+1)))))=RW at rB ur ei2 ⊢;generalize ((w+1:Nat):Int)=VI at he rB ur ⊢;generalize ao (bJ w ls)=TP at fg rB ei;generalize bg w ls=V at ha fg rB ur ⊢;generalize ((s:Nat):Int)=SP at rB ur ⊢;refine(kC (ε1:=[bA ns,.own (.lst y1),.val (.int SP),.val V,.val (.int VI),.none]) (by simp![he])).trans ?_;refine(kC (ε1:=[bA ns,.own (.lst y1),.val (.int SP),.val V,.val (.int VI),.val (.lst RW)]) (by simp![fg,cz,cg,ei,rB])).trans ?_;have hA:(bj (a8 (iN a) (gV (dV 3) (Pu.bB)))) [bA ns,.own (.lst y1),.val (.int SP),.val V,.val (.int VI),.val (.lst RW)]=.ok (.lst RV) [bA ns,.own (.lst y1),.val (.int SP),.val V,.val (.int VI),.val (.lst RW)]:=by rcases hA0 with rfl|⟨rfl,rfl⟩ <;> simp![ha]
  have hI:cg (dV 5) [bA ns,.own (.lst y1),.val (.int SP),.val V,.val (.int VI),.val (.lst RW)]=.ok RW [bA ns,.own (.lst y1),.val (.int SP),.val V,.val (.int VI),.val (.lst RW)]:=by simp![cg,ei2]
  have hC:(dF (cz [4] (cg (dV 5)) (dB (d2 (Pu.eqT ah) (dV 0) (dL bi (aC)))) (dL bi (ar (dV 1) (ar (dV 0) (aC)))))) [bA ns,.own (.lst y1),.val (.int SP),.val V,.val (.int VI),.val (.lst RW)]=.ok (.lst VV) [bA ns,.own (.lst y1),.val (.int SP),.val V,.val (.int VI),.val (.lst RW)]:=by unfold dF cz;rw[hI];simp only[R.bind];rw[ur];rfl
  have hS:(dF (dL sortSetVP (ar (dF (cz [4] (cg (dV 5)) (dB (d2 (Pu.eqT ah) (dV 0) (dL bi (aC)))) (dL bi (ar (dV 1) (ar (dV 0) (aC)))))) (aC)))) [bA ns,.own (.lst y1),.val (.int SP),.val V,.val (.int VI),.val (.lst RW)]=.ok (.lst RV) [bA ns,.own (.lst y1),.val (.int SP),.val V,.val (.int VI),.val (.lst RW)]:=by have h1:=LG (Jk hC HB) um;show((dL sortSetVP _) _).bind _=_;rw[h1];rfl
  have hD:=Kg (f:=Pu.eqT aj) hA hS heq;unfold cH;rw[hD];rfl)
 simp[pt,bD,fq,bC,bV,hb,back,gr,bh,R.bind]
end
open L2 Pu Sh
def sB(K:ax)(a:Ad):Bool:=ng K a.SlitError se "ValueError.__new__" && (gx a).all (λx=>ng K x se "ValueError.__new__" && subB K a.SlitError x&&vd K x&&(gx a).all (λd=>d4 K (.ref x) (.ref d) == aa (x == d))&&d4 K (.ref x) (.type "ValueError") == aa ah)&&xf K&&decide (gx a).Nodup
section
variable{K:ax}{h base:aA}{mg:Str->Option ai}{a:Ad}
theorem rQ(h:sB K a=ah):ng K a.SlitError se "ValueError.__new__" = ah/\(∀x∈gx a,ng K x se "ValueError.__new__" = ah/\subB K a.SlitError x=ah/\vd K x=ah/\(∀d∈gx a,d4 K (.ref x) (.ref d)=aa (x == d))/\d4 K (.ref x) (.type "ValueError")=aa ah)/\xf K=ah/\(gx a).Nodup:=by unfold sB at h;simp only[fB,k6,beq_iff_eq,decide_eq_true_eq]at h;obtain⟨⟨⟨h1,h2⟩,h3⟩,h4⟩:=h;exact⟨h1,λx hx=>⟨(h2 x hx).1.1.1.1,(h2 x hx).1.1.1.2,(h2 x hx).1.1.2,(h2 x hx).1.2,(h2 x hx).2⟩,h3,h4⟩
theorem KB(h:sB K a=ah):xS K (ik a):=by
 obtain⟨_,h2,_,_⟩:=rQ h;intro c D b e;unfold ik at e;split at e
 ·rename_i x d;split at e
  ·rename_i hc;rw[fB]at hc;cases e;have hx:x∈gx a:=by simpa using hc.1
   have hd:d∈gx a:=by simpa using hc.2
   exact⟨x,.ref d,rfl,BI (h2 x hx).2.2.1,rfl,(h2 x hx).2.2.2.1 d hd⟩
  ·cases e
 ·rename_i x T;split at e
  ·rename_i hc;rw[fB]at hc;cases e;have hx:x∈gx a:=by simpa using hc.1
   have hT:T = "ValueError":=by simpa using hc.2
   subst hT;exact⟨x,.type "ValueError",rfl,BI (h2 x hx).2.2.1,rfl,(h2 x hx).2.2.2.2⟩
  ·cases e
 ·cases e
theorem Lf(X:K.In base)(h:sB K a=ah):∀c,lr a c=ah->Under base a.SlitError c:=by
 obtain⟨_,h2,_,_⟩:=rQ h;intro c e;unfold lr at e;split at e
 ·rename_i x;have hx:x∈gx a:=by simpa using e
  exact HQ X (h2 x hx).1 (h2 x hx).2.1
 ·cases e
structure Top(K:ax)(a:Ad):Prop where
 yaC:cK K "_law_cell_at" xq
 yaE:cK K "_law_mixed" xi
 yaD:cK K "_law_draw" yn
 yaH:cK K "_law_seen" uz
 yaG:cK K "_law_pick" zj
 yaI:cK K "_law_text" x_
 yaK:cK K "_law_view" xF
 yaw:cK K "is_whole_number" xN
 yax:cK K "is_width" zw
 yas:cK K "has_only" uS
 yay:cK K "is_window" yY
 yan:cK K "are_windows" uV
 yav:cK K "is_view_with" yS
 yau:cK K "is_view" yA
 yap:cK K "check_view" zy
 yat:cK K "is_text_up_to" y9
 yao:cK K "check_text" zq
 yaq:cK K "check_width" zC
 yaP:cK K "view_of" xI
 yaM:cK K "pieces" u5
 yaN:cK K "text_view" xK
 yam:cK K "add_endings" xV
 yar:cK K "counted" xB
 yaO:cK K "texts" wb
 yaQ:cK K "wider" vp
 yaL:cK K "_law_which" xX
 yaB:cK K "_law_ask" xL
 yaF:cK K "_law_odd" zu
 yaJ:cK K "_law_under" v7
 yaA:cK K "_law_all" rK
 yaz:cK K "law" o7
 yaR:cD K bQ "ValueError" = aa ae
 yaS:cD K bQ "all" = aa ae
 yaT:cD K bQ "any" = aa ae
 yaU:cD K bQ "bool" = aa ae
 yaV:cD K bQ "int" = aa ae
 yaW:cD K bQ "isinstance" = aa ae
 yaX:cD K bQ "len" = aa ae
 yaY:cD K bQ "list" = aa ae
 yaZ:cD K bQ "range" = aa ae
 ya0:cD K bQ "set" = aa ae
 ya1:cD K bQ "sorted" = aa ae
 ya2:cD K bQ "str" = aa ae
 ya3:cD K bQ "tuple" = aa ae
 ya7:∃t,cD K bQ "LETTERS" = aa (aa (.str (tS [97,98,99]) t))
 ya8:∃t,cD K bQ "MOST_LETTERS" = aa (aa (.int 12 t))
 ya9:∃t,cD K bQ "MOST_WINDOWS" = aa (aa (.int 9 t))
 yba:∃t,cD K bQ "WIDEST" = aa (aa (.int 4 t))
 yak:cD K bQ "SlitError" = aa (aa (.ref a.SlitError))
 yaf:cD K bQ "NoText" = aa (aa (.ref a.NoText))
 yah:cD K bQ "NoWidth" = aa (aa (.ref a.NoWidth))
 yag:cD K bQ "NoView" = aa (aa (.ref a.NoView))
 yai:cD K bQ "NoWindow" = aa (aa (.ref a.NoWindow))
 yac:cD K bQ "Never" = aa (aa (.ref a.Never))
 yab:cD K bQ "Full" = aa (aa (.ref a.Full))
 yaj:cD K bQ "Nothing" = aa (aa (.ref a.Nothing))
 yal:cD K bQ "Unlike" = aa (aa (.ref a.Unlike))
 yae:cD K bQ "NoPlace" = aa (aa (.ref a.NoPlace))
 yad:cD K bQ "NoLetters" = aa (aa (.ref a.NoLetters))
 yaa:cD K bQ "BadText" = aa (aa (.ref a.BadText))
 ck:sB K a=ah
 z0:ot K "road" = ae
 wh:Wh a
theorem HX(T:Top K a)(X:K.In base)(G:base.Ns bQ mg):cQ K mg base a:=by
 have C:=(rQ T.ck).2.1;have E1:=Mh X (rQ T.ck).1;have U1:=Lf X T.ck;have T1:=KB T.ck;cases T;constructor
 all_goals first|assumption|exact cK.at (by assumption) X G|exact PySem.W.mg_none_of X G (by assumption)|exact wK X G (by assumption)|exact Hi X (wK X G (by assumption)) (C _ (by simp[gx])).1|exact Exists.imp (λ_ e=>wK X G e) (by assumption)
theorem Jh{l:zS}{w:aF}{fa:af}(X:K.In h)(G:h.Ns bQ mg)(hfa:mg "law" = aa (.ref fa))(T:Top K a):∃fd:f8,(∀(s:am) (v:ai),BindsTo s fd ⟨[v],[]⟩ [("_law_script",v)])/\∀base:aA,K.In base->base.Ns bQ mg->jM l.prog w K mg base (cf l.prog w) 17 fa fd ["_law_script"] (bE K (pt a)):=by
 obtain⟨f,oc,od,kV,dc,pm,an,cd,ct,sl,e1,e2,e3,e4⟩:=T.yaz;have e:=hfa.symm.trans (wK X G e1);cases e;exact⟨_,λs v=>.of_eq rfl,λbase XB GB=>JW (HX T XB GB) (Du e2 e3 e4)⟩
theorem IF{l:zS}{q:aM}{loose:List Str}{XP:(Str->Option ai)->aA->Prop}{YP:aF->aA->Prop}{d:DefRec}{K:Params->ax}(hn:l.most=aa 63)(oU:d.params.defaults=[])(hnm:d.name = "law")(hY:∀(w:aF) (h:aA),YP w h->(K w.params).In h) {a:Ad} (T:∀w:aF,Top (K w.params) a):PySem.W.WalkO q loose XP YP l.row.toRowW d [] (λf vs=>PySem.call f vs) :=
 L2.Oy (n:=63) (k:=17) (x:="_law_script") (K:=K) (CX:=λw=>cf l.prog w) (sp:=λw=>bE (K w.params) (pt a)) hn (by decide) oU ⟨rfl,by decide,by decide⟩ (λw h Y=>⟨hY w h Y,λc P e=>by rw[(T w).z0]at e;cases e⟩)
  (λw mg fa h KX G tP=>Jh KX G (by rw[←hnm];exact tP) (T w))
  (λw H b ns hl _ hS=>MD (LX (rQ (T w).ck).2.2.1 hS) (JP (T w).wh ns))
  (λw H s e s' z=>by obtain⟨_,_,_,_,_,_,_,_,_,_,_,f⟩:=z;exact f)
theorem Ov{l:zS}{q:aM}{loose:List Str}{XP:(Str->Option ai)->aA->Prop}{YP:aF->aA->Prop}{d:DefRec}{K:Params->ax}{yak yaf yah yag yai yac yab yaj yal yae yad yaa:af}(hn:l.most=aa 63)(oU:d.params.defaults=[])(hnm:d.name = "law")(hY:∀(w:aF) (h:aA),YP w h->(K w.params).In h) (T:∀w:aF,Top (K w.params) ⟨yak,yaf,yah,yag,yai,yac,yab,yaj,yal,yae,yad,yaa,0,0⟩):PySem.W.WalkO q loose XP YP l.row.toRowW d [] (λf vs=>PySem.call f vs):=IF hn oU hnm hY T
end
end K23
def PySem.W.Fast.tw46729196591478479:Nat:=0
def PySem.W.Fast.tw16507728813196728944:Nat:=0
def PySem.W.Fast.tw6857750073557133170:Nat:=0
def PySem.W.Fast.tw1152609431109449583:Nat:=0
def PySem.W.Fast.tw1667003414350381845:Nat:=0
def PySem.W.Fast.tw15625462757568935325:Nat:=0
def PySem.W.Fast.tw16013867666915780148:Nat:=0
def PySem.W.Fast.tw16475608223740002898:Nat:=0
def PySem.W.Fast.tw11957745460020134677:Nat:=0
def PySem.W.Fast.tw1732359250540825312:Nat:=0
def PySem.W.Fast.tw13534083597799003428:Nat:=0
def PySem.W.Fast.tw15420593528215289674:Nat:=0
def PySem.W.Fast.tw6899379013799817739:Nat:=0
def PySem.W.Fast.tw15296371696717478426:Nat:=0
def PySem.W.Fast.tw1833350949469455301:Nat:=0
def PySem.W.Fast.tw13927163450166096807:Nat:=0
def PySem.W.Fast.tw255404480595223694:Nat:=0
def PySem.W.Fast.tw11879984190790719550:Nat:=0
def PySem.W.Fast.tw8555184841971899237:Nat:=0
def PySem.W.Fast.tw5417141296504991228:Nat:=0
def PySem.W.Fast.tw9197987515331580034:Nat:=0
def PySem.W.Fast.tw9241067330815780684:Nat:=0
def PySem.W.Fast.tw6066067524988736648:Nat:=0
def PySem.W.Fast.tw16593978072659339631:Nat:=0
def PySem.W.Fast.tw5603241875330647005:Nat:=0
def PySem.W.Fast.tw16282549454053963299:Nat:=0
def PySem.W.Fast.tw17967100794882110637:Nat:=0
def PySem.W.Fast.tw13891625256028494787:Nat:=0
def PySem.W.Fast.tw3734348271668190536:Nat:=0
def PySem.W.Fast.tw9524853873806509081:Nat:=0
def PySem.W.Fast.tw6710449702338264039:Nat:=0
def PySem.W.Fast.tw6503250212935341162:Nat:=0
def PySem.W.Fast.tw8299613040436522487:Nat:=0
def PySem.W.Fast.tw15785211157712219455:Nat:=0
def PySem.W.Fast.tw14813504224589692910:Nat:=0
def PySem.W.Fast.tw10713406285800928202:Nat:=0
def PySem.W.Fast.tw15563011291641217738:Nat:=0
def PySem.W.Fast.tw16782305896475935446:Nat:=0
def PySem.W.Fast.tw10449498433035510488:Nat:=0
def PySem.W.Fast.tw1903566907660720915:Nat:=0
def PySem.W.Fast.tw12626751177686819271:Nat:=0
def PySem.W.Fast.tw12983047801191410812:Nat:=0
def PySem.W.Fast.tw1778276853322747064:Nat:=0
def PySem.W.Fast.tw12348219847937081524:Nat:=0
def PySem.W.Fast.tw7258706209571213423:Nat:=0
def PySem.W.Fast.tw12997869492824596953:Nat:=0
def PySem.W.Fast.tw6865706145780792304:Nat:=0
def PySem.W.Fast.tw7895203432968615431:Nat:=0
def PySem.W.Fast.tw9444588790895548848:Nat:=0
def PySem.W.Fast.tw17837733753258650243:Nat:=0
def PySem.W.Fast.tw15810344443588975234:Nat:=0
def PySem.W.Fast.tw17554244804036308194:Nat:=0
def PySem.W.Fast.tw16740080323194007041:Nat:=0
def PySem.W.Fast.tw15681661055097296169:Nat:=0
def PySem.W.Fast.tw8593259301194742365:Nat:=0
def PySem.W.Fast.tw2102294352926561671:Nat:=0
def PySem.W.Fast.tw6991234506799255985:Nat:=0
def PySem.W.Fast.tw9376449642929303884:Nat:=0
def PySem.W.Fast.tw3671902074244349337:Nat:=0
def PySem.W.Fast.tw910465084830691117:Nat:=0
open PySem PySem.W PyProof.Rows
set_option maxRecDepth 100000 in
set_option maxHeartbeats 0 in
theorem PySem.Challenge.cw_slitview_k23_whole_wider_holds : PySem.Challenge.rw_slitview_k23_whole_wider.Holds := by
 w_on; o_law; k_head; (case hw=>w_witness2)
 k_fill
 refine' K23.Ov (l:=PySem.Challenge.rw_slitview_k23_whole_wider) rfl rfl rfl (fun w h Y=>PySem.W.kIn_of Y) ?T
 case T =>
  intro w
  constructor
  iterate 31 (case _=>refine' Pu.Oa ?qa ?ql ?qc ?qk; (case qa=>k_is); (case ql=>k_is); (case qc=>k_is); (case qk=>k_is))
  iterate 13 (case _=>k_is)
  (case _=>refine' Pu.Oo ?e; (case e=>k_is))
  iterate 3 (case _=>refine' Pu.Ot ?e; (case e=>k_is))
  iterate 12 (case _=>k_is)
  (case ck=>kernel_rfl)
  (case z0=>kernel_rfl)
  (case wh=>refine K23.Ou ?_; kernel_rfl)
