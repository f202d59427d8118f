import PyProof.Rows.All
import Wide.All
import OpenK.AllK
import Wide.FinOn
import Lean
import PyProof.EqAt
import PyProof.EqKinds
import PyProof.TupleCall
import KE.KIntText
import KE.KDictList
import KE.KDictSum
import PyProof.Rows.Range3
import PyProof.DictWalks
import KE.KMinKey
import PySem.Challenge.RW_slitview_k39_whole_slits_written
noncomputable section
set_option compiler.extract_closed false
local macro_rules | `(∅) => `(by first | lia | omega)
set_option Elab.async false
set_option bootstrap.genMatcherCode false
set_option genSizeOf false
set_option linter.all false
set_option maxRecDepth 100000
local macro_rules | `(tactic| ac_nf) => `(tactic| exact ⟨rfl,rfl,rfl,by decide +kernel,rfl,by decide +kernel,by decide +kernel⟩)
open Option renaming some→aa,none→ae,bind_some→iC,map_some→ux,isSome_iff_exists→xJ,getD_none→Hm,map_eq_some_iff→Hr,getD_some→HZ
open PySem renaming Addr→af,Value→ai,Shared→ao,wpAny_bind→ar,model→au,wpAny→aw,Heap→aA,Expr→aB,starEach→aC,eval→aD,World→aG,Program→aM,wpAny_pure→aQ,Around→aR,Stmt→aY,sizeLine→a9,backTo→bK,mainGlobals→bQ,wpAny_mono→dZ,bootBuiltins→ef,rawInt→et,Scope→eK,compareOp→eN,bindArgs→eO,FuncData→e_,cellsFrom→fk,attributeBase→f9,NameKind→gE,strKind→gF,Keyword→iN,SetTable→jf,binaryOp→jB,swapsWith→j4,codeAny→j5,backToKw→j6,keywordEach→j7,mem_of_lookup→kP,Paired→mx,sysModules→my,isTrue→mE,codeAny_mono→mH,IsPart→mJ,wpAny_newObj_type→mK,setNext→mM,setField→mO,holding→nX,pyIter→nY,sizeLine_eq→nZ,wpAny_holding→n6,sliceBounds→n8,wpAny_rule→oh,builtinsNs→pU,wpAny_truthy_bool→pW,wpAny_field→pY,getItem→pZ,call_meets→p6,standAt→rG,getMethod→rK,wpAny_call→rL,typeIs_str→rM,valueAt→rO,callerA→rP,relayAll→rR,wpAny_setState_of→rS,wpAny_askSetting→rV,wpAny_setField→rW,tupleKind→ug,wpAny_Call_Name_kw→ul,codeAny_builtin→uv,pickOrder→uw,wpAny_passesOwn→xE,behindInMarks→xF,wpAny_call_entry→xL,setsByText→xX,wpAny_ite_split→xY,setFlight→x0,letOwnedTupleGo→Bp,foldedSetIterable→Bq,subscripted→BA,plainId_quiet→BL,excClassObj→BP,Within→G_,wpAny_execs_cons→Hb,tupleKind_room_in1→Hs,wpAny_pyIter_list→Hu,checkBuiltinCall→Hz,wpAny_loadPart_at→HE
open Bool renaming true→ah,false→ak,and_eq_true→fc,false_ne_true→f8,false_eq_true→p_,eq_iff_iff→rJ,false_xor→sd,true_and→BI,or_eq_true→BK,eq_false_iff→BR,not_eq_true'→HI
open PySem.W renaming Frag→aq,nsIn→cD,mg_of→eQ,fnOf→fq,kitOne→gX,findIn→ie,keepIn→jC,mg_none_of→kb,kia_one→kN,tabIn→nW,emptyDict→n4,excIn→oj,instObj→pT,codeIn→pX,InstAt→uj,isFn→xG,mroIn→xH,callWith_K→xI,lookIn→Br,plainGet→Bs,OpenLaw→BG,clsIn→BQ,methodObj→Ha,hasDictIn→He,plainGet_of→Hf,looks_findIn→Hg,specialIn→Hh,methodCall_KW→Hj,cellsFrom_some→Hk
open PyProof.Rows renaming wpS_bind→aI,wpS_pure→aS,pendingOf→bo,SortSt→bz,StrsAre→eB,envOfC→f_,wpS_mono→gH,wpS_forRange→gI,size_push'→jG,seqObj→kS,wpS_get→kU,AllBare→mz,wpS_modify→mR,OwnCls→qa,wpS_lift→rY,subscriptTail→Bz,listUpdate_at→BX,callWith_type1→Hc,slot_tuple_getitem→QV
open List renaming replicate→aU,range→bJ,mem_cons→bV,getElem?_set_ne→cg,getElem?_eq_some_iff→cu,getElem?_set_self→cA,size_toArray→cC,length_map→cX,length_cons→dq,length_append→dr,mem_map→dW,mem_append→eM,map_map→eP,map_cons→fI,getElem?_append_left→fJ,getElem?_eq_getElem→fK,length_set→fL,append_assoc→gb,append_nil→gD,mem_singleton→gG,map_congr_left→iB,lookup→jd,lookup_cons→je,getElem?_eq_none→jg,mem_cons_of_mem→jA,length_take→jD,getElem?_append_right→jE,length_drop→jF,nodup_cons→j8,getElem?_map→j9,find?_cons→j_,ext_getElem?→ka,mem_append_right→kM,length_nil→kR,not_mem_nil→kT,mem_filter→lM,all_eq_true→lP,mem_cons_self→mC,length→mI,map_append→mL,getElem?_drop→mP,nil_append→mS,mem_of_mem_take→mV,foldl_cons→og,take_append_drop→ol,getElem?_take→om,filterMap_cons→pV,any_cons→p0,length_singleton→p7,mem_reverse→qb,dropLast→qc,all_cons→rN,flatMap_cons→r9,mem_of_mem_drop→r_,mem_range→uh,replicate_succ→uo,lookup_append→uq,range_succ→ur,eq_nil_of_length_eq_zero→ut,mem_flatMap→uD,filter_eq_self→uE,any_eq_true→uF,count_cons_of_ne→uG,getElem?_take_of_lt→xK,length_dropLast→xO,filter_cons→xP,range_succ_eq_map→xR,all_map→xS,drop_zero→xT,take_of_length_le→xU,drop_eq_getElem_cons→xZ,getElem_of_mem→yb,mem_replicate→yf,mem_append_left→Bo,of_mem_zip→Bu,mem_of_getElem?→Bv,reverse_cons→BB,flatten_cons→BC,map_nil→BE,getElem?_range→BH,getElem_mem→BJ,take_zero→BN,singleton_append→BS,drop_eq_nil_iff→BU,reverse_append→BV,take_length→BW,length_eq_zero_iff→BY,count_cons_self→B3,take_append_of_le_length→B6,any_eq_false→Hd,toList_toArray→Hv,pairwise_map→Hw,drop_length→HC,dropLast_concat_getLast→HJ,pairwise_append→HK,getElem_drop→HL,getElem_take→HM,reverse_perm→HN,pairwise_reverse→HP,cons_append→HR,flatMap_nil→HS,drop_append_of_le_length→HU,length_erase_of_mem→HV,perm_ext_iff_of_nodup→HW,isEmpty_nil→HX,eraseIdxIfInBounds_toArray→QW,findIdx?_eq_some_iff_getElem→QX,count_eq_zero_of_not_mem→Q0
open Nat renaming le_refl→bp,le_trans→cr,ne_of_lt→dH,lt_of_lt_of_le→gU,lt_irrefl→gW,le_of_eq→lN,lt_succ_self→lO,lt_succ_of_lt→lQ,le_of_lt→mB,zero_le→mG,add_assoc→oi,ne_of_gt→rH,zero_add→rX,lt_add_right→se,le_succ→um,add_right_comm→uA,not_lt→uC,lt_of_le_of_lt→xQ,mod_eq_of_lt→ye,add_sub_cancel_left→yg,lt_trans→BF,lt_of_succ_lt→B8,le_add_right→H_,add_sub_cancel'→Ia
open PySem.Heap renaming get?_push_of_some→bG,lt_size→bP,get?_push_size→cW,SameBut→mD,get?_update_other→p5,get?_update_self→p9,size_push→uk,get?_none_of_le→Bn,size_update→HD
open PySem.Str renaming ofString→b0,empty→n5
open False renaming elim→dU
open Ne renaming symm→eh
open Option.some renaming inj→fj
open Array renaming toList_append→iO,length_toList→mF,getElem_extract→mU,getElem?_eq_some_iff→p8,toList_push→uu,getElem?_toList→xN,getElem?_eq_getElem→BM,perm_iff_toList_perm→HQ
open Int renaming toNat_natCast→kQ,emod_lt_of_pos→HY
open PyProof.Rows.KeyOrd renaming kle_of_klt→kW,kle_refl→mT,kle_trans→uB
open PySem.Obj renaming mapFields→mQ,mapSeq→n_,data_mapFields→uz,isFreed_of_fields→BO
open PySem.Value renaming isStrOf→pR
open List.Perm renaming refl→rQ,append_left→HA
open PySem.SetTable renaming grown→rT,below→QZ
open PySem.PassesOwn renaming never→rZ
open PySem.F renaming excBase_ValueError→r8,plainAttrs_list→uy,slot_dict_get→Ht,slot_str_split→HF,entry_str_split→HG,args_str_split_2→HH
open PySem.Builtin.Str renaming occurrences→ui
open PySem.SeqAt renaming EqAt→xM
open PySem.Heap.SameBut renaming update→xV
open PySem.Around renaming under_plainId→xW
open PySem.Txt renaming split→x_
open Nat.succ renaming inj→ya
open Function renaming comp→yd,comp_def→Hx
open PySem.Calls renaming spliced_cons→Bt,spliced_nil→Hi,callWith_builtin→Hn,evalArgs_plain→Ho
open PySem.Builtin.Slice renaming slicePlaces→Bw,sliceAdjust→Hl
open PySem.Builtin.Tuple renaming tupleExact→By
open PySem.Paired renaming snoc→BD
open List.cons renaming injEq→BZ
open PySem.Builtin.List renaming listTooLong→Hq
open PyProof.Rows.F renaming plain_set_update_loop→Hy,entry_set_update_loop→QY
open PySem.SetTable.below renaming go→HB
open PySem PySem.Spec PyProof.Rows
namespace L2
abbrev aJ:=Sum Int Str
def qX:aJ->ai->Bool
 | .inl k,v=>Value.isInt k v
 | .inr x,v=>pR x v
def Qy(w:aG):aJ->Int
 | .inl k=>hashInt k
 | .inr x=>hashStr w x
theorem mv:∀ {k:aJ} {v:ai},qX k v=ah->(∃ i t,k=Sum.inl i/\v=Value.int i t)\/(∃ x t,k=Sum.inr x/\v=Value.str x t)
 | .inl i,v,h=>by obtain⟨t,e⟩:=Value.isInt_shape (k:=i) (v:=v) h;exact .inl ⟨i,t,rfl,e⟩
 | .inr x,v,h=>by obtain⟨t,e⟩:=Value.isStrOf_shape (x:=x) (v:=v) h;exact .inr ⟨x,t,rfl,e⟩
theorem Jn(i:Int)(t:Tok):qX (.inl i) (.int i t)=ah:=by simp[qX,Value.isInt]
theorem Of(x:Str)(t:Tok):qX (.inr x) (.str x t)=ah:=by simp[qX,pR]
theorem PN(a b:Int):decide ((Sum.inl a:aJ)=Sum.inl b)=(a == b):=by
 by_cases e:a=b
 ·subst e; simp
 ·have h:¬ (Sum.inl a:aJ)=Sum.inl b:=λq=>e (Sum.inl.inj q);rw[decide_eq_false h];exact(beq_eq_false_iff_ne.mpr e).symm
theorem Qa(a b:Str):decide ((Sum.inr a:aJ)=Sum.inr b)=decide (a=b):=by
 by_cases e:a=b
 ·subst e; simp
 ·have h:¬ (Sum.inr a:aJ)=Sum.inr b:=λq=>e (Sum.inr.inj q);rw[decide_eq_false h,decide_eq_false e]
theorem Ky(a:Int)(b:Str):decide ((Sum.inl a:aJ)=Sum.inr b)=ak:=decide_eq_false (λq=>nomatch q)
theorem KP(a:Str)(b:Int):decide ((Sum.inr a:aJ)=Sum.inl b)=ak:=decide_eq_false (λq=>nomatch q)
def iu(prog:aM)(w:aG):PySem.KeyKind prog w aJ where
 is:=qX
 hash:=Qy w
 inj:=λv a b ha hb=>by
  rcases mv ha with⟨i,t,rfl,rfl⟩ | ⟨x,t,rfl,rfl⟩
  ·rcases mv hb with⟨j,u,rfl,e⟩ | ⟨y,u,rfl,e⟩
   ·injection e with e1 _; rw[e1]
   ·exact nomatch e
  ·rcases mv hb with⟨j,u,rfl,e⟩ | ⟨y,u,rfl,e⟩
   ·exact nomatch e
   ·injection e with e1 _; rw[e1]
 byValue:=λk v h=>by rcases mv h with⟨i,t,rfl,rfl⟩ | ⟨x,t,rfl,rfl⟩ <;> rfl
 pyHash:=λhv h=>by
  rcases mv hv with⟨i,t,rfl,rfl⟩ | ⟨x,t,rfl,rfl⟩
  ·exact wpAny_pyHash_int h
  ·exact wpAny_pyHash_str h
 eqBool:=λhu hv h=>by
  rcases mv hu with⟨i,t,rfl,rfl⟩ | ⟨x,t,rfl,rfl⟩
  ·rcases mv hv with⟨j,u,rfl,rfl⟩ | ⟨y,u,rfl,rfl⟩
   ·rw[PN]at h; exact wpAny_eqBool_int h
   ·rw[Ky]at h; exact SeqAt.EqAt.int_str i t y u _ _ _ _ h
  ·rcases mv hv with⟨j,u,rfl,rfl⟩ | ⟨y,u,rfl,rfl⟩
   ·rw[KP]at h; exact SeqAt.EqAt.str_int x t j u _ _ _ _ h
   ·rw[Qa]at h; exact wpAny_eqBool_str h
 «strs»:=λk x t v h=>by
  rcases mv h with⟨i,u,rfl,e⟩ | ⟨y,u,rfl,e⟩
  ·exact nomatch e
  ·injection e with e1 _;subst e1;cases v <;> rfl
theorem IK(prog:aM)(w:aG)(i:Int)(t:Tok):(iu prog w).is (.inl i) (.int i t)=ah:=Jn i t
theorem KR(prog:aM)(w:aG)(x:Str)(t:Tok):(iu prog w).is (.inr x) (.str x t)=ah:=Of x t
inductive V where
 | non | bl (b:Bool) | int (i:Int) | str (x:Str) | byt (b:Array UInt8) | flt (b:UInt64) | ref (a:af) | ty (n:String)
 deriving DecidableEq
def RelV:V->ai->Prop
 | .non,u=>u=Value.none
 | .bl b,u=>u=Value.bool b
 | .int i,u=>∃ t,u=Value.int i t
 | .str x,u=>∃ t,u=Value.str x t
 | .byt b,u=>∃ t,u=Value.bytes b t
 | .flt b,u=>∃ t,u=Value.float b t
 | .ref a,u=>u=Value.ref a
 | .ty n,u=>u=Value.type n
abbrev bd:List V->List ai->Prop:=mx RelV
theorem bd.length{xs:List V}{us:List ai}(r:bd xs us):xs.length=us.length:=Paired.length r
theorem bd.get:∀ {xs:List V} {us:List ai} {i:Nat} {x:V},bd xs us->xs[i]?=aa x->∃ u,us[i]?=aa u/\RelV x u
 | _,_,_,_,.nil,e=>by simp at e
 | _,_,0,_,.cons r _,e=>by simp at e; subst e; exact⟨_,rfl,r⟩
 | _,_,i+1,x,.cons _ t,e=>by obtain⟨u,h1,h2⟩:=bd.get (i:=i) (x:=x) t (by simpa using e);exact⟨u,by simpa using h1,h2⟩
theorem bd.set{x:V}{u:ai}(r:RelV x u):∀ {xs:List V} {us:List ai} (i:Nat),bd xs us->bd (xs.set i x) (us.set i u)
 | _,_,_,.nil=>.nil
 | _,_,0,.cons _ t=>.cons r t
 | _,_,i+1,.cons q t=>.cons q (bd.set r i t)
theorem bd.append:∀ {xs ys:List V} {us ws:List ai},bd xs us->bd ys ws->bd (xs++ys) (us++ws)
 | _,_,_,_,.nil,s=>s
 | _,_,_,_,.cons r t,s=>.cons r (bd.append t s)
theorem bd.take:∀ {xs:List V} {us:List ai} (n:Nat),bd xs us->bd (xs.take n) (us.take n)
 | _,_,0,_=>.nil
 | _,_,_+1,.nil=>.nil
 | _,_,n+1,.cons r t=>.cons r (bd.take n t)
theorem bd.drop:∀ {xs:List V} {us:List ai} (n:Nat),bd xs us->bd (xs.drop n) (us.drop n)
 | _,_,0,r=>r
 | _,_,_+1,.nil=>.nil
 | _,_,n+1,.cons _ t=>bd.drop n t
def lK:Option V->Option ai->Prop
 | some v,aa u=>RelV v u
 | none,ae=>True
 | _,_=>False
def KV{κ:Type}:List (κ×V)->List (κ×ai)->Prop:=mx λ(p:κ×V) (q:κ×ai)=>p.1=q.1/\RelV p.2 q.2
def kV:aJ->V
 | .inl i=>.int i
 | .inr x=>.str x
inductive HO where
 | lst (xs:List V)
 | tup (xs:List V)
 | dK (kvs:List (aJ×V)) | dT (kvs:List (List aJ×V))
 | set (S:Int->Bool) (n:Nat)
 | ins (C dx:af) (fs:List (Str×V))
 | own (x:af)
 | xd (fs:List (Str×V))
 | met (f x:af)
 | rng (lo hi:Int)
 | frz (o:Obj) (u:HO)
 | tbl (q:Str)
 | ext (φ:aA->Prop)
abbrev Hp:=af->Option HO
def upd(H:Hp)(a:af)(o:HO):Hp:=λb=>if b=a then aa o else H b
theorem b_{H:Hp}{a:af}{o:HO}:upd H a o a=aa o:=by unfold upd; rw[if_pos rfl]
theorem bw{H:Hp}{a b:af}{o:HO}(h:b≠a):upd H a o b=H b:=by unfold upd; rw[if_neg h]
theorem IY{H:Hp}{a b:af}{o u:HO}(h:H a=aa o)(h':H b=aa u)(d:o≠u):a≠b:=by intro e; subst e; rw[h]at h'; exact d (fj h')
theorem kn{H:Hp}{a b:af}{o:HO}(h:H a=aa o)(h':H b=ae):a≠b:=by
 intro e; subst e; rw[h]at h'; cases h'
def G8(h:aA)(a:af)(items:Array ai):Prop:=IsTup h a items/\∃ o,h.get? a=aa o/\o.dict=ae
theorem G8.new(h:aA)(its:Array ai):G8 (h.push { cls:=.type "tuple",data:=.seq its }) h.objs.size its:=⟨IsTup.new _ _,_,cW _ rfl,rfl⟩
section
variable(P:aM)(w:aG)
def dw(H:Hp)(h:aA)(a:af):HO->Prop
 | .lst xs=>xs.length<=a9/\∃ (its:List ai) (n:Nat),bd xs its/\h.get? a=aa { cls:=.type "list",data:=.seq its.toArray n }
 | .tup xs=>xs.length<=a9/\∃ its:List ai,bd xs its/\G8 h a its.toArray
 | .dK kvs=>kvs.length<=a9/\(a == my)=ak/\∃ vs,KV kvs vs/\h.DictOf (iu P w) a vs
 | .dT kvs=>kvs.length<=a9/\(a == my)=ak/\∃ xs:List (List aJ×af×ai),
   mx (λ(p:List aJ×V) (q:List aJ×af×ai)=>p.1=q.1/\H q.2.1=aa (.tup (p.1.map kV))/\RelV p.2 q.2.2) kvs xs /\
   ∃ o es ep,h.get? a=aa o/\o.ExactDict/\o.data = .dict es ep/\es.toList=xs.map (entryOfKey (ug (iu P w)))/\(xs.map (·.1)).Nodup
 | .set S n=>h.SetOf (intKind P w) a S n
 | .ins C dx fs=>H dx=aa (.own a)/\fs.length<=1000/\dx≠a/\h.get? a=aa (pT C dx) /\
   ∃ mA,h.Ns1 dx mA/\(∀ f,lK (fs.lookup f) (mA f))/\G_ mA (fs.map (·.1))
 | .own _=>∃ o,h.get? a=aa o
 | .xd fs=>∃ mA,h.Ns1 a mA/\∀ f,lK (fs.lookup f) (mA f)
 | .rng lo hi=>∃ t u v,h.get? a=aa { cls:=.type "range",data:=.fields #[.int lo t,.int hi u,.int 1 v] }
 | .frz o u=>h.get? a=aa o/\dw H h a u
 | .tbl q=>∃ ps:Array ai,h.get? a=aa { cls:=.none,data:=.fields ps }/\TriplesOk ps.toList/\∀ pos cv,codeAmong pos ps.toList=aa cv->∃ c,cv = .ref c/\H c=aa (.own a)/\h.CodeRec cv q
 | .met f x=>h.get? a=aa (Ha (.ref f) (.ref x))
 | .ext φ=>φ h/\(∃ o,h.get? a=aa o)/\∀ h1 h2:aA,φ h1->(∀ o,h1.get? a=aa o->h2.get? a=aa o)->φ h2
def cQ(H:Hp)(h:aA):Prop:=∀ a o,H a=aa o->dw P w H h a o
end
section
variable{P:aM}{w:aG}{H H':Hp}{h h':aA}{a:af}{o:HO}
theorem dw.lt(x:dw P w H h a o):a<h.objs.size:=by
 cases o with
 | lst xs=>obtain⟨_,_,_,_,e⟩:=x; exact bP e
 | tup xs=>obtain⟨_,_,_,p,_⟩:=x; exact p.lt
 | dK kvs=>obtain⟨_,_,_,_,o,_,_,e,_⟩:=x; exact bP e
 | dT kvs=>obtain⟨_,_,_,_,o,_,_,e,_⟩:=x; exact bP e
 | set S n=>obtain⟨o,_,_,_,e,_⟩:=x; exact bP e
 | ins C dx fs=>obtain⟨_,_,_,e,_⟩:=x; exact bP e
 | own y=>obtain⟨_,e⟩:=x; exact bP e
 | xd fs=>obtain⟨_,⟨_,_,_,e,_⟩,_⟩:=x; exact bP e
 | rng lo hi=>obtain⟨_,_,_,e⟩:=x; exact bP e
 | frz ob u=>obtain⟨e,_⟩:=x; exact bP e
 | tbl q=>obtain⟨_,e,_⟩:=x; exact bP e
 | met f y=>exact bP (show h.get? a=aa _ from x)
 | ext φ=>obtain⟨_,⟨_,e⟩,_⟩:=x; exact bP e
theorem Paired.mapP{α β:Type}{F G:α->β->Prop}:∀ {l₁:List α} {l₂:List β},mx F l₁ l₂->(∀ a b,F a b->G a b)->mx G l₁ l₂
 | _,_,.nil,_=>.nil
 | _,_,.cons r t,f=>.cons (f _ _ r) (Paired.mapP t f)
theorem dw.stay(x:dw P w H h a o)(k:∀ b u,(b=a\/H b=aa (.own a))->h.get? b=aa u->h'.get? b=aa u)(ho:∀ b,H b=aa (.own a)->H' b=aa (.own a)) (ht:∀ b xs,H b=aa (.tup xs)->H' b=aa (.tup xs)):dw P w H' h' a o:=by
 induction o with
 | lst xs=>obtain⟨z,its,n,r,e⟩:=x; exact⟨z,its,n,r,k _ _ (.inl rfl) e⟩
 | tup xs=>obtain⟨z,its,r,⟨ob,e,c⟩,o2,e2,c2⟩:=x; exact⟨z,its,r,⟨ob,k _ _ (.inl rfl) e,c⟩,o2,k _ _ (.inl rfl) e2,c2⟩
 | dK kvs=>obtain⟨z,y,vs,r,ob,es,ep,e,c⟩:=x; exact⟨z,y,vs,r,ob,es,ep,k _ _ (.inl rfl) e,c⟩
 | dT kvs=>obtain⟨z,y,xs,r,ob,es,ep,e,c⟩:=x;exact⟨z,y,xs,Paired.mapP r λp q z=>⟨z.1,ht _ _ z.2.1,z.2.2⟩,ob,es,ep,k _ _ (.inl rfl) e,c⟩
 | set S n=>obtain⟨ob,es,ep,t,e,c⟩:=x; exact⟨ob,es,ep,t,k _ _ (.inl rfl) e,c⟩
 | ins C dx fs=>obtain⟨d,z,ne,e,mA,⟨od,es,ep,e2,c⟩,r⟩:=x;exact⟨ho _ d,z,ne,k _ _ (.inl rfl) e,mA,⟨od,es,ep,k _ _ (.inr d) e2,c⟩,r⟩
 | own y=>obtain⟨ob,e⟩:=x; exact⟨ob,k _ _ (.inl rfl) e⟩
 | xd fs=>obtain⟨mA,⟨od,es,ep,e,c⟩,r⟩:=x; exact⟨mA,⟨od,es,ep,k _ _ (.inl rfl) e,c⟩,r⟩
 | rng lo hi=>obtain⟨t,u,v,e⟩:=x; exact⟨t,u,v,k _ _ (.inl rfl) e⟩
 | frz ob u ih=>obtain⟨e,q⟩:=x; exact⟨k _ _ (.inl rfl) e,ih q⟩
 | tbl q=>
  obtain⟨ps,e,t,g⟩:=x;refine⟨ps,k a _ (.inl rfl) e,t,λpos cv hc=>?_⟩;obtain⟨c,rfl,h1,c2,o,vs,tk,e2,e3,r⟩:=g pos cv hc;cases e2;exact⟨c,rfl,ho c h1,c,o,vs,tk,rfl,k c _ (.inr h1) e3,r⟩
 | met f y=>have e:h.get? a=aa (Ha (.ref f) (.ref y)):=x;show h'.get? a=aa (Ha (.ref f) (.ref y));exact k a _ (.inl rfl) e
 | ext φ=>obtain⟨p,⟨o,e⟩,st⟩:=x; exact⟨st _ _ p λo q=>k _ _ (.inl rfl) q,⟨o,k _ _ (.inl rfl) e⟩,st⟩
theorem cQ.lt(x:cQ P w H h)(e:H a=aa o):a<h.objs.size:=(x a o e).lt
theorem cQ.fresh(x:cQ P w H h)(e:h.objs.size<=a):H a=ae:=by
 cases q:H a with
 | none=>rfl
 | some u=>exact absurd (gU (x.lt q) e) (gW _)
theorem cQ.kept(x:cQ P w H h)(k:∀ b u,h.get? b=aa u->h'.get? b=aa u):cQ P w H h':=λa o e=>(x a o e).stay (λb u _ q=>k b u q) (λ_ q=>q) λ_ _ q=>q
theorem cQ.laid(x:cQ P w H h)(k:∀ b u,h.get? b=aa u->h'.get? b=aa u)(hp:h.objs.size<=a)(new:dw P w (upd H a o) h' a o):cQ P w (upd H a o) h':=λb u e=>by
 have hn:=x.fresh hp;by_cases hb:b=a
 ·subst hb; rw[b_]at e; cases e; exact new
 ·rw[bw hb]at e;exact(x b u e).stay (λc v _ q=>k c v q) (λc q=>by rw[bw (kn q hn)]; exact q) λc xs q=>by rw[bw (kn q hn)]; exact q
end
def Rd(H:Hp)(a:af)(u:HO):Prop:=H a=aa u\/∃ o,H a=aa (.frz o u)
theorem Rd.of{H:Hp}{a:af}{u:HO}(h:H a=aa u):Rd H a u:=.inl h
theorem Rd.ok{P:aM}{w:aG}{H:Hp}{h:aA}{a:af}{u:HO}(r:Rd H a u)(x:cQ P w H h):dw P w H h a u:=by
 rcases r with r | ⟨o,r⟩
 ·exact x a u r
 ·obtain⟨_,q⟩:=x a _ r;exact q
def sY:Option HO->Prop
 | some (.lst _)=>True
 | some (.dK _)=>True
 | some (.dT _)=>True
 | some (.set _ _)=>True
 | some (.ins _ _ _)=>True
 | some (.ext _)=>True
 | _=>False
section
variable{P:aM}{w:aG}{H:Hp}{h h':aA}{x e:af}{o':HO}
theorem cQ.write(ok:cQ P w H h)(mu:sY (H x))(he:e=x\/H e=aa (.own x))(k:∀ b u,b≠e->h.get? b=aa u->h'.get? b=aa u)(si:∃ u,h'.get? e=aa u)(new:dw P w (upd H x o') h' x o'):cQ P w (upd H x o') h':=λb u q=>by
 have nown:∀ c y,H c=aa (.own y)->c≠x:=λc y r z=>by subst z; rw[r]at mu; exact mu
 have ntup:∀ c xs,H c=aa (.tup xs)->c≠x:=λc xs r z=>by subst z; rw[r]at mu; exact mu
 by_cases hb:b=x
 ·subst hb; rw[b_]at q; cases q; exact new
 ·rw[bw hb]at q;by_cases kZ:b=e
  ·have q':H b=aa (.own x):=by
    rcases he with z | z
    ·exact absurd (kZ.trans z) hb
    ·rw[kZ]; exact z
   rw[q]at q'; cases q';obtain⟨v,hv⟩:=si;exact⟨v,by rw[kZ]; exact hv⟩
  ·refine(ok b u q).stay (λc v hc r=>k c v ?_ r) (λc r=>by rw[bw (nown c b r)]; exact r) λc xs r=>by rw[bw (ntup c xs r)]; exact r
   rcases hc with rfl | hc
   ·exact kZ
   ·rintro rfl;rcases he with z | z
    ·exact nown c b hc z
    ·rw[hc]at z; cases z; exact hb rfl
end
structure Un(fs ex:List af)(H H':Hp)(h h':aA):Prop where
 keep:∀ b o,h.get? b=aa o->H b=ae->b∉fs->b∉ex->h'.get? b=aa o
 slot:∀ b o,h.get? b=aa o->H b=ae->b∈fs->b∉ex->∃ sl,h'.get? b=aa { o with slots:=sl }
 free:∀ b o,h.get? b=aa o->H b=ae->b∉ex->H' b=ae
 there:∀ b o,h.get? b=aa o->b∉ex->∃ o',h'.get? b=aa o'
 tups:∀ b xs,H b=aa (.tup xs)->H' b=aa (.tup xs)
 frzs:∀ b o u,H b=aa (.frz o u)->H' b=aa (.frz o u)
 tbls:∀ b q,H b=aa (.tbl q)->H' b=aa (.tbl q)
section
variable{fs fs' ex ex':List af}{H H1 H2:Hp}{h h1 h2 h':aA}{a x e:af}{o:HO}
theorem Un.any(u:Un fs ex H H1 h h1){b:af}{ob:Obj}(q:h.get? b=aa ob)(n:H b=ae)(hx:b∉ex):∃ sl,h1.get? b=aa { ob with slots:=sl }:=by
 by_cases hb:b∈fs
 ·exact u.slot b ob q n hb hx
 ·exact⟨ob.slots,u.keep b ob q n hb hx⟩
theorem Un.trans(a:Un fs ex H H1 h h1)(b:Un fs ex H1 H2 h1 h2):Un fs ex H H2 h h2 where
 keep:=λc ob q n hc hx=>b.keep c ob (a.keep c ob q n hc hx) (a.free c ob q n hx) hc hx
 slot:=λc ob q n hc hx=>by obtain⟨sl,e1⟩:=a.slot c ob q n hc hx;obtain⟨sl',e2⟩:=b.slot c _ e1 (a.free c ob q n hx) hc hx;exact⟨sl',e2⟩
 free:=λc ob q n hx=>by obtain⟨o',e1⟩:=a.there c ob q hx;exact b.free c o' e1 (a.free c ob q n hx) hx
 there:=λc ob q hx=>by obtain⟨o',e1⟩:=a.there c ob q hx;exact b.there c o' e1 hx
 tups:=λc xs q=>b.tups c xs (a.tups c xs q)
 frzs:=λc ob xs q=>b.frzs c ob xs (a.frzs c ob xs q)
 tbls:=λc ps q=>b.tbls c ps (a.tbls c ps q)
theorem Un.kept(k:∀ b u,h.get? b=aa u->h'.get? b=aa u):Un fs ex H H h h' :=⟨λb ob q _ _ _=>k b ob q,λb ob q _ _ _=>⟨ob.slots,k b ob q⟩,λ_ _ _ n _=>n,λb ob q _=>⟨ob,k b ob q⟩,λ_ _ q=>q,λ_ _ _ q=>q,λ_ _ q=>q⟩
theorem Un.refl:Un fs ex H H h h:=Un.kept λ_ _ q=>q
theorem Un.laid(k:∀ b u,h.get? b=aa u->h'.get? b=aa u)(hp:h.objs.size<=a)(hn:H a=ae):Un fs ex H (upd H a o) h h' where
 keep:=λb u q _ _ _=>k b u q
 slot:=λb u q _ _ _=>⟨u.slots,k b u q⟩
 free:=λb u q n _=>by rw[bw (dH (gU (bP q) hp))]; exact n
 there:=λb u q _=>⟨u,k b u q⟩
 tups:=λb xs q=>by rw[bw (kn q hn)]; exact q
 frzs:=λb u xs q=>by rw[bw (kn q hn)]; exact q
 tbls:=λb ps q=>by rw[bw (kn q hn)]; exact q
theorem Un.write(mu:sY (H x))(he:e=x\/H e=aa (.own x))(k:∀ b u,b≠e->h.get? b=aa u->h'.get? b=aa u)(si:∃ u,h'.get? e=aa u):Un fs ex H (upd H x o) h h':=by
 have hx:∀ b,H b=ae->b≠x:=λb n z=>by subst z; rw[n]at mu; exact mu
 have hb:∀ b,H b=ae->b≠e:=λb n z=>by
  subst z;rcases he with r | r
  ·exact hx b n r
  ·rw[n]at r; cases r
 have hm:∀ b u,H b=aa u->¬ sY (aa u)->b≠x:=λb u q nm z=>by subst z; rw[q]at mu; exact nm mu
 refine⟨λb u q n _ _=>k b u (hb b n) q,λb u q n _ _=>⟨u.slots,k b u (hb b n) q⟩,λb u q n _=>by rw[bw (hx b n)]; exact n,λb u q _=>?_,
  λb xs q=>by rw[bw (hm b _ q λz=>z)]; exact q,λb u xs q=>by rw[bw (hm b _ q λz=>z)]; exact q,λb ps q=>by rw[bw (hm b _ q λz=>z)]; exact q⟩
 by_cases kZ:b=e
 ·subst kZ; exact si
 ·exact⟨u,k b u kZ q⟩
theorem Un.mono(u:Un fs ex H H1 h h1)(hs:∀ b∈fs,b∈fs')(hx:∀ b∈ex,b∈ex'):Un fs' ex' H H1 h h1 :=⟨λb ob q n hb he=>u.keep b ob q n (λz=>hb (hs b z)) λz=>he (hx b z),λ_ _ q n _ he=>u.any q n λz=>he (hx _ z),λb ob q n he=>u.free b ob q n λz=>he (hx b z),λb ob q he=>u.there b ob q λz=>he (hx b z),u.tups,u.frzs,u.tbls⟩
end
def wQ(h:aA)(H:Hp):List af:=(bJ h.objs.size).filter λa=>(H a).isSome
def mh(h:aA)(H:Hp):aA:=PySem.W.hideAll h (wQ h H)
theorem Ir(h:aA)(H:Hp):(mh h H).objs.size=h.objs.size:=PySem.W.hideAll_size _ _
theorem Mh{h:aA}{H:Hp}{b:af}{o:Obj}(e:h.get? b=aa o)(n:H b=ae):(mh h H).get? b=aa o :=PySem.W.hideAll_get _ e λhm=>by have q:(H b).isSome=ah:=(lM.mp hm).2;rw[n]at q; simp at q
theorem QQ{h:aA}{H:Hp}{b:af}{o:Obj}(e:(mh h H).get? b=aa o):h.get? b=aa o/\H b=ae:=by
 have e':h.get? b=aa o:=PySem.W.of_hideAll (wQ h H) e;refine⟨e',?_⟩;cases q:H b with
 | none=>rfl
 | some x=>
  have hm:b∈wQ h H:=lM.mpr ⟨uh.mpr (bP e'),by simp[q]⟩;have z:(mh h H).get? b=ae:=PySem.W.hideAll_none (wQ h H) hm;rw[z]at e; cases e
def N1(g h:aA)(L:af):List (af×Obj):=(bJ h.objs.size).filterMap λa=>if a=L\/(g.get? a).isSome=ah then ae else(h.get? a).map λo=>(a,o)
def rest(g h:aA)(L d:af):List (af×Obj):=(N1 g h L).filter λp=>decide (p.1≠d)
structure Mod(K:aq)(mg:Str->Option ai)(base:aA):Prop where
 kin:K.In base
 glob:base.Ns bQ mg
 blt:∃ mb,base.Ns pU mb/\∀ x:Str,x≠"__name__"->mb x=ef x
 nolimit:base.NoLimit
 bm:∃ bm ob,mg "__builtins__" = aa (.ref bm)/\bm≠pU/\base.get? bm=aa ob/\ob.cls = .type "module"/\ob.dict=aa pU/\ob.data = .plain
set_option genInjectivity false in
structure Cx where
 prog:aM
 w:aG
 K:aq
 mg:Str->Option ai
 base:aA
 A:aR
 N:List Str
 s₀:ao
 H₀:Hp
 env:Env
 outer:List Env
 stack:List Env
 ex:List af
 fn:Str->Bool
 calm:Bool
 pn:List (af×Obj)
 xe:ai->ao->Prop
def fg(l:List Env):List af:=l.filterMap (·.frame)
abbrev Cx.fs(X:Cx):List af:=fg X.outer
def c7(sc:eK)(x:Str):Prop:=sc.names.lookup x=aa .local\/sc.names.lookup x=aa .cell\/sc.names.lookup x=aa .free
def Loc(sc:eK)(x:Str):Prop:=sc.names.lookup x=aa .local\/sc.names.lookup x=aa .cell
def Look(env:Env)(h:aA)(m:Str->Option ai)(x:Str)(u:ai):Prop :=(env.kindOf x=aa .local/\m x=aa u)\/((env.kindOf x=aa .cell\/env.kindOf x=aa .free)/\∃ c,env.cells.lookup x=aa c/\h.IsCell c (aa u))
def xq:List Str:=["road"]
def vp(K:aq)(H:Hp):Prop:=∀ x∈xq,∀ c P,nW K x=aa (c,P)->H P=aa (.tbl (x++".<locals>.<lambda>"))
set_option genInjectivity false in
structure Cx.Ok(X:Cx):Prop where
 mod:Mod X.K X.mg X.base
 kind:X.env.scope.kind = .function
 glob:X.env.globals=bQ
 blt:X.env.builtins=pU
 above:X.s₀.heap.objs.size<=X.env.locals
 inj:∀ x y c,X.env.cells.lookup x=aa c->X.env.cells.lookup y=aa c->x=y
 has:∀ x,(X.env.kindOf x=aa .cell\/X.env.kindOf x=aa .free)->∃ c,X.env.cells.lookup x=aa c
 cab:∀ x c,X.fn x=ah->X.env.cells.lookup x=aa c->X.s₀.heap.objs.size<=c
 hd:X.calm=ah->X.A.handled=ae
 frames:X.A.frames=aa X.stack
 stk:X.stack=X.outer\/(X.stack=X.env::X.outer/\X.env.frame=aa X.env.locals)
 exf:∀ b∈X.ex,b≠X.env.locals/\∀ x c,X.env.cells.lookup x=aa c->c≠b
 bs:∀ b o,X.base.get? b=aa o->X.s₀.heap.get? b=aa o/\X.H₀ b=ae
 bsz:X.base.objs.size<=X.s₀.heap.objs.size
 noex:∀ b o,X.base.get? b=aa o->b∉X.ex
 exfs:∀ b∈X.ex,b∉X.fs
 funs:X.s₀.heap.FunFrames X.base X.outer
 frf:∀ b∈X.fs,X.H₀ b=ae
 tab:vp X.K X.H₀
structure Inv(X:Cx)(ag:List (af×Obj))(σ:List (Option V))(H:Hp)(s:ao):Prop where
 ok:X.Ok
 os:s.os=X.s₀.os
 bare:mz s.gens
 base:Un X.fs X.ex X.H₀ H X.s₀.heap s.heap
 loc:∃ m,s.heap.Ns X.env.locals m/\∀ (i:Nat) (x:Str) (v:V),X.N[i]?=aa x->σ[i]?=aa (aa v)->c7 X.env.scope x->∃ u,RelV v u/\Look X.env s.heap m x u
 cell:∀ x c,X.env.cells.lookup x=aa c->∃ v,s.heap.IsCell c v
 free:H X.env.locals=ae
 freeC:∀ x c,X.env.cells.lookup x=aa c->H c=ae
 pin:∀ p∈X.pn++ag,s.heap.get? p.1=aa p.2/\H p.1=ae/\p.1≠X.env.locals/\p.1∉X.fs/\∀ v,p.2.data≠.cell v
 hok:cQ X.prog X.w H s.heap
 len:σ.length=X.N.length
section
variable{X:Cx}{ag:List (af×Obj)}{σ:List (Option V)}{H H':Hp}{s:ao}{h':aA}
theorem Cx.Ok.nofr(ok:X.Ok){b:af}{o:Obj}(e:X.base.get? b=aa o):b∉X.fs:=λhb=>by
 have:=(ok.funs.mem hb).1;rw[e]at this; cases this
theorem Inv.bs(I:Inv X ag σ H s):∀ b o,X.base.get? b=aa o->s.heap.get? b=aa o/\H b=ae:=λb o e=>⟨I.base.keep b o (I.ok.bs b o e).1 (I.ok.bs b o e).2 (I.ok.nofr e) (I.ok.noex b o e),I.base.free b o (I.ok.bs b o e).1 (I.ok.bs b o e).2 (I.ok.noex b o e)⟩
theorem Inv.bk(I:Inv X ag σ H s):∀ b o,X.base.get? b=aa o->s.heap.get? b=aa o:=λb o e=>(I.bs b o e).1
theorem Inv.mod(I:Inv X ag σ H s):Mod X.K X.mg X.base:=I.ok.mod
theorem Inv.kIn(I:Inv X ag σ H s):X.K.In s.heap:=I.ok.mod.kin.keeps I.bk
theorem Inv.nolimit(I:Inv X ag σ H s):s.heap.NoLimit:=I.ok.mod.nolimit.keeps I.bk
theorem Inv.fr(I:Inv X ag σ H s):∃ m,Fr X.base X.env.locals s.heap m :=
 let ⟨m,hn,_⟩:=I.loc
 ⟨m,hn,I.bk,cr I.ok.bsz I.ok.above⟩
theorem Inv.lt(I:Inv X ag σ H s):X.env.locals<s.heap.objs.size:=let ⟨_,hn,_⟩:=I.loc; hn.lt
theorem Inv.sz(I:Inv X ag σ H s):X.s₀.heap.objs.size<=s.heap.objs.size:=cr I.ok.above (mB I.lt)
theorem Inv.nofs(I:Inv X ag σ H s){a:af}(h:s.heap.objs.size<=a):a∉X.fs:=λhb=>by obtain⟨_,o,ho,_⟩:=I.ok.funs.mem hb;exact absurd (gU (bP ho) (cr I.sz h)) (gW _)
theorem Inv.cne(I:Inv X ag σ H s):∀ x c,X.env.cells.lookup x=aa c->c≠X.env.locals:=λx c e z=>by
 obtain⟨v,o,ho,hd⟩:=I.cell x c e;obtain⟨m,⟨o',es,ep,iP,sj,_⟩,_⟩:=I.loc;rw[z,iP]at ho; cases ho; rw[sj]at hd; cases hd
theorem Inv.tab(I:Inv X ag σ H s):vp X.K H:=λx hx c P h=>I.base.tbls P _ (I.ok.tab x hx c P h)
theorem Inv.funs(I:Inv X ag σ H s):s.heap.FunFrames X.base X.outer:=by
 have all:∀ (l:List Env),(∀ b∈fg l,b∈X.fs)->X.s₀.heap.FunFrames X.base l->s.heap.FunFrames X.base l:=by
  intro l
  induction l with
  | nil=>intro _ _; trivial
  | cons env r ih=>intro hs hl;obtain⟨hk,⟨L,o,hf,hn,ho,hd⟩,hr⟩:=hl;have hL:L∈X.fs:=hs L (by unfold fg; rw[pV,hf]; exact mC);obtain⟨sl,e⟩:=I.base.slot L o ho (I.ok.frf L hL) hL λz=>I.ok.exfs L z hL;exact⟨hk,⟨L,_,hf,hn,e,hd⟩,ih (λb hb=>hs b (by unfold fg; rw[pV,hf]; exact jA _ hb)) hr⟩
 exact all X.outer (λ_ hb=>hb) I.ok.funs
theorem Inv.stack(I:Inv X ag σ H s):s.heap.FunFrames X.base X.stack:=by
 rcases I.ok.stk with e | ⟨e,hf⟩
 ·rw[e]; exact I.funs
 ·rw[e];obtain⟨m,hn,_⟩:=I.loc;refine .cons (by rw[I.ok.kind]; decide) hf hn ?_ I.funs;exact Bn (cr I.ok.bsz I.ok.above)
theorem Inv.stkSub(I:Inv X ag σ H s):∀ b∈fg X.stack,b∈X.env.locals::X.fs:=λb hb=>by
 rcases I.ok.stk with e | ⟨e,hf⟩
 ·rw[e]at hb; exact jA _ hb
 ·rw[e]at hb;unfold fg at hb;rw[pV,hf]at hb;exact hb
theorem Inv.stkFree(I:Inv X ag σ H s):∀ b∈fg X.stack,H b=ae:=λb hb=>by
 rcases bV.mp (I.stkSub b hb)with e | hb
 ·rw[e]; exact I.free
 ·obtain⟨_,o,ho,_⟩:=I.ok.funs.mem hb;exact I.base.free b o ho (I.ok.frf b hb) λz=>I.ok.exfs b z hb
theorem Inv.step{g':Array GenState}{t':Nat}{d':Drawn}{ch:List af}(I:Inv X ag σ H s)(lT:∀ b∈ch,(b∈X.ex\/X.s₀.heap.objs.size<=b)/\b≠X.env.locals/\(∀ x c,X.env.cells.lookup x=aa c->c≠b)/\∀ p∈X.pn++ag,p.1≠b)(keep:∀ b o,b≠X.env.locals->b∉X.fs->b∉ch->s.heap.get? b=aa o->H b=ae->h'.get? b=aa o)(slot:∀ b o,b≠X.env.locals->b∈X.fs->b∉ch->s.heap.get? b=aa o->H b=ae->∃ sl,h'.get? b=aa { o with slots:=sl }) (free:∀ b o,b∉ch->s.heap.get? b=aa o->H b=ae->H' b=ae)(there:∀ b o,b∉ch->s.heap.get? b=aa o->∃ o',h'.get? b=aa o')(tups:∀ b xs,H b=aa (.tup xs)->H' b=aa (.tup xs)) (frzs:∀ b o u,H b=aa (.frz o u)->H' b=aa (.frz o u)) (tbls:∀ b q,H b=aa (.tbl q)->H' b=aa (.tbl q))(ns:∀ m,s.heap.Ns X.env.locals m->h'.Ns X.env.locals m) (hok:cQ X.prog X.w H' h') (hg:mz g') : Inv X ag σ H' { s with heap:=h',gens:=g',drawn:=d',toks:=t' }:=by
 have rD:∀ b o,X.s₀.heap.get? b=aa o->b≠X.env.locals:=λb o e=>dH (gU (bP e) I.ok.above);have neC:∀ b o,X.s₀.heap.get? b=aa o->b∉X.ex->b∉ch:=λb o e hx hb=>by
  rcases(lT b hb).1 with z | z
  ·exact hx z
  ·exact absurd (gU (bP e) z) (gW _)
 have cellK:∀ x c,X.env.cells.lookup x=aa c->∀ v,s.heap.IsCell c v->h'.IsCell c v:=λx c e v ⟨o,ho,hd⟩=>by
  have nch:c∉ch:=λz=>(lT c z).2.2.1 x c e rfl;by_cases hc:c∈X.fs
  ·obtain⟨sl,q⟩:=slot c o (I.cne x c e) hc nch ho (I.freeC x c e);exact⟨_,q,hd⟩
  ·exact⟨o,keep c o (I.cne x c e) hc nch ho (I.freeC x c e),hd⟩
 refine⟨I.ok,I.os,hg,⟨λb o e n hb hx=>?_,λb o e n hb hx=>?_,λb o e n hx=>?_,λb o e hx=>?_,λb xs e=>tups b xs (I.base.tups b xs e),λb o xs e=>frzs b o xs (I.base.frzs b o xs e),λb ps e=>?_⟩,?_,λx c e=>?_,?_,λx c e=>?_,λp hp=>?_,hok,I.len⟩
 ·exact keep b o (rD b o e) hb (neC b o e hx) (I.base.keep b o e n hb hx) (I.base.free b o e n hx)
 ·obtain⟨sl,e1⟩:=I.base.slot b o e n hb hx;obtain⟨sl',e2⟩:=slot b _ (rD b o e) hb (neC b o e hx) e1 (I.base.free b o e n hx);exact⟨sl',e2⟩
 ·obtain⟨o',e1⟩:=I.base.there b o e hx;exact free b o' (neC b o e hx) e1 (I.base.free b o e n hx)
 ·obtain⟨o',e1⟩:=I.base.there b o e hx;exact there b o' (neC b o e hx) e1
 ·exact tbls b _ (I.base.tbls b ps e)
 ·obtain⟨m,hn,hl⟩:=I.loc;refine⟨m,ns m hn,λi x v e1 e2 e3=>?_⟩;obtain⟨u,r,l⟩:=hl i x v e1 e2 e3;refine⟨u,r,?_⟩;rcases l with l | ⟨k,c,e,z⟩
  ·exact .inl l
  ·exact .inr ⟨k,c,e,cellK x c e _ z⟩
 ·obtain⟨v,z⟩:=I.cell x c e;exact⟨v,cellK x c e v z⟩
 ·obtain⟨m,⟨o,_,_,ho,_⟩,_⟩:=I.loc;exact free _ o (λz=>(lT _ z).2.1 rfl) ho I.free
 ·obtain⟨v,o,ho,hd⟩:=I.cell x c e;exact free c o (λz=>(lT c z).2.2.1 x c e rfl) ho (I.freeC x c e)
 ·obtain⟨e,n,ne,nf,d⟩:=I.pin p hp;have nch:p.1∉ch:=λz=>(lT p.1 z).2.2.2 p hp rfl;exact⟨keep p.1 p.2 ne nf nch e n,free p.1 p.2 nch e n,ne,nf,d⟩
theorem Inv.un{t':Nat}(I:Inv X ag σ H s)(u:Un X.fs [] H H' s.heap h')(hok:cQ X.prog X.w H' h'):Inv X ag σ H' { s with heap:=h',toks:=t' }:=by
 obtain⟨m,⟨o,es,ep,ho,r⟩,_⟩:=id I.loc;obtain⟨sl,hL⟩:=u.any ho I.free (by simp);exact I.step (g':=s.gens) (d':=s.drawn) (ch:=[]) (λ_ z=>nomatch z) (λb o _ hb _ e n=>u.keep b o e n hb (by simp)) (λb o _ hb _ e n=>u.slot b o e n hb (by simp)) (λb o _ e n=>u.free b o e n (by simp)) (λb o _ e=>u.there b o e (by simp)) u.tups u.frzs u.tbls (λm' hm=>by
  obtain⟨o',es',ep',iP,r'⟩:=hm;rw[ho]at iP; cases iP;exact⟨_,es',ep',hL,r'⟩) hok I.bare
theorem Inv.call{g':Array GenState}{t':Nat}{d':Drawn}{ch:List af}(I:Inv X ag σ H s)(u:Un (fg X.stack) ch H H' s.heap h')(hok:cQ X.prog X.w H' h')(hg:mz g')(lT:∀ b∈ch,(b∈X.ex\/X.s₀.heap.objs.size<=b)/\b≠X.env.locals/\(∀ x c,X.env.cells.lookup x=aa c->c≠b)/\∀ p∈X.pn++ag,p.1≠b) : Inv X ag σ H' { s with heap:=h',gens:=g',drawn:=d',toks:=t' }:=by
 obtain⟨m,⟨o,es,ep,ho,r⟩,_⟩:=id I.loc;obtain⟨sl,hL⟩:=u.any ho I.free λz=>(lT _ z).2.1 rfl;exact I.step (ch:=ch) lT (λb o hL hb hc e n=>u.keep b o e n (λz=>(bV.mp (I.stkSub b z)).elim hL hb) hc) (λb o _ _ hc e n=>u.any e n hc) (λb o hc e n=>u.free b o e n hc) (λb o hc e=>u.there b o e hc) u.tups u.frzs u.tbls (λm' hm=>by
  obtain⟨o',es',ep',iP,r'⟩:=hm;rw[ho]at iP; cases iP;exact⟨_,es',ep',hL,r'⟩) hok hg
theorem Inv.turned{t':Nat}{it:af}(I:Inv X ag σ H s)(k:∀ b o,b≠it->s.heap.get? b=aa o->h'.get? b=aa o)(hn:H it=ae)(hL:it≠X.env.locals)(h1:it∈X.ex\/X.s₀.heap.objs.size<=it) (h2:∀ x c,X.env.cells.lookup x=aa c->c≠it) (h3:∀ p∈X.pn++ag,p.1≠it):Inv X ag σ H { s with heap:=h',toks:=t' }:=by
 have nit:∀ b u,H b=aa u->b≠it:=λb u e z=>by rw[z,hn]at e; cases e
 refine I.step (g':=s.gens) (d':=s.drawn) (ch:=[it]) (λb hb=>?_) (λb o _ _ hc e _=>k b o (λz=>hc (by simp[z])) e) (λb o _ _ hc e _=>⟨o.slots,k b o (λz=>hc (by simp[z])) e⟩) (λ_ _ _ _ n=>n)
  (λb o hc e=>⟨o,k b o (λz=>hc (by simp[z])) e⟩) (λ_ _ e=>e) (λ_ _ _ e=>e) (λ_ _ e=>e) (λm hm=>?_) (λb u e=>?_) I.bare
 ·have e:b=it:=by simpa using hb
  subst e;exact⟨h1,hL,h2,h3⟩
 ·obtain⟨o,es,ep,ho,r⟩:=hm;exact⟨o,es,ep,k _ o (eh hL) ho,r⟩
 ·refine(I.hok b u e).stay (λc v hc q=>k c v ?_ q) (λ_ q=>q) λ_ _ q=>q;rcases hc with z | z
  ·rw[z]; exact nit b u e
  ·exact nit c _ z
theorem Inv.tok(I:Inv X ag σ H s)(t:Nat):Inv X ag σ H { s with toks:=t }:=I.un (h':=s.heap) (t':=t) Un.refl I.hok
theorem Inv.kept{t':Nat}(I:Inv X ag σ H s)(k:∀ b u,s.heap.get? b=aa u->h'.get? b=aa u):Inv X ag σ H { s with heap:=h',toks:=t' }:=I.un (Un.kept k) (I.hok.kept k)
theorem Inv.laid{a:af}{o:HO}{t':Nat}(I:Inv X ag σ H s)(k:∀ b u,s.heap.get? b=aa u->h'.get? b=aa u)(hp:s.heap.objs.size<=a)(new:dw X.prog X.w (upd H a o) h' a o) : Inv X ag σ (upd H a o) { s with heap:=h',toks:=t' }:=I.un (Un.laid k hp (I.hok.fresh hp)) (I.hok.laid k hp new)
theorem Inv.write{x e:af}{o:HO}{t':Nat}(I:Inv X ag σ H s)(mu:sY (H x))(he:e=x\/H e=aa (.own x))(k:∀ b u,b≠e->s.heap.get? b=aa u->h'.get? b=aa u)(si:∃ u,h'.get? e=aa u)(new:dw X.prog X.w (upd H x o) h' x o):Inv X ag σ (upd H x o) { s with heap:=h',toks:=t' }:=I.un (Un.write mu he k si) (I.hok.write mu he k si new)
theorem Inv.pins_of{pins':List (af×Obj)}(I:Inv X ag σ H s)(h:∀ p∈pins',s.heap.get? p.1=aa p.2/\H p.1=ae/\p.1≠X.env.locals/\p.1∉X.fs/\∀ v,p.2.data≠.cell v):Inv X pins' σ H s :=⟨I.ok,I.os,I.bare,I.base,I.loc,I.cell,I.free,I.freeC,λp hp=>(eM.mp hp).elim (λz=>I.pin p (Bo _ z)) (h p),I.hok,I.len⟩
theorem yL{N:List Str}(hN:N.Nodup){i j:Nat}{x:Str}(a:N[i]?=aa x)(b:N[j]?=aa x):i=j:=by obtain⟨h1,e1⟩:=cu.mp a;obtain⟨h2,e2⟩:=cu.mp b;exact(List.getElem_inj hN).mp (e1.trans e2.symm)
theorem Oz{M:Model}{A:aR}{E:ai->ao->Prop}{i:Nat}{x:Str}{v:V}{u:ai}{Q:Unit->ao->Prop}(I:Inv X ag σ H s)(hN:X.N.Nodup)(hi:X.N[i]?=aa x)(hx:Loc X.env.scope x)(r:RelV v u)(h:∀ s',Inv X ag (σ.set i (aa v)) H s'->(∃ a,mD a s.heap s'.heap/\(a=X.env.locals\/X.env.cells.lookup x=aa a))->Q () s') (hf:X.fn x=ah\/X.env.scope.names.lookup x=aa .local:=by first | exact .inl rfl | exact .inr rfl | assumption):aw M A (storeName X.env x u) Q E s:=by
 obtain⟨m,hn,hl⟩:=id I.loc;have mW:(X.env.scope.kind == .class || (X.env.scope.kind == .module && X.env.locals != X.env.globals))=ak:=by rw[I.ok.kind]; rfl
 have hiσ:i<σ.length:=by rw[I.len]; exact(cu.mp hi).1
 have cne:=I.cne;have tracked:∀ {a:af} {h':aA},(∃ o,s.heap.get? a=aa o/\H a=ae)->mD a s.heap h'->cQ X.prog X.w H h':=λ{a h'} ha hs b ob e=>by
  obtain⟨_,_,uH⟩:=ha;refine(I.hok b ob e).stay (λc w' hc q=>(hs.2 c ?_).trans q) (λ_ q=>q) λ_ _ q=>q;rintro rfl;rcases hc with rfl | hc
  ·rw[uH]at e; cases e
  ·rw[uH]at hc; cases hc
 rcases hx with hk | hk
 ·refine wpAny_storeName_local hk hn (λh' uO hs=>?_) mW;obtain⟨oL,_,_,sk,_⟩:=id hn;refine h _ ⟨I.ok,I.os,I.bare,⟨λb o e n hb hx=>?_,λb o e n hb hx=>?_,I.base.free,λb o e hx=>?_,I.base.tups,I.base.frzs,I.base.tbls⟩,⟨_,uO,λj y v' e1 e2 e3=>?_⟩,λy c e=>?_,I.free,I.freeC,λp hp=>?_,tracked ⟨oL,sk,I.free⟩ hs,by simpa using I.len⟩ ⟨_,hs,.inl rfl⟩
  ·exact(hs.2 b (dH (gU (bP e) I.ok.above))).trans (I.base.keep b o e n hb hx)
  ·obtain⟨sl,e1⟩:=I.base.slot b o e n hb hx;exact⟨sl,(hs.2 b (dH (gU (bP e) I.ok.above))).trans e1⟩
  ·obtain⟨o',e1⟩:=I.base.there b o e hx;exact⟨o',(hs.2 b (dH (gU (bP e) I.ok.above))).trans e1⟩
  ·by_cases hj:j=i
   ·subst hj;rw[hi]at e1; cases e1;rw[cA hiσ]at e2;cases e2;exact⟨u,r,.inl ⟨hk,by simp⟩⟩
   ·rw[cg (eh hj)]at e2;obtain⟨u',r',q⟩:=hl j y v' e1 e2 e3;refine⟨u',r',?_⟩;rcases q with⟨k,e⟩ | ⟨k,c,e,z⟩
    ·refine .inl ⟨k,?_⟩;have:y≠x:=λe=>hj (yL hN e1 (e ▸ hi));simp[this,e]
    ·exact .inr ⟨k,c,e,z.sameBut hs (cne y c e)⟩
  ·obtain⟨w',z⟩:=I.cell y c e;exact⟨w',z.sameBut hs (cne y c e)⟩
  ·obtain⟨e,n,ne,nf,d⟩:=I.pin p hp;exact⟨(hs.2 p.1 ne).trans e,n,ne,nf,d⟩
 ·have hfn:X.fn x=ah:=by
   rcases hf with z | z
   ·exact z
   ·rw[z]at hk; cases hk
  obtain⟨c,hc⟩:=I.ok.has x (.inl hk);obtain⟨w',z⟩:=I.cell x c hc;refine wpAny_storeName_cell I.ok.kind hk hc z (λh' iQ hs=>?_);obtain⟨oc,hoc,hocd⟩:=id z;refine h { s with heap:=h' } ⟨I.ok,I.os,I.bare,⟨λb o e n hb hx=>?_,λb o e n hb hx=>?_,I.base.free,λb o e hx=>?_,I.base.tups,I.base.frzs,I.base.tbls⟩,⟨m,hn.sameBut hs (eh (cne x c hc)),λj y v' e1 e2 e3=>?_⟩,λy c' e=>?_,I.free,I.freeC,λp hp=>?_,tracked ⟨oc,hoc,I.freeC x c hc⟩ hs,by simpa using I.len⟩ ⟨c,hs,.inr hc⟩
  ·exact(hs.2 b (dH (gU (bP e) (I.ok.cab x c hfn hc)))).trans (I.base.keep b o e n hb hx)
  ·obtain⟨sl,e1⟩:=I.base.slot b o e n hb hx;exact⟨sl,(hs.2 b (dH (gU (bP e) (I.ok.cab x c hfn hc)))).trans e1⟩
  ·obtain⟨o',e1⟩:=I.base.there b o e hx;exact⟨o',(hs.2 b (dH (gU (bP e) (I.ok.cab x c hfn hc)))).trans e1⟩
  ·by_cases hj:j=i
   ·subst hj;rw[hi]at e1; cases e1;rw[cA hiσ]at e2;cases e2;exact⟨u,r,.inr ⟨.inl hk,c,hc,iQ⟩⟩
   ·rw[cg (eh hj)]at e2;obtain⟨u',r',q⟩:=hl j y v' e1 e2 e3;refine⟨u',r',?_⟩;rcases q with q | ⟨k,c',e,z'⟩
    ·exact .inl q
    ·refine .inr ⟨k,c',e,z'.sameBut hs ?_⟩;rintro rfl;exact hj (yL hN e1 (I.ok.inj _ _ _ e hc ▸ hi))
  ·by_cases hcc:c'=c
   ·subst hcc; exact⟨_,iQ⟩
   ·obtain⟨w2,z2⟩:=I.cell y c' e;exact⟨w2,z2.sameBut hs hcc⟩
  ·obtain⟨e,n,ne,nf,d⟩:=I.pin p hp;refine⟨(hs.2 p.1 ?_).trans e,n,ne,nf,d⟩;intro q;rw[q,hoc]at e;have q':oc=p.2:=fj e;exact d w' (by rw[← q']; exact hocd)
theorem tL{M:Model}{A:aR}{E:ai->ao->Prop}{i:Nat}{x:Str}{v:V}{u:ai}{Q:Unit->ao->Prop}(I:Inv X ag σ H s)(hN:X.N.Nodup)(hi:X.N[i]?=aa x)(hx:Loc X.env.scope x)(r:RelV v u)(h:∀ s',Inv X ag (σ.set i (aa v)) H s'->Q () s') (hf:X.fn x=ah\/X.env.scope.names.lookup x=aa .local:=by first | exact .inl rfl | exact .inr rfl | assumption):aw M A (storeName X.env x u) Q E s :=Oz I hN hi hx r (λs' I' _=>h s' I') hf
theorem Inv.call'{s':ao}{ch:List af}(I:Inv X ag σ H s)(ho:s'.os=s.os)(u:Un (fg X.stack) ch H H' s.heap s'.heap)(hok:cQ X.prog X.w H' s'.heap)(hg:mz s'.gens)(lT:∀ b∈ch,(b∈X.ex\/X.s₀.heap.objs.size<=b)/\b≠X.env.locals/\(∀ x c,X.env.cells.lookup x=aa c->c≠b)/\∀ p∈X.pn++ag,p.1≠b):Inv X ag σ H' s':=by obtain⟨h',g',d',t',o'⟩:=s';have e:o'=s.os:=ho;subst e;exact I.call (g':=g') (t':=t') (d':=d') u hok hg lT
end
abbrev XK:=ai->Option af->Hp->Prop
abbrev St:=List (Option V)
abbrev VK:=V->Hp->Prop
abbrev TE:=St->Hp->VK->Prop
abbrev TT:=St->Hp->(Bool->Hp->Prop)->Prop
abbrev TA:=St->Hp->(List V->Hp->Prop)->Prop
structure lF where
 nx:St->Hp->Prop
 rt:VK
 bk:St->Hp->Prop:=λ_ _=>False
 ct:St->Hp->Prop:=λ_ _=>False
abbrev TS:=lF->St->Hp->Prop
def EP(X:Cx)(ag:List (af×Obj))(σ:St)(Q:VK)(u:ai)(s':ao):Prop:=∃ v H',Inv X ag σ H' s'/\RelV v u/\Q v H'
def TP(X:Cx)(ag:List (af×Obj))(σ:St)(Q:Bool->Hp->Prop)(b:Bool)(s':ao):Prop:=∃ H',Inv X ag σ H' s'/\Q b H'
def AP(X:Cx)(ag:List (af×Obj))(σ:St)(Q:List V->Hp->Prop)(us:List ai)(s':ao):Prop:=∃ vs H',Inv X ag σ H' s'/\bd vs us/\Q vs H'
def SP(X:Cx)(ag:List (af×Obj))(D:lF)(f:Flow)(s':ao):Prop :=
 match f with
 | .next=>∃ σ' H',Inv X ag σ' H' s'/\D.nx σ' H'
 | .brk=>∃ σ' H',Inv X ag σ' H' s'/\D.bk σ' H'
 | .cont=>∃ σ' H',Inv X ag σ' H' s'/\D.ct σ' H'
 | .ret u=>∃ v σ' H',Inv X ag σ' H' s'/\RelV v u/\D.rt v H'
def PE(X:Cx)(e:aB)(t:TE):Prop :=
 ∀ (ag:List (af×Obj)) (s:ao) (σ:St) (H:Hp) (Q:VK),Inv X ag σ H s->t σ H Q->aw (au X.prog X.w) X.A (aD e X.env) (EP X ag σ Q) X.xe s
def PT(X:Cx)(e:aB)(t:TT):Prop :=
 ∀ (ag:List (af×Obj)) (s:ao) (σ:St) (H:Hp) (Q:Bool->Hp->Prop),Inv X ag σ H s->t σ H Q->aw (au X.prog X.w) X.A (mE e X.env (aD e X.env)) (TP X ag σ Q) X.xe s
def PW(X:Cx)(e:aB)(t:TT):Prop :=
 ∀ (fM:Sem ai) (ag:List (af×Obj)) (s:ao) (σ:St) (H:Hp) (Q:Bool->Hp->Prop),Inv X ag σ H s->t σ H Q->aw (au X.prog X.w) X.A (mE e X.env fM) (TP X ag σ Q) X.xe s
def PA(X:Cx)(es:List aB)(t:TA):Prop :=
 ∀ (pos:Pos) (ag:List (af×Obj)) (s:ao) (σ:St) (H:Hp) (Q:List V->Hp->Prop),Inv X ag σ H s->t σ H Q->aw (au X.prog X.w) X.A (spliced (bK pos (aC es X.env))) (AP X ag σ Q) X.xe s
def PS(X:Cx)(st:aY)(t:TS):Prop :=
 ∀ (ag:List (af×Obj)) (s:ao) (σ:St) (H:Hp) (D:lF),Inv X ag σ H s->t D σ H->aw (au X.prog X.w) X.A (exec st X.env) (SP X ag D) X.xe s
def jw(X:Cx)(st:List aY)(t:TS):Prop :=
 ∀ (ag:List (af×Obj)) (s:ao) (σ:St) (H:Hp) (D:lF),Inv X ag σ H s->t D σ H->aw (au X.prog X.w) X.A (execs st X.env) (SP X ag D) X.xe s
theorem aX{α:Type}{t:Sem α}{Q Q':α->ao->Prop}{M:Model}{A:aR}{E:ai->ao->Prop}{s:ao}(h:aw M A t Q E s)(hQ:∀ a s,Q a s->Q' a s):aw M A t Q' E s:=dZ h hQ λ_ _ x=>x
section
variable{X:Cx}
def Gv(i:Nat):TE:=λσ H Q=>∃ v,σ[i]?=aa (aa v)/\Q v H
def tC(v:V):TE:=λ_ H Q=>Q v H
theorem dP{i:Nat}{x:Str}{pos:Pos}(hN:X.N[i]?=aa x)(hv:c7 X.env.scope x)(hd:(x == ("__debug__" : Str))=ak:=by decide)(a7:(x == ("__classdict__" : Str))=ak:=by decide):PE X (.Name x pos) (Gv i):=by
 intro ag s σ H Q I h;obtain⟨v,e,h⟩:=h;obtain⟨m,hn,hl⟩:=I.loc;obtain⟨u,r,l⟩:=hl i x v hN e hv;have fin:EP X ag σ Q u s:=⟨v,H,I,r,h⟩
 rcases l with⟨hk,hm⟩ | ⟨hk,c,hc,yh⟩
 ·exact wpAny_Name (wpAny_loadName_local I.ok.kind hk hn hm fin) hd
 ·rcases hk with hk | hk
  ·exact wpAny_Name (wpAny_loadName_cell I.ok.kind hk hc yh fin) hd
  ·exact wpAny_Name (wpAny_loadName_free I.ok.kind hk hc yh fin a7) hd
theorem Qc{i j pos}:PE X (.Constant (.int i) j pos) (tC (.int i)):=λ_ _ _ H _ I h=>wpAny_Constant_int ⟨.int i,H,I.tok _,⟨_,rfl⟩,h⟩
theorem Nu{b j pos}:PE X (.Constant (.bool b) j pos) (tC (.bl b)):=λ_ _ _ H _ I h=>Constant_bool ⟨.bl b,H,I,rfl,h⟩
theorem NL{j pos}:PE X (.Constant .none j pos) (tC .non):=λ_ _ _ H _ I h=>Constant_none ⟨.non,H,I,rfl,h⟩
theorem Mw{x j pos}:PE X (.Constant (.str x) j pos) (tC (.str x)):=λ_ _ _ H _ I h=>Calls.Constant_str ⟨.str x,H,I.tok _,⟨_,rfl⟩,h⟩
def Gl(X:Cx)(x:Str):Prop:=X.env.kindOf x=aa .globalImplicit
theorem pQ{E:ai->ao->Prop}{ag:List (af×Obj)}{s:ao}{σ:St}{H:Hp}{x:Str}{u:ai}{pos:Pos}{Q:ai->ao->Prop}(I:Inv X ag σ H s)(hg:Gl X x)(hm:X.mg x=aa u)(h:Q u s)(hd:(x == ("__debug__" : Str))=ak:=by decide):aw (au X.prog X.w) X.A (aD (.Name x pos) X.env) Q E s :=Calls.Name_function_global I.ok.kind hg (Calls.loadGlobal_global (by rw[I.ok.glob]; exact I.mod.glob.keeps I.bk) hm h) hd
theorem tZ{E:ai->ao->Prop}{ag:List (af×Obj)}{s:ao}{σ:St}{H:Hp}{x:Str}{u:ai}{pos:Pos}{Q:ai->ao->Prop}(I:Inv X ag σ H s)(hg:Gl X x)(hm:X.mg x=ae)(hv:ef x=aa u)(h:Q u s)(hn:x≠"__name__":=by decide) (hd:(x == ("__debug__" : Str))=ak:=by decide):aw (au X.prog X.w) X.A (aD (.Name x pos) X.env) Q E s:=by obtain⟨mb,h1,h2⟩:=I.mod.blt;exact Calls.Name_function_global I.ok.kind hg (Calls.loadGlobal_builtin (by rw[I.ok.glob]; exact I.mod.glob.keeps I.bk) hm (by rw[I.ok.blt]; exact h1.keeps I.bk) ((h2 x hn).trans hv) h) hd
theorem Af{x:Str}{v:V}{u:ai}{pos:Pos}(hg:Gl X x)(hm:X.mg x=aa u)(r:RelV v u)(hd:(x == ("__debug__" : Str))=ak:=by decide):PE X (.Name x pos) (tC v) :=λ_ _ _ H _ I h=>pQ I hg hm ⟨v,H,I,r,h⟩ hd
theorem LW{x:Str}{v:V}{u:ai}{pos:Pos}(hg:Gl X x)(hm:X.mg x=ae)(hv:ef x=aa u)(r:RelV v u)(hn:x≠"__name__":=by decide)(hd:(x == ("__debug__" : Str))=ak:=by decide):PE X (.Name x pos) (tC v) :=λ_ _ _ H _ I h=>tZ I hg hm hv ⟨v,H,I,r,h⟩ hn hd
variable{a b:aB}{ta tb:TE}{pos:Pos}
def tB(t:TE):TT:=λσ H Q=>t σ H λx H1=>∃ c,x = .bl c/\Q c H1
theorem OI{e:aB}{t:TE}(h:PE X e t)(he:∀ fM,mE e X.env fM=(do let v ← fM; rG e.pos; nX [v] (truthy v)):=by intro _; rfl):PT X e (tB t):=by
 intro ag s σ H Q I hw;refine isTrue_plain (aX (h ag s σ H _ I hw) λv s1 ⟨x,H1,I1,r1,q1⟩=>?_) (he _);obtain⟨d,rfl,q⟩:=q1;cases r1;exact pW ⟨H1,I1,q⟩
variable{tA tB':TT}{rest:List aB}
def Iw(t u:TT):TT:=λσ H Q=>t σ H λc H1=>if c=ah then u σ H1 Q else Q ak H1
def Jp(t u:TT):TT:=λσ H Q=>t σ H λc H1=>if c=ah then Q ah H1 else u σ H1 Q
def PR(t:TT):TT:=λσ H Q=>t σ H λc H1=>Q (!c) H1
theorem Nt(ha:PT X a tA):PW X (.BoolOp .And [a] pos) tA:=by
 intro wh ag s σ H Q I h;refine isTrue_and (aX (ha ag s σ H Q I h) λc s1 e=>?_);cases c with
 | true=>exact isTrue_and_nil e
 | false=>exact e
theorem Mc(ha:PT X a tA):PW X (.BoolOp .Or [a] pos) tA:=by
 intro wh ag s σ H Q I h;refine isTrue_or (aX (ha ag s σ H Q I h) λc s1 e=>?_);cases c with
 | false=>exact isTrue_or_nil e
 | true=>exact e
theorem LX(ha:PT X a tA)(hb:PW X (.BoolOp .And (b::rest) pos) tB'):PW X (.BoolOp .And (a::b::rest) pos) (Iw tA tB'):=by
 intro wh ag s σ H Q I h;refine isTrue_and (aX (ha ag s σ H _ I h) λc s1 ⟨H1,I1,q1⟩=>?_);cases c with
 | true=>exact hb wh ag s1 σ H1 Q I1 q1
 | false=>exact⟨H1,I1,q1⟩
theorem NF(ha:PT X a tA)(hb:PW X (.BoolOp .Or (b::rest) pos) tB'):PW X (.BoolOp .Or (a::b::rest) pos) (Jp tA tB'):=by
 intro wh ag s σ H Q I h;refine isTrue_or (aX (ha ag s σ H _ I h) λc s1 ⟨H1,I1,q1⟩=>?_);cases c with
 | true=>exact⟨H1,I1,q1⟩
 | false=>exact hb wh ag s1 σ H1 Q I1 q1
theorem Ko(ha:PT X a tA):PT X (.UnaryOp .Not a pos) (PR tA):=by intro ag s σ H Q I h;exact isTrue_not (ha ag s σ H (λc H1=>Q (!c) H1) I h)
def Kg(ta tb:TE):TE:=λσ H Q=>ta σ H λx H1=>∃ c,x = .bl c/\if c=ah then tb σ H1 Q else Q (.bl ak) H1
def MR(ta:TE):TE:=λσ H Q=>ta σ H λx H1=>∃ c,x = .bl c/\Q (.bl (!c)) H1
theorem Lg{op}{t:TE}(h:PE X a t):PE X (.BoolOp op [a] pos) t:=λag s σ H Q I hw=>BoolOp_one (h ag s σ H Q I hw)
theorem IF(ha:PE X a ta)(hb:PE X (.BoolOp .And (b::rest) pos) tb):PE X (.BoolOp .And (a::b::rest) pos) (Kg ta tb):=by
 intro ag s σ H Q I h;refine BoolOp_and (aX (ha ag s σ H _ I h) λv s1 ⟨x,H1,I1,r1,q1⟩=>?_);obtain⟨c,rfl,q1⟩:=q1;cases r1;refine pW ?_;cases c with
 | true=>exact hb ag s1 σ H1 Q I1 q1
 | false=>exact⟨.bl ak,H1,I1,rfl,q1⟩
theorem O5(ha:PE X a ta):PE X (.UnaryOp .Not a pos) (MR ta):=by
 intro ag s σ H Q I h;refine UnaryOp_ (aX (ha ag s σ H _ I h) λv s1 ⟨x,H1,I1,r1,q1⟩=>?_);obtain⟨c,rfl,q1⟩:=q1;cases r1;exact not_of (pW ⟨.bl (!c),H1,I1,rfl,q1⟩)
def Ml(t:TT)(ta tb:TE):TE:=λσ H Q=>t σ H λc H1=>if c=ah then ta σ H1 Q else tb σ H1 Q
theorem L4{c:aB}(hc:PT X c tA)(ha:PE X a ta)(hb:PE X b tb):PE X (.IfExp c a b pos) (Ml tA ta tb):=by
 intro ag s σ H Q I h;refine wpAny_IfExp (aX (hc ag s σ H _ I h) λd s1 ⟨H1,I1,q1⟩=>?_);cases d with
 | true=>exact ha ag s1 σ H1 Q I1 q1
 | false=>exact hb ag s1 σ H1 Q I1 q1
end
def bR(K:aq)(H:Hp)(a:af)(xs:List V):Prop :=
 Rd H a (.lst xs) \/
  ∃ (o:Obj) (its:Array ai) (n:Nat),K.lookup a=aa o/\o.cls = .type "list"/\o.dict=ae/\o.data = .seq its n/\its.size<=a9/\bd xs its.toList
def cq(K:aq)(H:Hp)(a:af)(xs:List V):Prop :=
 Rd H a (.tup xs) \/
  ∃ (o:Obj) (its:Array ai) (n:Nat),K.lookup a=aa o/\o.cls = .type "tuple"/\o.data = .seq its n/\its.size<=a9/\bd xs its.toList
def QU:ai->Option V
 | .none=>aa .non
 | .bool b=>aa (.bl b)
 | .int i _=>aa (.int i)
 | .str x _=>aa (.str x)
 | .bytes b _=>aa (.byt b)
 | .float b _=>aa (.flt b)
 | .ref a=>aa (.ref a)
 | .type n=>aa (.ty n)
 | _=>ae
theorem RelV.abs{x:V}{u:ai}(r:RelV x u):QU u=aa x:=by
 cases x with
 | non=>cases r; rfl
 | bl _=>cases r; rfl
 | int _=>obtain⟨t,rfl⟩:=r; rfl
 | str _=>obtain⟨t,rfl⟩:=r; rfl
 | byt _=>obtain⟨t,rfl⟩:=r; rfl
 | flt _=>obtain⟨t,rfl⟩:=r; rfl
 | ref _=>cases r; rfl
 | ty _=>cases r; rfl
theorem RelV.inj{x y:V}{u:ai}(r:RelV x u)(q:RelV y u):x=y:=fj (r.abs.symm.trans q.abs)
theorem bd.inj:∀ {xs ys:List V} {us:List ai},bd xs us->bd ys us->xs=ys
 | _,_,_,.nil,.nil=>rfl
 | _,_,_,.cons r t,.cons r' t'=>by rw[r.inj r',bd.inj t t']
section
variable{X:Cx}{ag:List (af×Obj)}{σ:St}{H:Hp}{s:ao}{a:af}{xs ys:List V}
theorem bR.of{K:aq}(h:H a=aa (.lst xs)):bR K H a xs:=.inl (.inl h)
theorem cq.of{K:aq}(h:H a=aa (.tup xs)):cq K H a xs:=.inl (.inl h)
theorem Inv.list(I:Inv X ag σ H s)(h:bR X.K H a xs):∃ its:List ai,bd xs its/\PlainL s.heap a its.toArray/\xs.length<=a9:=by
 rcases h with h | ⟨o,its,n,hk,hc,hd,hs,hz,r⟩
 ·obtain⟨z,its,n,r,e⟩:=h.ok I.hok;exact⟨its,r,⟨_,n,e,rfl,rfl,rfl⟩,z⟩
 ·refine⟨its.toList,r,⟨o,n,I.kIn a o hk,hc,hd,by simpa using hs⟩,?_⟩;have e:=r.length;simp only[mF]at e;lia
theorem Inv.tuple(I:Inv X ag σ H s)(h:cq X.K H a xs):∃ its:List ai,bd xs its/\IsTup s.heap a its.toArray/\xs.length<=a9:=by
 rcases h with h | ⟨o,its,n,hk,hc,hs,hz,r⟩
 ·obtain⟨z,its,r,p,_⟩:=h.ok I.hok;exact⟨its,r,p,z⟩
 ·refine⟨its.toList,r,⟨o,I.kIn a o hk,hc,n,by simpa using hs⟩,?_⟩;have e:=r.length;simp only[mF]at e;lia
theorem Inv.list_inj(I:Inv X ag σ H s)(h:bR X.K H a xs)(h':bR X.K H a ys):xs=ys:=by
 obtain⟨its,r,⟨o,n,e,_,_,d⟩,_⟩:=I.list h;obtain⟨its',r',⟨o',n',e',_,_,d'⟩,_⟩:=I.list h';rw[e]at e'; cases e';rw[d]at d';injection d' with d1 _;have:its=its':=by simpa using congrArg Array.toList d1
 subst this;exact r.inj r'
theorem Inv.tuple_inj(I:Inv X ag σ H s)(h:cq X.K H a xs)(h':cq X.K H a ys):xs=ys:=by
 obtain⟨its,r,⟨o,e,_,n,d⟩,_⟩:=I.tuple h;obtain⟨its',r',⟨o',e',_,n',d'⟩,_⟩:=I.tuple h';rw[e]at e'; cases e';rw[d]at d';injection d' with d1 _;have:its=its':=by simpa using congrArg Array.toList d1
 subst this;exact r.inj r'
end
abbrev Cx.wish(X:Cx)(E:ai->ao->Prop):Cx:={ X with xe:=E }
abbrev Cx.nox(X:Cx):Cx:=X.wish λ_ _=>False
theorem Cx.Ok.wish{X:Cx}(ok:X.Ok)(E:ai->ao->Prop):(X.wish E).Ok :=⟨ok.mod,ok.kind,ok.glob,ok.blt,ok.above,ok.inj,ok.has,ok.cab,ok.hd,ok.frames,ok.stk,ok.exf,ok.bs,ok.bsz,ok.noex,ok.exfs,ok.funs,ok.frf,ok.tab⟩
theorem Cx.Ok.unwish{X:Cx}{E:ai->ao->Prop}(ok:(X.wish E).Ok):X.Ok :=⟨ok.mod,ok.kind,ok.glob,ok.blt,ok.above,ok.inj,ok.has,ok.cab,ok.hd,ok.frames,ok.stk,ok.exf,ok.bs,ok.bsz,ok.noex,ok.exfs,ok.funs,ok.frf,ok.tab⟩
section
variable{X:Cx}{ag:List (af×Obj)}{σ:St}{H:Hp}{s:ao}{E:ai->ao->Prop}
theorem Inv.wish(I:Inv X ag σ H s)(E:ai->ao->Prop):Inv (X.wish E) ag σ H s:=⟨I.ok.wish E,I.os,I.bare,I.base,I.loc,I.cell,I.free,I.freeC,I.pin,I.hok,I.len⟩
theorem Inv.unwish(I:Inv (X.wish E) ag σ H s):Inv X ag σ H s:=⟨I.ok.unwish,I.os,I.bare,I.base,I.loc,I.cell,I.free,I.freeC,I.pin,I.hok,I.len⟩
theorem SP.unwish{D:lF}{f:Flow}{s':ao}(h:SP (X.wish E) ag D f s'):SP X ag D f s':=by
 cases f with
 | next=>obtain⟨σ',H',I,q⟩:=h; exact⟨σ',H',I.unwish,q⟩
 | brk=>obtain⟨σ',H',I,q⟩:=h; exact⟨σ',H',I.unwish,q⟩
 | cont=>obtain⟨σ',H',I,q⟩:=h; exact⟨σ',H',I.unwish,q⟩
 | ret u=>obtain⟨v,σ',H',I,r,q⟩:=h; exact⟨v,σ',H',I.unwish,r,q⟩
theorem PE.nox{e:aB}{t:TE}(h:PE X.nox e t):PE X e t:=λag s σ H Q I hw=>dZ (h ag s σ H Q (I.wish _) hw) (λ_ _ ⟨v,H',I',r,q⟩=>⟨v,H',I'.unwish,r,q⟩) λ_ _ z=>dU z
theorem PT.nox{e:aB}{t:TT}(h:PT X.nox e t):PT X e t:=λag s σ H Q I hw=>dZ (h ag s σ H Q (I.wish _) hw) (λ_ _ ⟨H',I',q⟩=>⟨H',I'.unwish,q⟩) λ_ _ z=>dU z
theorem jw.nox{st:List aY}{t:TS}(h:jw X.nox st t):jw X st t:=λag s σ H D I hw=>dZ (h ag s σ H D (I.wish _) hw) (λ_ _ q=>q.unwish) λ_ _ z=>dU z
end
section
variable{X:Cx}{st:aY}{rest:List aY}{t u:TS}{e:aB}{te:TE}{pos:Pos}
def Lx:TS:=λD σ H=>D.nx σ H
def Kk(t u:TS):TS:=λD σ H=>t { D with nx:=u D } σ H
theorem JW:jw X [] Lx:=λ_ _ σ H _ I h=>wpAny_execs_nil ⟨σ,H,I,h⟩
theorem IN(h1:PS X st t)(h2:jw X rest u):jw X (st::rest) (Kk t u):=by
 intro ag s σ H D I h;refine Hb (aX (h1 ag s σ H { D with nx:=u D } I h) λf s1 q=>?_);cases f with
 | next=>obtain⟨σ',H',I',q⟩:=q;exact h2 ag s1 σ' H' D I' q
 | ret v=>exact q
 | brk=>exact q
 | cont=>exact q
theorem JS(h1:PS X st t):jw X [st] t:=by
 intro ag s σ H D I h;refine Hb (aX (h1 ag s σ H D I h) λf s1 q=>?_);cases f with
 | next=>exact wpAny_execs_nil q
 | ret v=>exact q
 | brk=>exact q
 | cont=>exact q
theorem Inv.quiet{ag:List (af×Obj)}{σ:St}{H:Hp}{s:ao}(I:Inv X ag σ H s):interactive X.env=ak:=by simp[interactive,I.ok.kind]
def M_(te:TE):TS:=λD σ H=>te σ H λ_ H1=>D.nx σ H1
theorem wB(he:PE X e te)(hs:j4 e ae pos.line X.env=pure ak:=by rfl):PS X (.Expr e pos) (M_ te):=by intro ag s σ H D I h;exact wpAny_Expr_any (aX (he ag s σ H _ I h) λv s1 ⟨x,H1,I1,r1,q1⟩=>⟨σ,H1,I1,q1⟩) I.quiet hs
def MI(te:TE):TS:=λD σ H=>te σ H D.rt
theorem vM(he:PE X e te):PS X (.Return (aa e) pos) (MI te):=by intro ag s σ H D I h;exact wpAny_Return_some (aX (he ag s σ H _ I h) λv s1 ⟨x,H1,I1,r1,q1⟩=>⟨x,σ,H1,I1,r1,q1⟩)
def OP:TS:=λD _ H=>D.rt .non H
theorem Qn:PS X (.Return ae pos) OP:=λ_ _ σ H _ I h=>wpAny_Return_none ⟨.non,σ,H,I,rfl,h⟩
def Qh(c:TT)(t u:TS):TS:=λD σ H=>c σ H λb H1=>if b=ah then t D σ H1 else u D σ H1
theorem P8{c:aB}{a b:List aY}{tc:TT}(hc:PT X c tc)(ha:jw X a t)(hb:jw X b u):PS X (.If c a b pos) (Qh tc t u):=by
 intro ag s σ H D I h;refine wpAny_If (aX (hc ag s σ H _ I h) λd s1 ⟨H1,I1,q1⟩=>?_);cases d with
 | true=>exact ha ag s1 σ H1 D I1 q1
 | false=>exact hb ag s1 σ H1 D I1 q1
end
abbrev TG:=V->St->Hp->(St->Hp->Prop)->Prop
def PG(X:Cx)(target:aB)(t:TG):Prop :=
 ∀ (ag:List (af×Obj)) (s:ao) (σ:St) (H:Hp) (v:V) (u:ai) (Q:St->Hp->Prop),Inv X ag σ H s->RelV v u->t v σ H Q ->
  aw (au X.prog X.w) X.A (assign target X.env u) (λ_ s'=>∃ σ' H',Inv X ag σ' H' s'/\Q σ' H') X.xe s
section
variable{X:Cx}{pos:Pos}
def CK(i:Nat):TG:=λv σ H Q=>Q (σ.set i (aa v)) H
theorem QN{i:Nat}{x:Str}(hN:X.N.Nodup)(hi:X.N[i]?=aa x)(hx:Loc X.env.scope x)(hf:X.fn x=ah\/X.env.scope.names.lookup x=aa .local:=by first | exact .inl rfl | exact .inr rfl | assumption):PG X (.Name x pos) (CK i):=by intro ag s σ H v u Q I r h;exact wpAny_assign_Name (tL I hN hi hx r (λs' I'=>⟨_,H,I',h⟩) hf)
def Kc(te:TE)(g:TG):TS:=λD σ H=>te σ H λx H1=>g x σ H1 D.nx
theorem GE{i:Nat}{x:Str}{e:aB}{te:TE}{pos':Pos}(hN:X.N.Nodup)(hi:X.N[i]?=aa x)(hx:Loc X.env.scope x)(he:PE X e te)(hs:j4 e (aa (.Name x pos')) pos.line X.env=pure ak:=by rfl)(hf:X.fn x=ah\/X.env.scope.names.lookup x=aa .local:=by first | exact .inl rfl | exact .inr rfl | assumption) : PS X (.Assign [.Name x pos'] e pos) (Kc te (CK i)):=by intro ag s σ H D I h;refine wpAny_Assign_Name (aX (he ag s σ H _ I h) λv s1 ⟨y,H1,I1,r1,q1⟩=>?_) hs;exact tL I1 hN hi hx r1 (λs2 I2=>⟨_,H1,I2,q1⟩) hf
end
structure It where
 go:Nat->Hp->Prop
 yld:Nat->Hp->V->Hp->Prop
 stop:Nat->Hp->Prop
def lJ(X:Cx)(ag:List (af×Obj))(H:Hp)(b:af):Prop :=
 H b=ae/\b≠X.env.locals/\b∉X.fs/\(b∈X.ex\/X.s₀.heap.objs.size<=b)/\(∀ x c,X.env.cells.lookup x=aa c->c≠b)/\∀ p∈X.pn++ag,p.1≠b
theorem Inv.fpOk{X:Cx}{ag:List (af×Obj)}{σ:St}{H H':Hp}{s:ao}{b:af}(I:Inv X ag σ H s)(hb:s.heap.objs.size<=b)(hn:H' b=ae):lJ X ag H' b:=by
 refine⟨hn,rH (gU I.lt hb),I.nofs hb,.inr (cr I.sz hb),λx c e z=>?_,λp hp z=>?_⟩
 ·obtain⟨v,q⟩:=I.cell x c e;exact absurd (gU q.lt (by rw[z]; exact hb)) (gW _)
 ·exact absurd (gU (bP (I.pin p hp).1) (by rw[z]; exact hb)) (gW _)
structure sX(P:aM)(w:aG)(K:aq)(tg:aB)(J:It)(fp:List af)(it:af)(tn:Nat->aA->Prop):Prop where
 mem:it∈fp
 obj:∀ i h,tn i h->∀ b∈fp,∃ o,h.get? b=aa o/\∀ v,o.data≠.cell v
 keep:∀ i h h',tn i h->(∀ b∈fp,∀ o,h.get? b=aa o->h'.get? b=aa o)->tn i h'
 item:∀ (X:Cx),X.prog=P->X.w=w->X.K=K->X.calm=ah->∀ (i:Nat) (ag:List (af×Obj)) (s:ao) (σ:St) (H:Hp) (E:ai->ao->Prop),Inv X ag σ H s->(∀ b∈fp,lJ X ag H b)->tn i s.heap->J.go i H ->
  aw (au P w) X.A (pyNext (.ref it)) (λr s1=>∃ u,r=aa u /\ aw (au P w) X.A (Bp tg (.ref it) u) (λ_ s2=>∃ x H',Inv X ag σ H' s2/\RelV x u/\J.yld i H x H'/\tn (i+1) s2.heap/\∀ b∈fp,H' b=ae) E s1) E s
 done:∀ (X:Cx),X.prog=P->X.w=w->X.K=K->X.calm=ah->∀ (i:Nat) (ag:List (af×Obj)) (s:ao) (σ:St) (H:Hp) (E:ai->ao->Prop),Inv X ag σ H s->(∀ b∈fp,lJ X ag H b)->tn i s.heap->J.stop i H ->
  aw (au P w) X.A (pyNext (.ref it)) (λr s1=>r=ae/\Inv X ag σ H s1) E s
 self:∀ (A:aR) (i:Nat) (s:ao) (Q:ai->ao->Prop) (E:ai->ao->Prop),tn i s.heap->Q (.ref it) s->aw (au P w) A (nY (.ref it)) Q E s
abbrev TI:=St->Hp->(It->Hp->Prop)->Prop
def vC(X:Cx)(ag:List (af×Obj))(σ:St)(tg:aB)(R:It->Hp->Prop)(itv:ai)(s2:ao):Prop :=
 ∃ (it:af) (fp:List af) (tn:Nat->aA->Prop) (J:It) (H':Hp),itv = .ref it/\Inv X ag σ H' s2/\sX X.prog X.w X.K tg J fp it tn/\tn 0 s2.heap/\(∀ b∈fp,lJ X ag H' b)/\R J H'
def PI(X:Cx)(tg iter:aB)(wi:TI):Prop :=
 ∀ (ag:List (af×Obj)) (s:ao) (σ:St) (H:Hp) (R:It->Hp->Prop),Inv X ag σ H s->wi σ H R ->
  aw (au X.prog X.w) X.A (aD iter X.env) (λv s1=>aw (au X.prog X.w) X.A (nY v) (vC X ag σ tg R) X.xe s1) X.xe s
theorem vr{M:Model}{A:aR}{E:ai->ao->Prop}{s:ao}{tg:aB}{it:af}{u:ai}{o:Obj}{n:String}{vs:Array ai}{Q:Unit->ao->Prop}(ho:s.heap.get? it=aa o)(hc:o.cls = .type n)(hd:o.data = .fields vs)(hn:["enumerate","zip","dict_itemiterator","dict_reverseitemiterator","odict_iterator","itertools.zip_longest","itertools.pairwise"].contains n=ak) (hQ:Q () s):aw M A (Bp tg (.ref it) u) Q E s:=by
 unfold Bp;cases tg <;> first
  | exact aQ hQ
  | (cases u <;> first
    | exact aQ hQ
    | (refine ar (wpAny_load ho ?_)
       rw[hc,hd];show aw M A (if(["enumerate","zip","dict_itemiterator","dict_reverseitemiterator","odict_iterator","itertools.zip_longest","itertools.pairwise"].contains n && vs[0]? == aa (et _))=ah then _ else _) Q E s;rw[if_neg (by intro h; rw[hn,Bool.false_and]at h; cases h)];exact aQ hQ))
def yQ(K:aq)(a:af):It :=⟨λi H=>∃ xs x,bR K H a xs/\xs[i]?=aa x,λi H x H'=>H'=H/\∀ xs,bR K H a xs->xs[i]?=aa x,λi H=>∃ xs,bR K H a xs/\xs.length<=i⟩
def Ap(K:aq)(a:af):It :=⟨λi H=>∃ xs x,cq K H a xs/\xs[i]?=aa x,λi H x H'=>H'=H/\∀ xs,cq K H a xs->xs[i]?=aa x,λi H=>∃ xs,cq K H a xs/\xs.length<=i⟩
def tt(lo:Int)(n:Nat):It:=⟨λi _=>i<n,λi H x H'=>H'=H/\x = .int (lo+i),λi _=>n<=i⟩
theorem MY{P:aM}{w:aG}{K:aq}{tg:aB}(a it:af):sX P w K tg (yQ K a) [it] it (λi h=>h.IsListIter it a i) where
 mem:=by simp
 obj:=λi h st b hb=>by
  have e:b=it:=by simpa using hb
  subst e;obtain⟨o,e,c,d⟩:=st;exact⟨o,e,λv z=>by rw[d]at z; cases z⟩
 keep:=λi h h' st k=>st.at λo e=>k it (by simp) o e
 item:=by intro X hP hw hK hc i ag s σ H E I hf st hg;subst hP hw hK;obtain⟨xs,x,hq,hx⟩:=hg;obtain⟨its,rv,p,hz⟩:=I.list hq;obtain⟨u,hu,ru⟩:=rv.get hx;obtain⟨f0,f1,f2,f3,f4,f5⟩:=hf it (by simp);refine wpAny_pyNext_list_item st p.isList (x:=u) (by simpa using hu) λh' ay sb=>?_;have I1:Inv X ag σ H { s with heap:=h' }:=I.turned (t':=s.toks) (λb o hb e=>(sb.2 b hb).trans e) f0 f1 f3 f4 f5;obtain⟨o,e,c,d⟩:=id ay;exact⟨u,rfl,vr (s:={ s with heap:=h' }) e c d (by decide) ⟨x,H,I1,ru,⟨rfl,λys hy=>by rw[I.list_inj hy hq]; exact hx⟩,ay,λb hb=>(hf b hb).1⟩⟩
 done:=by intro X hP hw hK hc i ag s σ H E I hf st hg;subst hP hw hK;obtain⟨xs,hq,hx⟩:=hg;obtain⟨its,rv,p,hz⟩:=I.list hq;obtain⟨f0,f1,f2,f3,f4,f5⟩:=hf it (by simp);have hl:=rv.length;exact wpAny_pyNext_list_end (I.ok.hd hc) st p.isList (by simp; lia) λh' eb=>⟨rfl,I.turned (t':=s.toks) (λb o hb e=>eb b o hb e) f0 f1 f3 f4 f5⟩
 self:=λ_ _ _ _ _ st h=>wpAny_pyIter_listiter st h
theorem O_{P:aM}{w:aG}{K:aq}{tg:aB}(a it:af):sX P w K tg (Ap K a) [it] it (λi h=>h.IsTupleIter it a i) where
 mem:=by simp
 obj:=λi h st b hb=>by
  have e:b=it:=by simpa using hb
  subst e;obtain⟨o,e,c,d⟩:=st;exact⟨o,e,λv z=>by rw[d]at z; cases z⟩
 keep:=λi h h' st k=>st.at λo e=>k it (by simp) o e
 item:=by intro X hP hw hK hc i ag s σ H E I hf st hg;subst hP hw hK;obtain⟨xs,x,hq,hx⟩:=hg;obtain⟨its,rv,p,hz⟩:=I.tuple hq;obtain⟨u,hu,ru⟩:=rv.get hx;obtain⟨f0,f1,f2,f3,f4,f5⟩:=hf it (by simp);refine wpAny_pyNext_tuple_item st (show s.heap.IsTuple a its.toArray from p) (x:=u) (by simpa using hu) λh' ay sb=>?_;have I1:Inv X ag σ H { s with heap:=h' }:=I.turned (t':=s.toks) (λb o hb e=>(sb.2 b hb).trans e) f0 f1 f3 f4 f5;obtain⟨o,e,c,d⟩:=id ay;exact⟨u,rfl,vr (s:={ s with heap:=h' }) e c d (by decide) ⟨x,H,I1,ru,⟨rfl,λys hy=>by rw[I.tuple_inj hy hq]; exact hx⟩,ay,λb hb=>(hf b hb).1⟩⟩
 done:=by intro X hP hw hK hc i ag s σ H E I hf st hg;subst hP hw hK;obtain⟨xs,hq,hx⟩:=hg;obtain⟨its,rv,p,hz⟩:=I.tuple hq;obtain⟨f0,f1,f2,f3,f4,f5⟩:=hf it (by simp);have hl:=rv.length;exact wpAny_pyNext_tuple_end (I.ok.hd hc) st (show s.heap.IsTuple a its.toArray from p) (by simp; lia) λh' eb=>⟨rfl,I.turned (t':=s.toks) (λb o hb e=>eb b o hb e) f0 f1 f3 f4 f5⟩
 self:=λ_ _ _ _ _ st h=>wpAny_pyIter_tupleiter st h
theorem LS{P:aM}{w:aG}{K:aq}{tg:aB}(it:af)(lo:Int)(n:Nat):sX P w K tg (tt lo n) [it] it (λi h=>IsRangeIter h it (lo+(i:Nat) * 1) ((n:Int)-(i:Nat)) 1) where
 mem:=by simp
 obj:=λi h st b hb=>by
  have e:b=it:=by simpa using hb
  subst e;exact⟨_,st,λv z=>by
   have z':Data.fields _=Data.cell v:=z;cases z'⟩
 keep:=λi h h' st k=>k it (by simp) _ st
 item:=by intro X hP hw hK hc i ag s σ H E I hf st hg;subst hP hw hK;obtain⟨f0,f1,f2,f3,f4,f5⟩:=hf it (by simp);have W:=Walks.range (prog:=X.prog) (w:=X.w) (I.ok.hd hc) it lo 1 n;refine W.item i s _ _ hg st λv h' tk hv ay kk=>?_;obtain⟨t,rfl⟩:=hv;have I1:Inv X ag σ H { s with heap:=h',toks:=tk }:=I.turned (λb o hb e=>kk b o (by simpa using hb) e) f0 f1 f3 f4 f5;refine⟨_,rfl,vr (s:={ s with heap:=h',toks:=tk }) (n:="range_iterator") ay rfl rfl (by decide) ⟨.int (lo+i),H,I1,⟨t,?_⟩,⟨rfl,rfl⟩,ay,λb hb=>(hf b hb).1⟩⟩;rw[Int.mul_one]
 done:=by intro X hP hw hK hc i ag s σ H E I hf st hg;subst hP hw hK;obtain⟨f0,f1,f2,f3,f4,f5⟩:=hf it (by simp);exact wpAny_pyNext_range_end (I.ok.hd hc) st (by have:n<=i:=hg; lia) λh' eb=>⟨rfl,I.turned (t':=s.toks) (λb o hb e=>eb b o hb e) f0 f1 f3 f4 f5⟩
 self:=λ_ _ _ _ _ st h=>wpAny_pyIter_rangeiter st h
section
variable{X:Cx}{tg:aB}
theorem Cy{ag:List (af×Obj)}{σ:St}{H:Hp}{s:ao}{R:It->Hp->Prop}{E:ai->ao->Prop}{lo hi:Int}{t u v:Tok}{tk:Nat}(I:Inv X ag σ H s)(h1 : -(2 ^ 62)<=lo)(h2:lo<2 ^ 62)(h3 : -(2 ^ 62)<=hi)(h4:hi<2 ^ 62)(q:R (tt lo (hi-lo).toNat) H):aw (au X.prog X.w) X.A (nY (.ref s.heap.objs.size)) (vC X ag σ tg R) E { s with heap:=s.heap.push { cls:=.type "range",data:=.fields #[.int lo t,.int hi u,.int 1 v] },toks:=tk }:=by
 refine wpAny_pyIter_range (IsRange.new ..) (small_one h1 h2 h3 h4) ?_;have I1:Inv X ag σ H { s with heap:=s.heap.push { cls:=.type "range",data:=.fields #[.int lo t,.int hi u,.int 1 v] },toks:=tk }:=I.kept λb o e=>bG _ e;refine⟨(s.heap.push { cls:=.type "range",data:=.fields #[.int lo t,.int hi u,.int 1 v] }).objs.size,[(s.heap.push { cls:=.type "range",data:=.fields #[.int lo t,.int hi u,.int 1 v] }).objs.size],_,_,H,rfl,I1.kept (t':=tk) λb o e=>bG _ e,LS _ lo (hi-lo).toNat,?_,λb hb=>?_,q⟩
 ·have e1:lo+((0:Nat):Int) * 1=lo:=by simp
  have e2:(((hi-lo).toNat:Nat):Int)-((0:Nat):Int)=Builtin.Range.rangeSize lo hi 1:=by rw[rangeSize_one]; split <;> lia
  show IsRangeIter _ _ (lo+((0:Nat):Int) * 1) ((((hi-lo).toNat:Nat):Int)-((0:Nat):Int)) 1;rw[e1,e2];exact cW _ rfl
 ·have e:b=(s.heap.push { cls:=.type "range",data:=.fields #[.int lo t,.int hi u,.int 1 v] }).objs.size:=by simpa using hb
  subst e;exact I1.fpOk (bp _) (I1.hok.fresh (bp _))
def Jd(ta:TA):TI:=λσ H R=>ta σ H λvs H1=>∃ j:Int,vs=[.int j]/\-(2 ^ 62)<=j/\j<2 ^ 62/\R (tt 0 j.toNat) H1
def Ma(ta:TA):TI:=λσ H R=>ta σ H λvs H1=>∃ i j:Int,vs=[.int i,.int j]/\(-(2 ^ 62)<=i/\i<2 ^ 62/\-(2 ^ 62)<=j/\j<2 ^ 62)/\R (tt i (j-i).toNat) H1
theorem Qs{a:aB}{ta:TA}{p pos:Pos}(hg:Gl X "range")(hm:X.mg "range" = ae)(ha:PA X [a] ta)(hs:aC [a] X.env=[(ak,aD a X.env)]:=by rfl):PI X tg (.Call (.Name "range" p) [a] [] pos) (Jd ta):=by
 intro ag s σ H R I h;refine Call_ (tZ I hg hm boot_range (Hc (aX (ha pos ag s σ H _ I h) λus s1 ⟨vs,H1,I1,r1,q1⟩=>?_) hs rfl));obtain⟨j,e,q1,q2,q⟩:=q1;subst e;cases r1 with
 | cons r rr=>
  cases rr;obtain⟨t,rfl⟩:=r;exact call_range_1 (Cy I1 ∅ ∅ q1 q2 (by simpa using q))
theorem Ll{a b:aB}{ta:TA}{p pos:Pos}(hg:Gl X "range")(hm:X.mg "range" = ae)(ha:PA X [a,b] ta)(hs:aC [a,b] X.env=[(ak,aD a X.env),(ak,aD b X.env)]:=by rfl)(jH:aC [b] X.env=[(ak,aD b X.env)]:=by rfl) : PI X tg (.Call (.Name "range" p) [a,b] [] pos) (Ma ta):=by
 intro ag s σ H R I h;refine Call_ (tZ I hg hm boot_range (Hc (aX (ha pos ag s σ H _ I h) λus s1 ⟨vs,H1,I1,r1,q1⟩=>?_) (by rw[hs,jH]) (by rw[jH]; rfl)));obtain⟨i,j,e,⟨q1,q2,q3,q4⟩,q⟩:=q1;subst e;cases r1 with
 | cons r rr=>
  cases rr with
  | cons r' rr=>
   cases rr;obtain⟨t,rfl⟩:=r;obtain⟨t',rfl⟩:=r';exact call_range_2 (Cy I1 q1 q2 q3 q4 q)
def OS(wi:TI)(g:TG)(tb:TS):TS:=λD σ H=>wi σ H λJ H1=>∃ W:Nat->Nat->St->Hp->Prop,(∃ m,W 0 m σ H1)/\∀ i m σ H,W i m σ H ->
 (J.stop i H/\D.nx σ H)\/(J.go i H/\∃ N:St->Hp->Prop,(∀ σ' H',N σ' H'->∃ m',m'<m/\W (i+1) m' σ' H')/\∀ x H',J.yld i H x H'->g x σ H' λσ2 H2=>tb { D with nx:=N,ct:=N,bk:=D.nx } σ2 H2)
def tU(fp:List af)(h:aA):List (af×Obj):=fp.filterMap λb=>(h.get? b).map λo=>(b,o)
theorem wU{fp:List af}{h:aA}{b:af}{o:Obj}(hb:b∈fp)(e:h.get? b=aa o):(b,o)∈tU fp h:=List.mem_filterMap.mpr ⟨b,hb,by rw[e]; rfl⟩
theorem L7{fp:List af}{h:aA}{p:af×Obj}(hp:p∈tU fp h):p.1∈fp/\h.get? p.1=aa p.2:=by
 obtain⟨b,hb,e⟩:=List.mem_filterMap.mp hp;cases q:h.get? b with
 | none=>rw[q]at e; cases e
 | some o=>rw[q]at e;have e':(b,o)=p:=fj e;subst e';exact⟨hb,q⟩
theorem Inv.pinned{ag:List (af×Obj)}{σ:St}{H:Hp}{s:ao}{fp:List af}(I:Inv X ag σ H s)(hf:∀ b∈fp,lJ X ag H b)(ho:∀ b∈fp,∃ o,s.heap.get? b=aa o/\∀ v,o.data≠.cell v):Inv X (ag++tU fp s.heap) σ H s :=
 I.pins_of λp hp=>(eM.mp hp).elim (λz=>I.pin p (kM _ z)) λz=>by
  obtain⟨hb,e⟩:=L7 z;obtain⟨f0,f1,f2,_⟩:=hf p.1 hb;obtain⟨o,e',d⟩:=ho p.1 hb;rw[e]at e'; cases e';exact⟨e,f0,f1,f2,d⟩
theorem Inv.unpinned{ag pl:List (af×Obj)}{σ:St}{H:Hp}{s:ao}(I:Inv X (ag++pl) σ H s):Inv X ag σ H s:=I.pins_of λp hp=>I.pin p (kM _ (Bo _ hp))
theorem MH{iter:aB}{body:List aY}{wi:TI}{g:TG}{tb:TS}{pos:Pos}(hp:PassesOwn (au X.prog X.w) X.A X.env X.xe)(hc:X.calm=ah)(hi:PI X tg iter wi)(hg:PG X tg g)(hb:jw X body tb)(hs:∀ x,Bq iter X.env x=pure x:=by intro _; rfl):PS X (.For tg iter body [] pos) (OS wi g tb):=by
 intro ag s σ H D I h;refine wpAny_For (aX (hi ag s σ H _ I h) λv s1 h1=>aX h1 λitv s2 h2=>?_) hs;obtain⟨it,fp,tn,J,H2,e,I2,T,a6,f2,W,⟨m0,w0⟩,turn⟩:=h2;subst e;have stat:∀ {H':Hp},(∀ b∈fp,H' b=ae)->∀ b∈fp,lJ X ag H' b:=λhn b hb=>⟨hn b hb,(f2 b hb).2⟩
 refine codeAny_forLoop_any (λn s'=>∃ i σ' H',Inv X ag σ' H' s'/\tn i s'.heap/\(∀ b∈fp,H' b=ae)/\W i n σ' H') ?_ m0 ⟨0,σ,H2,I2,a6,λb hb=>(f2 b hb).1,w0⟩;rintro n s3 ⟨i,σ3,H3,I3,bv,fr3,w3⟩;rcases turn i n σ3 H3 w3 with⟨stop,qn⟩ | ⟨go,N,hN,step⟩
 ·refine xE hp (aX (T.done X rfl rfl rfl hc i ag s3 σ3 H3 X.xe I3 (stat fr3) bv stop) λr s4 ⟨hr,I4⟩=>?_);subst hr;exact wpAny_execs_nil ⟨σ3,H3,I4,qn⟩
 ·refine xE hp (aX (T.item X rfl rfl rfl hc i ag s3 σ3 H3 X.xe I3 (stat fr3) bv go) λr s4 ⟨u,hr,h4⟩=>?_);subst hr;refine xE hp (aX h4 λ_ s5 ⟨x,H5,I5,r5,y5,bY,fr5⟩=>?_);have I5':=I5.pinned (stat fr5) (T.obj _ _ bY);refine xE hp (aX (hg _ s5 σ3 H5 x u _ I5' r5 (step x H5 y5)) λ_ s6 ⟨σ6,H6,I6,q6⟩=>?_);refine xE hp (aX (hb _ s6 σ6 H6 _ I6 q6) λf s7 q7=>?_);have again:∀ {σ7:St} {H7:Hp},Inv X (ag++tU fp s5.heap) σ7 H7 s7->N σ7 H7->∃ m,m<n/\∃ i σ' H',Inv X ag σ' H' s7/\tn i s7.heap/\(∀ b∈fp,H' b=ae)/\W i m σ' H':=λ{σ7 H7} I7 n7=>by obtain⟨m',hm,w7⟩:=hN σ7 H7 n7;refine⟨m',hm,i+1,σ7,H7,I7.unpinned,T.keep _ _ _ bY λb hb o e=>(I7.pin (b,o) (kM _ (kM _ (wU hb e)))).1,λb hb=>?_,w7⟩;obtain⟨o,e,d⟩:=T.obj _ _ bY b hb;exact(I7.pin (b,o) (kM _ (kM _ (wU hb e)))).2.1
  cases f with
  | next=>obtain⟨σ7,H7,I7,n7⟩:=q7; exact again I7 n7
  | cont=>obtain⟨σ7,H7,I7,n7⟩:=q7; exact again I7 n7
  | brk=>obtain⟨σ7,H7,I7,q7⟩:=q7; exact⟨σ7,H7,I7.unpinned,q7⟩
  | ret v=>obtain⟨x7,σ7,H7,I7,r7,q7⟩:=q7; exact⟨x7,σ7,H7,I7.unpinned,r7,q7⟩
end
abbrev R2:=V->V->Hp->VK->Prop
def bU(X:Cx)(f:ai->ai->Sem ai)(r:R2):Prop :=
 ∀ (ag:List (af×Obj)) (s:ao) (σ:St) (H:Hp) (x y:V) (v u:ai) (Q:VK),Inv X ag σ H s->RelV x v->RelV y u->r x y H Q ->
  aw (au X.prog X.w) X.A (f v u) (EP X ag σ Q) X.xe s
def xA(X:Cx)(f:ai->Sem ai)(r:V->Hp->VK->Prop):Prop :=
 ∀ (ag:List (af×Obj)) (s:ao) (σ:St) (H:Hp) (x:V) (v:ai) (Q:VK),Inv X ag σ H s->RelV x v->r x H Q ->
  aw (au X.prog X.w) X.A (f v) (EP X ag σ Q) X.xe s
def eu(X:Cx)(f:ai)(r:List V->Hp->VK->Prop):Prop :=
 ∀ (ag:List (af×Obj)) (s:ao) (σ:St) (H:Hp) (xs:List V) (us:List ai) (Q:VK),Inv X ag σ H s->bd xs us->r xs H Q ->
  aw (au X.prog X.w) X.A (call f us) (EP X ag σ Q) X.xe s
def vG(r:R2)(ta tb:TE):TE:=λσ H Q=>ta σ H λx H1=>tb σ H1 λy H2=>r x y H2 Q
def OE(r:V->Hp->VK->Prop)(ta:TE):TE:=λσ H Q=>ta σ H λx H1=>r x H1 Q
def rI(C:Int->Int->Prop)(g:Int->Int->V):R2:=λx y H Q=>∃ i j,x = .int i/\y = .int j/\C i j/\Q (g i j) H
def lm(g:Int->Int->V):R2:=λx y H Q=>∃ i j,x = .int i/\y = .int j/\Q (g i j) H
def rU(g:Int->V):V->Hp->VK->Prop:=λx H Q=>∃ i,x = .int i/\Q (g i) H
section
variable{X:Cx}{a b c:aB}{ta tb tc:TE}{pos:Pos}
theorem AS(ha:PE X a ta)(hb:PE X b tb){ag:List (af×Obj)}{s:ao}{σ:St}{H:Hp}{R:V->V->Hp->Prop}(I:Inv X ag σ H s)(h:ta σ H λx H1=>tb σ H1 λy H2=>R x y H2) {Q:ai->ao->Prop} {f:ai->ai->Sem ai}(hf:∀ v u s2 x y H2,Inv X ag σ H2 s2->RelV x v->RelV y u->R x y H2->aw (au X.prog X.w) X.A (f v u) Q X.xe s2) : aw (au X.prog X.w) X.A (aD a X.env) (λv s₁=>aw (au X.prog X.w) X.A (aD b X.env) (λu s₂=>aw (au X.prog X.w) X.A (f v u) Q X.xe s₂) X.xe s₁) X.xe s:=by refine aX (ha ag s σ H _ I h) λv s1 ⟨x,H1,I1,r1,q1⟩=>?_;refine aX (hb ag s1 σ H1 _ I1 q1) λu s2 ⟨y,H2,I2,r2,q2⟩=>?_;exact hf v u s2 x y H2 I2 r1 r2 q2
theorem Iq{op:Operator}{r:R2}(ho:bU X (jB op) r)(ha:PE X a ta)(hb:PE X b tb):PE X (.BinOp a op b pos) (vG r ta tb):=by intro ag s σ H Q I h;exact wpAny_BinOp (AS ha hb I h λv u s2 x y H2 I2 rx ry q=>ho ag s2 σ H2 x y v u Q I2 rx ry q)
theorem OV{op:UnaryOp}{r:V->Hp->VK->Prop}(ho:xA X (unaryOp op) r)(ha:PE X a ta):PE X (.UnaryOp op a pos) (OE r ta):=by intro ag s σ H Q I h;exact UnaryOp_ (aX (ha ag s σ H _ I h) λv s1 ⟨x,H1,I1,r1,q1⟩=>ho ag s1 σ H1 x v Q I1 r1 q1)
theorem Aq{f:ai->ai->Sem ai}{C:Int->Int->Prop}{g:Int->Int->Int}(rule:∀ (i j:Int) (t u:Tok) (s:ao) (Q:ai->ao->Prop) (E:ai->ao->Prop),C i j->Q (.int (g i j) s.toks) { s with toks:=s.toks+1 }->aw (au X.prog X.w) X.A (f (.int i t) (.int j u)) Q E s) : bU X f (rI C λi j=>.int (g i j)):=by intro ag s σ H x y v u Q I rx ry h;obtain⟨i,j,rfl,rfl,hc,q⟩:=h;obtain⟨t,rfl⟩:=rx;obtain⟨t',rfl⟩:=ry;exact rule i j t t' s _ _ hc ⟨.int (g i j),H,I.tok _,⟨_,rfl⟩,q⟩
theorem E1{f:ai->ai->Sem ai}{g:Int->Int->Int}(rule:∀ (i j:Int) (t u:Tok) (s:ao) (Q:ai->ao->Prop) (E:ai->ao->Prop),Q (.int (g i j) s.toks) { s with toks:=s.toks+1 }->aw (au X.prog X.w) X.A (f (.int i t) (.int j u)) Q E s) : bU X f (lm λi j=>.int (g i j)):=by intro ag s σ H x y v u Q I rx ry h;obtain⟨i,j,rfl,rfl,q⟩:=h;obtain⟨t,rfl⟩:=rx;obtain⟨t',rfl⟩:=ry;exact rule i j t t' s _ _ ⟨.int (g i j),H,I.tok _,⟨_,rfl⟩,q⟩
theorem Bj{f:ai->ai->Sem ai}{g:Int->Int->Bool}(rule:∀ (i j:Int) (t u:Tok) (s:ao) (Q:ai->ao->Prop) (E:ai->ao->Prop),Q (.bool (g i j)) s->aw (au X.prog X.w) X.A (f (.int i t) (.int j u)) Q E s) : bU X f (lm λi j=>.bl (g i j)):=by intro ag s σ H x y v u Q I rx ry h;obtain⟨i,j,rfl,rfl,q⟩:=h;obtain⟨t,rfl⟩:=rx;obtain⟨t',rfl⟩:=ry;exact rule i j t t' s _ _ ⟨.bl (g i j),H,I,rfl,q⟩
def Ef(i j:Int):Prop:=0<=j/\j<=1000000/\i.natAbs<2 ^ 64
def Ak(i j:Int):Prop:=(-(2 ^ 64)<i/\i<2 ^ 64)\/(-(2 ^ 64)<j/\j<2 ^ 64)
theorem Ak.ok{i j:Int}(h:Ak i j):IntMulOk i j:=by
 rcases h with⟨h1,h2⟩ | ⟨h1,h2⟩
 ·exact .of_left (intBits_le_64 h1 h2)
 ·exact .of_right (intBits_le_64 h1 h2)
theorem Ry:bU X (jB .Add) (lm λi j=>.int (i+j)):=E1 λ_ _ _ _ _ _ _ q=>add_int q
theorem yD:bU X (jB .Sub) (lm λi j=>.int (i-j)):=E1 λ_ _ _ _ _ _ _ q=>sub_int q
theorem Ri:bU X (jB .Mult) (rI Ak λi j=>.int (i * j)):=Aq λ_ _ _ _ _ _ _ hc q=>mul_int q hc.ok
theorem qA:bU X (jB .Mod) (rI (λ_ j=>0<j) λi j=>.int (i % j)):=Aq λi j _ _ _ _ _ hc q=>by have h1:(0:Int)<j:=hc;exact mod_int' ∅ (by rw[Int.fmod_eq_emod_of_nonneg i ∅]; exact q)
theorem OW:bU X (jB .Pow) (rI Ef λi j=>.int (i ^ j.toNat)):=Aq λ_ _ _ _ _ _ _ hc q=>pow_int_small hc.1 hc.2.1 hc.2.2 q
theorem IR{f:ai->Sem ai}{g:Int->Int}(rule:∀ (i:Int) (t:Tok) (s:ao) (Q:ai->ao->Prop) (E:ai->ao->Prop),Q (.int (g i) s.toks) { s with toks:=s.toks+1 }->aw (au X.prog X.w) X.A (f (.int i t)) Q E s) : xA X f (rU λi=>.int (g i)):=by intro ag s σ H x v Q I rx h;obtain⟨i,rfl,q⟩:=h;obtain⟨t,rfl⟩:=rx;exact rule i t s _ _ ⟨.int (g i),H,I.tok _,⟨_,rfl⟩,q⟩
theorem sU:xA X (unaryOp .USub) (rU λi=>.int (-i)):=IR λ_ _ _ _ _ q=>neg_int q
end
def pF:V->V->Bool
 | .non,.non=>ah | .non,.int _=>ah | .int _,.non=>ah | .non,.bl _=>ah | .bl _,.non=>ah | .non,.str _=>ah | .str _,.non=>ah
 | .int _,.int _=>ah | .bl _,.bl _=>ah | .str _,.str _=>ah | .byt _,.byt _=>ah
 | .int _,.str _=>ah | .str _,.int _=>ah | .bl _,.str _=>ah | .str _,.bl _=>ah
 | _,_=>ak
def Fh:R2:=λx y H Q=>pF x y=ah/\Q (.bl (decide (x=y))) H
def Eo:R2:=λx y H Q=>pF x y=ah/\Q (.bl (!decide (x=y))) H
theorem E5{i j:Int}:decide (V.int i=V.int j)=(i == j):=by rw[rJ];simp
theorem Ez{i j:Bool}:decide (V.bl i=V.bl j)=(i == j):=by rw[rJ];simp
theorem Ds{i j:Str}:decide (V.str i=V.str j)=(i == j):=by rw[rJ];simp
theorem G0{i j:Array UInt8}:decide (V.byt i=V.byt j)=(i.toList == j.toList):=by
 rw[rJ];cases i;cases j;simp
section
variable{X:Cx}{a b c:aB}{ta tb tc:TE}{pos:Pos}
theorem c_{ag:List (af×Obj)}{σ:St}{H:Hp}{s:ao}{Q:VK}{k k':Bool}(I:Inv X ag σ H s)(q:Q (.bl k) H)(e:k=k'):EP X ag σ Q (.bool k') s:=by subst e;exact⟨.bl k,H,I,rfl,q⟩
theorem Rt:bU X (eN .Eq) Fh:=by
 intro ag s σ H x y v u Q I rx ry h;obtain⟨hs,q⟩:=h;cases x with
 | non=>
  cases rx;cases y with
  | non=>cases ry; exact PySem.EqNone.eq_none_none (c_ I q (by simp))
  | bl j=>cases ry; exact PySem.EqNone.eq_none_bool (c_ I q (by simp))
  | int j=>obtain⟨t',rfl⟩:=ry; exact PySem.EqNone.eq_none_int (c_ I q (by simp))
  | str j=>obtain⟨t',rfl⟩:=ry; exact PySem.EqNone.eq_none_str (c_ I q (by simp))
  | _=>exact absurd (show ak=ah from hs) f8
 | bl i=>
  cases rx;cases y with
  | non=>cases ry; exact PySem.EqNone.eq_bool_none (c_ I q (by simp))
  | bl j=>cases ry; exact eq_bool (c_ I q Ez)
  | str j=>obtain⟨t',rfl⟩:=ry; exact PySem.EqMixed.eq_bool_str (c_ I q (by simp))
  | _=>exact absurd (show ak=ah from hs) f8
 | int i=>
  obtain⟨t,rfl⟩:=rx;cases y with
  | non=>cases ry; exact PySem.EqNone.eq_int_none (c_ I q (by simp))
  | int j=>obtain⟨t',rfl⟩:=ry; exact eq_int (c_ I q E5)
  | str j=>obtain⟨t',rfl⟩:=ry; exact PySem.EqMixed.eq_int_str (c_ I q (by simp))
  | _=>exact absurd (show ak=ah from hs) f8
 | str i=>
  obtain⟨t,rfl⟩:=rx;cases y with
  | non=>cases ry; exact PySem.EqNone.eq_str_none (c_ I q (by simp))
  | bl j=>cases ry; exact PySem.EqMixed.eq_str_bool (c_ I q (by simp))
  | int j=>obtain⟨t',rfl⟩:=ry; exact PySem.EqMixed.eq_str_int (c_ I q (by simp))
  | str j=>obtain⟨t',rfl⟩:=ry; exact eq_str (c_ I q Ds)
  | _=>exact absurd (show ak=ah from hs) f8
 | byt i=>
  obtain⟨t,rfl⟩:=rx;cases y with
  | byt j=>obtain⟨t',rfl⟩:=ry; exact PySem.W.eq_bytes (c_ I q G0)
  | _=>exact absurd (show ak=ah from hs) f8
 | _=>cases y <;> exact absurd (show ak=ah from hs) f8
theorem RK:bU X (eN .NotEq) Eo:=by
 intro ag s σ H x y v u Q I rx ry h;obtain⟨hs,q⟩:=h;cases x with
 | non=>
  cases rx;cases y with
  | non=>cases ry; exact PySem.EqNone.ne_none_none (c_ I q (by simp))
  | bl j=>cases ry; exact PySem.EqNone.ne_none_bool (c_ I q (by simp))
  | int j=>obtain⟨t',rfl⟩:=ry; exact PySem.EqNone.ne_none_int (c_ I q (by simp))
  | str j=>obtain⟨t',rfl⟩:=ry; exact PySem.EqNone.ne_none_str (c_ I q (by simp))
  | _=>exact absurd (show ak=ah from hs) f8
 | bl i=>
  cases rx;cases y with
  | non=>cases ry; exact PySem.EqNone.ne_bool_none (c_ I q (by simp))
  | bl j=>cases ry; exact ne_bool (c_ I q (congrArg not Ez))
  | str j=>obtain⟨t',rfl⟩:=ry; exact PySem.EqMixed.ne_bool_str (c_ I q (by simp))
  | _=>exact absurd (show ak=ah from hs) f8
 | int i=>
  obtain⟨t,rfl⟩:=rx;cases y with
  | non=>cases ry; exact PySem.EqNone.ne_int_none (c_ I q (by simp))
  | int j=>obtain⟨t',rfl⟩:=ry; exact ne_int (c_ I q (congrArg not E5))
  | str j=>obtain⟨t',rfl⟩:=ry; exact PySem.EqMixed.ne_int_str (c_ I q (by simp))
  | _=>exact absurd (show ak=ah from hs) f8
 | str i=>
  obtain⟨t,rfl⟩:=rx;cases y with
  | non=>cases ry; exact PySem.EqNone.ne_str_none (c_ I q (by simp))
  | bl j=>cases ry; exact PySem.EqMixed.ne_str_bool (c_ I q (by simp))
  | int j=>obtain⟨t',rfl⟩:=ry; exact PySem.EqMixed.ne_str_int (c_ I q (by simp))
  | str j=>obtain⟨t',rfl⟩:=ry; exact ne_str (c_ I q (congrArg not Ds))
  | _=>exact absurd (show ak=ah from hs) f8
 | byt i=>
  obtain⟨t,rfl⟩:=rx;cases y with
  | byt j=>obtain⟨t',rfl⟩:=ry; exact PySem.W.ne_bytes (c_ I q (congrArg not G0))
  | _=>exact absurd (show ak=ah from hs) f8
 | _=>cases y <;> exact absurd (show ak=ah from hs) f8
theorem AL:bU X (eN .Lt) (lm λi j=>.bl (decide (i<j))):=Bj λ_ _ _ _ _ _ _ q=>lt_int q
theorem vj:bU X (eN .LtE) (lm λi j=>.bl (decide (i<=j))):=Bj λ_ _ _ _ _ _ _ q=>le_int q
theorem Et:bU X (eN .Gt) (lm λi j=>.bl (decide (j<i))):=Bj λ_ _ _ _ _ _ _ q=>gt_int q
theorem Rm:bU X (eN .In) (λx y H Q=>∃ i j,x = .str i/\y = .str j/\Q (.bl (!(ui j i 0 j.length 1).isEmpty)) H):=by intro ag s σ H x y v u Q I rx ry h;obtain⟨i,j,rfl,rfl,q⟩:=h;obtain⟨t,rfl⟩:=rx;obtain⟨t',rfl⟩:=ry;exact in_str (c_ I q rfl)
theorem bU.or{f:ai->ai->Sem ai}{r r':R2}(h:bU X f r)(h':bU X f r'):bU X f (λx y H Q=>r x y H Q\/r' x y H Q):=by
 intro ag s σ H x y v u Q I rx ry q;rcases q with q | q
 ·exact h ag s σ H x y v u Q I rx ry q
 ·exact h' ag s σ H x y v u Q I rx ry q
theorem OA{op:CmpOp}{r:R2}(ho:bU X (eN op) r)(ha:PE X a ta)(hb:PE X b tb)(hm:xF op b=ak):PE X (.Compare a [op] [b] pos) (vG r ta tb):=by intro ag s σ H Q I h;exact wpAny_Compare1 (AS ha hb I h λv u s2 x y H2 I2 rx ry q=>ho ag s2 σ H2 x y v u Q I2 rx ry q) hm
def EH(t:TE):TT:=λσ H Q=>t σ H λx H'=>∃ k,x = .bl k/\Q k H'
theorem Eh{op:CmpOp}{r:R2}(ho:bU X (eN op) r)(ha:PE X a ta)(hb:PE X b tb)(hm:xF op b=ak):PT X (.Compare a [op] [b] pos) (EH (vG r ta tb)):=by
 intro ag s σ H Q I h;refine wpAny_isTrue_Compare1 (aX (ha ag s σ H _ I h) λv s1 ⟨x,H1,I1,r1,q1⟩=>aX (hb ag s1 σ H1 _ I1 q1) λu s2 ⟨y,H2,I2,r2,q2⟩=>aX (ho ag s2 σ H2 x y v u _ I2 r1 r2 q2) λc s3 ⟨z,H3,I3,r3,k,e,q3⟩=>?_) hm;subst e;cases r3;exact pW ⟨H3,I3,q3⟩
def yY(r r':R2)(ta tb tc:TE):TE:=λσ H Q=>ta σ H λx H1=>tb σ H1 λy H2=>r x y H2 λz H3=>∃ k,z = .bl k /\
 (if k=ah then tc σ H3 λw' H4=>r' y w' H4 Q else Q (.bl ak) H3)
theorem NG{op op':CmpOp}{r r':R2}(ho:bU X (eN op) r)(iP:bU X (eN op') r')(ha:PE X a ta)(hb:PE X b tb)(hc:PE X c tc)(hm:lastMarks [op,op'] [b,c]=ak:=by with_unfolding_all rfl):PE X (.Compare a [op,op'] [b,c] pos) (yY r r' ta tb tc):=by
 intro ag s σ H Q I h;refine Compare_chain (aX (ha ag s σ H _ I h) λv s1 ⟨x,H1,I1,r1,q1⟩=>chain_link (aX (hb ag s1 σ H1 _ I1 q1) λu s2 ⟨y,H2,I2,r2,q2⟩=>aX (ho ag s2 σ H2 x y v u _ I2 r1 r2 q2) λd s3 ⟨z,H3,I3,r3,k,e,q3⟩=>?_)) hm;subst e;cases r3;refine pW ?_;cases k with
 | false=>exact ite_ff ⟨.bl ak,H3,I3,rfl,q3⟩
 | true=>exact ite_tt (chain_last (aX (hc ag s3 σ H3 _ I3 q3) λw' s4 ⟨z',H4,I4,r4,q4⟩=>iP ag s4 σ H4 y z' u w' Q I4 r2 r4 q4))
theorem Oa{op op':CmpOp}{r r':R2}(ho:bU X (eN op) r)(iP:bU X (eN op') r')(ha:PE X a ta)(hb:PE X b tb)(hc:PE X c tc)(hm:lastMarks [op,op'] [b,c]=ak:=by with_unfolding_all rfl):PT X (.Compare a [op,op'] [b,c] pos) (EH (yY r r' ta tb tc)):=by
 intro ag s σ H Q I h;refine isTrue_chain (aX (ha ag s σ H _ I h) λv s1 ⟨x,H1,I1,r1,q1⟩=>test_link (aX (hb ag s1 σ H1 _ I1 q1) λu s2 ⟨y,H2,I2,r2,q2⟩=>aX (ho ag s2 σ H2 x y v u _ I2 r1 r2 q2) λd s3 ⟨z,H3,I3,r3,k,e,q3⟩=>?_)) hm;subst e;cases r3;refine pW ?_;cases k with
 | false=>
  obtain⟨k',e',q'⟩:=q3;cases e';exact ite_ff ⟨H3,I3,q'⟩
 | true=>
  refine ite_tt (test_last (aX (hc ag s3 σ H3 _ I3 q3) λw' s4 ⟨z',H4,I4,r4,q4⟩=>aX (iP ag s4 σ H4 y z' u w' _ I4 r2 r4 q4) λd' s5 ⟨z2,H5,I5,r5,k2,e2,q5⟩=>?_));subst e2;cases r5;exact pW ⟨H5,I5,q5⟩
theorem s_:(a9:Nat)<2 ^ 63:=by rw[nZ]; decide
theorem KY:bU X (jB .Add) (λx y H Q=>∃ i j,x = .str i/\y = .str j/\i.length+j.length<=a9/\Q (.str (i++j)) H):=by intro ag s σ H x y v u Q I rx ry h;obtain⟨i,j,rfl,rfl,hz,q⟩:=h;obtain⟨t,rfl⟩:=rx;obtain⟨t',rfl⟩:=ry;exact add_str (λt' tk=>⟨.str (i++j),H,I.tok _,⟨_,rfl⟩,q⟩) hz
theorem vals1{x:V}{us:List ai}(r:bd [x] us):∃ u,us=[u]/\RelV x u:=by
 cases r with
 | cons r1 r2=>cases r2; exact⟨_,rfl,r1⟩
theorem wX:eu X (.type "str") (λxs H Q=>∃ i,xs=[.int i]/\i.natAbs.log2<1920/\Q (.str (toString i)) H):=by intro ag s σ H xs us Q I r h;obtain⟨i,rfl,hz,q⟩:=h;obtain⟨u,rfl,t,rfl⟩:=vals1 r;exact PySem.P.str_of_int hz ⟨.str _,H,I.tok _,⟨_,rfl⟩,q⟩
def Dp(K:aq)(x:V)(H:Hp)(n:Nat):Prop :=
 match x with
 | .str y=>y.length<=a9/\n=y.length
 | .byt y=>y.size<=a9/\n=y.size
 | .ref p=>(∃ xs,bR K H p xs/\n=xs.length)\/∃ xs,cq K H p xs/\n=xs.length
 | _=>False
theorem iJ:eu X (.builtin "len") (λxs H Q=>∃ x n,xs=[x]/\Dp X.K x H n/\Q (.int n) H):=by
 intro ag s σ H xs us Q I r h;obtain⟨x,n,rfl,e,q⟩:=h;obtain⟨u,rfl,rx⟩:=vals1 r;have hl:=s_;have hs:a9=16777216:=nZ;cases x with
 | str y=>obtain⟨t,rfl⟩:=rx;obtain⟨hy,e'⟩:y.length<=a9/\n=y.length:=e;subst e';exact len_str ∅ ⟨.int _,H,I.tok _,⟨_,rfl⟩,q⟩
 | byt y=>obtain⟨t,rfl⟩:=rx;obtain⟨hy,e'⟩:y.size<=a9/\n=y.size:=e;subst e';exact PySem.W.len_bytes ∅ ⟨.int _,H,I.tok _,⟨_,rfl⟩,q⟩
 | ref p=>
  cases rx;have e':(∃ xs,bR X.K H p xs/\n=xs.length)\/∃ xs,cq X.K H p xs/\n=xs.length:=e;rcases e' with⟨xs,hx,e'⟩ | ⟨xs,hx,e'⟩
  ·subst e';obtain⟨its,r',pl,hz⟩:=I.list hx;have a8:=r'.length;exact Calls.call_len_list pl.isList (by simp only[cC]; lia) ⟨.int xs.length,H,I.tok _,⟨_,by simp only[cC]; rw[a8]⟩,q⟩
  ·subst e';obtain⟨its,r',pl,hz⟩:=I.tuple hx;have a8:=r'.length;exact len_tuple pl (by simp only[cC]; lia) ⟨.int xs.length,H,I.tok _,⟨_,by simp only[cC]; rw[a8]⟩,q⟩
 | _=>exact(show False from e).elim
end
structure rA(h:aA)(x dx C:af)(mA:Str->Option ai):Prop where
 obj:h.get? x=aa (pT C dx)
 ns:h.Ns1 dx mA
 ne:dx≠x
theorem Op{h:aA}{dx:af}{mA:Str->Option ai}(n:h.Ns1 dx mA):∃ od,h.get? dx=aa od/\∀ name,Br name od=aa (mA name):=by
 obtain⟨o,es,ep,ho,hd,hk,_,hm⟩:=n;refine⟨o,ho,λname=>?_⟩;have e:=hm name;unfold nsFind findBy at e;rw[← Array.find?_toList]at e;unfold Br;rw[hd];dsimp only;split
 ·rename_i y q;rw[q]at e;exact congrArg aa e
 ·rename_i q;rw[q]at e;have a:es.toList.any (·.refKey)=ak:=by rw[Hd];intro y hy;obtain⟨z,t,kc⟩:=hk y (Array.mem_toList_iff.mp hy);simp[DictEntry.refKey,kc]
  have a':¬ es.toList.any (·.refKey)=ah:=by rw[a]; exact f8
  rw[if_neg a'];exact congrArg aa e
theorem rA.look{h:aA}{x dx C:af}{mA:Str->Option ai}(I:rA h x dx C mA):∃ od,uj h x (pT C dx) C (aa od)/\∀ name,Br name od=aa (mA name) :=
 let ⟨od,ho,hl⟩:=Op I.ns
 ⟨od,⟨I.obj,rfl,rfl,ho⟩,hl⟩
section
variable{prog:aM}{w:aG}{A:aR}{E:ai->ao->Prop}{s:ao}{K:aq}{x dx C f:af}{mA:Str->Option ai}{name:Str}{v:ai}
theorem J9{expr:Bool}{Q:ai->ao->Prop}(X:K.In s.heap)(I:rA s.heap x dx C mA)(hg:Bs K C name=ah)(hh:He K C=ah)(ha:ie K (.ref C) name=aa ae) (hv:mA name=aa v) (hv':PySem.W.handedIn v=ah) (h:Q v { s with toks:=s.toks+1 }) : aw (au prog w) A (getAttr (.ref x) name expr) Q E s:=by obtain⟨od,J,hl⟩:=I.look;exact PySem.W.get_value X J (Hf hg).1 (PySem.W.findObj_own hh ha rfl (by rw[hl,hv])) hv' h
theorem Li{pl:Sem Bool}{Q:ai×List ai->ao->Prop}(X:K.In s.heap)(I:rA s.heap x dx C mA)(hg:Bs K C name=ah)(hf:ie K (.ref C) name=aa (aa (.ref f))) (ht:xG K (.ref f)=ah) (hv:mA name=ae) (h:Q (.ref f,[.ref x]) s) : aw (au prog w) A (rK (.ref x) name pl) Q E s:=by obtain⟨od,J,hl⟩:=I.look;exact PySem.W.method_fn X J (Hf hg).1 (Hf hg).2 hf (beq_iff_eq.mp ht) (by show(Br name od).map (·.isSome)=aa ak; rw[hl,hv]; rfl) h
theorem Nq{ns:List Str}{Q:Unit->ao->Prop}(X:K.In s.heap)(I:rA s.heap x dx C mA)(hs:ie K (.ref C) "__setattr__" = aa (aa (.builtin "object.__setattr__"))) (hp:PySem.W.plainOver K C=ah) (ht:PySem.W.takerIn K C name=aa ae) (hh:He K C=ah)(hw:G_ mA ns) (hsz:ns.length<=a9)(h:∀ h',rA h' x dx C (λy=>if y=name then aa v else mA y)->mD dx s.heap h'->Q () { s with heap:=h',toks:=s.toks+2 }) : aw (au prog w) A (setAttr (.ref x) name v) Q E s:=by obtain⟨od,J,hl⟩:=I.look;refine PySem.W.set_plain X J hs (PySem.W.osa_open (s:={ s with toks:=s.toks+1 }) (r:=ae) X J hp ht λb=>?_);obtain⟨cd,hc,sj⟩:=PySem.W.any_some hh;have hx:s.heap.get? x=aa ⟨.ref C,aa dx,.plain,#[]⟩:=I.obj;refine ar (aQ (ar (ar (wpAny_loadPart hx (ar (PySem.W.Looks.here (s:={ s with toks:=s.toks+1 }) (PySem.W.looks_clsIn X hc) ?_))))));rw[sj];refine aQ (a:=aa dx) (ar (aQ (ar ?_)));refine wpAny_nsSet1 (s:={ s with toks:=s.toks+1 }) I.ns λh' hn2 jH=>?_;obtain⟨oD,esD,epD,hoD,hdD,hcD⟩:=hn2.count (PySem.Within.cons name v hw);refine ar (wpAny_lookBehind hoD (by rw[hdD]; exact pastItsLine_dict (cr hcD (by rw[dq]; lia))) ?_);exact aQ (h _ ⟨(jH.2 _ (eh I.ne)).trans I.obj,hn2,I.ne⟩ jH)
theorem PJ{R:Result->ao->Prop}{vs:List ai}{kw:List (Str×ai)}(X:K.In s.heap)(hm:PySem.W.makesIn K C=ah)(hi:ie K (.ref C) "__init__" = aa (aa (.ref f))) (hf:PySem.W.typeIn K (.ref f)=aa (.type "function"))(h:j5 (au prog w) (A.under (.builtin "type.__call__" ⟨.ref C::vs,kw⟩)) (.call (.ref f) ⟨.ref (s.heap.objs.size+1)::vs,kw⟩) (PySem.W.InitBack (s.heap.objs.size+1) R) { s with heap:=(s.heap.push n4).push (pT C s.heap.objs.size) }) : j5 (au prog w) A (.call (.ref C) ⟨vs,kw⟩) R s:=by obtain⟨hh,g,d,t,os⟩:=s;exact PySem.W.make_core (PySem.W.makes_of X hm) (Hg X hi) (λself=>PySem.W.bind_fn X self hf) (.inl rfl) h
end
def eA(f:Str)(v:V):List (Str×V)->List (Str×V)
 | []=>[(f,v)]
 | (g,x)::r=>if g=f then(g,v)::r else(g,x)::eA f v r
theorem Co(f g:Str)(v:V):∀ fs:List (Str×V),(eA f v fs).lookup g=if g=f then aa v else fs.lookup g
 | []=>by
  show jd g [(f,v)]=_;by_cases h:g=f
  ·have hb:(g == f)=ah:=beq_iff_eq.mpr h;simp only[jd,hb,if_pos h]
  ·have hb:(g == f)=ak:=beq_eq_false_iff_ne.mpr h;simp only[jd,hb,if_neg h]
 | (k,x)::r=>by
  have ih:=Co f g v r;rw[show eA f v ((k,x)::r)=(if k=f then(k,v)::r else(k,x)::eA f v r)from rfl];by_cases hk:k=f
  ·rw[if_pos hk];by_cases h:g=k
   ·have hb:(g == k)=ah:=beq_iff_eq.mpr h;simp only[jd,hb,if_pos (h.trans hk)]
   ·have hb:(g == k)=ak:=beq_eq_false_iff_ne.mpr h;simp only[jd,hb,if_neg (λe:g=f=>h (e.trans hk.symm))]
  ·rw[if_neg hk];by_cases h:g=k
   ·have hb:(g == k)=ah:=beq_iff_eq.mpr h;simp only[jd,hb,if_neg (λe:g=f=>hk (h.symm.trans e))]
   ·have hb:(g == k)=ak:=beq_eq_false_iff_ne.mpr h;simp only[jd,hb];exact ih
theorem yT(f:Str)(v:V):∀ fs:List (Str×V),f∈(eA f v fs).map (·.1)/\∀ g,g∈fs.map (·.1)->g∈(eA f v fs).map (·.1)
 | []=>⟨by simp[eA],λg h=>by simp at h⟩
 | (k,x)::r=>by
  obtain⟨i1,i2⟩:=yT f v r;rw[show eA f v ((k,x)::r)=(if k=f then(k,v)::r else(k,x)::eA f v r)from rfl];by_cases hk:k=f
  ·rw[if_pos hk];subst hk;exact⟨by simp,λg h=>by simpa using h⟩
  ·rw[if_neg hk];refine⟨?_,λg h=>?_⟩
   ·rw[fI];exact jA _ i1
   ·rw[fI]at h ⊢;rcases bV.mp h with e | e
    ·exact bV.mpr (.inl e)
    ·exact jA _ (i2 g e)
theorem Fg(f:Str)(v:V):∀ fs:List (Str×V),(eA f v fs).length<=fs.length+1
 | []=>by simp[eA]
 | (k,x)::r=>by
  have ih:=Fg f v r;rw[show eA f v ((k,x)::r)=(if k=f then(k,v)::r else(k,x)::eA f v r)from rfl];by_cases hk:k=f
  ·rw[if_pos hk,dq,dq]; lia
  ·rw[if_neg hk,dq,dq]; lia
theorem lK.some_of{v:V}{o:Option ai}(r:lK (aa v) o):∃ u,o=aa u/\RelV v u:=by
 cases o with
 | none=>exact(show False from r).elim
 | some u=>exact⟨u,rfl,r⟩
theorem lK.none_of{o:Option ai}(r:lK ae o):o=ae:=by
 cases o with
 | none=>rfl
 | some u=>exact(show False from r).elim
theorem Ql{v:V}{u:ai}(r:RelV v u):PySem.W.handedIn u=ah:=by
 cases v with
 | non=>cases (show u=Value.none from r); rfl
 | bl b=>cases (show u=Value.bool b from r); rfl
 | int i=>obtain⟨t,e⟩:=(show ∃ t,u=Value.int i t from r); cases e; rfl
 | str x=>obtain⟨t,e⟩:=(show ∃ t,u=Value.str x t from r); cases e; rfl
 | byt b=>obtain⟨t,e⟩:=(show ∃ t,u=Value.bytes b t from r); cases e; rfl
 | flt b=>obtain⟨t,e⟩:=(show ∃ t,u=Value.float b t from r); cases e; rfl
 | ref a=>cases (show u=Value.ref a from r); rfl
 | ty n=>cases (show u=Value.type n from r); rfl
section
variable{P:aM}{w:aG}{H H':Hp}{h h':aA}{a C dx:af}{fs fs':List (Str×V)}
theorem wq(hok:cQ P w H h)(e:H a=aa (.ins C dx fs)):∃ mA,rA h a dx C mA/\(∀ f,lK (fs.lookup f) (mA f))/\G_ mA (fs.map (·.1))/\fs.length<=1000/\H dx=aa (.own a):=by
 obtain⟨d,z,ne,ob,mA,n,r,q⟩:=(show dw P w H h a (.ins C dx fs)from hok a _ e)
 exact⟨mA,⟨ob,n,ne⟩,r,q,z,d⟩
end
structure Cls(K:aq)(C:af):Prop where
 pg:Bs K C n5=ah
 hd:He K C=ah
 po:PySem.W.plainOver K C=ah
 sa:ie K (.ref C) "__setattr__" = aa (aa (.builtin "object.__setattr__"))
theorem Cls.get{K:aq}{C:af}(c:Cls K C)(f:Str):Bs K C f=ah:=c.pg
def gR(K:aq)(C:af)(f:Str):Prop:=ie K (.ref C) f=aa ae
theorem gR.taker{K:aq}{C:af}{f:Str}(n:gR K C f):PySem.W.takerIn K C f=aa ae:=by unfold PySem.W.takerIn;rw[show ie K (.ref C) f=aa ae from n];rfl
structure sJ(K:aq)(C:af)(m:Str)(f:af):Prop where
 at_:ie K (.ref C) m=aa (aa (.ref f))
 fn:xG K (.ref f)=ah
 kp:jC K (.ref f)=ah
section
variable{X:Cx}{ag:List (af×Obj)}{σ:St}{H:Hp}{s:ao}{a C dx:af}{fs:List (Str×V)}{f:Str}{v:V}{A:aR}{E:ai->ao->Prop}
theorem OZ{b:Bool}{Q:ai->ao->Prop}(I:Inv X ag σ H s)(e:H a=aa (.ins C dx fs))(c:Cls X.K C)(n:gR X.K C f)(l:fs.lookup f=aa v)(h:∀ u s',Inv X ag σ H s'->RelV v u->Q u s'):aw (au X.prog X.w) A (getAttr (.ref a) f b) Q E s:=by obtain⟨mA,O,r,_,_,_⟩:=wq I.hok e;obtain⟨u,hu,ru⟩:=lK.some_of (v:=v) (o:=mA f) (by rw[← l]; exact r f);exact J9 I.kIn O (c.get f) c.hd n hu (Ql ru) (h u _ (I.tok _) ru)
theorem yM{m:Str}{g:af}{pl:Sem Bool}{Q:ai×List ai->ao->Prop}(I:Inv X ag σ H s)(e:H a=aa (.ins C dx fs))(c:Cls X.K C)(k:sJ X.K C m g)(l:fs.lookup m=ae)(h:Q (.ref g,[.ref a]) s):aw (au X.prog X.w) A (rK (.ref a) m pl) Q E s:=by obtain⟨mA,O,r,_,_,_⟩:=wq I.hok e;have hn:mA m=ae:=lK.none_of (by rw[← l]; exact r m);exact Li I.kIn O (c.get m) k.at_ k.fn hn h
theorem Oc{y:V}{u:ai}{Q:Unit->ao->Prop}(I:Inv X ag σ H s)(e:H a=aa (.ins C dx fs))(c:Cls X.K C)(n:gR X.K C f)(hl:fs.length<1000)(ry:RelV y u)(h:∀ s',Inv X ag σ (upd H a (.ins C dx (eA f y fs))) s'->Q () s'):aw (au X.prog X.w) A (setAttr (.ref a) f u) Q E s:=by
 obtain⟨mA,O,r,wi,_,ho⟩:=wq I.hok e;have hz:(fs.map (·.1)).length<=a9:=by rw[cX,nZ]; lia
 refine Nq I.kIn O c.sa c.po n.taker c.hd wi hz λh' O' sb=>h _ ?_;have hd:∃ o,h'.get? dx=aa o:=let ⟨o,_,_,e',_⟩:=O'.ns; ⟨o,e'⟩
 refine I.write (x:=a) (e:=dx) (by rw[e]; exact True.intro) (.inr ho) (λb q hb z=>(sb.2 b hb).trans z) hd ?_;refine⟨by rw[bw O.ne]; exact ho,?_,O.ne,O'.obj,_,O'.ns,λg=>?_,λg hg=>?_⟩
 ·have:=Fg f y fs; lia
 ·show lK ((eA f y fs).lookup g) (if g=f then aa u else mA g);rw[Co];by_cases q:g=f
  ·rw[if_pos q,if_pos q]; exact ry
  ·rw[if_neg q,if_neg q]; exact r g
 ·by_cases q:g=f
  ·rw[q]; exact(yT f y fs).1
  ·refine(yT f y fs).2 g (wi g λz=>hg ?_);show(if g=f then aa u else mA g)=ae;rw[if_neg q]; exact z
theorem Inv.made(I:Inv X ag σ H s):Inv X ag σ (upd (upd H s.heap.objs.size (.own (s.heap.objs.size+1))) (s.heap.objs.size+1) (.ins C s.heap.objs.size [])) { s with heap:=(s.heap.push n4).push (pT C s.heap.objs.size) }:=by
 have e1:(s.heap.push n4).get? s.heap.objs.size=aa n4:=cW s.heap rfl;have e2:((s.heap.push n4).push (pT C s.heap.objs.size)).get? (s.heap.objs.size+1)=aa (pT C s.heap.objs.size):=by have:=cW (s.heap.push n4) (o:=pT C s.heap.objs.size) rfl;rwa[uk]at this
 have e3:(s.heap.push n4).Ns s.heap.objs.size (λ_=>ae):=⟨n4,#[],_,e1,rfl,(λe he=>absurd he (by simp)),λ_=>rfl⟩
 have I1:=I.laid (a:=s.heap.objs.size) (o:=.own (s.heap.objs.size+1)) (h':=s.heap.push n4) (t':=s.toks) (λb u q=>bG _ q) (bp _) ⟨_,e1⟩;refine I1.laid (a:=s.heap.objs.size+1) (o:=.ins C s.heap.objs.size []) (t':=s.toks) (λb u q=>bG _ q) (lN (uk _ _)) ?_;have ne:s.heap.objs.size≠s.heap.objs.size+1:=dH (lO _);refine⟨by rw[bw ne,b_],mG _,ne,e2,λ_=>ae,(Heap.Ns1.of_empty e3).at λo q=>bG _ q,λ_=>True.intro,λy hy=>absurd rfl hy⟩
theorem Pi{prog:aM}{w:aG}{env:Env}{e:aB}{f:Str}{pos:Pos}{s:ao}{Q:ai->ao->Prop}(hb:f9 e f env (aD e env)=aD e env)(h:aw (au prog w) A (aD e env) (λo s₁=>aw (au prog w) A (getAttr o f ah) Q E s₁) E s):aw (au prog w) A (aD (.Attribute e f pos) env) Q E s :=Attribute_any_ h (by rw[arm_eval_Attribute,hb])
end
def IV(K:aq)(ta:TE)(f:Str):TE:=λσ H Q=>ta σ H λx H1=>∃ a C dx fs v,x = .ref a/\H1 a=aa (.ins C dx fs)/\Cls K C/\gR K C f/\fs.lookup f=aa v/\Q v H1
def JJ(K:aq)(ta tv:TE)(f:Str):TS:=λD σ H=>tv σ H λy H1=>ta σ H1 λx H2=>∃ a C dx fs,x = .ref a/\H2 a=aa (.ins C dx fs)/\Cls K C/\gR K C f/\fs.length<1000 /\
 D.nx σ (upd H2 a (.ins C dx (eA f y fs)))
section
variable{X:Cx}{o e value:aB}{f:Str}{pos pos' tpos:Pos}{ta tv:TE}
theorem pC(he:PE X e ta)(hb:f9 e f X.env (aD e X.env)=aD e X.env):PE X (.Attribute e f pos) (IV X.K ta f):=by intro ag s σ H Q I h;refine Pi hb (aX (he ag s σ H _ I h) λu s1 ⟨x,H1,I1,rx,a,C,dx,fs,v,ex,ea,c,n,l,q⟩=>?_);subst ex;obtain rfl:u=Value.ref a:=rx;exact OZ I1 ea c n l λu' s2 I2 ru=>⟨v,H1,I2,ru,q⟩
theorem CZ(ha:PE X o ta)(hv:PE X value tv)(hs:j4 value (aa (.Attribute o f pos')) pos.line X.env=pure ak):PS X (.Assign [.Attribute o f pos'] value pos) (JJ X.K ta tv f):=by intro ag s σ H D I h;refine plainObj_wpAny_Assign_Attribute (aX (hv ag s σ H _ I h) λu s1 ⟨y,H1,I1,ry,q⟩=>aX (ha ag s1 σ H1 _ I1 q) λov s2 ⟨x,H2,I2,rx,a,C,dx,fs,ex,ea,c,n,l,q2⟩=>?_) hs;subst ex;obtain rfl:ov=Value.ref a:=rx;exact Oc I2 ea c n l ry λs3 I3=>⟨σ,_,I3,q2⟩
end
section
variable{X:Cx}{ag:List (af×Obj)}{σ:St}{H:Hp}{s:ao}{A:aR}{E:ai->ao->Prop}{Q:ai->ao->Prop}{c:ai}{b:Bool}
inductive iA(K:aq)(H:Hp):V->ai->Prop where
 | non:iA K H .non (.type "NoneType")
 | bl (x:Bool):iA K H (.bl x) (.type "bool")
 | int (i:Int):iA K H (.int i) (.type "int")
 | str (x:Str):iA K H (.str x) (.type "str")
 | flt (x:UInt64):iA K H (.flt x) (.type "float")
 | lst {a:af} {xs:List V} (e:H a=aa (.lst xs)):iA K H (.ref a) (.type "list")
 | frz {a:af} {o:Obj} {xs:List V} (e:H a=aa (.frz o (.lst xs))):iA K H (.ref a) (.type "list")
 | tup {a:af} {xs:List V} (e:H a=aa (.tup xs)):iA K H (.ref a) (.type "tuple")
 | dK {a:af} {kvs:List (aJ×V)} (e:H a=aa (.dK kvs)):iA K H (.ref a) (.type "dict")
 | dT {a:af} {kvs:List (List aJ×V)} (e:H a=aa (.dT kvs)):iA K H (.ref a) (.type "dict")
 | ins {a C dx:af} {fs:List (Str×V)} (e:H a=aa (.ins C dx fs)) (cl:Cls K C) (ha:ie K (.ref C) "__class__" = aa (aa (.builtin "object.__class__")))
   (hn:Hh K (.builtin "object.__class__") "__get__" = aa (aa (.builtin "getset_descriptor.__get__"))) (uP:PySem.W.takesIn K (.builtin "object.__class__")=aa ah)
   (hm:xH K C (.type "object")=aa ah):iA K H (.ref a) (.ref C)
theorem Lr{x:V}{u t:ai}(I:Inv X ag σ H s)(rx:RelV x u)(ty:iA X.K H x t)(e:gX X.K t c=aa b)(h:∀ tk,Q (.bool b) { s with toks:=tk }) : aw (au X.prog X.w) A (call (.builtin "isinstance") [u,c]) Q E s:=by
 cases ty with
 | non=>cases (show u=Value.none from rx); exact kN PySem.W.kitx_none I.kIn True.intro e (λz=>nomatch z) h
 | bl y=>cases (show u=Value.bool y from rx); exact kN PySem.W.kitx_bool I.kIn True.intro e (λz=>nomatch z) h
 | int i=>obtain⟨t,q⟩:=(show ∃ t,u=Value.int i t from rx); cases q; exact kN PySem.W.kitx_int I.kIn True.intro e (λz=>nomatch z) h
 | str y=>obtain⟨t,q⟩:=(show ∃ t,u=Value.str y t from rx); cases q; exact kN PySem.W.kitx_str I.kIn True.intro e (λz=>nomatch z) h
 | flt y=>obtain⟨t,q⟩:=(show ∃ t,u=Value.float y t from rx); cases q; exact kN PySem.W.kitx_float I.kIn True.intro e (λz=>nomatch z) h
 | @lst a xs ea=>
  cases (show u=Value.ref a from rx);obtain⟨_,_,n,_,h1⟩:=(show dw X.prog X.w H s.heap a (.lst xs)from I.hok a _ ea)
  exact kN PySem.W.kitx_list I.kIn ⟨_,h1,rfl⟩ e (λz=>nomatch z) h
 | @frz a ob xs ea=>
  cases (show u=Value.ref a from rx);obtain⟨_,_,_,n,_,h1⟩:=(show dw X.prog X.w H s.heap a (.frz ob (.lst xs))from I.hok a _ ea)
  exact kN PySem.W.kitx_list I.kIn ⟨_,h1,rfl⟩ e (λz=>nomatch z) h
 | @tup a xs ea=>
  cases (show u=Value.ref a from rx);obtain⟨_,_,_,p,_⟩:=(show dw X.prog X.w H s.heap a (.tup xs)from I.hok a _ ea)
  obtain⟨o,h1,h2,_⟩:=p;exact kN PySem.W.kitx_tuple I.kIn ⟨o,h1,h2⟩ e (λz=>nomatch z) h
 | @dK a kvs ea=>
  cases (show u=Value.ref a from rx);obtain⟨_,_,vs,_,p⟩:=(show dw X.prog X.w H s.heap a (.dK kvs)from I.hok a _ ea)
  obtain⟨o,es,ep,h1,h2,_⟩:=p;exact kN PySem.W.kitx_dict I.kIn ⟨o,h1,h2.1⟩ e (λz=>nomatch z) h
 | @dT a kvs ea=>
  cases (show u=Value.ref a from rx);obtain⟨_,_,xs,_,o,es,ep,h1,h2,_⟩:=(show dw X.prog X.w H s.heap a (.dT kvs)from I.hok a _ ea)
  exact kN PySem.W.kitx_dict I.kIn ⟨o,h1,h2.1⟩ e (λz=>nomatch z) h
 | @ins a C dx fs ea cl ha hn uP hm=>
  cases (show u=Value.ref a from rx);obtain⟨mA,O,_⟩:=wq I.hok ea;obtain⟨od,J,_⟩:=O.look;exact kN (PySem.W.kitx_own (cl.get _) cl.hd ha hn uP hm) I.kIn J e (λz=>nomatch z) h
end
structure bZ(k:Nat)(A:aR):Prop where
 hd:A.handled=ae
 dp:A.depth+3 * k+5<recursionLimit
 un:A.units+16 * k+200<cLine
theorem bZ.mono{j k:Nat}{A:aR}(r:bZ k A)(h:j<=k):bZ j A:=⟨r.hd,by have:=r.dp; lia,by have:=r.un; lia⟩
theorem bZ.deeper{k:Nat}{A:aR}(r:bZ (k+1) A)(env:Env):bZ k (A.deeper env) :=⟨r.hd,by have:=r.dp; show A.depth+1+3 * k+5<_; lia,by have:=r.un; show A.units+3+16 * k+200<_; lia⟩
theorem bZ.in1{k:Nat}{A:aR}(r:bZ (k+1) A):bZ k A.in1 :=⟨r.hd,by have:=r.dp; show A.depth+3 * k+5<_; lia,by have:=r.un; show A.units+1+16 * k+200<_; lia⟩
theorem QC{A:aR}{C:af}{us:List ai}{kw:List (Str×ai)}:(A.under (.builtin "type.__call__" ⟨.ref C::us,kw⟩)).depth=A.depth+1:=by
 first | rfl | simp[Around.under,Code.weight,Code.isCreation,Code.isGuard,Code.isCaller,Code.frames,Code.isFrame,guardIds]
theorem PF{A:aR}{C:af}{us:List ai}{kw:List (Str×ai)}:(A.under (.builtin "type.__call__" ⟨.ref C::us,kw⟩)).units=A.units+1:=by
 first | rfl | simp[Around.under,Code.cUnits,Code.frames,Code.isFrame]
theorem bZ.make{k:Nat}{A:aR}(r:bZ (k+1) A)(C:af)(us:List ai)(kw:List (Str×ai)):bZ k (A.under (.builtin "type.__call__" ⟨.ref C::us,kw⟩)) :=⟨r.hd,by have:=r.dp; rw[QC]; lia,by have:=r.un; rw[PF]; lia⟩
theorem bZ.depth{k:Nat}{A:aR}(r:bZ k A):A.depth<recursionLimit:=by have:=r.dp; lia
theorem bZ.units{k:Nat}{A:aR}(r:bZ k A):A.units+64<cLine:=by have:=r.un; lia
def D_:TA:=λ_ H Q=>Q [] H
def K8(ta:TE)(tr:TA):TA:=λσ H Q=>ta σ H λx H1=>tr σ H1 λxs H2=>Q (x::xs) H2
section
variable{X:Cx}{e:aB}{es:List aB}{te:TE}{t:TA}{pos:Pos}
theorem i7:PA X [] D_:=λ_ _ _ _ H Q I h=>Hi ⟨[],H,I,.nil,h⟩
theorem gP(ha:PE X e te)(hr:PA X es t)(hs:aC (e::es) X.env=(ak,aD e X.env)::aC es X.env:=by rfl):PA X (e::es) (K8 te t):=by intro pos ag s σ H Q I h;rw[hs];show aw _ _ (spliced ((ak,aD e X.env)::bK pos (aC es X.env))) _ _ s;refine Bt (aX (ha ag s σ H _ I h) λu s1 ⟨x,H1,I1,r1,q1⟩=>?_);exact aX (hr pos ag s1 σ H1 _ I1 q1) λus s2 ⟨xs,H2,I2,r2,q2⟩=>⟨x::xs,H2,I2,.cons r1 r2,q2⟩
def ML(t:TA):TE:=λσ H Q=>t σ H λxs H1=>xs.length<=a9/\∀ p,H1 p=ae->Q (.ref p) (upd H1 p (.tup xs))
def I_(t:TA):TE:=λσ H Q=>t σ H λxs H1=>xs.length<=a9/\∀ p,H1 p=ae->Q (.ref p) (upd H1 p (.lst xs))
theorem Kf{x1}(h:PA X es t):PE X (.Tuple es x1 pos) (ML t):=by intro ag s σ H Q I hq;refine wpAny_Tuple_spliced (aX (h pos ag s σ H _ I hq) λus s1 ⟨xs,H1,I1,r,z,q⟩=>⟨by rw[← r.length]; exact z,?_⟩);have hf:H1 s1.heap.objs.size=ae:=I1.hok.fresh (bp _);refine⟨.ref s1.heap.objs.size,upd H1 s1.heap.objs.size (.tup xs),I1.laid (t':=s1.toks) (λb u e=>bG _ e) (bp _) ?_,rfl,q _ hf⟩;exact⟨z,us,r,⟨⟨_,cW _ rfl,rfl,_,rfl⟩,_,cW _ rfl,rfl⟩⟩
theorem PZ(h:PA X es t):PE X (.List es pos) (I_ t):=by intro ag s σ H Q I hq;refine wpAny_List_spliced (aX (h pos ag s σ H _ I hq) λus s1 ⟨xs,H1,I1,r,z,q⟩=>⟨by rw[← r.length]; exact z,?_⟩);have hf:H1 s1.heap.objs.size=ae:=I1.hok.fresh (bp _);refine⟨.ref s1.heap.objs.size,upd H1 s1.heap.objs.size (.lst xs),I1.laid (t':=s1.toks) (λb u e=>bG _ e) (bp _) ?_,rfl,q _ hf⟩;exact⟨z,us,0,r,cW _ rfl⟩
end
abbrev Sp:=List V->Hp->VK->XK->Prop
abbrev dJ:=List Env->Hp->ao->XK->ai->ao->Prop
structure lA(P:aM)(w:aG)(K:aq)(mg:Str->Option ai)(base:aA)(A:aR)(outer:List Env)(s:ao)(H:Hp):Prop where
 frames:A.frames=aa outer
 mod:Mod K mg base
 bs:∀ b o,base.get? b=aa o->s.heap.get? b=aa o/\H b=ae
 bsz:base.objs.size<=s.heap.objs.size
 funs:s.heap.FunFrames base outer
 frf:∀ b∈fg outer,H b=ae
 hok:cQ P w H s.heap
 bare:mz s.gens
 tab:vp K H
def CE(outer:List Env)(P:aM)(w:aG)(H:Hp)(s:ao)(Q:VK)(u:ai)(s':ao):Prop :=
 ∃ v H',s'.os=s.os/\mz s'.gens/\Un (fg outer) [] H H' s.heap s'.heap/\cQ P w H' s'.heap/\RelV v u/\Q v H'
def CR(CX:dJ)(outer:List Env)(P:aM)(w:aG)(H:Hp)(s:ao)(Q:VK)(E:XK)(r:Result)(s':ao):Prop :=
 match r with
 | .ok (.ret u)=>CE outer P w H s Q u s'
 | .ok _=>False
 | .error e=>CX outer H s E e s'
structure ez(P:aM)(w:aG)(K:aq)(mg:Str->Option ai)(base:aA)(CX:dJ)(k:Nat)(f:af)(fd:e_)(ps:List Str)(sp:Sp):Prop where
 len:∀ vs H Q E,sp vs H Q E->vs.length=ps.length
 run:∀ (A:aR) (outer:List Env) (s:ao) (H:Hp) (args:Args) (us:List ai) (vs:List V) (Q:VK) (E:XK),bZ k A->lA P w K mg base A outer s H->BindsTo s fd args (ps.zip us)->bd vs us->sp vs H Q E ->
  j5 (au P w) A (.call (.ref f) args) (CR CX outer P w H s Q E) s
theorem ez.mono{P:aM}{w:aG}{K:aq}{mg:Str->Option ai}{base:aA}{CX:dJ}{j k:Nat}{f:af}{fd:e_}{ps:List Str}{sp:Sp}(F:ez P w K mg base CX j f fd ps sp)(h:j<=k) : ez P w K mg base CX k f fd ps sp:=⟨F.len,λA outer s H args us vs Q E hr=>F.run A outer s H args us vs Q E (hr.mono h)⟩
theorem ez.imp{P:aM}{w:aG}{K:aq}{mg:Str->Option ai}{base:aA}{CX:dJ}{k:Nat}{f:af}{fd:e_}{ps:List Str}{sp sp':Sp}(F:ez P w K mg base CX k f fd ps sp)(h:∀ vs H Q E,sp' vs H Q E->sp vs H Q E):ez P w K mg base CX k f fd ps sp' :=⟨λvs H Q E q=>F.len vs H Q E (h _ _ _ _ q),λA outer s H args us vs Q E hr he hb hv hs=>F.run A outer s H args us vs Q E hr he hb hv (h _ _ _ _ hs)⟩
theorem lA.make{P:aM}{w:aG}{K:aq}{mg:Str->Option ai}{base:aA}{A:aR}{outer:List Env}{s:ao}{H:Hp}(e:lA P w K mg base A outer s H)(C:af)(us:List ai)(kw:List (Str×ai)) : lA P w K mg base (A.under (.builtin "type.__call__" ⟨.ref C::us,kw⟩)) outer s H:=⟨by first | exact e.frames | (simpa[Around.under,Code.envs,Code.isFrame,pushEnvs]using e.frames),e.mod,e.bs,e.bsz,e.funs,e.frf,e.hok,e.bare,e.tab⟩
theorem lA.in1{P:aM}{w:aG}{K:aq}{mg:Str->Option ai}{base:aA}{A:aR}{outer:List Env}{s:ao}{H:Hp}(e:lA P w K mg base A outer s H) : lA P w K mg base A.in1 outer s H:=⟨e.frames,e.mod,e.bs,e.bsz,e.funs,e.frf,e.hok,e.bare,e.tab⟩
section
variable{X:Cx}{ag:List (af×Obj)}{σ:St}{H:Hp}{s s':ao}
theorem Inv.env0(I:Inv X ag σ H s):lA X.prog X.w X.K X.mg X.base X.A X.stack s H :=⟨I.ok.frames,I.ok.mod,I.bs,cr I.ok.bsz I.sz,I.stack,I.stkFree,I.hok,I.bare,I.tab⟩
theorem Inv.after{Q:VK}{u:ai}(I:Inv X ag σ H s)(h:CE X.stack X.prog X.w H s Q u s'):EP X ag σ Q u s':=by obtain⟨v,H',os,bare,un,hok,r,q⟩:=h;obtain⟨hh,g,d,t,os'⟩:=s';obtain rfl:os'=s.os:=os;exact⟨v,H',I.call (h':=hh) (g':=g) (d':=d) (t':=t) (ch:=[]) un hok bare (λb z=>absurd z (by simp)),r,q⟩
end
def Kz(sp:Sp)(dvs:List V)(E:XK)(t:TA):TE:=λσ H Q=>t σ H λvs H1=>sp (vs++dvs) H1 Q E
def Ea(C:af)(m:Str)(sp:Sp)(dvs:List V)(E:XK)(ta:TE)(t:TA):TE:=λσ H Q=>ta σ H λx H1=>∃ a dx fs,x = .ref a/\H1 a=aa (.ins C dx fs)/\fs.lookup m=ae /\
 t σ H1 λvs H2=>sp (x::(vs++dvs)) H2 Q E
def N7(C:af)(sp:Sp)(dvs:List V)(E:XK)(t:TA):TE:=λσ H Q=>t σ H λvs H1=>∀ x dx,H1 x=ae->H1 dx=ae->dx≠x ->
 sp (.ref x::(vs++dvs)) (upd (upd H1 dx (.own x)) x (.ins C dx [])) (λv H2=>v = .non/\Q (.ref x) H2) E
def Binds(K:aq)(fd:e_)(ps:List Str)(ds:List ai):Prop :=
 ∀ (s:ao) (us:List ai),K.In s.heap->(us++ds).length=ps.length->BindsTo s fd ⟨us,[]⟩ (ps.zip (us++ds))
theorem Binds.all{K:aq}{fd:e_}{ps:List Str}(h:∀ us:List ai,us.length=ps.length->eO fd ⟨us,[]⟩=pure (ps.zip us)):Binds K fd ps []:=λs us _ hl=>by rw[gD]at hl ⊢;exact .of_eq (h us hl)
def i9(CX:dJ)(X:Cx)(E:XK):Prop:=∀ (ag:List (af×Obj)) (σ:St) (H:Hp) (s:ao) (e:ai) (s':ao),Inv X ag σ H s->CX X.stack H s E e s'->X.xe e s'
section
variable{X:Cx}{CX:dJ}{k:Nat}{f C:af}{fd:e_}{ps:List Str}{sp:Sp}{dvs:List V}{ds:List ai}{E:XK}{x m:Str}{p pos apos:Pos}{e o:aB}{es:List aB}{ta:TE}{t:TA}
theorem Bh{ag:List (af×Obj)}{σ:St}{H:Hp}{s:ao}{Q:VK}{us:List ai}{vs:List V}(F:ez X.prog X.w X.K X.mg X.base CX k f fd ps sp)(hr:bZ k X.A)(hb:Binds X.K fd ps ds)(hd:bd dvs ds)(hx:i9 CX X E)(I:Inv X ag σ H s) (r:bd vs us) (h:sp (vs++dvs) H Q E):aw (au X.prog X.w) X.A (call (.ref f) us) (EP X ag σ Q) X.xe s:=by
 have r2:bd (vs++dvs) (us++ds):=r.append hd;have hl:(us++ds).length=ps.length:=by rw[← r2.length]; exact F.len _ _ _ _ h
 refine rL (mH (F.run X.A X.stack s H ⟨us,[]⟩ (us++ds) (vs++dvs) Q E hr I.env0 (hb s us I.kIn hl) r2 h) λr s' hq=>?_);cases r with
 | error e=>exact hx ag σ H s e s' I hq
 | ok fl=>
  cases fl with
  | ret u=>exact I.after hq
  | next=>exact dU hq
  | brk=>exact dU hq
  | cont=>exact dU hq
theorem y9(F:ez X.prog X.w X.K X.mg X.base CX k f fd ps sp)(hr:bZ k X.A)(hg:Gl X x)(hm:X.mg x=aa (.ref f))(hk:jC X.K (.ref f)=ah)(hb:Binds X.K fd ps ds)(hd:bd dvs ds)(hx:i9 CX X E)(ha:PA X (e::es) t) (eC:(x == ("__debug__" : Str))=ak:=by decide) (he:aC (e::es) X.env=(ak,aD e X.env)::aC es X.env:=by rfl) (cE:(bK pos (aC es X.env)).any (·.1)=ak:=by rfl) : PE X (.Call (.Name x p) (e::es) [] pos) (Kz sp dvs E t):=by intro ag s σ H Q I h;refine ul (pQ I hg hm ?_ eC);refine xI (h₀:=X.base) I.ok.mod.kin hk (aX (ha pos ag s σ H _ I h) λus s1 ⟨vs,H1,I1,r,q⟩=>⟨I1.kIn,?_⟩) he cE;exact Bh F hr hb hd hx I1 r q
theorem KF{pl:Sem Bool}(he:PE X o ta)(c:Cls X.K C)(hm:sJ X.K C m f)(F:ez X.prog X.w X.K X.mg X.base CX k f fd ps sp)(hr:bZ k X.A)(hb:Binds X.K fd ps ds)(hd:bd dvs ds)(hx:i9 CX X E)(ha:PA X (e::es) t)(k7:aC (e::es) X.env=(ak,aD e X.env)::aC es X.env:=by rfl) (cE:(bK pos (aC es X.env)).any (·.1)=ak:=by rfl)(ht:aD (.Call (.Attribute o m apos) (e::es) [] pos) X.env=(do
   let ov ← aD o X.env
   rG apos.atName
   let (f,first) ← nX [ov] (rK ov m pl)
   callWith pos f first (bK pos (aC (e::es) X.env)) (j6 pos (j7 [] X.env))):=by rfl) :
  PE X (.Call (.Attribute o m apos) (e::es) [] pos) (Ea C m sp dvs E ta t):=by
 intro ag s σ H Q I h;refine Hj (pl:=pl) (aX (he ag s σ H _ I h) λu s1 ⟨x,H1,I1,rx,a,dx,fs,ex,ea,l,q⟩=>?_) ht;subst ex;obtain rfl:u=Value.ref a:=rx;refine yM I1 ea c hm l ?_;refine xI (first:=[.ref a]) (h₀:=X.base) I.ok.mod.kin hm.kp (aX (ha pos ag s1 σ H1 _ I1 q) λus s2 ⟨vs,H2,I2,r,q2⟩=>⟨I2.kIn,?_⟩) k7 cE;exact Bh (us:=.ref a::us) (vs:=.ref a::vs) F hr hb hd hx I2 (.cons rfl r) q2
theorem JI{pl:Sem Bool}(he:PE X o ta)(c:Cls X.K C)(hm:sJ X.K C m f)(F:ez X.prog X.w X.K X.mg X.base CX k f fd ps sp)(hr:bZ k X.A)(hb:Binds X.K fd ps ds)(hd:bd dvs ds)(hx:i9 CX X E)(ht:aD (.Call (.Attribute o m apos) [] [] pos) X.env=(do
   let ov ← aD o X.env
   rG apos.atName
   let (f,first) ← nX [ov] (rK ov m pl)
   callWith pos f first (bK pos (aC [] X.env)) (j6 pos (j7 [] X.env))):=by rfl) :
  PE X (.Call (.Attribute o m apos) [] [] pos) (Ea C m sp dvs E ta D_):=by
 intro ag s σ H Q I h;refine Hj (pl:=pl) (aX (he ag s σ H _ I h) λu s1 ⟨x,H1,I1,rx,a,dx,fs,ex,ea,l,q⟩=>?_) ht;subst ex;obtain rfl:u=Value.ref a:=rx;refine yM I1 ea c hm l ?_;exact PySem.W.callWith_K0 (first:=[.ref a]) I1.kIn hm.kp (Bh (us:=[.ref a]) (vs:=[.ref a]) F hr hb hd hx I1 (.cons rfl .nil) q)
structure Mk(K:aq)(C f:af):Prop where
 makes:PySem.W.makesIn K C=ah
 init:ie K (.ref C) "__init__" = aa (aa (.ref f))
 fn:xG K (.ref f)=ah
 kp:jC K (.ref C)=ah
theorem IX{ag:List (af×Obj)}{σ:St}{H:Hp}{s:ao}{Q:VK}{us:List ai}{vs:List V}(M:Mk X.K C f)(F:ez X.prog X.w X.K X.mg X.base CX k f fd ps sp)(hr:bZ (k+1) X.A)(hb:Binds X.K fd ps ds)(hd:bd dvs ds)(hx:i9 CX X E) (I:Inv X ag σ H s) (r:bd vs us)(h:∀ x dx,H x=ae->H dx=ae->dx≠x->sp (.ref x::(vs++dvs)) (upd (upd H dx (.own x)) x (.ins C dx [])) (λv H2=>v = .non/\Q (.ref x) H2) E) : aw (au X.prog X.w) X.A (call (.ref C) us) (EP X ag σ Q) X.xe s:=by
 have hq:=h (s.heap.objs.size+1) s.heap.objs.size (I.hok.fresh (um _)) (I.hok.fresh (bp _)) (dH (lO _));have I2:=Inv.made (C:=C) I;have r2:bd (V.ref (s.heap.objs.size+1)::(vs++dvs)) (Value.ref (s.heap.objs.size+1)::(us++ds)):=.cons rfl (r.append hd);have hl:(Value.ref (s.heap.objs.size+1)::us++ds).length=ps.length:=by have e:=r2.length;rw[F.len _ _ _ _ hq]at e;exact e.symm
 refine rL (PJ (f:=f) I.kIn M.makes M.init (beq_iff_eq.mp M.fn) (mH (F.run _ X.stack _ _ ⟨Value.ref (s.heap.objs.size+1)::us,[]⟩ (Value.ref (s.heap.objs.size+1)::(us++ds)) _ _ E (hr.make C us []) (I2.env0.make C us []) (hb _ (Value.ref (s.heap.objs.size+1)::us) I2.kIn hl) r2 hq) λr s' uQ=>?_));cases r with
 | error e=>exact hx ag σ _ _ e s' I2 uQ
 | ok fl=>
  cases fl with
  | ret u=>obtain⟨v,H',I3,rv,ev,q3⟩:=I2.after uQ;subst ev;exact⟨rv,⟨V.ref (s.heap.objs.size+1),H',I3,rfl,q3⟩⟩
  | next=>exact dU uQ
  | brk=>exact dU uQ
  | cont=>exact dU uQ
theorem Mo(M:Mk X.K C f)(F:ez X.prog X.w X.K X.mg X.base CX k f fd ps sp)(hr:bZ (k+1) X.A)(hg:Gl X x)(hm:X.mg x=aa (.ref C))(hb:Binds X.K fd ps ds)(hd:bd dvs ds)(hx:i9 CX X E)(ha:PA X (e::es) t) (eC:(x == ("__debug__" : Str))=ak:=by decide) (he:aC (e::es) X.env=(ak,aD e X.env)::aC es X.env:=by rfl) (cE:(bK pos (aC es X.env)).any (·.1)=ak:=by rfl) : PE X (.Call (.Name x p) (e::es) [] pos) (N7 C sp dvs E t):=by intro ag s σ H Q I h;refine ul (pQ I hg hm ?_ eC);refine xI (h₀:=X.base) I.ok.mod.kin M.kp (aX (ha pos ag s σ H _ I h) λus s1 ⟨vs,H1,I1,r,q⟩=>⟨I1.kIn,?_⟩) he cE;exact IX M F hr hb hd hx I1 r q
end
structure bN(N P:List Str)(sc:eK):Prop where
 kind:sc.kind = .function
 co:sc.isCoroutine=ak
 gen:sc.isGenerator=ak
 nd:N.Nodup
 pre:N.take P.length=P
 par:∀ x∈P,sc.names.lookup x=aa .local\/sc.names.lookup x=aa .cell
 nofree:∀ y∈sc.names,y.2≠.free
theorem Fj{kindOf:Str->Option gE}{x:Str}:∀ {binds:List (Str×ai)} {m:Str->Option ai},(∀ v,(x,v)∉binds)->bindL kindOf binds m x=m x
 | [],_,_=>rfl
 | (n,v)::r,m,h=>by
  unfold bindL;rw[Fj λw hw=>h w (jA _ hw)];split
  ·have:x≠n:=by rintro rfl; exact h v mC
   simp[this]
  ·rfl
theorem G1{kindOf:Str->Option gE}{x:Str}:∀ {binds:List (Str×ai)} {m:Str->Option ai},(∀ v,(x,v)∉binds)->bindC kindOf binds m x=m x
 | [],_,_=>rfl
 | (n,v)::r,m,h=>by
  unfold bindC;rw[G1 λw hw=>h w (jA _ hw)];split
  ·rfl
  ·have:x≠n:=by rintro rfl; exact h v mC
   simp[this]
theorem Dl{kindOf:Str->Option gE}{x:Str}{v:ai}:∀ {P:List Str} {vs:List ai} {i:Nat} {m:Str->Option ai},P.Nodup->P[i]?=aa x->vs[i]?=aa v->kindOf x=aa .local -> bindL kindOf (P.zip vs) m x=aa v
 | [],_,_,_,_,h,_,_=>by simp at h
 | _::_,[],_,_,_,_,h,_=>by simp at h
 | p::P,w::vs,0,m,nd,h1,h2,hk=>by simp at h1 h2; subst h1; subst h2;show bindL kindOf ((p,w)::P.zip vs) m p=_;unfold bindL;rw[Fj λv hv=>(j8.mp nd).1 (Bu hv).1,if_pos hk];simp
 | p::P,w::vs,i+1,m,nd,h1,h2,hk=>by show bindL kindOf ((p,w)::P.zip vs) m x=_;unfold bindL;exact Dl (i:=i) (j8.mp nd).2 (by simpa using h1) (by simpa using h2) hk
theorem GR{kindOf:Str->Option gE}{x:Str}{v:ai}:∀ {P:List Str} {vs:List ai} {i:Nat} {m:Str->Option ai},P.Nodup->P[i]?=aa x->vs[i]?=aa v->kindOf x≠aa .local -> bindC kindOf (P.zip vs) m x=aa v
 | [],_,_,_,_,h,_,_=>by simp at h
 | _::_,[],_,_,_,_,h,_=>by simp at h
 | p::P,w::vs,0,m,nd,h1,h2,hk=>by simp at h1 h2; subst h1; subst h2;show bindC kindOf ((p,w)::P.zip vs) m p=_;unfold bindC;rw[G1 λv hv=>(j8.mp nd).1 (Bu hv).1,if_neg hk];simp
 | p::P,w::vs,i+1,m,nd,h1,h2,hk=>by show bindC kindOf ((p,w)::P.zip vs) m x=_;unfold bindC;exact GR (i:=i) (j8.mp nd).2 (by simpa using h1) (by simpa using h2) hk
def start(N:List Str)(vs:List V):St:=vs.map aa++aU (N.length-vs.length) ae
def fY(CX:dJ)(P:aM)(w:aG)(K:aq)(mg:Str->Option ai)(base:aA)(N:List Str)(qual:Str)(scope:eK)(f:af)(cd:ai)(A:aR)(outer:List Env)(s:ao)(H:Hp)(E:XK):Cx where
 prog:=P
 w:=w
 K:=K
 mg:=mg
 base:=base
 A:=A.deeper (f_ qual scope s.heap.objs.size f cd)
 N:=N
 s₀:=s
 H₀:=H
 env:=f_ qual scope s.heap.objs.size f cd
 outer:=outer
 stack:=f_ qual scope s.heap.objs.size f cd::outer
 ex:=[]
 calm:=ah
 fn:=λ_=>ah
 pn:=[]
 xe:=λe s'=>aw (au P w) (A.deeper (f_ qual scope s.heap.objs.size f cd)) (leaving (f_ qual scope s.heap.objs.size f cd) e) (λ_ s''=>CX outer H s E e s'') (λe' s''=>CX outer H s E e' s'') s'
theorem Dc{sc:eK}{n:Nat}{x:Str}(h:sc.names.lookup x=aa .cell):∃ c,(fk n sc.names []).lookup x=aa c:=by have q:=Hk sc.names n [] (.inl h);exact xJ.mp q
theorem EQ{CX:dJ}{P:aM}{w:aG}{K:aq}{mg:Str->Option ai}{base:aA}{N ps:List Str}{qual:Str}{scope:eK}{f:af}{cd:ai}{A:aR}{outer:List Env}{s s1:ao}{H:Hp}{E:XK}{us:List ai}{vs:List V}(S:bN N ps scope) (hd:A.handled=ae) (e0:lA P w K mg base A outer s H) (hl:vs.length=ps.length) (r:bd vs us)(x:InCallC s s.heap.objs.size (bindL (f_ qual scope s.heap.objs.size f cd).kindOf (ps.zip us) λ_=>ae) (fk (s.heap.objs.size+1) scope.names []) (bindC (f_ qual scope s.heap.objs.size f cd).kindOf (ps.zip us) λ_=>ae) s1) : Inv (fY CX P w K mg base N qual scope f cd A outer s H E) [] (start N vs) H s1:=by
 have cE:ps.length<=N.length:=by have:=congrArg mI S.pre; rw[jD]at this; lia
 obtain⟨h1,tk,rfl,hk⟩:=x.done;have noA:∀ b:af,b∉(fY CX P w K mg base N qual scope f cd A outer s H E).ex:=λb z=>absurd (show b∈([]:List af)from z) (by simp);refine⟨⟨e0.mod,S.kind,rfl,rfl,bp _,λy z c h1 h2=>?_,λy hy=>?_,λy c _ h=>?_,λ_=>hd,Around.frames_deeper e0.frames,.inr ⟨rfl,rfl⟩,λb z=>absurd z (noA b),e0.bs,e0.bsz,λb _ _=>noA b,λb z=>absurd z (noA b),e0.funs,e0.frf,e0.tab⟩,rfl,e0.bare,Un.kept hk,⟨_,x.toInCall.ns,λi y v h1 h2 h3=>?_⟩,λy c h=>⟨_,x.cell y c h⟩,e0.hok.fresh (bp _),λy c h=>?_,λp hp=>absurd (show p∈([]:List (af×Obj))from hp) (by simp),e0.hok.kept hk,?_⟩
 ·exact name_of_addr x.apart (kP h1) (kP h2)
 ·have hy:scope.names.lookup y=aa .cell\/scope.names.lookup y=aa .free:=hy;rcases hy with hy | hy
  ·exact Dc hy
  ·exact absurd rfl (S.nofree _ (kP hy))
 ·exact mB (x.above y c (kP h))
 ·have hi:i<vs.length:=by
   unfold start at h2;by_cases hi:i<vs.length
   ·exact hi
   ·rw[jE (by simpa using hi)]at h2;rw[List.getElem?_replicate]at h2;split at h2 <;> cases h2
  have ha:vs[i]?=aa v:=by
   unfold start at h2;rw[fJ (by simpa using hi),j9]at h2;cases e:vs[i]? with
   | none=>rw[e]at h2; cases h2
   | some a=>rw[e]at h2; cases h2; rfl
  obtain⟨u,hu,rv⟩:=r.get ha;have hp:ps[i]?=aa y:=by rw[← S.pre,xK ∅]; exact h1
  have ndP:ps.Nodup:=by rw[← S.pre]; exact S.nd.sublist (List.take_sublist _ _)
  refine⟨u,rv,?_⟩;rcases S.par y (Bv hp)with k | k
  ·exact .inl ⟨k,Dl ndP hp hu k⟩
  ·obtain⟨c,e⟩:=Dc (n:=s.heap.objs.size+1) k;refine .inr ⟨.inl k,c,e,?_⟩;have q:=x.cell y c e;rw[GR ndP hp hu (by show scope.names.lookup y≠_; rw[k]; decide)]at q;exact q
 ·exact e0.hok.fresh (mB (x.above y c (kP h)))
 ·unfold start;show _=N.length;rw[dr,cX,List.length_replicate];lia
theorem Cn{CX:dJ}{P:aM}{w:aG}{K:aq}{mg:Str->Option ai}{base:aA}{k:Nat}{f:af}{name qual:Str}{params:Arguments}{body:List aY}{scope:eK}{dV kV doc pm aE ct oc:ai}{an od:Option af}{osl:Array (Option ai)} {N ps:List Str} {sp:Sp} (lk:K.lookup f=aa ⟨oc,od,.func (fq name qual params body scope dV kV doc pm an aE ct),osl⟩) (a7:pX K aE qual=ah) (S:bN N ps scope)(len:∀ vs H Q E,sp vs H Q E->vs.length=ps.length)(d4:∀ (A:aR) (outer:List Env) (s:ao) (H:Hp) (vs:List V) (Q:VK) (E:XK),bZ k (A.deeper (f_ qual scope s.heap.objs.size f aE))->sp vs H Q E -> ∃ t,jw (fY CX P w K mg base N qual scope f aE A outer s H E) body t/\t { nx:=λ_ H'=>Q .non H',rt:=Q } (start N vs) H) : ez P w K mg base CX (k+1) f (fq name qual params body scope dV kV doc pm an aE ct) ps sp:=by
 refine⟨len,λA outer s H args us vs Q E hr e0 hb r gY=>?_⟩;have hl:=len _ _ _ _ gY;have KX:K.In s.heap:=e0.mod.kin.keeps λb o e=>(e0.bs b o e).1;have lim:s.heap.NoLimit:=e0.mod.nolimit.keeps λb o e=>(e0.bs b o e).1;have B_:∀ y∈ps.zip us,scope.names.lookup y.1=aa .local\/(scope.names.lookup y.1=aa .cell/\((fk (s.heap.objs.size+1) scope.names []).lookup y.1).isSome=ah):=λ⟨n,v⟩ hy=>by
  rcases S.par n (Bu hy).1 with q | q
  ·exact .inl q
  ·exact .inr ⟨q,Hk _ _ _ (.inl q)⟩
 refine codeAny_call_function hr.depth (KX _ _ lk) rfl S.co S.gen rfl (PySem.W.codeRec_of KX a7) (hb _ _ _ _ ?_);refine wpAny_newFunctionEnv_cells S.kind B_ λenv he s1 x=>?_;subst he;refine⟨lim.keeps x.toInCall.keep,codeAny_func ?_⟩;obtain⟨t,ht,hq⟩:=d4 A outer s H vs Q E (hr.deeper _) gY;have I:Inv (fY CX P w K mg base N qual scope f aE A outer s H E) [] (start N vs) H s1:=EQ S hr.hd e0 hl r x;refine dZ (ht [] s1 (start N vs) H _ I hq) (λfl s' hs=>?_) λe s' hs=>hs;have fin:∀ {σ':St} {H':Hp} {v:V} {u:ai},Inv (fY CX P w K mg base N qual scope f aE A outer s H E) [] σ' H' s'->RelV v u->Q v H'->CE outer P w H s Q u s' :=λ{σ' H' v u} J rv q=>⟨v,H',J.os,J.bare,J.base,J.hok,rv,q⟩
 cases fl with
 | ret u=>obtain⟨v,σ',H',J,rv,q⟩:=hs;exact fin J rv q
 | next=>obtain⟨σ',H',J,q⟩:=hs;exact fin (v:=V.non) (u:=Value.none) J rfl q
 | brk=>obtain⟨_,_,_,q⟩:=hs;exact dU q
 | cont=>obtain⟨_,_,_,q⟩:=hs;exact dU q
section
variable{X:Cx}{x:Str}{p pos:Pos}{e:aB}{es:List aB}{t:TA}{id T:String}{r:List V->Hp->VK->Prop}
def F6(r:List V->Hp->VK->Prop)(t:TA):TE:=λσ H Q=>t σ H λvs H1=>r vs H1 Q
theorem pN(hc:eu X (.builtin id) r)(hg:Gl X x)(hm:X.mg x=ae)(hv:ef x=aa (.builtin id))(ha:PA X (e::es) t)(hn:x≠"__name__":=by decide)(eC:(x == ("__debug__" : Str))=ak:=by decide)(he:aC (e::es) X.env=(ak,aD e X.env)::aC es X.env:=by rfl) (cE:(bK pos (aC es X.env)).any (·.1)=ak:=by rfl):PE X (.Call (.Name x p) (e::es) [] pos) (F6 r t):=by intro ag s σ H Q I h;refine ul (tZ I hg hm hv ?_ hn eC);exact PyProof.Rows.callWith_builtin1 (aX (ha pos ag s σ H _ I h) λus s1 ⟨vs,H1,I1,r1,q1⟩=>hc ag s1 σ H1 vs us Q I1 r1 q1) he cE
theorem wW(hc:eu X (.type T) r)(hg:Gl X x)(hm:X.mg x=ae)(hv:ef x=aa (.type T))(ha:PA X (e::es) t)(hn:x≠"__name__":=by decide)(eC:(x == ("__debug__" : Str))=ak:=by decide)(he:aC (e::es) X.env=(ak,aD e X.env)::aC es X.env:=by rfl) (cE:(bK pos (aC es X.env)).any (·.1)=ak:=by rfl):PE X (.Call (.Name x p) (e::es) [] pos) (F6 r t):=by intro ag s σ H Q I h;refine ul (tZ I hg hm hv ?_ hn eC);exact Hc (aX (ha pos ag s σ H _ I h) λus s1 ⟨vs,H1,I1,r1,q1⟩=>hc ag s1 σ H1 vs us Q I1 r1 q1) he cE
end
end L2
namespace HT
section
open PySem.SeqAt
open PySem.AutoSeq1 (wpAny_loadPart')
open PySem.MeetsSeq PySem.MeetsSeq2 PySem.MeetsSeq3
end
section
variable{prog:aM}{w:aG}{A:aR}{E:ai->ao->Prop}{s:ao}
theorem cat_tup{t b:af}{vs ws:List ai}{Q:ai->ao->Prop}(ht:IsTup s.heap t vs.toArray)(hb:IsTup s.heap b ws.toArray)(hv:vs≠[])(h1:ws=[]->Q (.ref t) s) (h2:ws≠[]->Q (.ref s.heap.objs.size) { s with heap:=s.heap.push { cls:=.type "tuple",data:=.seq (vs++ws).toArray } })(hsz:vs.length+ws.length<=a9):aw (au prog w) A (jB .Add (.ref t) (.ref b)) Q E s:=by
 obtain⟨⟨cls,dd,data,sl⟩,ho,hc,n,hd⟩:=id ht;obtain⟨⟨cls2,dd2,data2,sl2⟩,oq,hc2,n2,uR⟩:=id hb;simp only at hc hd hc2 uR;subst hc hd hc2 uR;have e:vs.toArray++ws.toArray=(vs++ws).toArray:=by simp
 by_cases hw:ws=[]
 ·exact concat_meets ⟨_,ho,rfl⟩ ⟨_,oq,rfl⟩ noFill_tuple_add seq_tuple_add PySem.F.slot_tuple_add PySem.F.entry_tuple_add (PySem.F.args_tuple_add_2 _ _)
   (tuple_addW1 t b vs.toArray ws.toArray n n2 dd dd2 sl sl2 (by simpa using hv) (by simp[hw])) ⟨ho,oq,h1 hw⟩
 ·refine concat_meets ⟨_,ho,rfl⟩ ⟨_,oq,rfl⟩ noFill_tuple_add seq_tuple_add PySem.F.slot_tuple_add PySem.F.entry_tuple_add (PySem.F.args_tuple_add_2 _ _)
   (tuple_addW2 t b vs.toArray ws.toArray n n2 dd dd2 sl sl2 (by simpa using hv) (by simpa using hw) (by rw[cC,cC]; exact hsz)) ⟨ho,oq,?_⟩
  rw[e];exact h2 hw
def sIx(n d:Nat):Option Int->Nat
 | none=>d
 | some v=>if v<0 then(v+(n:Int)).toNat else min v.toNat n
theorem sIx_nat(n d k:Nat):sIx n d (aa (k:Int))=min k n:=by show(if(k:Int)<0 then((k:Int)+(n:Int)).toNat else min (k:Int).toNat n)=min k n;rw[if_neg ∅,kQ]
theorem sIx_le(n d:Nat)(hd:d<=n)(o:Option Int):sIx n d o<=n:=by
 cases o with
 | none=>exact hd
 | some v=>
  show(if v<0 then(v+(n:Int)).toNat else min v.toNat n)<=n;by_cases hv:v<0
  ·rw[if_pos hv]; lia
  ·rw[if_neg hv]; exact Nat.min_le_right _ _
theorem C0(v:Int)(n d:Nat):(if v<0 then max (v+(n:Int)) 0 else min v (n:Int))=((sIx n d (aa v):Nat):Int):=by
 show(if v<0 then max (v+(n:Int)) 0 else min v (n:Int))=(((if v<0 then(v+(n:Int)).toNat else min v.toNat n):Nat):Int)
 by_cases hv:v<0
 ·simp only[if_pos hv]; lia
 ·simp only[if_neg hv]; lia
theorem Le(lo hi:Option Int)(n:Nat):Hl lo hi 1 (n:Int)=(((sIx n 0 lo:Nat):Int),((sIx n n hi:Nat):Int)):=by
 have h1:¬ ((1:Int)<0):=∅
 unfold Hl;simp only[h1,if_false];refine Prod.ext ?_ ?_
 ·cases lo with
  | none=>rfl
  | some v=>exact C0 v n 0
 ·cases hi with
  | none=>rfl
  | some v=>exact C0 v n n
theorem N6(i j:Nat):Bw (i:Int) (j:Int) 1=j-i:=by
 unfold Bw;have h1:(1:Int) > 0:=∅
 simp only[h1,if_true,Int.ediv_one];split <;> lia
theorem Gz{v:ai}{o:Option Int}{Q:Option Int->ao->Prop}(p:mJ v o)(h:Q o s):aw (au prog w) A (Builtin.Slice.slicePartIndex v) Q E s:=by
 cases p with
 | none=>exact slicePart_none h
 | int i t=>exact slicePart_int h
theorem OL{sl:af}{vl vu:ai}{lo hi:Option Int}{n:Nat}{Q:Int×Int×Nat->ao->Prop}(hs:s.heap.IsSliceOf sl vl vu .none)(pl:mJ vl lo)(pu:mJ vu hi)(h:Q (((sIx n 0 lo:Nat):Int),1,sIx n n hi-sIx n 0 lo) s):aw (au prog w) A (Builtin.Slice.sliceApplied (.ref sl) (pure (n:Int))) Q E s:=by
 obtain⟨os,uS,hcs,hds⟩:=id hs;unfold Builtin.Slice.sliceApplied Builtin.Slice.sliceFields;refine ar (ar (pY uS hds (x:=vl) rfl (ar (pY uS hds (x:=vu) rfl (ar (pY uS hds (x:=.none) rfl (aQ ?_)))))));refine ar (slicePart_none ?_);show aw _ _ (if((1:Int) == 0)=ah then _ else _) _ _ s;rw[if_neg (by decide)];refine ar (Gz pl (ar (Gz pu (ar (aQ ?_)))));show aw _ _ (match Hl lo hi 1 (n:Int)with | (lo,hi)=>pure (lo,(1:Int),Bw lo hi 1)) _ _ s;rw[Le lo hi n];show aw _ _ (pure (((sIx n 0 lo:Nat):Int),(1:Int),Bw ((sIx n 0 lo:Nat):Int) ((sIx n n hi:Nat):Int) 1)) _ _ s;rw[N6];exact aQ h
theorem Nh(xs:Array ai)(i k:Nat):((bJ k).filterMap λ(m:Nat)=>xs[((i:Int)+(m:Int) * 1).toNat]?).toArray=((xs.toList.drop i).take k).toArray:=by
 have e:(λ(m:Nat)=>xs[((i:Int)+(m:Int) * 1).toNat]?)=λm=>xs[i+m]?:=by
  funext m;have:((i:Int)+(m:Int) * 1).toNat=i+m:=∅
  rw[this]
 rw[e];have:=pick_run xs i k;rw[List.filterMap_map]at this;have e2:((λx=>xs[x]?) ∘ λx=>i+x)=λm=>xs[i+m]?:=rfl;rw[e2]at this;rw[this]
theorem getItem_tuple_cut{t sl:af}{items:Array ai}{vl vu:ai}{lo hi:Option Int}{Q:ai->ao->Prop}(ht:IsTup s.heap t items)(hs:s.heap.IsSliceOf sl vl vu .none)(pl:mJ vl lo)(pu:mJ vu hi)(hw:¬ (sIx items.size 0 lo=0/\sIx items.size items.size hi=items.size))(h:Q (.ref s.heap.objs.size) { s with heap:=s.heap.push { cls:=.type "tuple",data:=.seq ((items.toList.drop (sIx items.size 0 lo)).take (sIx items.size items.size hi-sIx items.size 0 lo)).toArray } })(hsz:items.size<=a9):aw (au prog w) A (pZ (.ref t) (.ref sl)) Q E s:=by
 have yj:sizeOk (.seq ((items.toList.drop (sIx items.size 0 lo)).take (sIx items.size items.size hi-sIx items.size 0 lo)).toArray):=by show((items.toList.drop (sIx items.size 0 lo)).take (sIx items.size items.size hi-sIx items.size 0 lo)).toArray.size<=a9;rw[cC,jD,jF,mF];lia
 have hj:sIx items.size items.size hi<=items.size:=sIx_le _ _ (bp _) hi;obtain⟨os,uS,hcs,hds⟩:=id hs;have hTs:s.TypeIs (.ref sl) "slice":=⟨os,uS,hcs⟩
 unfold pZ
 try with_reducible refine n6 ?_
 first | refine ar (aQ ?_) | skip
 refine ar (wpAny_sequenceKey ht.typeIs (by decide) ?_);refine ar (wpAny_callSpecial?_slot (name:=b0 "__getitem__") ht.typeIs QV (xL QV ht.typeIs entry_tuple_getitem ?_ (args_tuple_getitem _ _)));show aw _ _ (Builtin.Tuple.tupleItemsOf (.ref t) >>= _) _ _ s;refine ar (tupleItemsOf_ ht ?_);refine ar (wpAny_typeOf hTs ?_);rw[if_pos (by decide)];refine ar (OL hs pl pu ?_);have hno:¬ ((((sIx items.size 0 lo:Nat):Int) == 0 && (1:Int) == 1 && (sIx items.size items.size hi-sIx items.size 0 lo) == items.size)=ah):=by intro q;rw[fc,fc]at q;have q1:((sIx items.size 0 lo:Nat):Int)=0:=eq_of_beq q.1.1;have q2:sIx items.size items.size hi-sIx items.size 0 lo=items.size:=eq_of_beq q.2;exact hw ⟨∅,∅⟩
 show aw _ _ (if(((sIx items.size 0 lo:Nat):Int) == 0 && (1:Int) == 1 && (sIx items.size items.size hi-sIx items.size 0 lo) == items.size)=ah then _ else _) _ _ s;rw[if_neg hno,Nh]
 first
  | exact ar (m:=By _) (mK (aQ ⟨_,rfl,aQ h⟩) yj)
  | exact ar (m:=By _) (mK (ar (aQ (aQ ⟨_,rfl,aQ h⟩))) yj)
  | exact ar (ar (m:=By _) (mK (aQ (aQ ⟨_,rfl,aQ h⟩)) yj))
  | exact ar (ar (m:=By _) (mK (aQ ⟨_,rfl,aQ h⟩) yj))
end
end HT
namespace L2
abbrev TO:=St->Hp->(Option Int->Hp->Prop)->Prop
def PO(X:Cx)(e:Option aB)(t:TO):Prop :=
 ∀ (ag:List (af×Obj)) (s:ao) (σ:St) (H:Hp) (Q:Option Int->Hp->Prop),Inv X ag σ H s->t σ H Q ->
  aw (au X.prog X.w) X.A (evalPart e X.env) (λu s'=>∃ o H',Inv X ag σ H' s'/\mJ u o/\Q o H') X.xe s
def Pa:TO:=λ_ H Q=>Q ae H
def KH(t:TE):TO:=λσ H Q=>t σ H λx H1=>∃ i,x = .int i/\Q (aa i) H1
section
variable{X:Cx}{e:aB}{te:TE}{lo hi:Option aB}{tl th:TO}{pos p2:Pos}
theorem LK:PO X ae Pa:=by intro ag s σ H Q I h;rw[evalPart_none];exact aQ ⟨ae,H,I,.none,h⟩
theorem Nm(h:PE X e te):PO X (aa e) (KH te):=by intro ag s σ H Q I hw;rw[evalPart_some];refine aX (h ag s σ H _ I hw) λu s1 ⟨x,H1,I1,r1,q1⟩=>?_;obtain⟨i,rfl,q⟩:=q1;obtain⟨t,rfl⟩:=r1;exact⟨aa i,H1,I1,.int i t,q⟩
def mf(X:Cx)(r:V->Option Int->Option Int->Hp->VK->Prop):Prop :=
 ∀ (ag:List (af×Obj)) (s:ao) (σ:St) (H:Hp) (x:V) (v vl vu:ai) (lo hi:Option Int) (sl:af) (Q:VK),Inv X ag σ H s->RelV x v->s.heap.IsSliceOf sl vl vu .none->mJ vl lo->mJ vu hi->r x lo hi H Q ->
  ∃ T id,typeLookup (.type T) "__getitem__" = pure (aa (.builtin id))/\s.TypeIs v T/\aw (au X.prog X.w) X.A (pZ v (.ref sl)) (EP X ag σ Q) X.xe s
theorem mf.or{r r':V->Option Int->Option Int->Hp->VK->Prop}(h:mf X r)(h':mf X r'):mf X (λx lo hi H Q=>r x lo hi H Q\/r' x lo hi H Q):=by
 intro ag s σ H x v vl vu lo hi sl Q I rx hs pl pu q;rcases q with q | q
 ·exact h ag s σ H x v vl vu lo hi sl Q I rx hs pl pu q
 ·exact h' ag s σ H x v vl vu lo hi sl Q I rx hs pl pu q
def Ol(r:V->Option Int->Option Int->Hp->VK->Prop)(te:TE)(tl th:TO):TE:=λσ H Q=>te σ H λx H1=>tl σ H1 λl H2=>th σ H2 λu H3=>r x l u H3 Q
theorem MD{r:V->Option Int->Option Int->Hp->VK->Prop}(hr:mf X r)(he:PE X e te)(hl:PO X lo tl)(hu:PO X hi th):PE X (.Subscript e (.Slice lo hi ae p2) pos) (Ol r te tl th):=by intro ag s σ H Q I h;refine Subscript_ (aX (he ag s σ H _ I h) λv s1 ⟨x,H1,I1,r1,q1⟩=>?_);refine wpAny_Slice (aX (hl ag s1 σ H1 _ I1 q1) λvl s2 ⟨l,H2,I2,pl,q2⟩=>aX (hu ag s2 σ H2 _ I2 q2) λvu s3 ⟨u,H3,I3,pu,q3⟩=>?_);rw[evalPart_none];refine aQ ?_;have I4:Inv X ag σ H3 { s3 with heap:=s3.heap.push { cls:=.type "slice",data:=.fields #[vl,vu,.none] } }:=I3.kept (t':=s3.toks) λb ob q=>bG _ q;obtain⟨T,id,hT,ht,hg⟩:=hr ag { s3 with heap:=s3.heap.push { cls:=.type "slice",data:=.fields #[vl,vu,.none] } } σ H3 x v vl vu l u s3.heap.objs.size Q I4 r1 (Heap.IsSliceOf.new ..) pl pu q3;show aw (au X.prog X.w) X.A (Bz e (.Slice lo hi ae p2) v (.ref s3.heap.objs.size)) (EP X ag σ Q) X.xe { s3 with heap:=s3.heap.push { cls:=.type "slice",data:=.fields #[vl,vu,.none] } };exact tail_any (ops:=[.ref s3.heap.objs.size,v]) ht hT hg (by with_unfolding_all rfl)
def nj(xs:List V)(lo hi:Option Int):List V:=(xs.drop (HT.sIx xs.length 0 lo)).take (HT.sIx xs.length xs.length hi-HT.sIx xs.length 0 lo)
theorem CY(xs:List V)(lo hi:Option Int):(nj xs lo hi).length<=xs.length:=by unfold nj;rw[jD,jF];lia
def FI(K:aq):V->Option Int->Option Int->Hp->VK->Prop:=λx lo hi H Q=>∃ a xs,x = .ref a/\cq K H a xs /\
 ¬ (HT.sIx xs.length 0 lo=0/\HT.sIx xs.length xs.length hi=xs.length)/\∀ p,H p=ae->Q (.ref p) (upd H p (.tup (nj xs lo hi)))
theorem Ln:mf X (FI X.K):=by
 intro ag s σ H x v vl vu lo hi sl Q I rx hs pl pu h;obtain⟨a,xs,rfl,hx,hw,q⟩:=h;cases rx;obtain⟨its,r,ht,hz⟩:=I.tuple hx;have a8:its.toArray.size=xs.length:=by rw[cC]; exact r.length.symm
 refine⟨"tuple",_,PyProof.Rows.slot_tuple_getitem.lookup,ht.typeIs,?_⟩;refine HT.getItem_tuple_cut ht hs pl pu (by rw[a8]; exact hw) ?_ (by rw[a8]; exact hz);rw[a8];refine⟨.ref s.heap.objs.size,_,I.laid (t':=s.toks) (o:=.tup (nj xs lo hi)) (λb ob q=>bG _ q) (bp _) ?_,rfl,q _ (I.hok.fresh (bp _))⟩;exact⟨cr (CY xs lo hi) hz,_,(r.drop (HT.sIx xs.length 0 lo)).take (HT.sIx xs.length xs.length hi-HT.sIx xs.length 0 lo),G8.new _ _⟩
def DD(K:aq):R2:=λx y H Q=>∃ a b xs ys,x = .ref a/\y = .ref b/\cq K H a xs/\cq K H b ys/\xs≠[]/\xs.length+ys.length<=a9 /\
 (ys=[]->Q (.ref a) H)/\(ys≠[]->∀ p,H p=ae->Q (.ref p) (upd H p (.tup (xs++ys))))
theorem bd.nil_iff{xs:List V}{us:List ai}(r:bd xs us):us=[]↔xs=[]:=by
 cases r with
 | nil=>simp
 | cons _ _=>simp
theorem Rq:bU X (jB .Add) (DD X.K):=by
 intro ag s σ H x y v u Q I rx ry h;obtain⟨a,b,xs,ys,rfl,rfl,ha,hb,hx,hz,q1,q2⟩:=h;cases rx;cases ry;obtain⟨its,r1,p1,_⟩:=I.tuple ha;obtain⟨its2,r2,p2,_⟩:=I.tuple hb;refine HT.cat_tup p1 p2 (λz=>hx (r1.nil_iff.mp z)) (λz=>⟨.ref a,H,I,rfl,q1 (r2.nil_iff.mp z)⟩) (λz=>?_) (by rw[← r1.length,← r2.length]; exact hz);refine⟨.ref s.heap.objs.size,_,I.laid (t':=s.toks) (o:=.tup (xs++ys)) (λb ob q=>bG _ q) (bp _) ?_,rfl,q2 (λw=>z (r2.nil_iff.mpr w)) _ (I.hok.fresh (bp _))⟩;exact⟨by rw[dr]; exact hz,_,r1.append r2,G8.new _ _⟩
end
def kx(n:Nat)(i:Int):Option Nat:=if 0<=i then(if i<n then aa i.toNat else ae)else if -(n:Int)<=i then aa (i+n).toNat else ae
def eF{α:Type}(xs:List α)(i:Int):Option α:=(kx xs.length i).bind λj=>xs[j]?
theorem KM{n:Nat}{i:Int}{j:Nat}(h:kx n i=aa j):seqIndex? i n=aa j/\j<n/\-(n:Int)<=i/\i<n:=by
 unfold kx at h;by_cases h0:0<=i
 ·rw[if_pos h0]at h;by_cases h1:i<n
  ·rw[if_pos h1]at h;have e:i.toNat=j:=fj h;exact⟨by rw[seqIndex_of h0 h1,e],∅,∅,h1⟩
  ·rw[if_neg h1]at h; cases h
 ·rw[if_neg h0]at h;by_cases h1 : -(n:Int)<=i
  ·rw[if_pos h1]at h;have e:(i+n).toNat=j:=fj h;exact⟨by rw[seqIndex_neg ∅ h1,e],∅,h1,∅⟩
  ·rw[if_neg h1]at h; cases h
theorem yP{α:Type}{xs:List α}{i:Int}{v:α}(h:eF xs i=aa v):∃ j,seqIndex? i xs.length=aa j/\xs[j]?=aa v/\j<xs.length/\-(xs.length:Int)<=i/\i<xs.length:=by
 unfold eF at h;cases e:kx xs.length i with
 | none=>rw[e]at h; cases h
 | some j=>rw[e]at h;obtain⟨h1,h2,h3,h4⟩:=KM e;exact⟨j,h1,h,h2,h3,h4⟩
theorem Ou{α:Type}{xs:List α}{j:Nat}{v:α}(h:xs[j]?=aa v):eF xs (j:Int)=aa v:=by
 have hj:j<xs.length:=(cu.mp h).1;have e:kx xs.length (j:Int)=aa j:=by unfold kx;rw[if_pos ∅,if_pos ∅]; simp
 unfold eF; rw[e]; exact h
def z8(b:aB):Prop:=∀ o i,BA b ak o i=operate [o,i] (pZ o i)
def li(X:Cx)(r:R2):Prop :=
 ∀ (value slice:aB) (ag:List (af×Obj)) (s:ao) (σ:St) (H:Hp) (x y:V) (v u:ai) (Q:VK),Inv X ag σ H s->RelV x v->RelV y u->r x y H Q ->
  BA slice ak v u=operate [v,u] (pZ v u)->aw (au X.prog X.w) X.A (Bz value slice v u) (EP X ag σ Q) X.xe s
def rF(X:Cx)(id:String)(r:V->List V->Hp->VK->Prop):Prop :=
 ∀ (ag:List (af×Obj)) (s:ao) (σ:St) (H:Hp) (x:V) (xs:List V) (v:ai) (us:List ai) (Q:VK),Inv X ag σ H s->RelV x v->bd xs us->r x xs H Q ->
  aw (au X.prog X.w) X.A (call (.builtin id) (v::us)) (EP X ag σ Q) X.xe s
section
variable{X:Cx}{a b:aB}{ta tb:TE}{pos:Pos}
theorem li.or{r r':R2}(h:li X r)(h':li X r'):li X (λx y H Q=>r x y H Q\/r' x y H Q):=by
 intro value slice ag s σ H x y v u Q I rx ry q hs;rcases q with q | q
 ·exact h value slice ag s σ H x y v u Q I rx ry q hs
 ·exact h' value slice ag s σ H x y v u Q I rx ry q hs
theorem EA{r:R2}(hr:li X r)(ha:PE X a ta)(hb:PE X b tb)(hs:z8 b):PE X (.Subscript a b pos) (vG r ta tb):=by intro ag s σ H Q I h;exact Subscript_ (AS ha hb I h λv u s2 x y H2 I2 rx ry q=>hr a b ag s2 σ H2 x y v u Q I2 rx ry q (hs _ _))
def Fw(K:aq):R2:=λx y H Q=>∃ p xs i v,x = .ref p/\y = .int i/\bR K H p xs/\eF xs i=aa v/\Q v H
def Cp(K:aq):R2:=λx y H Q=>∃ p xs i v,x = .ref p/\y = .int i/\cq K H p xs/\eF xs i=aa v/\Q v H
def CG:R2:=λx y H Q=>∃ z i c,x = .str z/\y = .int i/\z.length<=a9/\eF z.cps.toList i=aa c/\Q (.str ⟨#[c]⟩) H
theorem Rv:li X (Fw X.K):=by
 intro value slice ag s σ H x y v u Q I rx ry h hs;obtain⟨p,xs,i,z,rfl,rfl,hq,he,q⟩:=h;cases rx;obtain⟨t,rfl⟩:=ry;obtain⟨its,r,pl,hz⟩:=I.list hq;obtain⟨j,h1,h2,h3,h4,h5⟩:=yP he;obtain⟨w,ew,rw'⟩:=r.get h2;have hl:=r.length;have hn:=s_;have fin:EP X ag σ Q w s:=⟨z,H,I,rw',q⟩
 by_cases h0:0<=i
 ·have hj:i.toNat=j:=by
   rw[seqIndex_of h0 h5]at h1;exact fj h1
  exact item_listR pl.isList h0 ∅ (by rw[hj]; simpa using ew) fin hs
 ·have hj:(i+(its.toArray.size:Int)).toNat=j:=by
   rw[seqIndex_neg ∅ h4]at h1;rw[cC,← hl];exact fj h1
  exact subscriptTail_builtinR (x:=w) pl.isList.typeIs slot_list_getitem.lookup
   (wpAny_getItem_list_neg (Q:=λr s'=>r=w/\EP X ag σ Q r s') pl.isList ∅ (by rw[cC] <;> lia) ∅ (by rw[hj]; simpa using ew) ⟨rfl,fin⟩) hs
theorem RB:li X (Cp X.K):=by
 intro value slice ag s σ H x y v u Q I rx ry h hs;obtain⟨p,xs,i,z,rfl,rfl,hq,he,q⟩:=h;cases rx;obtain⟨t,rfl⟩:=ry;obtain⟨its,r,pl,hz⟩:=I.tuple hq;obtain⟨j,h1,h2,h3,h4,h5⟩:=yP he;obtain⟨w,ew,rw'⟩:=r.get h2;have hl:=r.length;have hn:=s_;have fin:EP X ag σ Q w s:=⟨z,H,I,rw',q⟩
 exact subscriptTail_builtinR (x:=w) pl.typeIs slot_tuple_getitem.lookup
  (getItem_tuple (j:=j) (Q:=λr s'=>r=w/\EP X ag σ Q r s') pl ∅ ∅ (by rw[cC,← hl]; exact h1) (by simpa using ew) ⟨rfl,fin⟩) hs
theorem MA:li X CG:=by
 intro value slice ag s σ H x y v u Q I rx ry h hs;obtain⟨z,i,c,rfl,rfl,hz,he,q⟩:=h;obtain⟨t,rfl⟩:=rx;obtain⟨t',rfl⟩:=ry;obtain⟨j,h1,h2,h3,h4,h5⟩:=yP he;have hl:z.cps.toList.length=z.length:=by simp[Str.length]
 rw[hl]at h1 h4 h5;have hn:=s_;exact tail_any (rM s z t) slot_str_getitem.lookup (getItem_str (c:=c) (by have e1:decide (i < -(2 ^ 63:Int))=ak:=decide_eq_false ∅;have e2:decide (i ≥ 2 ^ 63)=ak:=decide_eq_false ∅;rw[e1,e2,Bool.or_false]) (by rw[h1]; simpa using h2) ⟨.str ⟨#[c]⟩,H,I.tok _,⟨_,rfl⟩,q⟩) hs
def Gc(K:aq):R2:=λx y H Q=>Fw K x y H Q\/Cp K x y H Q\/CG x y H Q
theorem hZ:li X (Gc X.K):=Rv.or (RB.or MA)
theorem Inv.lst{ag:List (af×Obj)}{σ:St}{H:Hp}{s:ao}{p:af}{xs:List V}(I:Inv X ag σ H s)(h:H p=aa (.lst xs)) : ∃ (its:List ai) (n:Nat),bd xs its/\s.heap.get? p=aa { cls:=.type "list",data:=.seq its.toArray n }/\xs.length<=a9:=by obtain⟨z,its,n,r,e⟩:=I.hok p _ h;exact⟨its,n,r,e,z⟩
theorem Ny(lo hi:Option Int)(n:Nat):(n8 lo hi ae n).1=((HT.sIx n 0 lo:Nat):Int)/\(n8 lo hi ae n).2.1=((HT.sIx n n hi:Nat):Int)/\(n8 lo hi ae n).2.2=1:=by
 refine⟨?_,?_,rfl⟩
 ·cases lo with
  | none=>simp[n8,HT.sIx]
  | some i=>
   simp only[n8,HT.sIx,Hm,show(1:Int) > 0 by decide,if_true];by_cases h:i<0
   ·simp only[h,if_true] <;> lia
   ·simp only[h,if_false] <;> lia
 ·cases hi with
  | none=>simp[n8,HT.sIx]
  | some i=>
   simp only[n8,HT.sIx,Hm,show(1:Int) > 0 by decide,if_true];by_cases h:i<0
   ·simp only[h,if_true] <;> lia
   ·simp only[h,if_false] <;> lia
theorem Jt(its:List ai)(lo hi:Option Int):slicePick its.toArray lo hi ae=((its.drop (HT.sIx its.length 0 lo)).take (HT.sIx its.length its.length hi-HT.sIx its.length 0 lo)).toArray:=by obtain⟨h1,h2,h3⟩:=Ny lo hi its.toArray.size;unfold slicePick;rw[h1,h2,h3];simp only[sliceRange_one,pick_run,cC] <;> rfl
def Eu(K:aq):V->Option Int->Option Int->Hp->VK->Prop:=λx lo hi H Q=>∃ a xs,x = .ref a/\bR K H a xs/\∀ p,H p=ae->Q (.ref p) (upd H p (.lst (nj xs lo hi)))
theorem Rk:mf X (Eu X.K):=by
 intro ag s σ H x v vl vu lo hi sl Q I rx hs pl pu h;obtain⟨a,xs,rfl,hx,q⟩:=h;cases rx;obtain⟨its,r,ht,hz⟩:=I.list hx;have a8:=r.length;refine⟨"list",_,slot_list_getitem.lookup,ht.isList.typeIs,?_⟩;refine wpAny_getItem_list_slice ht.isList hs pl pu .none (by simp) ?_ (by rw[cC] <;> lia);rw[Jt,← a8];refine⟨.ref s.heap.objs.size,_,I.laid (t':=s.toks) (o:=.lst (nj xs lo hi)) (λb ob q=>bG _ q) (bp _) ?_,rfl,q _ (I.hok.fresh (bp _))⟩;exact⟨cr (CY xs lo hi) hz,_,0,(r.drop (HT.sIx xs.length 0 lo)).take (HT.sIx xs.length xs.length hi-HT.sIx xs.length 0 lo),cW _ rfl⟩
def gw:V->Bool
 | .non=>ah
 | .bl _=>ah
 | .int _=>ah
 | .str _=>ah
 | _=>ak
def fh:V->V->Bool
 | .non,.non=>ah
 | .bl a,.bl b=>a == b
 | .bl a,.int b=>(if a then 1 else 0) == b
 | .int a,.bl b=>a == (if b then 1 else 0)
 | .int a,.int b=>a == b
 | .str a,.str b=>a == b
 | _,_=>ak
theorem Ew{A:aR}{s:ao}{y x:V}{u v:ai}(ry:RelV y u)(rx:RelV x v)(fy:gw y=ah)(fx:gw x=ah):xM A s u v (fh y x):=by
 cases y with
 | non=>
  cases ry;cases x with
  | non=>cases rx; exact SeqAt.EqAt.same _
  | bl b=>cases rx; exact SeqAt.EqAt.none_bool b
  | int b=>obtain⟨t,rfl⟩:=rx; exact SeqAt.EqAt.none_int b t
  | str b=>obtain⟨t,rfl⟩:=rx; exact SeqAt.EqAt.none_str b t
  | _=>exact absurd (show ak=ah from fx) f8
 | bl a=>
  cases ry;cases x with
  | non=>cases rx; exact SeqAt.EqAt.bool_none a
  | bl b=>cases rx; exact SeqAt.EqAt.bool_bool a b
  | int b=>obtain⟨t,rfl⟩:=rx; exact SeqAt.EqAt.bool_int a b t
  | str b=>obtain⟨t,rfl⟩:=rx; exact SeqAt.EqAt.bool_str a b t
  | _=>exact absurd (show ak=ah from fx) f8
 | int a=>
  obtain⟨t',rfl⟩:=ry;cases x with
  | non=>cases rx; exact SeqAt.EqAt.int_none a t'
  | bl b=>cases rx; exact SeqAt.EqAt.int_bool a t' b
  | int b=>obtain⟨t,rfl⟩:=rx; exact SeqAt.EqAt.int_int a t' b t
  | str b=>obtain⟨t,rfl⟩:=rx; exact SeqAt.EqAt.int_str a t' b t
  | _=>exact absurd (show ak=ah from fx) f8
 | str a=>
  obtain⟨t',rfl⟩:=ry;cases x with
  | non=>cases rx; exact SeqAt.EqAt.str_none a t'
  | bl b=>cases rx; exact SeqAt.EqAt.str_bool a t' b
  | int b=>obtain⟨t,rfl⟩:=rx; exact SeqAt.EqAt.str_int a t' b t
  | str b=>obtain⟨t,rfl⟩:=rx; exact SeqAt.EqAt.str_str a t' b t
  | _=>exact absurd (show ak=ah from fx) f8
 | _=>exact absurd (show ak=ah from fy) f8
def ju(x:V)(u:ai):Bool:=match u with
 | .none=>fh .non x
 | .bool b=>fh (.bl b) x
 | .int i _=>fh (.int i) x
 | .str z _=>fh (.str z) x
 | _=>ak
theorem vO{x y:V}{u:ai}(r:RelV y u)(f:gw y=ah):ju x u=fh y x:=by
 cases y with
 | non=>cases r; rfl
 | bl b=>cases r; rfl
 | int i=>obtain⟨t,rfl⟩:=r; rfl
 | str z=>obtain⟨t,rfl⟩:=r; rfl
 | _=>exact absurd (show ak=ah from f) f8
theorem zM{x:V}:∀ {xs:List V} {us:List ai},bd xs us->xs.all gw=ah->us.any (ju x)=xs.any λy=>fh y x
 | _,_,.nil,_=>rfl
 | y::xs,u::us,.cons r t,f=>by rw[rN,fc]at f;rw[p0,p0,vO r f.1,zM t f.2]
theorem sP{A:aR}{s:ao}{x:V}{v:ai}(rx:RelV x v)(fx:gw x=ah):∀ {xs:List V} {us:List ai},bd xs us->xs.all gw=ah->∀ u∈us,xM A s u v (ju x u)
 | _,_,.nil,_=>λu hu=>by cases hu
 | y::xs,u::us,.cons r t,f=>λu' hu=>by
  rw[rN,fc]at f;rcases bV.mp hu with rfl | hu
  ·rw[vO r f.1]; exact Ew r rx f.1 fx
  ·exact sP rx fx t f.2 u' hu
def ti(x:V)(xs:List V):Bool:=xs.any λy=>fh y x
def zK(K:aq)(neg:Bool):R2:=λx y H Q=>∃ p xs,y = .ref p/\(bR K H p xs\/cq K H p xs)/\gw x=ah/\xs.all gw=ah/\Q (.bl (if neg then !ti x xs else ti x xs)) H
theorem Pd:bU X (eN .In) (zK X.K ak):=by
 intro ag s σ H x y v u Q I rx ry h;obtain⟨p,xs,rfl,hq,fx,fs,q⟩:=h;cases ry;rcases hq with hq | hq
 ·obtain⟨its,r,pl,hz⟩:=I.list hq;refine SeqAt.in_listAt (ju x) pl.isList (λw hw=>sP rx fx r fs w (by simpa using hw)) ⟨.bl _,H,I,rfl,?_⟩;rw[show its.toArray.any (ju x)=its.any (ju x) by simp,zM r fs];exact q
 ·obtain⟨its,r,pl,hz⟩:=I.tuple hq;refine SeqAt.in_tupleAt (ju x) pl (λw hw=>sP rx fx r fs w (by simpa using hw)) ⟨.bl _,H,I,rfl,?_⟩;rw[show its.toArray.any (ju x)=its.any (ju x) by simp,zM r fs];exact q
theorem eu.or{f:ai}{r r':List V->Hp->VK->Prop}(h:eu X f r)(h':eu X f r'):eu X f (λxs H Q=>r xs H Q\/r' xs H Q):=by
 intro ag s σ H xs us Q I rs q;rcases q with q | q
 ·exact h ag s σ H xs us Q I rs q
 ·exact h' ag s σ H xs us Q I rs q
theorem GX:eu X (.type "list") (λxs H Q=>∃ p ys,xs=[.ref p]/\(bR X.K H p ys\/cq X.K H p ys)/\∀ l,H l=ae->Q (.ref l) (upd H l (.lst ys))):=by
 intro ag s σ H xs us Q I r h;obtain⟨p,ys,rfl,hq,q⟩:=h;obtain⟨u,rfl,rx⟩:=vals1 r;cases rx;have fin:∀ (its:List ai),bd ys its->ys.length<=a9->∀ (h':aA) (c':Nat),(∀ b o',s.heap.get? b=aa o'->h'.get? b=aa o') ->
   h'.get? s.heap.objs.size=aa { cls:=.type "list",dict:=ae,data:=.seq its.toArray c',slots:=#[] }->EP X ag σ Q (.ref s.heap.objs.size) { s with heap:=h' }:=λits r' hz h' c' kp e=>
  ⟨.ref s.heap.objs.size,_,I.laid (t':=s.toks) kp (bp _) (show dw X.prog X.w _ h' _ (.lst ys)from⟨hz,its,c',r',e⟩),rfl,q _ (I.hok.fresh (bp _))⟩
 rcases hq with hq | hq
 ·obtain⟨its,r',pl,hz⟩:=I.list hq;have a8:=r'.length;obtain⟨o,ho,hc,n,hd⟩:=pl.isList;exact call_list_seq p (.inl rfl) ho hc hd (λh' c' kp e=>fin its r' hz h' c' kp e) (by simp only[cC] <;> lia)
 ·obtain⟨its,r',pl,hz⟩:=I.tuple hq;have a8:=r'.length;obtain⟨o,ho,hc,n,hd⟩:=pl;exact call_list_seq p (.inr rfl) ho hc hd (λh' c' kp e=>fin its r' hz h' c' kp e) (by simp only[cC] <;> lia)
theorem Ga:eu X (.type "tuple") (λxs H Q=>∃ p ys,xs=[.ref p]/\((bR X.K H p ys/\∀ l,H l=ae->Q (.ref l) (upd H l (.tup ys)))\/(cq X.K H p ys/\Q (.ref p) H))):=by
 intro ag s σ H xs us Q I r h;obtain⟨p,ys,rfl,h⟩:=h;obtain⟨u,rfl,rx⟩:=vals1 r;cases rx;rcases h with⟨hq,q⟩ | ⟨hq,q⟩
 ·obtain⟨its,r',pl,hz⟩:=I.list hq;have a8:=r'.length;refine call_tuple_list pl.isList (λh' kp=>?_) (by simp only[cC] <;> lia);have I1:Inv X ag σ H { s with heap:=h' }:=I.kept (t':=s.toks) kp;have I2:Inv X ag σ (upd H h'.objs.size (.tup ys)) { s with heap:=h'.push { cls:=.type "tuple",data:=.seq its.toArray } } :=I1.laid (t':=s.toks) (λb o e=>bG _ e) (bp _) (show dw X.prog X.w _ _ _ (.tup ys)from⟨hz,its,r',G8.new _ _⟩);exact⟨.ref h'.objs.size,_,I2,rfl,q _ (I1.hok.fresh (bp _))⟩
 ·obtain⟨its,r',pl,hz⟩:=I.tuple hq;exact call_tuple_same pl ⟨.ref p,H,I,rfl,q⟩
def Bb(K:aq)(T:String)(x:V)(H:Hp):Prop:=match x with
 | .str _=>T = "str"
 | .int _=>T = "int"
 | .ref p=>(T = "list"/\∃ xs,bR K H p xs)\/(T = "tuple"/\∃ o,K.lookup p=aa o/\o.cls = .type "tuple"/\o.dict=ae) \/
   (T = "dict"/\((∃ kvs,H p=aa (.dK kvs))\/∃ kvs,H p=aa (.dT kvs)))\/(T = "set"/\∃ S n,H p=aa (.set S n))
 | _=>False
theorem DP{ag:List (af×Obj)}{σ:St}{H:Hp}{s:ao}{T:String}{x:V}{v:ai}(I:Inv X ag σ H s)(r:RelV x v)(ty:Bb X.K T x H) : s.TypeIs v T/\∀ a,v = .ref a->∃ ob,s.heap.get? a=aa ob/\ob.dict=ae:=by
 cases x with
 | str z=>
  obtain⟨t,rfl⟩:=r;cases (show T = "str" from ty);exact⟨rM s z t,λ_ e=>nomatch e⟩
 | int i=>
  obtain⟨t,rfl⟩:=r;cases (show T = "int" from ty);exact⟨typeIs_int s i t,λ_ e=>nomatch e⟩
 | ref p=>
  cases r;rcases ty with⟨rfl,xs,hq⟩ | ⟨rfl,o,hk,hc,hd⟩ | ⟨rfl,hk⟩ | ⟨rfl,S,n,hk⟩
  ·obtain⟨its,_,pl,_⟩:=I.list hq;refine⟨pl.isList.typeIs,λa e=>?_⟩;cases e;obtain⟨o,n,e,c,hd,_⟩:=pl;exact⟨o,e,hd⟩
  ·refine⟨⟨o,I.kIn p o hk,hc⟩,λa e=>?_⟩;cases e;exact⟨o,I.kIn _ o hk,hd⟩
  ·have z:∃ o,s.heap.get? p=aa o/\o.ExactDict:=by
    rcases hk with⟨kvs,hk⟩ | ⟨kvs,hk⟩
    ·obtain⟨_,_,_,_,o,_,_,e,ex,_⟩:=I.hok p _ hk;exact⟨o,e,ex⟩
    ·obtain⟨_,_,_,_,o,_,_,e,ex,_⟩:=I.hok p _ hk;exact⟨o,e,ex⟩
   obtain⟨o,e,ex⟩:=z;refine⟨⟨o,e,ex.1⟩,λa e2=>?_⟩;cases e2;exact⟨o,e,ex.2.1⟩
  ·obtain⟨o,_,_,_,e,ex,_⟩:=I.hok p _ hk;refine⟨⟨o,e,ex.1⟩,λa e2=>?_⟩;cases e2;exact⟨o,e,ex.2.1⟩
 | _=>exact dU ty
def Ot(K:aq)(T:String)(r:V->List V->Hp->VK->Prop)(to:TE):TE:=λσ H Q=>to σ H λx H1=>Bb K T x H1/\r x [] H1 Q
def KB(K:aq)(T:String)(r:V->List V->Hp->VK->Prop)(to:TE)(t:TA):TE:=λσ H Q=>to σ H λx H1=>Bb K T x H1/\t σ H1 λxs H2=>r x xs H2 Q
variable{o e:aB}{es:List aB}{to:TE}{t:TA}{name:Str}{apos cpos:Pos}{T id:String}{r:V->List V->Hp->VK->Prop}
theorem Dx(pa:PlainAttrs T)(slot:Slot T name id)(ot:typeOf (.builtin id)=pure (.type "method_descriptor"))(hm:rF X id r)(ho:PE X o to)(qd:f9 o name X.env (aD o X.env)=aD o X.env:=by rfl) (qe:(apos.endLine == cpos.line)=ah:=by rfl):PE X (.Call (.Attribute o name apos) [] [] cpos) (Ot X.K T r to):=by intro ag s σ H Q I h;refine wpAny_Call_method0_late qd qe (aX (ho ag s σ H _ I h) λv s1 ⟨x,H1,I1,r1,ty,q1⟩=>?_);obtain⟨h1,h2⟩:=DP I1 r1 ty;exact⟨T,id,pa,slot,ot,h1,h2,Hn rfl (PySem.evalArgs_none (hm ag s1 σ H1 x [] v [] Q I1 r1 .nil q1))⟩
theorem rg(pa:PlainAttrs T)(slot:Slot T name id)(ot:typeOf (.builtin id)=pure (.type "method_descriptor"))(hm:rF X id r)(ho:PE X o to)(ha:PA X (e::es) t)(qd:f9 o name X.env (aD o X.env)=aD o X.env:=by rfl)(Cc:((bK cpos (aC (e::es) X.env)).all (λx=>!x.1) && (j6 cpos (j7 [] X.env)).all (λx=>x.1.isSome) && decide ((e::es).length+([]:List iN).length+(if([]:List iN).isEmpty then 0 else 1)<30))=ah:=by rfl)(qe:(apos.endLine == cpos.line)=ah:=by rfl) (hs:aC (e::es) X.env=(ak,aD e X.env)::aC es X.env:=by rfl) (B9:(bK cpos (aC es X.env)).any (·.1)=ak:=by rfl) : PE X (.Call (.Attribute o name apos) (e::es) [] cpos) (KB X.K T r to t):=by intro ag s σ H Q I h;refine wpAny_Call_method_late qd Cc qe rfl (aX (ho ag s σ H _ I h) λv s1 ⟨x,H1,I1,r1,ty,q1⟩=>?_);obtain⟨h1,h2⟩:=DP I1 r1 ty;refine⟨T,id,pa,slot,ot,h1,h2,?_⟩;have hA:=ha cpos ag s1 σ H1 _ I1 q1;rw[hs]at hA ⊢;refine Hn (by show(ak || (bK cpos (aC es X.env)).any (·.1))=ak; rw[B9] <;> rfl) (Ho ?_);exact aX hA λus s2 ⟨vs,H2,I2,r2,q2⟩=>hm ag s2 σ H2 x vs v us Q I2 r1 r2 q2
end
def uf(X:Cx)(id:String)(r:V->List V->Hp->VK->Prop):Prop :=
 ∀ (ag:List (af×Obj)) (s:ao) (σ:St) (H:Hp) (x:V) (xs:List V) (v:ai) (us:List ai) (Q:VK),Inv X ag σ H s->RelV x v->bd xs us->r x xs H Q ->
  aw (au X.prog X.w) X.A (call (.builtin id) (v::us)) (EP X ag σ Q) X.xe s
theorem bd.one:∀ {x:V} {us:List ai},bd [x] us->∃ u,us=[u]/\RelV x u
 | _,_,.cons r .nil=>⟨_,rfl,r⟩
theorem bd.two:∀ {x y:V} {us:List ai},bd [x,y] us->∃ u v,us=[u,v]/\RelV x u/\RelV y v
 | _,_,_,.cons r (.cons q .nil)=>⟨_,_,rfl,r,q⟩
theorem bd.zero:∀ {us:List ai},bd [] us->us=[]
 | _,.nil=>rfl
theorem bd.dropLast{xs:List V}{us:List ai}(h:bd xs us):bd xs.dropLast us.dropLast:=by
 induction h with
 | nil=>exact .nil
 | cons r t ih=>
  cases t with
  | nil=>exact .nil
  | cons q t'=>exact .cons r ih
theorem bd.eraseIdx:∀ {xs:List V} {us:List ai} (i:Nat),bd xs us->bd (xs.eraseIdx i) (us.eraseIdx i)
 | _,_,_,.nil=>.nil
 | _,_,0,.cons _ t=>t
 | _,_,i+1,.cons r t=>.cons r (bd.eraseIdx i t)
theorem bd.reverse{xs:List V}{us:List ai}(h:bd xs us):bd xs.reverse us.reverse:=by
 induction h with
 | nil=>exact .nil
 | cons r t ih=>rw[BB,BB]; exact bd.append ih (.cons r .nil)
theorem Kq{α:Type}(l:List α):l.eraseIdx (l.length-1)=l.dropLast:=by
 induction l with
 | nil=>rfl
 | cons a r ih=>
  cases r with
  | nil=>rfl
  | cons b r=>
   have e:(a::b::r).length-1=((b::r).length-1)+1:=by have h1:(a::b::r).length=r.length+2:=rfl;have h2:(b::r).length=r.length+1:=rfl;lia
   rw[e,List.eraseIdx_cons_succ,ih]
   all_goals rfl
section
variable{X:Cx}{ag:List (af×Obj)}{σ:St}{H:Hp}{s:ao}{l b:af}{xs ys zs:List V}
theorem Inv.lset{its its':List ai}{n:Nat}{f:Array ai->Array ai}{t':Nat}(I:Inv X ag σ H s)(hH:H l=aa (.lst xs))(e:s.heap.get? l=aa { cls:=.type "list",data:=.seq its.toArray n }) (hf:f its.toArray=its'.toArray) (hv:bd ys its') (hz:ys.length<=a9) : Inv X ag σ (upd H l (.lst ys)) { s with heap:=s.heap.update l (n_ f),toks:=t' }:=by have q:=PySem.IsL.update e f;rw[hf]at q;refine I.write (x:=l) (e:=l) (by rw[hH]; exact trivial) (.inl rfl) (λb' u hb hu=>(p5 s.heap (n_ f) (eh hb)).trans hu) ⟨_,q⟩ ?_;exact⟨hz,its',_,hv,q⟩
theorem Inv.lnew{its:List ai}{t':Nat}(I:Inv X ag σ H s)(hv:bd ys its)(hz:ys.length<=a9) : Inv X ag σ (upd H s.heap.objs.size (.lst ys)) { s with heap:=s.heap.push { cls:=.type "list",data:=.seq its.toArray },toks:=t' } :=I.laid (λ_ _ q=>bG _ q) (bp _) ⟨hz,its,0,hv,cW _ rfl⟩
theorem Inv.fresh(I:Inv X ag σ H s):H s.heap.objs.size=ae:=I.hok.fresh (bp _)
theorem Inv.lstM(I:Inv X ag σ H s)(hH:H l=aa (.lst xs)):xs.length<=a9/\∃ (its:List ai) (n:Nat),bd xs its/\xs.length=its.length/\s.heap.get? l=aa { cls:=.type "list",data:=.seq its.toArray n }:=by obtain⟨z,its,n,r,e⟩:=I.hok l _ hH;exact⟨z,its,n,r,r.length,e⟩
theorem OH{n:Nat}(h:n<=a9):Hq n=ak:=by unfold Hq;exact decide_eq_false ∅
end
section
variable{X:Cx}
def Nb:V->List V->Hp->VK->Prop:=λx vs H Q=>∃ l xs y,x = .ref l/\vs=[y]/\H l=aa (.lst xs)/\xs.length<a9/\Q .non (upd H l (.lst (xs++[y])))
theorem z6:uf X "list.append" Nb:=by
 intro ag s σ H x vs v us Q I rx rv h;obtain⟨l,xs,y,rfl,rfl,hH,hz,q⟩:=h;cases rx;obtain⟨u,rfl,ru⟩:=rv.one;obtain⟨z,its,n,r,hl,e⟩:=I.lstM hH;refine p6 F.slot_list_append ⟨_,e,rfl⟩ F.entry_list_append (F.args_list_append_2 _ _) (PySem.list_append l its.toArray n u (by rw[cC]; lia)) ⟨e,?_⟩;refine⟨.non,_,I.lset (its':=its++[u]) hH e (by simp) (r.append (.cons ru .nil)) ?_,rfl,q⟩;rw[dr,p7];lia
def NJ:V->List V->Hp->VK->Prop:=λx vs H Q=>∃ l xs y,x = .ref l/\vs=[]/\H l=aa (.lst xs)/\xs[xs.length-1]?=aa y/\Q y (upd H l (.lst xs.dropLast))
theorem LI:uf X "list.pop" NJ:=by
 intro ag s σ H x vs v us Q I rx rv h;obtain⟨l,xs,y,rfl,rfl,hH,hy,q⟩:=h;cases rx;have hus:=rv.zero;subst hus;obtain⟨z,its,n,r,hl,e⟩:=I.lstM hH;obtain⟨u,hu,ru⟩:=r.get hy;have hy':its.toArray[its.toArray.size-1]?=aa u:=by show its.toArray[its.length-1]?=aa u;rw[← xN,← hl];exact hu
 refine p6 F.slot_list_pop ⟨_,e,rfl⟩ F.entry_list_pop (F.args_list_pop_1 _) (MeetsSeq.list_pop_last l its.toArray n u hy' (by rw[cC]; lia)) ⟨e,?_⟩;refine⟨y,_,I.lset (its':=its.dropLast) hH e ?_ r.dropLast ?_,ru,q⟩
 ·show its.toArray.eraseIdxIfInBounds (its.toArray.size-1)=its.dropLast.toArray;rw[cC,QW,Kq]
 ·rw[xO];lia
theorem MG{α:Type}(xs:List α)(k:Nat):(aU k xs).flatten.length=k * xs.length:=by
 induction k with
 | zero=>simp
 | succ k ih=>rw[uo,BC,dr,ih,Nat.succ_mul,Nat.add_comm]
end
section
variable{κ:Type}[DecidableEq κ]
def i8(kvs:List (κ×V))(k:κ):Option V:=(kvs.find? λkv=>decide (kv.1=k)).map (·.2)
def h_(kvs:List (κ×V))(k:κ)(v:V):List (κ×V) :=if(kvs.any λkv=>decide (kv.1=k))=ah then kvs.map (λkv=>if kv.1=k then(kv.1,v)else kv)else kvs++[(k,v)]
def Cq(kvs:List (κ×V))(k:κ):List (κ×V):=kvs.filter λkv=>decide (kv.1≠k)
theorem wR{p:κ×V}{r:List (κ×V)}{k:κ}(e:p.1=k):i8 (p::r) k=aa p.2:=by simp[i8,j_,e]
theorem we{p:κ×V}{r:List (κ×V)}{k:κ}(e:¬ p.1=k):i8 (p::r) k=i8 r k:=by simp[i8,j_,e]
theorem Dr(k:κ):∀ kvs:List (κ×V),(kvs.any λkv=>decide (kv.1=k))=(i8 kvs k).isSome
 | []=>rfl
 | p::r=>by
  rw[p0];by_cases e:p.1=k
  ·simp only[wR e,decide_eq_true e,Bool.true_or,Option.isSome_some]
  ·rw[we e,decide_eq_false e,Bool.false_or]; exact Dr k r
theorem GP(kvs:List (κ×V))(k:κ)(v:V):(h_ kvs k v).length<=kvs.length+1:=by
 unfold h_;split
 ·rw[cX]; lia
 ·rw[dr,dq,kR]; lia
theorem lK.isSome_eq{o:Option V}{u:Option ai}(r:lK o u):o.isSome=u.isSome:=by
 cases o with
 | none=>cases u with
  | none=>rfl
  | some _=>exact(show False from r).elim
 | some _=>cases u with
  | none=>exact(show False from r).elim
  | some _=>rfl
theorem lK.getD{o:Option V}{u:Option ai}{d:V}{d':ai}(r:lK o u)(rd:RelV d d'):RelV (o.getD d) (u.getD d'):=by
 cases o with
 | none=>cases u with
  | none=>exact rd
  | some _=>exact(show False from r).elim
 | some _=>cases u with
  | none=>exact(show False from r).elim
  | some _=>exact r
theorem KV.val{kvs:List (κ×V)}{vs:List (κ×ai)}(r:KV kvs vs)(k:κ):lK (i8 kvs k) (rO vs k):=by
 unfold KV at r
 induction r with
 | nil=>exact True.intro
 | @cons p q ps qs h t ih=>
  obtain⟨h1,h2⟩:=h;by_cases e:p.1=k
  ·have e':q.1=k:=h1.symm.trans e;have b:rO (q::qs) k=aa q.2:=by simp[rO,j_,e']
   rw[wR e,b]; exact h2
  ·have e':¬ q.1=k:=λz=>e (h1.trans z);have b:rO (q::qs) k=rO qs k:=by simp[rO,j_,e']
   rw[we e,b]; exact ih
theorem KV.any{kvs:List (κ×V)}{vs:List (κ×ai)}(r:KV kvs vs)(k:κ):(kvs.any λkv=>decide (kv.1=k))=vs.any λkv=>decide (kv.1=k):=by
 unfold KV at r
 induction r with
 | nil=>rfl
 | cons h t ih=>rw[p0,p0,ih,h.1]
theorem KV.repl{kvs:List (κ×V)}{vs:List (κ×ai)}(r:KV kvs vs)(k:κ){y:V}{u:ai}(ry:RelV y u) : KV (kvs.map λkv=>if kv.1=k then(kv.1,y)else kv) (vs.map λkv=>if kv.1=k then(kv.1,u)else kv):=by
 unfold KV at r ⊢
 induction r with
 | nil=>exact .nil
 | @cons p q ps qs h t ih=>
  rw[fI,fI];refine .cons ?_ ih;obtain⟨h1,h2⟩:=h;by_cases e:p.1=k
  ·rw[if_pos e,if_pos (h1.symm.trans e)]; exact⟨h1,ry⟩
  ·rw[if_neg e,if_neg (λz=>e (h1.trans z))]; exact⟨h1,h2⟩
theorem KV.put{kvs:List (κ×V)}{vs:List (κ×ai)}(r:KV kvs vs)(k:κ){y:V}{u:ai}(ry:RelV y u):KV (h_ kvs k y) (stored vs k u):=by
 unfold h_ stored;rw[r.any k];by_cases e:(vs.any λkv=>decide (kv.1=k))=ah
 ·rw[if_pos e,if_pos e]; exact r.repl k ry
 ·rw[if_neg e,if_neg e]; exact BD r ⟨rfl,ry⟩
theorem KV.drop{kvs:List (κ×V)}{vs:List (κ×ai)}(r:KV kvs vs)(k:κ):KV (Cq kvs k) (without vs k):=by
 unfold KV at r ⊢;unfold Cq without
 induction r with
 | nil=>exact .nil
 | @cons p q ps qs h t ih=>
  obtain⟨h1,h2⟩:=h;rw[xP,xP];by_cases e:p.1=k
  ·have a:¬ decide (p.1≠k)=ah:=by simp[e]
   have b:¬ decide (q.1≠k)=ah:=by simp[h1.symm.trans e]
   rw[if_neg a,if_neg b]; exact ih
  ·have e':¬ q.1=k:=λz=>e (h1.trans z);have a:decide (p.1≠k)=ah:=by simp[e]
   have b:decide (q.1≠k)=ah:=by simp[e']
   rw[if_pos a,if_pos b]; exact .cons ⟨h1,h2⟩ ih
theorem KV.keys{kvs:List (κ×V)}{vs:List (κ×ai)}(r:KV kvs vs):kvs.map (·.1)=vs.map (·.1):=by
 unfold KV at r
 induction r with
 | nil=>rfl
 | cons h t ih=>rw[fI,fI,ih,h.1]
theorem KV.length{kvs:List (κ×V)}{vs:List (κ×ai)}(r:KV kvs vs):kvs.length=vs.length:=Paired.length r
end
theorem xz{P:aM}{w:aG}{k:aJ}{u:ai}(r:RelV (kV k) u):(iu P w).is k u=ah:=by
 cases k with
 | inl i=>obtain⟨t,e⟩:=(show ∃ t,u=Value.int i t from r); subst e; exact IK P w i t
 | inr x=>obtain⟨t,e⟩:=(show ∃ t,u=Value.str x t from r); subst e; exact KR P w x t
theorem Dh{P:aM}{w:aG}:∀ {ks:List aJ} {us:List ai},bd (ks.map kV) us->ItemsAre (iu P w) ks us
 | [],_,r=>by rw[BE]at r; cases r; exact .nil
 | k::ks,_,r=>by
  rw[fI]at r;cases r with
  | cons h t=>exact .cons (xz h) (Dh t)
abbrev KT(H:Hp):List (List aJ×V)->List (List aJ×af×ai)->Prop:=mx λp q=>p.1=q.1/\H q.2.1=aa (.tup (p.1.map kV))/\RelV p.2 q.2.2
theorem KT.val{H:Hp}{kvs:List (List aJ×V)}{xs:List (List aJ×af×ai)}(r:KT H kvs xs)(k:List aJ):lK (i8 kvs k) ((atKey xs k).map (·.2)):=by
 induction r with
 | nil=>exact True.intro
 | @cons p q ps qs h t ih=>
  obtain⟨h1,_,h2⟩:=h;by_cases e:p.1=k
  ·have e':q.1=k:=h1.symm.trans e;have b:atKey (q::qs) k=aa q.2:=by simp[atKey,j_,e']
   rw[wR e,b]; exact h2
  ·have e':¬ q.1=k:=λz=>e (h1.trans z);have b:atKey (q::qs) k=atKey qs k:=by simp[atKey,j_,e']
   rw[we e,b]; exact ih
theorem KT.repl{H:Hp}{kvs:List (List aJ×V)}{xs:List (List aJ×af×ai)}(r:KT H kvs xs)(k:List aJ){y:V}{u:ai}(ry:RelV y u) : KT H (kvs.map λkv=>if kv.1=k then(kv.1,y)else kv) (xs.map (putAt k u)):=by
 induction r with
 | nil=>exact .nil
 | @cons p q ps qs h t ih=>
  rw[fI,fI];refine .cons ?_ ih;obtain⟨h1,h2,h3⟩:=h;unfold putAt;by_cases e:p.1=k
  ·rw[if_pos e,if_pos (h1.symm.trans e)]; exact⟨h1,h2,ry⟩
  ·rw[if_neg e,if_neg (λz=>e (h1.trans z))]; exact⟨h1,h2,h3⟩
theorem KT.put{H:Hp}{kvs:List (List aJ×V)}{xs:List (List aJ×af×ai)}(r:KT H kvs xs)(k:List aJ){b:af}{y:V}{u:ai}(hb:H b=aa (.tup (k.map kV)))(ry:RelV y u) : KT H (h_ kvs k y) (storedH xs k b u):=by
 have e:(kvs.any λkv=>decide (kv.1=k))=(atKey xs k).isSome:=by rw[Dr,(r.val k).isSome_eq,Option.isSome_map]
 unfold h_ storedH;rw[e];by_cases q:(atKey xs k).isSome=ah
 ·rw[if_pos q,if_pos q]; exact r.repl k ry
 ·rw[if_neg q,if_neg q]; exact BD r ⟨rfl,hb,ry⟩
theorem KT.keeps{H H':Hp}{kvs:List (List aJ×V)}{xs:List (List aJ×af×ai)}(r:KT H kvs xs)(ht:∀ b ys,H b=aa (.tup ys)->H' b=aa (.tup ys)):KT H' kvs xs :=Paired.mapP r λ_ _ z=>⟨z.1,ht _ _ z.2.1,z.2.2⟩
section
variable{P:aM}{w:aG}{H:Hp}{h:aA}{a:af}
theorem FU{u:HO}(ok:cQ P w H h)(e:Rd H a u):dw P w H h a u:=e.ok ok
theorem ue{kvs:List (aJ×V)}(ok:cQ P w H h)(e:Rd H a (.dK kvs)):kvs.length<=a9/\(a == my)=ak/\∃ vs,KV kvs vs/\h.DictOf (iu P w) a vs :=show dw P w H h a (.dK kvs)from FU ok e
theorem Ah{kvs:List (aJ×V)}(ok:cQ P w H h)(e:H a=aa (.dK kvs)):kvs.length<=a9/\(a == my)=ak/\∃ vs,KV kvs vs/\h.DictOf (iu P w) a vs:=ue ok (.inl e)
theorem wT{ks:List aJ}(ok:cQ P w H h)(e:H a=aa (.tup (ks.map kV))):(ug (iu P w)).is h ks a:=by
 obtain⟨_,its,r,⟨o,h1,h2,n,h3⟩,_⟩:=(show dw P w H h a (.tup (ks.map kV))from ok a _ e)
 exact⟨o,its.toArray,n,h1,h2,h3,by simpa using Dh r⟩
theorem t5{kvs:List (List aJ×V)}(ok:cQ P w H h)(e:Rd H a (.dT kvs)):kvs.length<=a9/\(a == my)=ak /\ ∃ xs,KT H kvs xs/\h.DictOfH (ug (iu P w)) a xs:=by
 obtain⟨z,y,xs,r,o,es,ep,h1,h2,h3,h4,h5⟩:=(show dw P w H h a (.dT kvs)from FU ok e)
 refine⟨z,y,xs,r,o,es,ep,h1,h2,h3,h4,λx hx=>?_,h5⟩;have all:∀ {l:List (List aJ×V)} {m:List (List aJ×af×ai)},KT H l m->∀ x∈m,(ug (iu P w)).is h x.1 x.2.1:=by
  intro l m q
  induction q with
  | nil=>intro x hx; exact nomatch hx
  | @cons p q ps qs hq t ih=>
   intro x hx;rcases bV.mp hx with e | hx
   ·subst e;exact wT ok (by rw[← hq.1]; exact hq.2.1)
   ·exact ih x hx
 exact all r x hx
theorem Jf{kvs:List (List aJ×V)}(ok:cQ P w H h)(e:H a=aa (.dT kvs)):kvs.length<=a9/\(a == my)=ak /\ ∃ xs,KT H kvs xs/\h.DictOfH (ug (iu P w)) a xs:=t5 ok (.inl e)
end
def oZ(H:Hp)(a:af)(y:V)(r:Option V):Prop :=(∃ kvs k,Rd H a (.dK kvs)/\y=kV k/\r=i8 kvs k)\/∃ kvs k b,Rd H a (.dT kvs)/\y = .ref b/\H b=aa (.tup (k.map kV))/\r=i8 kvs k
def xC(H:Hp)(a:af)(y v:V)(H':Hp):Prop :=
 (∃ kvs k,H a=aa (.dK kvs)/\y=kV k/\kvs.length<a9/\H'=upd H a (.dK (h_ kvs k v))) \/
 ∃ kvs k b,H a=aa (.dT kvs)/\y = .ref b/\H b=aa (.tup (k.map kV))/\kvs.length<a9/\H'=upd H a (.dT (h_ kvs k v))
theorem oZ.k{H:Hp}{a:af}{kvs:List (aJ×V)}{k:aJ}(e:H a=aa (.dK kvs)):oZ H a (kV k) (i8 kvs k):=.inl ⟨kvs,k,.inl e,rfl,rfl⟩
theorem oZ.t{H:Hp}{a b:af}{kvs:List (List aJ×V)}{k:List aJ}(e:H a=aa (.dT kvs))(eb:H b=aa (.tup (k.map kV))):oZ H a (.ref b) (i8 kvs k):=.inr ⟨kvs,k,b,.inl e,rfl,eb,rfl⟩
theorem xC.k{H:Hp}{a:af}{kvs:List (aJ×V)}{k:aJ}{v:V}(e:H a=aa (.dK kvs))(hl:kvs.length<a9):xC H a (kV k) v (upd H a (.dK (h_ kvs k v))):=.inl ⟨kvs,k,e,rfl,hl,rfl⟩
theorem xC.t{H:Hp}{a b:af}{kvs:List (List aJ×V)}{k:List aJ}{v:V}(e:H a=aa (.dT kvs))(eb:H b=aa (.tup (k.map kV)))(hl:kvs.length<a9) : xC H a (.ref b) v (upd H a (.dT (h_ kvs k v))):=.inr ⟨kvs,k,b,e,rfl,eb,hl,rfl⟩
section
variable{X:Cx}{ag:List (af×Obj)}{σ:St}{H:Hp}{s:ao}{a:af}{y v:V}{u r:ai}{o:Option V}{A:aR}{E:ai->ao->Prop}
theorem Inv.big(I:Inv X ag σ H s):my<s.heap.objs.size:=by have h:bQ<s.heap.objs.size:=(I.mod.glob.keeps I.bk).lt;exact BF (by decide) h
theorem Mr{Q:ai->ao->Prop}(hu:A.units+1<cLine)(I:Inv X ag σ H s)(g:oZ H a y (aa v))(ry:RelV y u)(h:∀ w' s',Inv X ag σ H s'->RelV v w'->Q w' s') : aw (au X.prog X.w) A (pZ (.ref a) u) Q E s:=by
 rcases g with⟨kvs,k,e,ey,l⟩ | ⟨kvs,k,b,e,ey,eb,l⟩
 ·subst ey;obtain⟨z,hd,vs,rel,dd⟩:=ue I.hok e;obtain⟨w',hw,rw'⟩:=lK.some_of (v:=v) (o:=rO vs k) (by rw[l]; exact rel.val k);exact wpAny_getItem_of (xz ry) dd.mapOf hw (h w' _ (I.tok _) rw')
 ·subst ey;cases (show u=Value.ref b from ry);obtain⟨z,hd,xs,rel,dd⟩:=t5 I.hok e;obtain⟨w',hw,rw'⟩:=lK.some_of (v:=v) (o:=(atKey xs k).map (·.2)) (by rw[l]; exact rel.val k);obtain⟨p,hp,fN⟩:=Hr.mp hw;refine wpAny_getItem_heap (Hs hu) (wT I.hok eb) dd hp ?_;rw[fN];exact h w' _ (I.tok _) rw'
theorem CO{h':aA}{t':Nat}{ob:HO}(I:Inv X ag σ H s)(mu:sY (H a))(hs:mD a s.heap h')(he:∃ q,h'.get? a=aa q)(new:dw X.prog X.w (upd H a ob) h' a ob) : Inv X ag σ (upd H a ob) { s with heap:=h',toks:=t' } :=I.write (x:=a) (e:=a) mu (.inl rfl) (λb q hb z=>(hs.2 b hb).trans z) he new
theorem Ji{P:aM}{w:aG}{H':Hp}{h':aA}{kvs:List (aJ×V)}{vs:List (aJ×ai)}(z:kvs.length<=a9)(hd:(a == my)=ak)(rel:KV kvs vs)(dd:h'.DictOf (iu P w) a vs) : dw P w H' h' a (.dK kvs):=⟨z,hd,vs,rel,dd⟩
theorem K7{H':Hp}{Q:Unit->ao->Prop}(hu:A.units+1<cLine)(I:Inv X ag σ H s)(g:xC H a y v H')(ry:RelV y u)(rv:RelV v r)(h:∀ s',Inv X ag σ H' s'->Q () s') : aw (au X.prog X.w) A (setItem (.ref a) u r) Q E s:=by
 rcases g with⟨kvs,k,e,ey,l,eH⟩ | ⟨kvs,k,b,e,ey,eb,l,eH⟩
 ·subst ey eH;obtain⟨z,hd,vs,rel,dd⟩:=Ah I.hok e;have hz:vs.length<=a9:=by rw[← rel.length]; exact z
  have hl:(h_ kvs k v).length<=a9:=by have:=GP kvs k v; lia
  refine wpAny_setItem_pairs (hsz:=hz) (xz ry) dd λh' dd' hs=>h _ ?_;have he:∃ q,h'.get? a=aa q:=let ⟨q,_,_,hq,_⟩:=dd'; ⟨q,hq⟩
  exact CO I (by rw[e]; exact True.intro) hs he (Ji hl hd (rel.put k rv) dd')
 ·subst ey eH;cases (show u=Value.ref b from ry);obtain⟨z,hd,xs,rel,dd⟩:=Jf I.hok e;have hz:xs.length<=a9:=by rw[← Paired.length rel]; exact z
  have hl:(h_ kvs k v).length<=a9:=by have:=GP kvs k v; lia
  refine wpAny_setItem_heap (hsz:=hz) (Hs hu) (wT I.hok eb) dd λh' dd' hs=>h _ ?_;obtain⟨q,es,ep,hq,h2,h3,h4,_,h5⟩:=dd';refine CO I (by rw[e]; exact True.intro) hs ⟨q,hq⟩ ⟨hl,hd,_,(rel.put k eb rv).keeps λc ys ec=>?_,q,es,ep,hq,h2,h3,h4,h5⟩;rw[bw (IY ec e (λz=>nomatch z))];exact ec
end
def zT(i:aB):Prop:=∀ ov iv,BA i ak ov iv=operate [ov,iv] (pZ ov iv)
theorem Qb{prog:aM}{w:aG}{A:aR}{E:ai->ao->Prop}{s:ao}{env:Env}{value slice:aB}{pos:Pos}{T id:String}{Q:ai->ao->Prop}(hl:typeLookup (.type T) "__getitem__" = pure (aa (.builtin id))) (hs:zT slice)(h:aw (au prog w) A (aD value env) (λo s₁=>aw (au prog w) A (aD slice env) (λi s₂=>s₂.TypeIs o T/\aw (au prog w) A (pZ o i) Q E s₂) E s₁) E s) : aw (au prog w) A (aD (.Subscript value slice pos) env) Q E s:=by
 refine Subscript_ (dZ h (λo s₁ h₁=>dZ h₁ (λi s₂ h₂=>?_) λ_ _ x=>x) λ_ _ x=>x);obtain⟨hT,h₂⟩:=h₂;unfold Bz;refine ar ?_;rw[getitemInPython_of_ne hT.not_modules];refine ar (wpAny_specialOf hT hl ?_);have fin:aw (au prog w) A (BA slice ak o i) (λr s₃=>aw (au prog w) A (letTemporaryGo value o r >>= λ_=>pure r) Q E s₃) E s₂:=by rw[hs o i];exact wpAny_operating (dZ h₂ (λr s₃ h₃=>ar (wpAny_letTemporaryGo (aQ h₃))) λ_ _ x=>x)
 first
  | exact aQ (ar fin)
  | exact ar (aQ (ar fin))
  | exact ar fin
theorem Mf{X:Cx}{ag:List (af×Obj)}{σ:St}{H:Hp}{s:ao}{a:af}{y:V}{o:Option V}(I:Inv X ag σ H s)(g:oZ H a y o):s.TypeIs (.ref a) "dict":=by
 rcases g with⟨kvs,k,e,_,_⟩ | ⟨kvs,k,b,e,_,_,_⟩
 ·obtain⟨_,_,vs,_,dd⟩:=ue I.hok e;exact dd.typeIs
 ·obtain⟨_,_,xs,_,dd⟩:=t5 I.hok e;exact dd.typeIs
def KC(td ty:TE):TE:=λσ H Q=>td σ H λx H1=>ty σ H1 λy H2=>∃ a v,x = .ref a/\oZ H2 a y (aa v)/\Q v H2
def Kv(td ty tv:TE):TS:=λD σ H=>tv σ H λv H1=>td σ H1 λx H2=>ty σ H2 λy H3=>∃ a H4,x = .ref a/\xC H3 a y v H4/\D.nx σ H4
section
variable{X:Cx}{o i e value:aB}{pos pos' tpos:Pos}{td ty tv:TE}
theorem Ix(hu:X.A.units+1<cLine)(ho:PE X o td)(hi:PE X i ty)(hs:zT i):PE X (.Subscript o i pos) (KC td ty):=by intro ag s σ H Q I h;refine Qb PySem.F.slot_dict_getitem.lookup hs (aX (ho ag s σ H _ I h) λu s1 ⟨x,H1,I1,rx,q1⟩=>aX (hi ag s1 σ H1 _ I1 q1) λiv s2 ⟨y,H2,I2,ry,a,v,ex,g,q2⟩=>?_);subst ex;obtain rfl:u=Value.ref a:=rx;exact⟨Mf I2 g,Mr hu I2 g ry λw' s3 I3 rw'=>⟨v,H2,I3,rw',q2⟩⟩
theorem JU(hu:X.A.units+1<cLine)(ho:PE X o td)(hi:PE X i ty)(hv:PE X value tv)(hs:j4 value (aa (.Subscript o i pos')) pos.line X.env=pure ak) : PS X (.Assign [.Subscript o i pos'] value pos) (Kv td ty tv):=by intro ag s σ H D I h;refine wpAny_Assign_Subscript (aX (hv ag s σ H _ I h) λr s1 ⟨v,H1,I1,rv,q1⟩=>aX (ho ag s1 σ H1 _ I1 q1) λu s2 ⟨x,H2,I2,rx,q2⟩=>aX (hi ag s2 σ H2 _ I2 q2) λiv s3 ⟨y,H3,I3,ry,a,H4,ex,g,q3⟩=>?_) hs;subst ex;obtain rfl:u=Value.ref a:=rx;exact K7 hu I3 g ry rv λs4 I4=>⟨σ,H4,I4,q3⟩
end
theorem Ld{P:aM}{w:aG}{H:Hp}(h:aA)(hb:my<h.objs.size):dw P w H (h.push { cls:=.type "dict",data:=.dict #[] }) h.objs.size (.dK []) :=⟨mG _,beq_eq_false_iff_ne.mpr (eh (dH hb)),[],.nil,Heap.DictOf.new h⟩
def NX:TE:=λ_ H Q=>∀ p,H p=ae->Q (.ref p) (upd H p (.dK []))
section
variable{X:Cx}{pos:Pos}
theorem KU:PE X (.Dict [] [] pos) NX:=λag s σ H Q I h=>wpAny_Dict_empty ⟨.ref s.heap.objs.size,_,I.laid (a:=s.heap.objs.size) (o:=.dK []) (t':=s.toks) (λ_ _ q=>bG _ q) (bp _) (Ld s.heap I.big),rfl,h _ (I.hok.fresh (bp _))⟩
end
def QF(kvs more:List (aJ×V)):List (aJ×V):=more.foldl (λbg kv=>h_ bg kv.1 kv.2) kvs
theorem KV.merge:∀ {more:List (aJ×V)} {rs:List (aJ×ai)} {kvs:List (aJ×V)} {vs:List (aJ×ai)},KV more rs->KV kvs vs->KV (QF kvs more) (merged vs rs):=by
 intro more rs kvs vs r;unfold KV at r
 induction r generalizing kvs vs with
 | nil=>intro q; exact q
 | @cons p q ps qs h t ih=>
  intro r0;have e:KV (h_ kvs p.1 p.2) (stored vs q.1 q.2):=by have:=r0.put p.1 h.2;rw[← h.1]; exact this
  exact ih e
structure M2(X:Cx)(o:aB)(m:Str)(apos:Pos)(e f:aB)(cpos:Pos):Prop where
 base:f9 o m X.env (aD o X.env)=aD o X.env
 few:((bK cpos (aC [e,f] X.env)).all (λx=>!x.1) && (j6 cpos (j7 [] X.env)).all (λx=>x.1.isSome) && decide (([e,f]:List aB).length+([]:List iN).length+(if([]:List iN).isEmpty then 0 else 1)<30))=ah
 line:(apos.endLine == cpos.line)=ah
 trees:bK cpos (aC [e,f] X.env)=[(ak,aD e X.env),(ak,aD f X.env)]
def Df(H:Hp)(a:af):Prop:=(∃ kvs,Rd H a (.dK kvs))\/∃ kvs,Rd H a (.dT kvs)
theorem Np{X:Cx}{ag:List (af×Obj)}{σ:St}{H:Hp}{s:ao}{a:af}(I:Inv X ag σ H s)(d:Df H a) : s.TypeIs (.ref a) "dict"/\(∀ b,Value.ref a = .ref b->∃ ob,s.heap.get? b=aa ob/\ob.dict=ae)/\(a == my)=ak:=by
 rcases d with⟨kvs,e⟩ | ⟨kvs,e⟩
 ·obtain⟨_,hd,vs,_,dd⟩:=ue I.hok e;refine⟨dd.typeIs,λb q=>?_,hd⟩;cases q;obtain⟨ob,_,_,h1,h2,_⟩:=dd;exact⟨ob,h1,h2.2.1⟩
 ·obtain⟨_,hd,xs,_,dd⟩:=t5 I.hok e;refine⟨dd.typeIs,λb q=>?_,hd⟩;cases q;obtain⟨ob,_,_,h1,h2,_⟩:=dd;exact⟨ob,h1,h2.2.1⟩
section
variable{X:Cx}{ag:List (af×Obj)}{σ:St}{H:Hp}{s:ao}{a:af}{y d:V}{u r:ai}{o:Option V}{A:aR}{E:ai->ao->Prop}
theorem Km{Q:ai->ao->Prop}(hu:A.units+1<cLine)(I:Inv X ag σ H s)(g:oZ H a y o)(ry:RelV y u)(rd:RelV d r)(h:∀ w' s',Inv X ag σ H s'->RelV (o.getD d) w'->Q w' s') : aw (au X.prog X.w) A (call (.builtin "dict.get") [.ref a,u,r]) Q E s:=by
 rcases g with⟨kvs,k,e,ey,l⟩ | ⟨kvs,k,b,e,ey,eb,l⟩
 ·subst ey;obtain⟨z,hd,vs,rel,dd⟩:=ue I.hok e;refine call_meetsIn Ht dd.typeIs PySem.F.entry_dict_get (PySem.F.args_dict_get_3 _ _ _) (meets_dict_get_default (iu X.prog X.w) a (xz ry) hd r) ⟨_,dd.mapOf,h _ _ (I.tok _) ?_⟩;rw[l];exact(rel.val k).getD rd
 ·subst ey;cases (show u=Value.ref b from ry);obtain⟨z,hd,xs,rel,dd⟩:=t5 I.hok e;refine call_meetsIn Ht dd.typeIs PySem.F.entry_dict_get (PySem.F.args_dict_get_3 _ _ _) (meetsH_dict_get_default (ug (iu X.prog X.w)) a b hd r) ⟨Hs hu,k,xs,wT I.hok eb,dd,h _ _ (I.tok _) ?_⟩;rw[l];exact(rel.val k).getD rd
end
def Oy(td ty tx:TE):TE:=λσ H Q=>td σ H λx H1=>∃ a,x = .ref a/\Df H1 a/\ty σ H1 λy H2=>tx σ H2 λz H3=>∃ o,oZ H3 a y o/\Q (o.getD z) H3
section
variable{X:Cx}{o e f:aB}{apos cpos:Pos}{td ty tx:TE}
theorem K3(hu:X.A.units+1<cLine)(ho:PE X o td)(he:PE X e ty)(hf:PE X f tx)(m:M2 X o "get" apos e f cpos):PE X (.Call (.Attribute o "get" apos) [e,f] [] cpos) (Oy td ty tx):=by intro ag s σ H Q I h;refine wpAny_Call_method m.base m.few m.line PySem.F.plainAttrs_dict Ht PySem.F.type_dict_get (aX (ho ag s σ H _ I h) λu s1 ⟨x,H1,I1,rx,a,ex,d,q1⟩=>?_);subst ex;obtain rfl:u=Value.ref a:=rx;obtain⟨t1,t2,_⟩:=Np I1 d;refine⟨t1,t2,?_⟩;rw[m.trees];refine Hn rfl (Ho (Bt (aX (he ag s1 σ H1 _ I1 q1) λiv s2 ⟨y,H2,I2,ry,q2⟩=>Bt (aX (hf ag s2 σ H2 _ I2 q2) λfv s3 ⟨z,H3,I3,rz,ov,g,q3⟩=>Hi ?_))));exact Km hu I3 g ry rz λw' s4 I4 rw'=>⟨_,H3,I4,rw',q3⟩
end
end L2
namespace Att
open PySem PySem.W PySem.Calls PyProof.Rows
theorem Pe{P:Params}{h:aA}:∀ (ns:List Int) (vs:List ai),WellAll P h vs (ns.map WData.int)->IntsAre vs ns:=by
 intro ns
 induction ns with
 | nil=>
  intro vs w;rw[BE]at w;cases w;exact .nil
 | cons n ns ih=>
  intro vs w;rw[fI]at w;cases w with
  | cons a b=>
   cases a;exact .cons _ _ (ih _ b)
theorem Qp{l:OpenLaw}{n:Nat}(hn:l.most=aa n){P:Params}{h:aA}{args:List WData}{vals:List ai}(yq:l.row.toRowW.claim.pre args=ah) (hwl:WellAll P h vals args) : ∃ a vs ns,vals=[Value.ref a]/\args=[WData.list (ns.map WData.int)]/\h.get? a=aa { cls:=.type "list",data:=.seq vs.toArray }/\IntsAre vs ns/\ns.length<=n:=by
 have hsh:WShape.hasAll [] args [.list .int]=ah:=(pre_splitW yq).1;have hc:l.pre.holds [] { args:=args }=ah:=(pre_splitW yq).2;obtain⟨d,r,rfl,h1,h2⟩:=hasAllW_cons hsh;obtain rfl:=hasAllW_nil h2;obtain⟨xs,rfl,h3⟩:=hasW_list h1;obtain⟨ns,rfl⟩:=items_int h3;have a8:ns.length<=n:=by
  unfold OpenLaw.pre at hc;have h4:(WTm.not (.lt (.lit (.int (n:Int))) (.len (.arg 0)))).holds [] { args:=[.list (ns.map .int)] }=ah:=by have h4:=(holds_andW hc).1;rw[hn]at h4;exact h4
  have h5:=condW_of h4 (w_not (w_lt w_lit (w_len_list (w_arg rfl))));rw[cX]at h5;refine Nat.le_of_not_lt λq=>?_;have q':(n:Int)<((ns.length:Nat):Int):=∅
  first
   | (rw[decide_eq_true q']at h5; exact absurd h5 (by decide))
   | (simp at h5; lia)
 cases hwl with
 | cons w1 w2=>
  cases w2;cases w1 with
  | list ho yr=>exact⟨_,_,ns,rfl,rfl,ho,Pe ns _ yr,a8⟩
theorem Nf(l:OpenLaw)(args:List WData):l.row.toRowW.claim.post args (.bool ah) args=ah :=
 postW_of (r:=l.row.toRowW) (X:=(ah == ah))
  (show WShape.has [] (.bool ah) .bool=ah by first | rfl | decide | simp[WShape.has,WShape.arms,WShape.armsAll])
  (show(WTm.eq .res (.lit (.bool ah))).value [] { args:=args,res:=aa (.bool ah),after:=args }=aa (.bool (ah == ah))from w_eq_bool (w_res rfl) w_lit) rfl
theorem attach_call{l:OpenLaw}{n:Nat}{q:aM}{loose:List Str}{XP:(Str->Option ai)->aA->Prop}{YP:aG->aA->Prop}{d:DefRec}(hn:l.most=aa n) (qf:d.params.defaults=[])(call:∀ (w:aG) (s₀ s₁:ao) (mg mb:Str->Option ai) (fa:af) (o:Obj) (pm cd doc:ai) (a:af) (vs:List ai) (ns:List Int),Ground q loose [] XP w s₀ mg mb s₁.heap->YP w s₁.heap -> s₁.heap.get? fa=aa o->o.data = .func (docDef d.name d.params d.body d.scope pm cd doc)->s₁.heap.CodeRec cd d.name->mg d.name=aa (.ref fa) -> s₁.heap.get? a=aa { cls:=.type "list",data:=.seq vs.toArray }->IntsAre vs ns->ns.length<=n->s₁.gens = #[] -> j5 (au l.prog w) rP (.call (.ref fa) ⟨[.ref a],[]⟩) (λr s'=>r = .ok (.ret (.bool ah))/\OldK s₁.heap s'.heap/\s'.os=s₁.os/\mz s'.gens) s₁) : WalkO q loose XP YP l.row.toRowW d [] (λf vs=>PySem.call f vs):=by intro w s₀ s₁ mg mb G Y fa o pm cd doc dV kV ho hd a7 hD uT hg args vals as yq hlay hrd hwl hlo;obtain rfl:dV = .none:=Dflts.none hD qf;obtain rfl:kV = .none:=Dflts.noKw hD;obtain⟨a,vs,ns,rfl,rfl,Cd,Ca,a8⟩:=Qp hn yq hwl;refine enter_call (mH (call w s₀ s₁ mg mb fa o pm cd doc a vs ns G Y ho (fd_plain hd) a7 uT Cd Ca a8 hg) λr s' hq=>?_);obtain⟨rfl,h2,h3,h4⟩:=hq;exact⟨.inl ⟨.bool ah,.bool ah,[],rfl,λ_=>rfl,.bool ah,Nf l _,λ_=>⟨List.Pairwise.nil,λ_ hm=>(nomatch hm)⟩⟩,h2,h3,h4⟩
end Att
namespace L2
theorem CB:∀ {vs:List ai} {ns:List Int},IntsAre vs ns->bd (ns.map V.int) vs
 | _,_,.nil=>.nil
 | _,_,.cons n t h=>.cons ⟨t,rfl⟩ (CB h)
def AG(H:Hp):Prop:=∀ b,H b=ae\/(∃ o xs,H b=aa (.frz o (.lst xs)))\/∃ q,H b=aa (.tbl q)
def jl(K:aq):Hp:=λb=>match nW K "road" with
 | some (_,P)=>if b=P then aa (.tbl "road.<locals>.<lambda>")else ae
 | none=>ae
theorem pt{K:aq}{b:af}{u:HO}(h:jl K b=aa u):u = .tbl "road.<locals>.<lambda>"/\∃ c,nW K "road" = aa (c,b):=by
 unfold jl at h;split at h
 ·rename_i c P e;split at h
  ·rename_i hb;subst hb;cases h;exact⟨rfl,c,e⟩
  ·cases h
 ·cases h
theorem Di{K:aq}{c P:af}(h:nW K "road" = aa (c,P)):jl K P=aa (.tbl "road.<locals>.<lambda>"):=by unfold jl;rw[h];exact if_pos rfl
def CS(K:aq)(h:aA):Prop:=∀ c P,nW K "road" = aa (c,P)->PySem.W.codeHdIn K c P=ah/\K.lookup P=ae/\h.get? P=aa { cls:=.none,data:=.fields #[] }
theorem M6{P:aM}{w:aG}{K:aq}{mg mb:Str->Option ai}{CX:dJ}{k:Nat}{fa a:af}{fd:e_}{x:Str}{sp:Sp}{s₁:ao}{vs:List ai}{ns:List Int}(KX:K.In s₁.heap) (sm:s₁.heap.Ns bQ mg) (hb:s₁.heap.Ns pU mb) (hbb:∀ x:Str,x≠"__name__"->mb x=ef x) (hlim:s₁.heap.NoLimit) (uU:∃ bm ob,mg "__builtins__" = aa (.ref bm)/\bm≠pU/\s₁.heap.get? bm=aa ob/\ob.cls = .type "module"/\ob.dict=aa pU/\ob.data = .plain) (ou:CS K s₁.heap) (hg:s₁.gens = #[])(ha:s₁.heap.get? a=aa { cls:=.type "list",data:=.seq vs.toArray }) (hi:IntsAre vs ns) (hl:ns.length<=a9) (hr:bZ k rP)(F:∀ base:aA,K.In base->base.Ns bQ mg->ez P w K mg base CX k fa fd [x] sp) (Q5:∀ (s:ao) (u:ai),BindsTo s fd ⟨[u],[]⟩ [(x,u)])(gY:∀ H:Hp,AG H->bR K H a (ns.map V.int)->sp [.ref a] H (λv _=>v = .bl ah) λ_ _ _=>False)(hCX:∀ H e s',CX [] H s₁ (λ_ _ _=>False) e s'->False) : j5 (au P w) rP (.call (.ref fa) ⟨[.ref a],[]⟩) (λr s'=>r = .ok (.ret (.bool ah))/\OldK s₁.heap s'.heap/\s'.os=s₁.os/\mz s'.gens) s₁:=by
 have rv:=CB hi;have lenV:=hi.length;have core:∀ H:Hp,AG H->bR K H a (ns.map V.int)->cQ P w H s₁.heap->(∀ b,H b≠ae->b=a\/∃ c,nW K "road" = aa (c,b))->(H a≠ae->K.lookup a=ae)->vp K H ->
   j5 (au P w) rP (.call (.ref fa) ⟨[.ref a],[]⟩) (λr s'=>r = .ok (.ret (.bool ah))/\OldK s₁.heap s'.heap/\s'.os=s₁.os/\mz s'.gens) s₁:=by
  intro H hO hS hok hA hK hTH;have base_of:∀ {b:af} {o:Obj},s₁.heap.get? b=aa o->H b=ae->(mh s₁.heap H).get? b=aa o:=λe n=>Mh e n;have noA:∀ {b:af} {o:Obj} {es:Array DictEntry} {ep:Nat},s₁.heap.get? b=aa o->o.data = .dict es ep->H b=ae:=λ{b o es ep} e d=>by
   cases q:H b with
   | none=>rfl
   | some u=>
    rcases hA b (by rw[q]; simp)with e' | ⟨c,e'⟩
    ·subst e';rw[ha]at e; cases e;have d':Data.seq vs.toArray _=Data.dict es ep:=d;cases d'
    ·rw[(ou c b e').2.2]at e; cases e;cases d
  have nsK:∀ {b:af} {m:Str->Option ai},s₁.heap.Ns b m->(mh s₁.heap H).Ns b m:=λ{b m} ⟨o,es,ep,e,d,r⟩=>⟨o,es,ep,base_of e (noA e d),d,r⟩
  have hKb:K.In (mh s₁.heap H):=λb o e=>base_of (KX b o e) (by
   cases q:H b with
   | none=>rfl
   | some u=>
    rcases hA b (by rw[q]; simp)with e' | ⟨c,e'⟩
    ·subst e';rw[hK (by rw[q]; simp)]at e; cases e
    ·rw[(ou c b e').2.1]at e; cases e)
  have hM:Mod K mg (mh s₁.heap H):=⟨hKb,nsK sm,⟨mb,nsK hb,hbb⟩,(let ⟨mc,h1,h2⟩:=hlim; ⟨mc,nsK h1,h2⟩),by
   obtain⟨bm,ob,b1,b2,b3,b4,b5,b6⟩:=uU;refine⟨bm,ob,b1,b2,base_of b3 ?_,b4,b5,b6⟩;cases q:H bm with
   | none=>rfl
   | some u=>
    rcases hA bm (by rw[q]; simp)with e' | ⟨c,e'⟩
    ·subst e'; rw[ha]at b3; cases b3; simp at b4
    ·rw[(ou c bm e').2.2]at b3; cases b3; simp at b4⟩
  have e0:lA P w K mg (mh s₁.heap H) rP [] s₁ H:=⟨rfl,hM,λb o e=>QQ e,lN (Ir _ _),trivial,λb hb=>absurd (show b∈([]:List af)from hb) (by simp),hok,.of_eq hg,hTH⟩
  refine mH ((F _ hKb (nsK sm)).run rP [] s₁ H ⟨[.ref a],[]⟩ [.ref a] [.ref a] _ _ hr e0 (Q5 s₁ (.ref a)) (.cons rfl .nil) (gY H hO hS)) λr s' h=>?_;cases r with
  | error e=>exact(hCX H e s' h).elim
  | ok fl=>
   cases fl with
   | next=>exact dU h
   | brk=>exact dU h
   | cont=>exact dU h
   | ret u=>
    obtain⟨v,H',os,bare,un,Ic,r',q⟩:=h;have q':v = .bl ah:=q;subst q';obtain rfl:u=Value.bool ah:=r';refine⟨rfl,⟨λb o e=>?_,λb o e=>un.there b o e (by simp)⟩,os,bare⟩;cases q:H b with
    | none=>exact .inl (un.keep b o e q (by intro z; exact absurd (show b∈([]:List af)from z) (by simp)) (by simp))
    | some u=>
     rcases hO b with z | ⟨ob,xs,z⟩ | ⟨qn,z⟩
     ·rw[q]at z; cases z
     ·have z2:=un.frzs b ob _ z;obtain⟨e1,_⟩:=hok b _ z;obtain⟨e2,_⟩:=Ic b _ z2;rw[e]at e1; cases e1;exact .inl e2
     ·rcases hA b (by rw[q]; simp)with e' | ⟨c,e'⟩
      ·subst e';obtain⟨ps,e1,_⟩:=hok b _ z;rw[ha]at e1; cases e1
      ·obtain⟨k1,k2,k3⟩:=ou c b e';rw[k3]at e; cases e;obtain⟨oc,vs',_,_,_,_,_,_,_,f1,f2,f3,f4,_⟩:=PySem.W.codeHd_of_K KX k1;obtain⟨ps,e1,_⟩:=Ic b _ (un.tbls b _ z);exact .inr (.inl ⟨⟨c,oc,vs',f1,f2,f3,f4⟩,rfl,#[],ps,rfl,by rw[e1]; simp⟩)
 cases hk:K.lookup a with
 | some o=>
  have e:=KX a o hk;rw[ha]at e;cases e;have tH:∀ b u,jl K b=aa u->dw P w (jl K) s₁.heap b u:=λb u z=>by
   obtain⟨rfl,c,e⟩:=pt z;exact⟨#[],(ou c b e).2.2,trivial,λpos cv h=>by cases h⟩
  refine core (jl K) (λb=>?_) (.inr ⟨_,vs.toArray,_,hk,rfl,rfl,rfl,by rw[cC,lenV]; exact hl,by simpa using rv⟩) tH (λb z=>?_) (λz=>?_) λx hx c P e=>?_
  ·cases q:jl K b with
   | none=>exact .inl rfl
   | some u=>exact .inr (.inr ⟨_,congrArg aa (pt q).1⟩)
  ·cases q:jl K b with
   | none=>exact absurd q z
   | some u=>exact .inr (pt q).2
  ·cases q:jl K a with
   | none=>exact absurd q z
   | some u=>
    obtain⟨_,c,e'⟩:=pt q;rw[(ou c a e').2.2]at ha; cases ha
  ·obtain rfl:x = "road":=by simpa[xq]using hx
   exact Di e
 | none=>
  have ta:∀ c P,nW K "road" = aa (c,P)->P≠a:=λc P e z=>by subst z; rw[(ou c P e).2.2]at ha; cases ha
  refine core (λb=>if b=a then aa (.frz { cls:=.type "list",data:=.seq vs.toArray } (.lst (ns.map V.int)))else jl K b) (λb=>?_) (.inl (.inr ⟨{ cls:=.type "list",data:=.seq vs.toArray },if_pos rfl⟩)) (λb u z=>?_) (λb z=>?_) (λ_=>hk) λx hx c P e=>?_
  ·by_cases hb:b=a
   ·exact .inr (.inl ⟨_,_,if_pos hb⟩)
   ·cases q:jl K b with
    | none=>exact .inl ((if_neg hb).trans q)
    | some u=>exact .inr (.inr ⟨_,(if_neg hb).trans (q.trans (congrArg aa (pt q).1))⟩)
  ·by_cases hb:b=a
   ·have z':=(if_pos hb).symm.trans z;cases z';subst hb;exact⟨ha,by rw[cX]; exact hl,vs,_,rv,ha⟩
   ·obtain⟨rfl,c,e⟩:=pt ((if_neg hb).symm.trans z);exact⟨#[],(ou c b e).2.2,trivial,λpos cv h=>by cases h⟩
  ·by_cases hb:b=a
   ·exact .inl hb
   ·cases q:jl K b with
    | none=>exact absurd ((if_neg hb).trans q) z
    | some u=>exact .inr (pt q).2
  ·obtain rfl:x = "road":=by simpa[xq]using hx
   exact(if_neg (ta c P e)).trans (Di e)
theorem RL{l:BG}{n k:Nat}{q:aM}{loose:List Str}{XP:(Str->Option ai)->aA->Prop}{YP:aG->aA->Prop}{d:DefRec}{K:Params->aq}{CX:aG->dJ}{sp:aG->Sp}{x:Str}(hn:l.most=aa n) (hn2:n<=a9) (qf:d.params.defaults=[]) (hr:bZ k rP)(hY:∀ (w:aG) (h:aA),YP w h->(K w.params).In h/\CS (K w.params) h)(F:∀ (w:aG) (mg:Str->Option ai) (fa:af) (h:aA),(K w.params).In h->h.Ns bQ mg->mg d.name=aa (.ref fa) -> ∃ fd:e_,(∀ (s:ao) (u:ai),BindsTo s fd ⟨[u],[]⟩ [(x,u)]) /\ ∀ base:aA,(K w.params).In base->base.Ns bQ mg->ez l.prog w (K w.params) mg base (CX w) k fa fd [x] (sp w))(gY:∀ (w:aG) (H:Hp) (a:af) (ns:List Int),ns.length<=n->AG H->bR (K w.params) H a (ns.map V.int)->sp w [.ref a] H (λv _=>v = .bl ah) λ_ _ _=>False)(hCX:∀ (w:aG) (H:Hp) (s:ao) (e:ai) (s':ao),CX w [] H s (λ_ _ _=>False) e s'->False) : PySem.W.WalkO q loose XP YP l.row.toRowW d [] (λf vs=>PySem.call f vs):=by refine Att.attach_call hn qf λw s₀ s₁ mg mb fa o pm cd doc a vs ns G Y ho hd a7 uT Cd Ca a8 hg=>?_;have KX:=(hY w _ Y).1;obtain⟨fd,hb,hF⟩:=F w mg fa _ KX G.T.g uT;exact M6 KX G.T.g G.T.b G.T.builtins G.T.nolimit G.T.bmain (hY w _ Y).2 hg Cd Ca (cr a8 hn2) hr hF hb (λH hO hS=>gY w H a ns a8 hO hS) λH e s'=>hCX w H s₁ e s'
def gn(s:aY):Arguments:=match s with
 | .FunctionDef _ a _ _ _ _ _ _ _ _=>a
 | _=>{ posonlyargs:=[],args:=[],vararg:=ae,kwonlyargs:=[],kw_defaults:=[],kwarg:=ae,defaults:=[] }
def dm(s:aY):List aY:=match s with
 | .FunctionDef _ _ b _ _ _ _ _ _ _=>b
 | _=>[]
def aP(s:aY):eK:=match s with
 | .FunctionDef _ _ _ _ _ _ sc _ _ _=>sc
 | _=>{ kind:=.function,names:=[],isGenerator:=ak,isCoroutine:=ak }
abbrev qI:dJ:=λ_ _ _ _ _ _=>False
abbrev E0:XK:=λ_ _ _=>False
structure ko(K:aq)(x qual:Str)(st:aY)(f:af)(fd:e_):Prop where
 ex:∃ (oc:ai) (od:Option af) (kV doc pm:ai) (an:Option af) (aE ct:ai) (osl:Array (Option ai)),
  fd=fq x qual (gn st) (dm st) (aP st) .none kV doc pm an aE ct/\K.lookup f=aa ⟨oc,od,.func fd,osl⟩/\pX K aE qual=ah
 kp:jC K (.ref f)=ah
section
variable{P:aM}{w:aG}{K:aq}{mg:Str->Option ai}{base:aA}
theorem ko.ok{x qual:Str}{st:aY}{f:af}{fd:e_}{N ps:List Str}{k:Nat}{sp:Sp}(F:ko K x qual st f fd)(S:bN N ps (aP st))(len:∀ vs H Q E,sp vs H Q E->vs.length=ps.length)(d4:∀ (aE:ai) (A:aR) (outer:List Env) (s:ao) (H:Hp) (vs:List V) (Q:VK) (E:XK),bZ k (A.deeper (f_ qual (aP st) s.heap.objs.size f aE))->sp vs H Q E -> ∃ t,jw (fY qI P w K mg base N qual (aP st) f aE A outer s H E).nox (dm st) t/\t { nx:=λ_ H'=>Q .non H',rt:=Q } (start N vs) H):ez P w K mg base qI (k+1) f fd ps sp:=by obtain⟨oc,od,kV,doc,pm,an,aE,ct,osl,rfl,lk,a7⟩:=F.ex;refine Cn lk a7 S len λA outer s H vs Q E hr gY=>?_;obtain⟨t,h,q⟩:=d4 aE A outer s H vs Q E hr gY;exact⟨t,h.nox,q⟩
theorem ko.binds{x qual:Str}{st:aY}{f:af}{fd:e_}{ps:List Str}(F:ko K x qual st f fd)(h:∀ (kV doc pm:ai) (an:Option af) (aE ct:ai) (us:List ai),us.length=ps.length->eO (fq x qual (gn st) (dm st) (aP st) .none kV doc pm an aE ct) ⟨us,[]⟩=pure (ps.zip us)):Binds K fd ps []:=by obtain⟨oc,od,kV,doc,pm,an,aE,ct,osl,rfl,lk,a7⟩:=F.ex;exact .all (h kV doc pm an aE ct)
theorem wV{x qual:Str}{st:aY}{f:af}{oc:ai}{od an:Option af}{osl:Array (Option ai)}{kV doc pm aE ct:ai}(l:K.lookup f=aa ⟨oc,od,.func (fq x qual (gn st) (dm st) (aP st) .none kV doc pm an aE ct),osl⟩)(c:pX K aE qual=ah) (k:jC K (.ref f)=ah):ko K x qual st f (fq x qual (gn st) (dm st) (aP st) .none kV doc pm an aE ct):=⟨⟨oc,od,kV,doc,pm,an,aE,ct,osl,rfl,l,c⟩,k⟩
end
theorem FO{n:Nat}(h:n<=1000):n<a9:=xQ h (by decide)
section
variable{X:Cx}
theorem pv(i:Nat){x:Str}{pos:Pos}(hN:X.N[i]?=aa x:=by rfl)(hv:c7 X.env.scope x:=by first | exact Or.inl rfl | exact Or.inr (Or.inl rfl) | exact Or.inr (Or.inr rfl))(hd:(x == ("__debug__" : Str))=ak:=by decide)(a7:(x == ("__classdict__" : Str))=ak:=by decide):PE X (.Name x pos) (Gv i):=dP hN hv hd a7
end
theorem o4{A B:Prop}(h:B):if ak=ah then A else B:=by rw[if_neg f8];exact h
theorem pB{A B:Prop}(h:A):if ah=ah then A else B:=by rw[if_pos rfl];exact h
def Same(H H':Hp):Prop:=∀ b o,H b=aa o->H' b=aa o
theorem Same.refl(H:Hp):Same H H:=λ_ _ h=>h
theorem Same.trans{H H1 H2:Hp}(a:Same H H1)(b:Same H1 H2):Same H H2:=λc o h=>b c o (a c o h)
theorem Same.free{H H':Hp}(e:Same H H'){l:af}(h:H' l=Option.none):H l=Option.none:=by
 cases q:H l with
 | none=>rfl
 | some o=>
  rw[e l o q]at h;cases h
theorem Same.seq{K:aq}{H H':Hp}{a:af}{xs:List V}(e:Same H H')(h:bR K H a xs):bR K H' a xs:=by
 rcases h with(h | ⟨o,h⟩) | h
 ·exact .inl (.inl (e _ _ h))
 ·exact .inl (.inr ⟨o,e _ _ h⟩)
 ·exact .inr h
end L2
set_option maxHeartbeats 4000000
namespace L2
def g8(env:Env):List (Str×gE)->List (Str×af)->List (Str×af)
 | [],cs=>cs
 | (n,k)::r,cs=>if k == .free then g8 env r ((n,(env.cells.lookup n).getD 0)::cs)else g8 env r cs
theorem Pw{env:Env}{y:Str}{c:af}(names:List (Str×gE))(cs:List (Str×af))(hh:∀ x∈names,x.2 = .free->∃ c,env.cells.lookup x.1=aa c)(h:(g8 env names cs).lookup y=aa c):cs.lookup y=aa c\/env.cells.lookup y=aa c:=by
 induction names generalizing cs with
 | nil=>exact .inl h
 | cons a r ih=>
  obtain⟨n,k⟩:=a;unfold g8 at h;have hr:∀ x∈r,x.2 = .free->∃ c,env.cells.lookup x.1=aa c:=λx hx=>hh x (jA _ hx);split at h
  ·rename_i hk;obtain⟨c',iQ⟩:=hh (n,k) (mC ..) (by simpa using hk);rcases ih _ hr h with q | q
   ·rw[je]at q;split at q
    ·rename_i hb;have e:y=n:=by simpa using hb
     subst e;rw[iQ]at q;exact .inr (by rw[iQ]; exact q)
    ·exact .inl q
   ·exact .inr q
  ·exact ih _ hr h
theorem FS{α:Type}{n:Str}{v:α}{l:List (Str×α)}:((n,v)::l).lookup n=aa v:=by rw[je]; simp
theorem Fa{α:Type}{n y:Str}{v:α}{l:List (Str×α)}(h:∃ c,l.lookup y=aa c):∃ c,((n,v)::l).lookup y=aa c:=by
 rw[je];split
 ·exact⟨_,rfl⟩
 ·exact h
theorem Am{env:Env}{y:Str}:∀ (names:List (Str×gE)) (cs:List (Str×af)),(∃ c,cs.lookup y=aa c)->∃ c,(g8 env names cs).lookup y=aa c
 | [],cs,h=>h
 | (n,k)::r,cs,h=>by
  unfold g8;split
  ·exact Am r _ (Fa h)
  ·exact Am r _ h
theorem yw{env:Env}{y:Str}:∀ (names:List (Str×gE)) (cs:List (Str×af)),(∃ x∈names,x.1=y/\x.2 = .free)->∃ c,(g8 env names cs).lookup y=aa c
 | [],cs,⟨_,h,_⟩=>by simp at h
 | (n,k)::r,cs,⟨x,hx,e1,e2⟩=>by
  unfold g8;rcases bV.mp hx with e | hx
  ·subst e;simp only at e1 e2;subst e1 e2;simp only[beq_self_eq_true,if_true];exact Am r _ ⟨_,FS⟩
  ·split
   ·exact yw r _ ⟨x,hx,e1,e2⟩
   ·exact yw r _ ⟨x,hx,e1,e2⟩
theorem AD{env:Env}:∀ (names:List (Str×gE)) (cs:List (Str×af)),(∀ x∈names,x.2 = .free->∃ c,env.cells.lookup x.1=aa c) -> (forIn (m:=Sem) names cs λx r=>match x with | (name,kind)=>if(kind == NameKind.free)=ah then do let c ← cellOf env name; pure (ForInStep.yield ((name,c)::r))else pure (ForInStep.yield r))=pure (g8 env names cs)
 | [],cs,_=>rfl
 | (n,k)::r,cs,h=>by
  have hr:∀ x∈r,x.2 = .free->∃ c,env.cells.lookup x.1=aa c:=λx hx=>h x (jA _ hx);rw[List.forIn_cons];unfold g8;by_cases hk:(k == NameKind.free)=ah
  ·obtain⟨c,hc⟩:=h (n,k) (mC ..) (by simpa using hk);simp only[hk,if_true];have e:cellOf env n=pure c:=by unfold cellOf; rw[hc]
   rw[e];simp only[pure_bind];rw[AD r _ hr,hc];rfl
  ·simp only[hk,if_false,pure_bind];exact AD r _ hr
theorem P6{scope:eK}{env:Env}(h:∀ x∈scope.names,x.2 = .free->∃ c,env.cells.lookup x.1=aa c):closureFor scope env=pure (g8 env scope.names []):=by unfold closureFor;have q:=AD scope.names [] h;simp only[bind_pure_comp]at q ⊢;rw[q];rfl
theorem xl{n c:Nat}(h1:n+1<=c)(h2:c<n):False:=∅
theorem yG:∀ (names:List (Str×gE)) (n:Nat) (a b:List (Str×af)),fk n names (a++b)=fk n names a++b
 | [],_,_,_=>rfl
 | (x,k)::r,n,a,b=>by
  unfold fk;split
  ·exact yG r (n+1) ((x,n)::a) b
  ·exact yG r n a b
theorem vD{y:Str}{c:af}:∀ (names:List (Str×gE)) (n:Nat) (a:List (Str×af)),(y,c)∈fk n names a->(y,c)∈a\/(y,.cell)∈names
 | [],_,_,h=>.inl h
 | (x,k)::r,n,a,h=>by
  unfold fk at h;split at h
  ·rename_i hk;rcases vD r _ _ h with z | z
   ·rcases bV.mp z with z | z
    ·cases z;have e:k = .cell:=by simpa using hk
     subst e;exact .inr (mC ..)
    ·exact .inl z
   ·exact .inr (jA _ z)
  ·rcases vD r _ _ h with z | z
   ·exact .inl z
   ·exact .inr (jA _ z)
theorem A0{y:Str}:∀ (names:List (Str×gE)) (n:Nat) (a:List (Str×af)),(∃ c,a.lookup y=aa c)->∃ c,(fk n names a).lookup y=aa c
 | [],_,_,h=>h
 | (x,k)::r,n,a,h=>by
  unfold fk;split
  ·exact A0 r _ _ (Fa h)
  ·exact A0 r _ _ h
theorem xB{y:Str}:∀ (names:List (Str×gE)) (n:Nat) (a:List (Str×af)),(y,.cell)∈names->∃ c,(fk n names a).lookup y=aa c
 | (x,k)::r,n,a,h=>by
  unfold fk;rcases bV.mp h with e | h
  ·cases e;exact A0 r _ _ ⟨_,FS⟩
  ·split
   ·exact xB r _ _ h
   ·exact xB r _ _ h
def lp(X:Cx)(scope:eK)(C:af):List (Str×af):=fk (C+1) scope.names (g8 X.env scope.names [])
theorem z_(X:Cx)(scope:eK)(C:af):lp X scope C=fk (C+1) scope.names []++g8 X.env scope.names []:=yG scope.names (C+1) [] _
theorem MK{M:Model}{A:aR}{E:ai->ao->Prop}{s:ao}{scope:eK}{globals:af}{cl:List (Str×af)}{qual:Str}{env:Env}{Q:Env->ao->Prop}(hQ:Q (newEnv scope s.heap.objs.size globals (fk (s.heap.objs.size+1) scope.names cl) qual ae .none (aa env) pU) { s with heap:=pushCells (s.heap.push { cls:=.type "dict",data:=.dict #[] }) scope.names }) : aw M A (newFunctionEnv scope globals cl [] qual ae .none (aa env)) Q E s:=by
 simp only[newFunctionEnv,Option.isSome_some,if_true];refine ar (wpAny_alloc ?_);refine ar (wpAny_layCells _ (λname kind cells=>by cases hkc:kind == NameKind.cell <;> simp[hkc]) _ _ _ _ ?_);rw[show({ s with heap:=s.heap.push { cls:=.type "dict",data:=.dict #[] } }:ao).heap.objs.size=s.heap.objs.size+1 from uk ..];refine ar ?_;rw[List.forIn_nil];exact aQ (aQ hQ)
theorem DZ{s:ao}{names:List (Str×gE)}{y:Str}{c:af}(h:(y,c)∈fk (s.heap.objs.size+1) names []) : (pushCells (s.heap.push { cls:=.type "dict",data:=.dict #[] }) names).IsCell c ae/\s.heap.objs.size+1<=c/\∀ z,(z,c)∈fk (s.heap.objs.size+1) names []->y=z:=by have ok:=cellsFrom_ok names (s.heap.push { cls:=.type "dict",data:=.dict #[] }) (s.heap.objs.size+1) [] ⟨λ_ _ hm=>(nomatch hm),List.Pairwise.nil⟩ (by rw[uk]; exact bp _);rw[uk]at ok;exact⟨(ok.empty y c h).1,(ok.empty y c h).2,λz hz=>name_of_addr ok.apart h hz⟩
def eY(X:Cx)(scope:eK)(N':List Str)(C:af)(s₀:ao)(H₀:Hp)(ex:List af)(pn:List (af×Obj)):Cx where
 prog:=X.prog
 w:=X.w
 K:=X.K
 mg:=X.mg
 base:=X.base
 A:=X.A
 N:=N'
 s₀:=s₀
 H₀:=H₀
 env:=compEnvC scope (lp X scope C) C X.env
 outer:=X.stack
 stack:=X.stack
 ex:=ex
 fn:=λy=>scope.names.lookup y == aa .cell
 calm:=X.calm
 pn:=X.pn++pn
 xe:=λ_ _=>False
def i6(σ:St)(cap:List Nat):St:=cap.map λi=>(σ[i]?).join
structure nu(X:Cx)(scope:eK)(x:Str)(N':List Str)(cap:List Nat):Prop where
 kind:scope.kind = .function
 cells:∀ y∈scope.names,y.2 = .cell->scope.names.lookup y.1=aa .cell
 names:∀ y∈scope.names,y.2 = .local->scope.names.lookup y.1=aa .local
 loc:scope.names.lookup x=aa .local\/scope.names.lookup x=aa .cell
 free:∀ y∈scope.names,y.2 = .free->X.env.kindOf y.1=aa .cell\/X.env.kindOf y.1=aa .free
 nd:N'.Nodup
 hd:N'.head?=aa x
 len:N'.length=cap.length+1
 caps:∀ i j y,N'[i+1]?=aa y->cap[i]?=aa j->X.N[j]?=aa y/\scope.names.lookup y=aa .free
theorem Nl{names:List (Str×gE)}{y:Str}{k:gE}(h:names.lookup y=aa k):∃ x∈names,x.1=y/\x.2=k:=⟨(y,k),kP h,rfl,rfl⟩
theorem zH{env:Env}{x:Str}:∀ {names:List (Str×gE)} {k:gE}, (names.map λ(n,k)=>if(k == NameKind.free && env.scope.kind == .function && env.kindOf n == aa .cell)then(n,NameKind.cell)else(n,k)).lookup x=aa k -> ∃ k',names.lookup x=aa k'/\(k=k'\/(k' = .free/\k = .cell))
 | [],_,h=>by simp at h
 | (n,k0)::r,k,h=>by
  change jd x ((if(k0 == NameKind.free && env.scope.kind == .function && env.kindOf n == aa .cell)=ah then(n,NameKind.cell)else(n,k0))::_)=_ at h;rw[je];by_cases hc:(k0 == NameKind.free && env.scope.kind == .function && env.kindOf n == aa .cell)=ah
  ·rw[if_pos hc,je]at h;split at h
   ·rename_i hb;cases h;have:k0 = .free:=by simp at hc; exact hc.1.1
    exact⟨k0,rfl,.inr ⟨this,rfl⟩⟩
   ·exact zH h
  ·rw[if_neg hc,je]at h;split at h
   ·rename_i hb;cases h;exact⟨k0,rfl,.inl rfl⟩
   ·exact zH h
theorem A6{env:Env}{x:Str}:∀ {names:List (Str×gE)},names.lookup x=aa .free -> let q:=(names.map λ(n,k)=>if(k == NameKind.free && env.scope.kind == .function && env.kindOf n == aa .cell)then(n,NameKind.cell)else(n,k)).lookup x
  q=aa .cell\/q=aa .free
 | [],h=>by simp at h
 | (n,k0)::r,h=>by
  show jd x ((if(k0 == NameKind.free && env.scope.kind == .function && env.kindOf n == aa .cell)=ah then(n,NameKind.cell)else(n,k0))::_)=_\/jd x ((if(k0 == NameKind.free && env.scope.kind == .function && env.kindOf n == aa .cell)=ah then(n,NameKind.cell)else(n,k0))::_)=_;rw[je]at h;by_cases hc:(k0 == NameKind.free && env.scope.kind == .function && env.kindOf n == aa .cell)=ah
  ·rw[if_pos hc,je];cases hb:x == n with
   | true=>exact .inl rfl
   | false=>rw[hb]at h; exact A6 h
  ·rw[if_neg hc,je];cases hb:x == n with
   | true=>rw[hb]at h; cases h; exact .inr rfl
   | false=>rw[hb]at h; exact A6 h
theorem zI{env:Env}{x:Str}:∀ {names:List (Str×gE)},names.lookup x=aa .cell -> (names.map λ(n,k)=>if(k == NameKind.free && env.scope.kind == .function && env.kindOf n == aa .cell)then(n,NameKind.cell)else(n,k)).lookup x=aa .cell
 | [],h=>by simp at h
 | (n,k0)::r,h=>by
  show jd x ((if(k0 == NameKind.free && env.scope.kind == .function && env.kindOf n == aa .cell)=ah then(n,NameKind.cell)else(n,k0))::_)=_;rw[je]at h;by_cases hc:(k0 == NameKind.free && env.scope.kind == .function && env.kindOf n == aa .cell)=ah
  ·rw[if_pos hc,je];cases hb:x == n with
   | true=>rfl
   | false=>rw[hb]at h; exact zI h
  ·rw[if_neg hc,je];cases hb:x == n with
   | true=>rw[hb]at h; cases h; rfl
   | false=>rw[hb]at h; exact zI h
section
variable{X:Cx}{ag:List (af×Obj)}{σ:St}{H:Hp}{s:ao}{scope:eK}{x:Str}{N':List Str}{cap:List Nat}
theorem Inv.freeHas(I:Inv X ag σ H s)(B:nu X scope x N' cap):∀ y∈scope.names,y.2 = .free->∃ c,X.env.cells.lookup y.1=aa c:=λy hy e=>I.ok.has y.1 (B.free y hy e)
theorem Inv.clIn(I:Inv X ag σ H s)(B:nu X scope x N' cap){y:Str}{c:af}(h:(g8 X.env scope.names []).lookup y=aa c):X.env.cells.lookup y=aa c:=by
 rcases Pw scope.names [] (I.freeHas B) h with q | q
 ·simp at q
 ·exact q
theorem Inv.cbIn(I:Inv X ag σ H s)(B:nu X scope x N' cap){C:af}{y:Str}{c:af}(h:(lp X scope C).lookup y=aa c):((y,c)∈fk (C+1) scope.names []/\scope.names.lookup y=aa .cell)\/((g8 X.env scope.names []).lookup y=aa c/\X.env.cells.lookup y=aa c):=by
 rw[z_,uq]at h;cases e:(fk (C+1) scope.names []).lookup y with
 | none=>rw[e]at h; exact .inr ⟨h,I.clIn B h⟩
 | some c'=>
  rw[e]at h;cases h;have m:=kP e;rcases vD _ _ _ m with z | z
  ·cases z
  ·exact .inl ⟨m,B.cells _ z rfl⟩
theorem Inv.cbOld(I:Inv X ag σ H s)(B:nu X scope x N' cap){C:af}{y:Str}{c:af}(h:(g8 X.env scope.names []).lookup y=aa c)(hk:scope.names.lookup y=aa .free):(lp X scope C).lookup y=aa c:=by
 rw[z_,uq];cases e:(fk (C+1) scope.names []).lookup y with
 | none=>exact h
 | some c'=>
  rcases vD _ _ _ (kP e)with z | z
  ·cases z
  ·have:=B.cells _ z rfl;rw[hk]at this; cases this
theorem Inv.block{fp:List af}{h₁:aA}{m:Str->Option ai}{t':Nat}(hh:h₁=pushCells (s.heap.push { cls:=.type "dict",data:=.dict #[] }) scope.names)(I:Inv X ag σ H s)(B:nu X scope x N' cap)(uV:∀ b∈fp,lJ X ag H b)(hfo:∀ b∈fp,∃ o,s.heap.get? b=aa o)(sm:h₁.Ns s.heap.objs.size m)(old:∀ b o,s.heap.get? b=aa o->h₁.get? b=aa o):Inv (eY X scope N' s.heap.objs.size s H fp ag) [] (ae::i6 σ cap) H { s with heap:=h₁,toks:=t' }:=by
 have ltC:∀ x c,X.env.cells.lookup x=aa c->c<s.heap.objs.size:=λx c e=>(I.cell x c e).elim λv q=>q.lt;have ncell:∀ {y:Str} {c:af},(y,c)∈fk (s.heap.objs.size+1) scope.names []->h₁.IsCell c ae/\s.heap.objs.size+1<=c/\∀ z,(z,c)∈fk (s.heap.objs.size+1) scope.names []->y=z:=λh=>by rw[hh]; exact DZ h
 have lk:∀ y k,(compEnvC scope (lp X scope s.heap.objs.size) s.heap.objs.size X.env).kindOf y=aa k->∃ k',scope.names.lookup y=aa k'/\(k=k'\/(k' = .free/\k = .cell)):=λy k h=>zH h;have fhas:∀ y,scope.names.lookup y=aa .free->∃ c,(g8 X.env scope.names []).lookup y=aa c:=λy h=>yw scope.names [] (Nl h);have nfs:∀ b∈fg X.stack,b≠s.heap.objs.size:=λb hb e=>by
  rcases bV.mp (I.stkSub b hb)with z | z
  ·exact absurd I.lt (by rw[← z,e]; exact gW _)
  ·exact I.nofs (lN e.symm) z
 refine⟨⟨I.ok.mod,B.kind,I.ok.glob,I.ok.blt,bp _,λy z c h1 h2=>?_,λy hy=>?_,λy c h uW=>?_,I.ok.hd,I.ok.frames,.inl rfl,λb hb=>?_,λb o e=>I.bs b o e,cr I.ok.bsz I.sz,λb o e hb=>?_,λb hb hf=>?_,I.stack,(λb hb=>I.stkFree b hb),I.tab⟩,rfl,I.bare,Un.kept old,⟨m,sm,λi y v e1 e2 e3=>?_⟩,λy c h=>?_,I.hok.fresh (bp _),λy c h=>?_,λp hp=>?_,I.hok.kept old,?_⟩
 ·-- inj
  rcases I.cbIn B h1 with⟨a1,a2⟩ | ⟨a1,a2⟩ <;> rcases I.cbIn B h2 with⟨b1,b2⟩ | ⟨b1,b2⟩
  ·exact(ncell a1).2.2 z b1
  ·exact(xl (ncell a1).2.1 (ltC _ _ b2)).elim
  ·exact(xl (ncell b1).2.1 (ltC _ _ a2)).elim
  ·exact I.ok.inj y z c a2 b2
 ·-- has
  show ∃ c,(lp X scope s.heap.objs.size).lookup y=aa c;have lU:scope.names.lookup y=aa .free->∃ c,(lp X scope s.heap.objs.size).lookup y=aa c:=λq=>(fhas y q).imp λc hc=>I.cbOld B hc q;rcases hy with hy | hy
  ·obtain⟨k',q,z | ⟨z,_⟩⟩:=lk y _ hy
   ·subst z; exact xB _ _ _ (kP q)
   ·subst z; exact lU q
  ·obtain⟨k',q,z | ⟨_,z⟩⟩:=lk y _ hy
   ·subst z; exact lU q
   ·cases z
 ·-- cab
  have hk:scope.names.lookup y=aa .cell:=by simpa using(show(scope.names.lookup y == aa .cell)=ah from h)
  show s.heap.objs.size<=c;rcases I.cbIn B uW with⟨a1,a2⟩ | ⟨a1,a2⟩
  ·have:=(ncell a1).2.1; lia
  ·obtain⟨c',iQ⟩:=xB (n:=s.heap.objs.size+1) (a:=[]) _ (kP hk);have e:(lp X scope s.heap.objs.size).lookup y=aa c':=by rw[z_,uq,iQ]; rfl
   have e2:(lp X scope s.heap.objs.size).lookup y=aa c:=uW;rw[e]at e2; cases e2;have:=(ncell (kP iQ)).2.1; lia
 ·-- exf
  obtain⟨f0,f1,f2,f3,f4,f5⟩:=uV b hb;obtain⟨o,ho⟩:=hfo b hb;refine⟨λe=>absurd (bP ho) (by rw[e]; exact gW _),λy c h=>?_⟩;rcases I.cbIn B h with⟨a1,a2⟩ | ⟨a1,a2⟩
  ·rintro rfl;exact xl (ncell a1).2.1 (bP ho)
  ·exact f4 y c a2
 ·-- noex
  obtain⟨f0,f1,f2,f3,f4,f5⟩:=uV b hb;rcases f3 with z | z
  ·exact I.ok.noex b o e z
  ·exact absurd (gU (bP e) (cr I.ok.bsz z)) (gW _)
 ·-- exfs
  obtain⟨f0,f1,f2,f3,f4,f5⟩:=uV b hb;rcases bV.mp (I.stkSub b hf)with z | z
  ·exact f1 z
  ·exact f2 z
 ·-- loc
  cases i with
  | zero=>simp at e2
  | succ i=>
   have jI:(i6 σ cap)[i]?=aa (aa v):=by simpa using e2
   unfold i6 at jI;rw[j9]at jI;cases hj:cap[i]? with
   | none=>rw[hj]at jI; cases jI
   | some j=>
    rw[hj]at jI;have e4:(σ[j]?).join=aa v:=fj jI;have e5:σ[j]?=aa (aa v):=by
     cases hq:σ[j]? with
     | none=>rw[hq]at e4; cases e4
     | some o=>rw[hq]at e4; exact congrArg aa e4
    obtain⟨b1,b2⟩:=B.caps i j y e1 hj;obtain⟨mm,hn,hl⟩:=I.loc;have uH:=B.free _ (kP b2) rfl;have vis:c7 X.env.scope y:=by
     rcases uH with z | z
     ·exact .inr (.inl z)
     ·exact .inr (.inr z)
    obtain⟨u,r,l⟩:=hl j y v b1 e5 vis;refine⟨u,r,.inr ⟨A6 b2,?_⟩⟩;rcases l with⟨l,_⟩ | ⟨_,c,hc,yh⟩
    ·rcases uH with z | z
     ·rw[l]at z; cases z
     ·rw[l]at z; cases z
    ·obtain⟨c',iQ⟩:=fhas y b2;have e6:=I.clIn B iQ;rw[hc]at e6;cases e6;obtain⟨oo,ho,hd⟩:=yh;exact⟨c,I.cbOld B iQ b2,oo,old c oo ho,hd⟩
 ·rcases I.cbIn B h with⟨a1,a2⟩ | ⟨a1,a2⟩
  ·exact⟨ae,(ncell a1).1⟩
  ·obtain⟨v,oo,ho,hd⟩:=I.cell y c a2;exact⟨v,oo,old c oo ho,hd⟩
 ·rcases I.cbIn B h with⟨a1,a2⟩ | ⟨a1,a2⟩
  ·exact I.hok.fresh (cr (um _) (ncell a1).2.1)
  ·exact I.freeC y c a2
 ·have ig:p∈X.pn++ag:=by simpa[eY]using hp
  obtain⟨e,n,ne,nf,d⟩:=I.pin p ig;refine⟨old _ _ e,n,dH (bP e),λhf=>?_,d⟩;rcases bV.mp (I.stkSub p.1 hf)with z | z
  ·exact ne z
  ·exact nf z
 ·show(ae::i6 σ cap).length=N'.length;rw[B.len]; simp[i6]
end
def Fx(X:Cx)(ifs:List aB)(t:TT):Prop :=
 ∀ (ag:List (af×Obj)) (s:ao) (σ:St) (H:Hp) (Q:Bool->Hp->Prop),Inv X ag σ H s->t σ H Q ->
  aw (au X.prog X.w) X.A (forIn ifs ah λc r=>if r=ah then do let ok ← mE c X.env (aD c X.env); pure (ForInStep.yield ok)else pure (ForInStep.yield r)) (TP X ag σ Q) X.xe s
theorem KZ{P:aM}{w:aG}{A:aR}{R:Result->ao->Prop}{s:ao}{elt tg iter:aB}{ifs:List aB}{scope:eK}{pos:Pos}{it bg:ai}{env:Env}(J:Nat->ao->Prop)(turn:∀ k s1,J k s1->aw (au P w) A (pyNext it) (λr s2=>match r with
   | none=>R (.ok .next) s2
   | some v=>aw (au P w) A (Bp tg it v) (λ_ s3=>aw (au P w) A (assign tg env v) (λ_ s4=>aw (au P w) A (forIn ifs ah λc r=>if r=ah then do let ok ← mE c env (aD c env); pure (ForInStep.yield ok)else pure (ForInStep.yield r)) (λb s5=>if b=ah then aw (au P w) A (aD elt env) (λy s6=>aw (au P w) A (call (.builtin "list.append") [bg,y]) (λ_ s7=>∃ j,j<k/\J j s7) (λ_ _=>False) s6) (λ_ _=>False) s5 else ∃ j,j<k/\J j s5) (λ_ _=>False) s4) (λ_ _=>False) s3) (λ_ _=>False) s2) (λ_ _=>False) s1) (k:Nat) (h:J k s) :
  j5 (au P w) A (.compLoop (.ListComp elt [⟨tg,iter,ifs,0⟩] scope pos) 0 it bg env) R s:=by
 refine codeAny_loop rfl J (λj s1 hJ=>?_) k h;show aw _ A (Sem.onRaise (compTurn (.ListComp elt [⟨tg,iter,ifs,0⟩] scope pos) 0 it bg env) (λx=>do noteFrame x env; theTreesLotGoes x)) _ _ s1;refine wpAny_noted ?_;rw[compTurn_list];have no:∀ (E':ai->ao->Prop) (a:ai) (b:ao),False->E' a b:=λ_ _ _ f=>f.elim;refine ar (wpAny_standAt (ar (dZ (turn j s1 hJ) (λr s2 h2=>?_) (no _))));cases r with
 | none=>exact aQ h2
 | some v=>
  refine ar (dZ h2 (λ_ s3 h3=>ar (dZ h3 (λ_ s4 h4=>ar (dZ h4 (λb s5 h5=>?_) (no _))) (no _))) (no _));cases b with
  | true=>exact ar (ar (dZ h5 (λy s6 h6=>ar (dZ h6 (λ_ s7 h7=>aQ (aQ ⟨rfl,h7⟩)) (no _))) (no _)))
  | false=>exact aQ ⟨rfl,h5⟩
def Kw:TT:=λ_ H Q=>Q ah H
theorem LB{X:Cx}:Fx X [] Kw:=λ_ _ _ H _ I h=>wpAny_tests_nil ⟨H,I,h⟩
def GY(wi:TI)(ts:TT)(te:TE)(cap:List Nat):TE:=λσ H Q=>wi σ H λJ H1=>∀ l,H1 l=ae->∃ W:Nat->Nat->List V->Hp->Prop,(∃ m,W 0 m [] (upd H1 l (.lst [])))/\∀ i m ys H,W i m ys H ->
 (J.stop i H/\Q (.ref l) H)\/(J.go i H/\∀ v H',J.yld i H v H'->ts (aa v::i6 σ cap) H' λb H2=>if b=ah then te (aa v::i6 σ cap) H2 λy H3=>H3 l=aa (.lst ys)/\ys.length<a9/\∃ m',m'<m/\W (i+1) m' (ys++[y]) (upd H3 l (.lst (ys++[y]))) else ∃ m',m'<m/\W (i+1) m' ys H2)
section
variable{X:Cx}{ag:List (af×Obj)}{σ:St}{H:Hp}{s:ao}{scope:eK}{x:Str}{N':List Str}{cap:List Nat}
theorem Inv.unblock{fp:List af}{H':Hp}{σ':St}{s':ao}{ox:aA}(I:Inv X ag σ H s)(uV:∀ b∈fp,lJ X ag H b)(I':Inv (eY X scope N' s.heap.objs.size s H fp ag) [] σ' H' s') (sb:mD s.heap.objs.size s'.heap ox):Inv X ag σ H' { s' with heap:=ox }:=by
 have k:∀ b o,b≠s.heap.objs.size->s'.heap.get? b=aa o->ox.get? b=aa o:=λb o hb e=>(sb.2 b hb).trans e;have nC:∀ b o,s.heap.get? b=aa o->b≠s.heap.objs.size:=λb o e=>dH (bP e);have un:Un (fg X.stack) fp H H' s.heap ox:=by
  refine⟨λb o e n hb hx=>k b o (nC b o e) (I'.base.keep b o e n hb hx),λb o e n hb hx=>?_,λb o e n hx=>I'.base.free b o e n hx,λb o e hx=>?_,I'.base.tups,I'.base.frzs,I'.base.tbls⟩
  ·obtain⟨sl,q⟩:=I'.base.slot b o e n hb hx;exact⟨sl,k b _ (nC b o e) q⟩
  ·obtain⟨o',q⟩:=I'.base.there b o e hx;exact⟨o',k b o' (nC b o e) q⟩
 have hok:cQ X.prog X.w H' ox:=λb u e=>by
  have hCn:H' s.heap.objs.size=ae:=I'.free;refine(I'.hok b u e).stay (λc v hc q=>k c v ?_ q) (λ_ q=>q) λ_ _ q=>q;rintro rfl;rcases hc with z | z
  ·rw[← z,hCn]at e; cases e
  ·rw[hCn]at z; cases z
 refine I.call' (s':={ s' with heap:=ox }) (ch:=fp) I'.os un hok I'.bare λb hb=>?_;obtain⟨f0,f1,f2,f3,f4,f5⟩:=uV b hb;exact⟨f3,f1,f4,f5⟩
theorem Mj{elt iter:aB}{px pos:Pos}{ifs:List aB}{wi:TI}{ts:TT}{te:TE}(B:nu X scope x N' cap)(hc:X.calm=ah)(hi:PI X (.Name x px) iter wi)(ht:∀ C s₀ H₀ ex pn,Fx (eY X scope N' C s₀ H₀ ex pn) ifs ts) (he:∀ C s₀ H₀ ex pn,PE (eY X scope N' C s₀ H₀ ex pn) elt te) (hs:∀ x,Bq iter X.env x=pure x:=by intro _; rfl) : PE X (.ListComp elt [⟨.Name x px,iter,ifs,0⟩] scope pos) (GY wi ts te cap):=by
 intro ag s σ H Q I h;rw[eval_ListComp];refine wpAny_comprehension_free (use:=ae) rfl hs (P6 (I.freeHas B)) B.kind B.names (aX (hi ag s σ H _ I h) λv s1 h1=>aX h1 λitv s2 h2=>?_);obtain⟨it,fp,tn,J,H2,e,I2,T,a6,f2,h2⟩:=h2;subst e;refine mK ?_;have I3:Inv X ag σ (upd H2 s2.heap.objs.size (.lst [])) { s2 with heap:=s2.heap.push { cls:=.type "list",data:=.seq ([]:List ai).toArray },toks:=s2.toks }:=I2.lnew (its:=[]) (t':=s2.toks) .nil (mG _);obtain⟨W,⟨m0,w0⟩,turn⟩:=h2 s2.heap.objs.size I2.fresh;generalize oy:({ s2 with heap:=s2.heap.push { cls:=.type "list",data:=.seq ([]:List ai).toArray },toks:=s2.toks }:ao)=s3 at I3;have hs3':({ s2 with heap:=s2.heap.push { cls:=.type "list",data:=.seq ([]:List ai).toArray } }:ao)=s3:=oy;generalize hH3:upd H2 s2.heap.objs.size (.lst [])=H3 at I3 w0;have nl:∀ b∈fp,b≠s2.heap.objs.size:=λb hb e=>by obtain⟨o,ho,_⟩:=T.obj _ _ a6 b hb;exact absurd (bP ho) (by rw[e]; exact gW _)
 have k3:∀ b o,s2.heap.get? b=aa o->s3.heap.get? b=aa o:=λb o e=>by rw[← oy]; exact bG _ e
 have f3:∀ b∈fp,lJ X ag H3 b:=λb hb=>⟨by rw[← hH3,bw (nl b hb)]; exact(f2 b hb).1,(f2 b hb).2⟩
 have bv:tn 0 s3.heap:=T.keep _ _ _ a6 λb _ o e=>k3 b o e;have fo3:∀ b∈fp,∃ o,s3.heap.get? b=aa o:=λb hb=>(T.obj _ _ bv b hb).imp λo q=>q.1;refine MK ?_;generalize hh:pushCells (s3.heap.push { cls:=.type "dict",data:=.dict #[] }) scope.names=h₁;have old:∀ b o,s3.heap.get? b=aa o->h₁.get? b=aa o:=λb o e=>hh ▸ pushCells_keeps _ _ b o (bG _ e);have sm:h₁.Ns s3.heap.objs.size (λ_=>ae):=hh ▸ (Heap.Ns.new s3.heap (.type "dict")).keeps (pushCells_keeps _ _);have I4:=Inv.block (t':=s3.toks) hh.symm I3 B f3 fo3 sm old;have bH:tn 0 h₁:=T.keep _ _ _ bv λb _ o e=>old b o e;have statB:∀ {H':Hp},(∀ b∈fp,H' b=ae)->∀ b∈fp,lJ (eY X scope N' s3.heap.objs.size s3 H3 fp ag) [] H' b:=λhn b hb=>by
  obtain⟨f0,f1,f2',f3',f4,f5⟩:=f3 b hb;refine⟨hn b hb,λe=>?_,λhf=>?_,.inl hb,λy c h=>?_,λp hp=>f5 p (by simpa[eY]using hp)⟩
  ·obtain⟨o,ho⟩:=fo3 b hb;exact absurd (bP ho) (by rw[show b=s3.heap.objs.size from e]; exact gW _)
  ·rcases bV.mp (I3.stkSub b hf)with z | z
   ·exact f1 z
   ·exact f2' z
  ·rcases I3.cbIn B h with⟨a1,a2⟩ | ⟨a1,a2⟩
   ·rintro rfl;obtain⟨o,ho⟩:=fo3 _ hb;exact xl (DZ a1).2.1 (bP ho)
   ·exact f4 y c a2
 have Q6:Loc (eY X scope N' s3.heap.objs.size s3 H3 fp ag).env.scope x:=B.loc.elim (λh=>.inl (lookup_relabel_local h)) (λh=>.inr (zI h));have hfnx:(eY X scope N' s3.heap.objs.size s3 H3 fp ag).fn x=ah\/(eY X scope N' s3.heap.objs.size s3 H3 fp ag).env.scope.names.lookup x=aa .local:=B.loc.elim (λh=>.inr (lookup_relabel_local h)) (λh=>.inl (by show(scope.names.lookup x == aa .cell)=ah; rw[h]; rfl));have hN0:(eY X scope N' s3.heap.objs.size s3 H3 fp ag).N[0]?=aa x:=by show N'[0]?=aa x;rw[← List.head?_eq_getElem?]; exact B.hd
 have loop:j5 (au X.prog X.w) X.A (.compLoop (.ListComp elt [⟨.Name x px,iter,ifs,0⟩] scope pos) 0 (.ref it) (.ref s2.heap.objs.size) (compEnvC scope (lp X scope s3.heap.objs.size) s3.heap.objs.size X.env))
   (compPost (au X.prog X.w) X.A X.xe ae (EP X ag σ Q) (.ref s2.heap.objs.size) s3.heap.objs.size) { s3 with heap:=h₁,toks:=s3.toks }:=by
  refine KZ (λn s'=>∃ i ys σ' H',(∃ v0,σ'=v0::i6 σ cap)/\Inv (eY X scope N' s3.heap.objs.size s3 H3 fp ag) [] σ' H' s'/\tn i s'.heap/\(∀ b∈fp,H' b=ae)/\W i n ys H') ?_ m0
   ⟨0,[],_,H3,⟨ae,rfl⟩,I4,bH,λb hb=>(f3 b hb).1,w0⟩
  rintro n s5 ⟨i,ys,σ5,H5,⟨v0,rfl⟩,I5,bY,fr5,w5⟩;rcases turn i n ys H5 w5 with⟨stop,q⟩ | ⟨go,step⟩
  ·refine dZ (T.done (eY X scope N' s3.heap.objs.size s3 H3 fp ag) rfl rfl rfl hc i [] s5 _ H5 (λ_ _=>False) I5 (statB fr5) bY stop) (λr s6 ⟨hr,I6⟩=>?_) (λ_ _ f=>f.elim);subst hr;obtain⟨mm,hn6,_⟩:=I6.loc;exact⟨mm,hn6,λox sb=>⟨.ref s2.heap.objs.size,H5,I3.unblock f3 I6 sb,rfl,q⟩⟩
  ·refine dZ (T.item (eY X scope N' s3.heap.objs.size s3 H3 fp ag) rfl rfl rfl hc i [] s5 _ H5 (λ_ _=>False) I5 (statB fr5) bY go) (λr s6 ⟨u,hr,h6⟩=>?_) (λ_ _ f=>f.elim);subst hr;refine dZ h6 (λ_ s7 ⟨v,H7,I7,r7,y7,st7,fr7⟩=>?_) (λ_ _ f=>f.elim);have I7':=I7.pinned (statB fr7) (T.obj _ _ st7);have back:∀ {σ8:St} {H8:Hp} {s8:ao},Inv (eY X scope N' s3.heap.objs.size s3 H3 fp ag) ([]++tU fp s7.heap) σ8 H8 s8->tn (i+1) s8.heap/\(∀ b∈fp,H8 b=ae):=λ{σ8 H8 s8} I8=>⟨T.keep _ _ _ st7 λb hb o e=>(I8.pin (b,o) (kM _ (kM _ (wU hb e)))).1,λb hb=>by obtain⟨o,e,d⟩:=T.obj _ _ st7 b hb;exact(I8.pin (b,o) (kM _ (kM _ (wU hb e)))).2.1⟩
   refine wpAny_assign_Name (tL (v:=v) I7' B.nd hN0 Q6 r7 (λs8 I8=>?_) hfnx);refine aX (ht _ _ _ _ _ _ s8 _ H7 _ I8 (step v H7 y7)) λb s9 ⟨H9,I9,q9⟩=>?_;cases b with
   | false=>
    obtain⟨m',hm,w9⟩:=(show ∃ m',m'<n/\W (i+1) m' ys H9 from q9)
    exact⟨m',hm,i+1,ys,_,H9,⟨aa v,rfl⟩,I9.unpinned,(back I9).1,(back I9).2,w9⟩
   | true=>refine aX (he _ _ _ _ _ _ s9 _ H9 _ I9 q9) λu10 s10 ⟨y,H10,I10,r10,hl10,hz10,m',hm,w10⟩=>?_;refine aX (z6 _ s10 _ H10 (.ref s2.heap.objs.size) [y] _ [u10] (λz H11=>H11=upd H10 s2.heap.objs.size (.lst (ys++[y]))) I10 rfl (.cons r10 .nil) ⟨_,ys,y,rfl,rfl,hl10,hz10,rfl⟩) λ_ s11 ⟨_,H11,I11,_,e11⟩=>?_;subst e11;exact⟨m',hm,i+1,ys++[y],_,_,⟨aa v,rfl⟩,I11.unpinned,(back I11).1,(back I11).2,w10⟩
 exact codeAny_compStart_list loop (T.self _ 0 _ _ _ bH loop)
end
def Walk(J:It)(xs:List V)(R:Hp->Prop):Prop :=
 ∀ H,R H->∀ i,(∀ x,xs[i]?=aa x->J.go i H/\∀ y H',J.yld i H y H'->H'=H/\y=x)/\(i=xs.length->J.stop i H)
theorem Nc{K:aq}{a:af}{xs:List V}:Walk (yQ K a) xs (λH=>bR K H a xs):=λH h i=>⟨λx hx=>⟨⟨xs,x,h,hx⟩,λy H' z=>⟨z.1,by have:=z.2 xs h; rw[hx]at this; exact(fj this).symm⟩⟩,λhi=>⟨xs,h,lN hi.symm⟩⟩
theorem IZ{K:aq}{a:af}{xs:List V}:Walk (Ap K a) xs (λH=>cq K H a xs):=λH h i=>⟨λx hx=>⟨⟨xs,x,h,hx⟩,λy H' z=>⟨z.1,by have:=z.2 xs h; rw[hx]at this; exact(fj this).symm⟩⟩,λhi=>⟨xs,h,lN hi.symm⟩⟩
def qJ(lo:Int)(n:Nat):List V:=(bJ n).map λi=>V.int (lo+(i:Nat))
theorem vR(lo:Int)(n:Nat):(qJ lo n).length=n:=by simp[qJ]
theorem En{lo:Int}{n:Nat}:Walk (tt lo n) (qJ lo n) (λ_=>True):=λH _ i=>by
 refine⟨λx hx=>?_,λhi=>by rw[vR]at hi; exact lN hi.symm⟩;have bS:i<n:=by have:=(cu.mp hx).1; rw[vR]at this; exact this
 refine⟨bS,λy H' z=>⟨z.1,?_⟩⟩;unfold qJ at hx;rw[j9,BH bS]at hx;have hx':V.int (lo+(i:Nat))=x:=fj hx;rw[z.2,← hx']
def sg(c:Nat):V:=.str ⟨#[c]⟩
def ua(z:Str):It:=⟨λi _=>i<z.cps.size,λi H x H'=>H'=H/\∃ c,z.cps[i]?=aa c/\x=sg c,λi _=>i=z.cps.size⟩
theorem NU{z:Str}:Walk (ua z) (z.cps.toList.map sg) (λ_=>True):=λH _ i=>by
 refine⟨λx hx=>?_,λhi=>by show i=z.cps.size; simpa using hi⟩;rw[j9]at hx;cases e:z.cps.toList[i]? with
 | none=>rw[e]at hx; cases hx
 | some c=>
  rw[e]at hx;have bS:i<z.cps.size:=by have:=(cu.mp e).1; simpa using this
  refine⟨bS,λy H' w=>⟨w.1,?_⟩⟩;obtain⟨c',e',rfl⟩:=w.2;have:z.cps[i]?=aa c:=by simpa using e
  rw[this]at e';cases e';exact(fj hx)
theorem Same.upd{H H':Hp}{l:af}{o:HO}(h:Same H H')(hl:H l=ae):Same H (upd H' l o):=λb u e=>by rw[bw (kn e hl)]; exact h b u e
theorem Same.tup{K:aq}{H H':Hp}{a:af}{xs:List V}(e:Same H H')(h:cq K H a xs):cq K H' a xs:=by
 rcases h with(h | ⟨o,h⟩) | h
 ·exact .inl (.inl (e _ _ h))
 ·exact .inl (.inr ⟨o,e _ _ h⟩)
 ·exact .inr h
section
variable{X:Cx}{tg:aB}
theorem OT{P:aM}{w:aG}{K:aq}{z:Str}{it:af}{St':Nat->aA->Prop} (ot:∀ i h,St' i h->∃ o n vs,h.get? it=aa o/\o.cls = .type n/\o.data = .fields vs /\ ["enumerate","zip","dict_itemiterator","dict_reverseitemiterator","odict_iterator","itertools.zip_longest","itertools.pairwise"].contains n=ak)(Q7:∀ (A:aR) (i:Nat) (s:ao) (Q:ai->ao->Prop) (E:ai->ao->Prop),St' i s.heap->Q (.ref it) s->aw (au P w) A (nY (.ref it)) Q E s)(hW:∀ A:aR,A.handled=ae->Walks P w A it [it] [it] z.cps.size (SignAt z) St'):sX P w K tg (ua z) [it] it St' where
 mem:=by simp
 obj:=λi h st b hb=>by
  have e:b=it:=by simpa using hb
  subst e;obtain⟨o,n,vs,h1,_,h3,_⟩:=ot i h st;exact⟨o,h1,λv q=>by rw[h3]at q; cases q⟩
 keep:=λi h h' st k=>by exact(hW ({}:aR) rfl).frame i h h' st k
 item:=by intro X hP hw hK hc i ag s σ H E I hf st hg;subst hP hw hK;obtain⟨f0,f1,f2,f3,f4,f5⟩:=hf it (by simp);refine(hW X.A (I.ok.hd hc)).item i s _ _ hg st λv h' tk hv ay k=>?_;have I1:Inv X ag σ H { s with heap:=h',toks:=tk }:=I.turned (t':=tk) (λb o hb e=>k b o (by simpa using hb) e) f0 f1 f3 f4 f5;obtain⟨o,n,vs,h1,h2,h3,h4⟩:=ot _ _ ay;obtain⟨c,u,e1,rfl⟩:=hv;exact⟨_,rfl,vr (s:={ s with heap:=h',toks:=tk }) h1 h2 h3 h4 ⟨sg c,H,I1,⟨u,rfl⟩,⟨rfl,c,e1,rfl⟩,ay,λb hb=>(hf b hb).1⟩⟩
 done:=by intro X hP hw hK hc i ag s σ H E I hf st hg;subst hP hw hK;obtain⟨f0,f1,f2,f3,f4,f5⟩:=hf it (by simp);have jJ:i=z.cps.size:=hg;subst jJ;exact(hW X.A (I.ok.hd hc)).done s _ _ st λh' tk k=>⟨rfl,I.turned (t':=tk) (λb o hb e=>k b o (by simpa using hb) e) f0 f1 f3 f4 f5⟩
 self:=Q7
theorem Oi{J:It}{xs:List V}{R:Hp->Prop}{g:TG}{tb:TS}{D:lF}{σ:St}{H:Hp}(hJ:Walk J xs R)(Pv:Nat->St->Hp->Prop)(h0:Pv 0 σ H)(hl:∀ i σ H,i<=xs.length->Pv i σ H->R H)(hs:∀ i x σ H,xs[i]?=aa x->Pv i σ H->g x σ H λσ2 H2=>tb { D with nx:=Pv (i+1),ct:=Pv (i+1),bk:=D.nx } σ2 H2) (hd:∀ σ H,Pv xs.length σ H->D.nx σ H) : ∃ W:Nat->Nat->St->Hp->Prop,(∃ m,W 0 m σ H)/\∀ i m σ H,W i m σ H -> (J.stop i H/\D.nx σ H)\/(J.go i H/\∃ N:St->Hp->Prop,(∀ σ' H',N σ' H'->∃ m',m'<m/\W (i+1) m' σ' H')/\∀ x H',J.yld i H x H'->g x σ H' λσ2 H2=>tb { D with nx:=N,ct:=N,bk:=D.nx } σ2 H2):=by
 refine⟨λi m σ H=>m=xs.length-i/\i<=xs.length/\Pv i σ H,⟨xs.length,by simp,mG _,h0⟩,?_⟩;rintro i m σ H ⟨rfl,hi,p⟩;have q:=hJ H (hl i σ H hi p) i;by_cases bS:i<xs.length
 ·have hx:xs[i]?=aa xs[i]:=by simp[bS]
  obtain⟨go,yl⟩:=q.1 xs[i] hx;refine .inr ⟨go,Pv (i+1),λσ' H' p'=>⟨xs.length-(i+1),∅,rfl,bS,p'⟩,λx H' y=>?_⟩;obtain⟨rfl,rfl⟩:=yl x H' y;exact hs i _ σ _ hx p
 ·have e:i=xs.length:=∅
  subst e;exact .inl ⟨q.2 rfl,hd σ H p⟩
theorem Qd{α:Type}(l:List α)(f:α->Bool)(d:Nat->Bool)(hd:∀ i x,l[i]?=aa x->d i=f x):(bJ l.length).all d=l.all f:=by
 induction l generalizing d with
 | nil=>rfl
 | cons x r ih=>rw[dq,xR,rN,xS,rN,hd 0 x rfl];congr 1;exact ih _ λi y h=>hd (i+1) y (by simpa using h)
theorem Qu{bs:List Bool}{us:List ai}(r:bd (bs.map V.bl) us){i:Nat}{v:ai}(h:us.toArray[i]?=aa v):v = .bool (bs.getD i ak):=by
 have hl:=r.length;rw[cX]at hl;have hi:i<us.length:=by have:=(p8.mp h).1; simpa using this
 have e:(bs.map V.bl)[i]?=aa (.bl (bs.getD i ak)):=by rw[j9,fK ∅];simp[List.getD,fK (show i<bs.length by lia)]
 obtain⟨u,e1,e2⟩:=r.get e;have:us[i]?=aa v:=by simpa using h
 rw[this]at e1;cases e1;exact e2
theorem yz{A:aR}(h:A.handled=ae):A.in1.handled=ae:=h
theorem AO(hc:X.calm=ah):eu X (.builtin "all") (λxs H Q=>∃ (p:af) (bs:List Bool),xs=[.ref p]/\bR X.K H p (bs.map V.bl)/\Q (.bl (bs.all id)) H):=by
 intro ag s σ H xs us Q I r h;obtain⟨p,bs,rfl,hq,q⟩:=h;obtain⟨u,rfl,ru⟩:=vals1 r;cases ru;obtain⟨its,rv,pl,hz⟩:=I.list hq;have hl:=rv.length;rw[cX]at hl;refine call_all_walk (Hu pl.isList ?_);have cY:p≠s.heap.objs.size:=by obtain⟨o,ho,_⟩:=pl.isList;exact dH (bP ho)
 refine⟨s.heap.objs.size,_,_,_,_,_,λi=>bs.getD i ak,rfl,Walks.list (yz (I.ok.hd hc)) s.heap.objs.size p cY its.toArray,⟨⟨_,cW _ rfl,rfl,rfl⟩,?_⟩,λi v s' Q' E' hv hQ=>?_,λh' tk k=>?_⟩
 ·obtain⟨o,ho,hc,hd⟩:=pl.isList;exact⟨o,bG _ ho,hc,hd⟩
 ·rw[Qu rv hv];exact pW hQ
 ·have e:(bJ its.toArray.size).all (λi=>bs.getD i ak)=bs.all id:=by
   rw[cC,← hl];exact Qd bs id _ λi x hx=>by simp[List.getD,hx]
  rw[e];have I1:Inv X ag σ H { s with heap:=s.heap.push { cls:=.type "list_iterator",data:=.fields #[.ref p,.int 0 0] },toks:=s.toks }:=I.kept (t':=s.toks) λb o e=>bG _ e;exact⟨.bl _,H,Inv.turned (t':=tk) I1 (it:=s.heap.objs.size) (λb o hb e=>k b o (by simpa using hb) e) I.fresh (rH I.lt) (.inr I.sz) (λx c e z=>by obtain⟨v,qq⟩:=I.cell x c e;exact absurd qq.lt (by rw[z]; exact gW _)) (λpp hp z=>absurd (bP (I.pin pp hp).1) (by rw[z]; exact gW _)),rfl,q⟩
end
section
variable{X:Cx}
def lx(z:Str)(lo hi:Option Int):Str:=⟨((z.cps.toList.drop (HT.sIx z.length 0 lo)).take (HT.sIx z.length z.length hi-HT.sIx z.length 0 lo)).toArray⟩
theorem Oh(a b:Nat):sliceRange (a:Int) (b:Int) 1=(bJ (b-a)).map λk=>a+k:=by
 unfold sliceRange;have e:(if(1:Int) > 0 then(if(a:Int)<(b:Int)then((b:Int)-a+1-1) / 1 else 0)else(if(a:Int) > b then((a:Int)-b-1-1) / (-1)else 0)).toNat=b-a:=by
  rw[if_pos (by decide)];split
  ·rw[Int.ediv_one]; lia
  ·have:b-a=0:=∅
   rw[this]; rfl
 show(bJ (if(1:Int) > 0 then(if(a:Int)<(b:Int)then((b:Int)-a+1-1) / 1 else 0)else(if(a:Int) > b then((a:Int)-b-1-1) / (-1)else 0)).toNat).map _=_;rw[e];refine iB λk _=>?_;lia
theorem JN(lo hi:Option Int)(n:Nat):Builtin.Str.strSliceIndices lo hi 1 n=(bJ (HT.sIx n n hi-HT.sIx n 0 lo)).map λk=>HT.sIx n 0 lo+k:=by
 rw[← Oh];have p:(1:Int) > 0:=by decide
 cases lo <;> cases hi <;> (unfold Builtin.Str.strSliceIndices HT.sIx; simp only[p,if_true]; congr 1 <;> (try split) <;> lia)
theorem D5{α:Type}(l:List α)(a k:Nat):((bJ k).map λj=>a+j).filterMap (λi=>l[i]?)=(l.drop a).take k:=by
 induction k with
 | zero=>simp
 | succ k ih=>
  rw[ur,mL,List.filterMap_append,ih,List.take_succ];congr 1;simp[pV];cases l[a+k]? <;> rfl
theorem K_(z:Str)(t:Tok)(l u:Option (Int×Tok)):∃ m,sliceMade z t l u ae=m/\(m = .val (.str z t)/\lx z (l.map (·.1)) (u.map (·.1))=z\/m = .str (lx z (l.map (·.1)) (u.map (·.1)))):=by
 refine⟨_,rfl,?_⟩;unfold sliceMade slicePicked;have e:=JN (l.map (·.1)) (u.map (·.1)) z.length;simp only[Option.map_none,Hm];rw[e];have pk:=D5 z.cps.toList (HT.sIx z.length 0 (l.map (·.1))) (HT.sIx z.length z.length (u.map (·.1))-HT.sIx z.length 0 (l.map (·.1)));have pk':(((bJ (HT.sIx z.length z.length (u.map (·.1))-HT.sIx z.length 0 (l.map (·.1)))).map λk=>HT.sIx z.length 0 (l.map (·.1))+k).filterMap (z.cps[·]?)).toArray=(lx z (l.map (·.1)) (u.map (·.1))).cps:=by unfold lx;rw[← pk];simp
 split
 ·rename_i h;left;refine⟨rfl,?_⟩;simp only[beq_self_eq_true,BI,cX,List.length_range,beq_iff_eq]at h;have h0:HT.sIx z.length z.length (u.map (·.1))<=z.length:=HT.sIx_le _ _ (bp _) _;have hl:z.cps.toList.length=z.length:=by simp[Str.length]
  have h1:HT.sIx z.length 0 (l.map (·.1))=0\/z.length=0:=∅
  unfold lx;rw[h];rcases h1 with h1 | h1
  ·rw[h1,xT,xU ∅]
  ·have:z.cps.toList=[]:=ut ∅;rw[this];cases z;rename_i c;simp at this;subst this;simp
 ·right;rw[show(⟨(((bJ (HT.sIx z.length z.length (u.map (·.1))-HT.sIx z.length 0 (l.map (·.1)))).map λk=>HT.sIx z.length 0 (l.map (·.1))+k).filterMap (z.cps[·]?)).toArray⟩:Str)=lx z (l.map (·.1)) (u.map (·.1))from by rw[pk']]
def EW:V->Option Int->Option Int->Hp->VK->Prop:=λx lo hi H Q=>∃ z,x = .str z/\z.length<=a9/\Q (.str (lx z lo hi)) H
theorem PP(z:Str)(lo hi:Option Int):(lx z lo hi).length<=z.length:=by unfold lx Str.length;simp;lia
theorem part_of{v:ai}{o:Option Int}(p:mJ v o):∃ q:Option (Int×Tok),v=partValue q/\q.map (·.1)=o:=by
 cases p with
 | none=>exact⟨ae,rfl,rfl⟩
 | int i t=>exact⟨aa (i,t),rfl,rfl⟩
theorem Rh:mf X EW:=by
 intro ag s σ H x v vl vu lo hi sl Q I rx hs pl pu h;obtain⟨z,rfl,hz,q⟩:=h;obtain⟨t,rfl⟩:=rx;obtain⟨l,rfl,rfl⟩:=part_of pl;obtain⟨u,rfl,rfl⟩:=part_of pu;refine⟨"str",_,F.slot_str_getitem.lookup,rM s z t,?_⟩;obtain⟨m,em,hm⟩:=K_ z t l u;refine getItem_meets (rM s z t) (by decide) F.slot_str_getitem F.entry_str_getitem (F.args_str_getitem_2 _ _) (meets_str_getitem_slice z t sl l u ae (by decide)) ⟨hs,?_⟩;rw[em];rcases hm with⟨rfl,e⟩ | rfl
 ·exact⟨.str z,H,I,⟨t,rfl⟩,by rw[e]at q; exact q⟩
 ·exact⟨cr (PP z _ _) hz,⟨.str _,H,I.tok _,⟨_,rfl⟩,q⟩⟩
def io(K:aq)(H:Hp)(d:Nat)(x y:V)(k:Bool):Prop :=
 ∀ (X:Cx),X.K=K->∀ (ag:List (af×Obj)) (σ:St) (s:ao) (u v:ai) (A:aR),Inv X ag σ H s->RelV x u->RelV y v->A.units+d<cLine->xM A s u v k
theorem JQ{K:aq}{H:Hp}{d:Nat}{x y:V}(fx:gw x=ah)(fy:gw y=ah):io K H d x y (fh x y):=λ_ _ _ _ _ _ _ _ _ rx ry _=>Ew rx ry fx fy
def fW(e:Nat->Bool)(n m:Nat):Bool:=(bJ (min n m)).all e && n == m
theorem G2{A:aR}:A.in1.units=A.units+1:=rfl
theorem zN{H:Hp}{d:Nat}{a b:af}{xs ys:List V}{e:Nat->Bool}{ag:List (af×Obj)}{σ:St}{s:ao}{A:aR}(I:Inv X ag σ H s)(ha:bR X.K H a xs)(hb:bR X.K H b ys)(he:∀ (j:Nat) x y,xs[j]?=aa x->ys[j]?=aa y->io X.K H d x y (e j)) (hu:A.units+(d+1)<cLine):SeqAt.RcAt A s (.ref a) (.ref b) (fW e xs.length ys.length)/\SeqAt.RcNeAt A s (.ref a) (.ref b) (!fW e xs.length ys.length):=by
 obtain⟨us,ru,pu,_⟩:=I.list ha;obtain⟨vs,rv,pv',_⟩:=I.list hb;have uX:=ru.length;have mX:=rv.length;have hE:∀ j (h1:j<us.toArray.size) (h2:j<vs.toArray.size),xM A.in1 s us.toArray[j] vs.toArray[j] (e j):=λj h1 h2=>by
  have iR:j<us.length:=by simpa using h1
  have iS:j<vs.length:=by simpa using h2
  have e1:xs[j]?=aa xs[j]:=fK ∅;have e2:ys[j]?=aa ys[j]:=fK ∅;obtain⟨u,q1,r1⟩:=ru.get e1;obtain⟨v,q2,r2⟩:=rv.get e2;have f1:us[j]=u:=by rw[fK iR]at q1; exact fj q1
  have f2:vs[j]=v:=by rw[fK iS]at q2; exact fj q2
  have:=he j xs[j] ys[j] e1 e2 X rfl ag σ s u v A.in1 I r1 r2 (by rw[G2]; lia);simpa[f1,f2]using this
 by_cases hsz:xs.length=ys.length
 ·have hs:us.toArray.size=vs.toArray.size:=by simp; lia
  have e1:fW e xs.length ys.length=(bJ us.toArray.size).all e:=by unfold fW;rw[hsz,Nat.min_self,beq_self_eq_true,Bool.and_true,cC,← uX,hsz]
  rw[e1];exact⟨.lists pu.isList pv'.isList hs ∅ hE,.lists pu.isList pv'.isList hs ∅ hE⟩
 ·have e1:fW e xs.length ys.length=ak:=by
   unfold fW;rw[beq_false_of_ne hsz,Bool.and_false]
  have hs:(us.toArray.size != vs.toArray.size)=ah:=by simp; lia
  rw[e1];exact⟨.lists_lengths pu.isList pv'.isList hs ∅,.lists_lengths pu.isList pv'.isList hs ∅⟩
theorem A7{H:Hp}{d:Nat}{a b:af}{xs ys:List V}{e:Nat->Bool}{ag:List (af×Obj)}{σ:St}{s:ao}{A:aR}(I:Inv X ag σ H s)(ha:cq X.K H a xs)(hb:cq X.K H b ys)(he:∀ (j:Nat) x y,xs[j]?=aa x->ys[j]?=aa y->io X.K H d x y (e j)) (hu:A.units+(d+1)<cLine):SeqAt.RcAt A s (.ref a) (.ref b) (fW e xs.length ys.length)/\SeqAt.RcNeAt A s (.ref a) (.ref b) (!fW e xs.length ys.length):=by
 obtain⟨us,ru,pu,_⟩:=I.tuple ha;obtain⟨vs,rv,pv',_⟩:=I.tuple hb;have uX:=ru.length;have mX:=rv.length;have hE:∀ j (h1:j<us.toArray.size) (h2:j<vs.toArray.size),xM A.in1 s us.toArray[j] vs.toArray[j] (e j):=λj h1 h2=>by
  have iR:j<us.length:=by simpa using h1
  have iS:j<vs.length:=by simpa using h2
  have e1:xs[j]?=aa xs[j]:=fK ∅;have e2:ys[j]?=aa ys[j]:=fK ∅;obtain⟨u,q1,r1⟩:=ru.get e1;obtain⟨v,q2,r2⟩:=rv.get e2;have f1:us[j]=u:=by rw[fK iR]at q1; exact fj q1
  have f2:vs[j]=v:=by rw[fK iS]at q2; exact fj q2
  have:=he j xs[j] ys[j] e1 e2 X rfl ag σ s u v A.in1 I r1 r2 (by rw[G2]; lia);simpa[f1,f2]using this
 have e1:fW e xs.length ys.length=((bJ (min us.toArray.size vs.toArray.size)).all e && us.toArray.size == vs.toArray.size):=by unfold fW;rw[cC,cC,← uX,← mX]
 rw[e1];exact⟨.tuples pu pv' ∅ hE,.tuples pu pv' ∅ hE⟩
theorem IE{K:aq}{H:Hp}{d:Nat}{a b:af}{xs ys:List V}{e:Nat->Bool}(ha:bR K H a xs)(hb:bR K H b ys)(cY:a≠b)(he:∀ (j:Nat) x y,xs[j]?=aa x->ys[j]?=aa y->io K H d x y (e j)) : io K H (d+1) (.ref a) (.ref b) (fW e xs.length ys.length):=λX hK ag σ s u v A I ru rv hu=>by
 subst hK;cases ru;cases rv;exact .of_refs cY (zN I ha hb he hu).1
theorem KD{K:aq}{H:Hp}{d:Nat}{a b:af}{xs ys:List V}{e:Nat->Bool}(ha:cq K H a xs)(hb:cq K H b ys)(cY:a≠b)(he:∀ (j:Nat) x y,xs[j]?=aa x->ys[j]?=aa y->io K H d x y (e j)) : io K H (d+1) (.ref a) (.ref b) (fW e xs.length ys.length):=λX hK ag σ s u v A I ru rv hu=>by
 subst hK;cases ru;cases rv;exact .of_refs cY (A7 I ha hb he hu).1
theorem CU{K:aq}{H:Hp}{d:Nat}{a:af}:io K H d (.ref a) (.ref a) ah:=λX hK ag σ s u v A I ru rv hu=>by
 cases ru;cases rv;exact .same _
def sT(K:aq)(neg:Bool):R2:=λx y H Q=>∃ a b xs ys d e,x = .ref a/\y = .ref b/\((bR K H a xs/\bR K H b ys)\/(cq K H a xs/\cq K H b ys))/\d<=8 /\
 (∀ (j:Nat) x y,xs[j]?=aa x->ys[j]?=aa y->io K H d x y (e j))/\Q (.bl (if neg then !fW e xs.length ys.length else fW e xs.length ys.length)) H
theorem IU(hu:X.A.units+64<cLine):bU X (eN .Eq) (sT X.K ak):=by
 intro ag s σ H x y v u Q I rx ry h;obtain⟨a,b,xs,ys,d,e,rfl,rfl,hs,hd,he,q⟩:=h;cases rx;cases ry;rcases hs with⟨h1,h2⟩ | ⟨h1,h2⟩
 ·exact(zN I h1 h2 he ∅).1 _ _ _ _ ⟨.bl _,H,I,rfl,q⟩
 ·exact(A7 I h1 h2 he ∅).1 _ _ _ _ ⟨.bl _,H,I,rfl,q⟩
theorem N_(hu:X.A.units+64<cLine):bU X (eN .NotEq) (sT X.K ah):=by
 intro ag s σ H x y v u Q I rx ry h;obtain⟨a,b,xs,ys,d,e,rfl,rfl,hs,hd,he,q⟩:=h;cases rx;cases ry;rcases hs with⟨h1,h2⟩ | ⟨h1,h2⟩
 ·exact(zN I h1 h2 he ∅).2 _ _ _ _ ⟨.bl _,H,I,rfl,q⟩
 ·exact(A7 I h1 h2 he ∅).2 _ _ _ _ ⟨.bl _,H,I,rfl,q⟩
def Lm(K:aq):V->List V->Hp->VK->Prop:=λx vs H Q=>∃ (p:af) (xs:List V) (y:V),x = .ref p/\vs=[y]/\H p=aa (.lst xs)/\gw y=ah/\xs.all gw=ah/\Q (.int ((xs.countP λz=>fh z y:Nat):Int)) H
theorem Gf{y:V}:∀ {xs:List V} {us:List ai},bd xs us->xs.all gw=ah->us.countP (ju y)=xs.countP λz=>fh z y
 | _,_,.nil,_=>rfl
 | z::xs,u::us,.cons r t,f=>by rw[rN,fc]at f;rw[List.countP_cons,List.countP_cons,vO r f.1,Gf t f.2]
theorem KW:uf X "list.count" (Lm X.K):=by
 intro ag s σ H x vs v us Q I rx rv h;obtain⟨p,xs,y,rfl,rfl,hH,fy,fx,q⟩:=h;cases rx;obtain⟨u,rfl,ru⟩:=rv.one;obtain⟨z,its,n,r,hl,e⟩:=I.lstM hH;refine p6 F.slot_list_count ⟨_,e,rfl⟩ F.entry_list_count (F.args_list_count_2 _ _) (SeqAt.list_countAt p its.toArray n ae #[] u (ju y)) ⟨e,λw hw=>sP ru fy r fx w (by simpa using hw),?_⟩;exact⟨.int _,H,I.tok _,⟨_,by rw[Hv,Gf r fx]⟩,q⟩
def M5:V->List V->Hp->VK->Prop:=λx vs H Q=>∃ (p:af) (xs:List V) (y:V) (j:Nat),x = .ref p/\vs=[y]/\H p=aa (.lst xs)/\gw y=ah/\xs.all gw=ah/\j<xs.length /\
 (∀ z,xs[j]?=aa z->fh z y=ah)/\(∀ (i:Nat) z,i<j->xs[i]?=aa z->fh z y=ak)/\Q (.int j) H
theorem NO:uf X "list.index" M5:=by
 intro ag s σ H x vs v us Q I rx rv h;obtain⟨p,xs,y,j,rfl,rfl,hH,fy,fx,hj,h1,h2,q⟩:=h;cases rx;obtain⟨u,rfl,ru⟩:=rv.one;obtain⟨z,its,n,r,hl,e⟩:=I.lstM hH;have hz:=s_;have at':∀ (i:Nat) (hi:i<its.toArray.size),∃ w,xs[i]?=aa w/\ju y its.toArray[i]=fh w y:=λi hi=>by
  have hi':i<its.length:=by simpa using hi
  have e1:xs[i]?=aa xs[i]:=fK ∅;obtain⟨w,q1,r1⟩:=r.get e1;have f1:its[i]=w:=by rw[fK hi']at q1; exact fj q1
  refine⟨_,e1,?_⟩;have fl:gw xs[i]=ah:=lP.mp fx _ (BJ _);rw[← vO r1 fl];simp[f1]
 refine p6 F.slot_list_index ⟨_,e,rfl⟩ F.entry_list_index (F.args_list_index_2 _ _) (SeqAt.list_indexAt p its.toArray n ae #[] u (ju y) j (by simp; lia) ∅ ?_ ?_) ⟨e,λw hw=>sP ru fy r fx w (by simpa using hw),?_⟩
 ·obtain⟨w,q1,q2⟩:=at' j (by simp; lia);rw[q2]; exact h1 w q1
 ·intro m hm hmj;obtain⟨w,q1,q2⟩:=at' m hm;rw[q2]; exact h2 m w hmj q1
 ·exact⟨.int _,H,I.tok _,⟨_,rfl⟩,q⟩
end
abbrev Tx:=List Nat
def tS(l:Tx):Str:=⟨l.toArray⟩
def tV(l:Tx):V:=.str (tS l)
def cI(ls:List Tx):List V:=ls.map tV
theorem nM(l:Tx):(tS l).cps.toList=l:=by simp[tS]
theorem iE(l:Tx):(tS l).length=l.length:=by simp[tS,Str.length]
theorem EY(z:Str):tS z.cps.toList=z:=by cases z; simp[tS]
theorem sW{a b:Tx}(h:tS a=tS b):a=b:=by rw[← nM a,h,nM]
theorem Lu{a b:Tx}(h:tV a=tV b):a=b:=sW (V.str.inj h)
theorem tR(ls:List Tx):(cI ls).length=ls.length:=cX _
def d_(a b:Tx):Bool:=decide (a<=b)
def bO(ls:List Tx):List Tx:=ls.mergeSort d_
theorem Ei(a b c:Tx)(h1:d_ a b=ah)(h2:d_ b c=ah):d_ a c=ah:=by simp only[d_,decide_eq_true_eq]at *;exact List.le_trans h1 h2
theorem K9(a b:Tx):(d_ a b || d_ b a)=ah:=by simp only[d_,BK,decide_eq_true_eq];exact List.le_total a b
theorem Od{a b:Tx}(h1:d_ a b=ah)(h2:d_ b a=ah):a=b:=by simp only[d_,decide_eq_true_eq]at *;exact List.le_antisymm h1 h2
theorem jN(ls:List Tx):(bO ls).Perm ls:=List.mergeSort_perm _ _
theorem wY(ls:List Tx):(bO ls).Pairwise (λa b=>d_ a b=ah):=List.pairwise_mergeSort Ei K9 _
theorem FK(ls:List Tx):(bO ls).length=ls.length:=(jN ls).length_eq
theorem re{ls ms:List Tx}(hp:ms.Perm ls)(hs:ms.Pairwise (λa b=>d_ a b=ah)):ms=bO ls :=List.Perm.eq_of_pairwise (le:=λa b=>d_ a b=ah) (λ_ _ _ _ h1 h2=>Od h1 h2) hs (wY ls) (hp.trans (jN ls).symm)
theorem F8{ls:List Tx}(hs:ls.Pairwise (λa b=>d_ a b=ah)):bO ls=ls:=(re (rQ ls) hs).symm
theorem JC{ls ms:List Tx}(hp:ls.Perm ms):bO ls=bO ms:=re ((jN ls).trans hp) (wY ls)
theorem Eg:∀ (p:Str) (l:List Str),risingS p l=ah->(p::l).Pairwise (λa b=>d_ a.cps.toList b.cps.toList=ah)
 | p,[],_=>List.pairwise_singleton _ _
 | p,x::r,h=>by
  have h':(!ltCps x.cps.toList p.cps.toList && risingS x r)=ah:=h;rw[fc,ltCps_eq]at h';have q:=Eg x r h'.2;have px:d_ p.cps.toList x.cps.toList=ah:=by simp only[d_,decide_eq_true_eq];intro bS;simp[bS]at h'
  refine List.pairwise_cons.mpr ⟨λy hy=>?_,q⟩;rcases bV.mp hy with rfl | hy
  ·exact px
  ·exact Ei _ _ _ px (List.rel_of_pairwise_cons q hy)
theorem GL{ss:List Str}(h:sortedS ss=ah):(ss.map λz=>z.cps.toList).Pairwise (λa b=>d_ a b=ah):=by
 rw[Hw];cases ss with
 | nil=>exact List.Pairwise.nil
 | cons x r=>exact Eg x r h
theorem yy:∀ {ls:List Tx} {us:List ai},bd (cI ls) us->eB us (ls.map tS)
 | [],_,.nil=>.nil
 | l::ls,_::_,.cons ⟨t,e⟩ r=>by subst e; exact .cons _ t (yy (ls:=ls) r)
theorem wF:∀ {ss:List Str} {us:List ai},eB us ss->bd (cI (ss.map λz=>z.cps.toList)) us
 | _,_,.nil=>.nil
 | _,_,.cons y t h=>.cons ⟨t,by rw[EY]⟩ (wF h)
section
variable{X:Cx}
theorem Inv.sorted{ag:List (af×Obj)}{σ:St}{H:Hp}{s1:ao}{ls:List Tx}{ss aF:List Str}{h':aA}{out:Array ai}{e:Nat}(I:Inv X ag σ H s1)(hl:ss=ls.map tS)(ii:ls.length<64)(k:∀ b o,s1.heap.get? b=aa o->h'.get? b=aa o) (ho:h'.get? s1.heap.objs.size=aa (kS "list" out e)) (a1:eB out.toList aF) (a2:aF.Perm ss) (a3:sortedS aF=ah) : Inv X ag σ (upd H s1.heap.objs.size (.lst (cI (bO ls)))) { s1 with heap:=h' }:=by
 have e1:aF.map (λz=>z.cps.toList)=bO ls:=by
  refine re ?_ (GL a3);have:=a2.map λz=>z.cps.toList;rw[hl,eP]at this;have e2:(ls.map ((λz:Str=>z.cps.toList) ∘ tS))=ls:=by simp[Hx,nM]
  rw[e2]at this;exact this
 have hv:bd (cI (bO ls)) out.toList:=by rw[← e1]; exact wF a1
 refine I.laid (t':=s1.toks) k (bp _) ⟨?_,out.toList,e,hv,?_⟩
 ·rw[tR,FK];exact mB (FO ∅)
 ·rw[Array.toArray_toList]; exact ho
theorem LZ(z:Tx)(n:Nat):Txt.mul (tS z) (n:Int)=tS (aU n z).flatten:=by
 unfold Txt.mul;cases n with
 | zero=>simp[tS,n5]
 | succ n=>
  rw[if_neg ∅];split
  ·rename_i h;simp only[BK,beq_iff_eq]at h;rcases h with h | h
   ·have:n=0:=∅
    subst this;simp
   ·rw[iE]at h;have:z=[]:=ut h;subst this;simp
  ·unfold tS;congr 1;have gen:∀ (k:Nat) (bg:Array Nat),(aU k z.toArray).foldl (·++·) bg=bg++(aU k z).flatten.toArray:=by
    intro k
    induction k with
    | zero=>intro bg; simp
    | succ k ih=>intro bg; rw[uo,og,ih,uo,BC]; simp[Array.append_assoc]
   have e:=gen (n+1) #[];simp only[kQ];simpa using e
theorem ND:bU X (jB .Mult) (λx y H Q=>∃ (z:Tx) (n:Nat),x=tV z/\y = .int n/\n<=100/\z.length<=100/\Q (tV (aU n z).flatten) H):=by
 intro ag s σ H x y v u Q I rx ry h;obtain⟨z,n,rfl,rfl,hn,hz,q⟩:=h;obtain⟨t,rfl⟩:=rx;obtain⟨t',rfl⟩:=ry;refine SB.mul ?_ λt2 k=>?_
 ·have hp:z.length * n<=10000:=cr (Nat.mul_le_mul hz hn) (by decide);refine⟨by rw[Bool.or_eq_false_iff]; constructor <;> (apply decide_eq_false; lia),λh1 _=>?_,λh1 _=>?_⟩
  ·rw[iE];intro hgt;have h2:(2 ^ 63-1:Int) / n ≥ (2 ^ 63-1) / 100:=by
    have hn0:(0:Int)<n:=∅
    apply (Int.le_ediv_iff_mul_le hn0).mpr;have:((2 ^ 63-1:Int) / 100) * n<=((2 ^ 63-1) / 100) * 100:=Int.mul_le_mul_of_nonneg_left ∅ (by decide);refine Int.le_trans this (by decide)
   have h3:((2 ^ 63-1:Int) / 100) > 1000:=by decide
   lia
  ·rw[iE,kQ];unfold Builtin.Str.tooLong;apply decide_eq_false;have:10000<a9:=by rw[nZ]; decide
   lia
 ·rw[LZ];exact⟨tV _,H,I.tok _,⟨_,rfl⟩,q⟩
end
theorem L_(t:jf)(j:Nat):(t.put j).1.led=t.led/\(t.put j).1.plain=t.plain:=⟨rfl,rfl⟩
theorem IH(t:jf)(n:Nat):(t.orStandIn n).led=t.led/\((t.orStandIn n).plain=t.plain\/(t.orStandIn n).plain=ak):=by
 unfold SetTable.orStandIn;split
 ·exact⟨rfl,.inl rfl⟩
 ·exact⟨rfl,.inr rfl⟩
theorem JG(t:jf)(es:Array (Int×ai))(h:Int)(x:ai):(layNew t es h x).2.1.led=t.led/\((layNew t es h x).2.1.plain=t.plain\/(layNew t es h x).2.1.plain=ak):=by
 unfold layNew;split
 ·rename_i slot wasDummy _;have h1:=L_ t slot;have h2:=IH (t.put slot).1 (SetTable.insertAt es (t.put slot).2 (h,x)).size;exact⟨h2.1.trans h1.1,by rw[← h1.2]; exact h2.2⟩
 ·exact⟨rfl,.inr rfl⟩
theorem Nk(t:jf)(es:Array (Int×ai))(wanted:Nat)(hp:t.plain=ak):(rR t es wanted).2.1.led=t.led/\(rR t es wanted).2.1.plain=ak:=by
 unfold rR;split
 ·rename_i t' order e;have q:t'.led=t.led/\t'.plain=t.plain:=by
   unfold SetTable.relaid SetTable.laid at e;cases q:SetTable.layClean (SetTable.sizeAbove wanted-1) (es.map (·.1))with
   | none=>rw[q]at e; cases e
   | some ow=>rw[q]at e; cases e; exact⟨rfl,rfl⟩
  dsimp only;split
  ·exact⟨q.1,q.2.trans hp⟩
  ·exact⟨rfl,rfl⟩
 ·exact⟨rfl,rfl⟩
def d9(w:aG):Bool:=w.params.followText "set-order"
structure f6(P:aM)(w:aG)(h:aA)(a:af)(ks:List Str):Prop where
 ex:∃ (es:Array (Int×ai)) (ep:Nat) (t:jf) (ss:List Str),h.get? a=aa { cls:=.type "set",dict:=ae,data:=.set es ep t }/\eB (es.toList.map (·.2)) ss/\ss.Perm ks/\ElemsOf (gF P w) es.toList /\
  es.size<4090/\t.fits es.size=ah/\t.led=(!d9 w)/\(ks≠[]->t.plain=ak)
theorem f6.at{P:aM}{w:aG}{h h':aA}{a:af}{ks:List Str}(S:f6 P w h a ks)(k:∀ o,h.get? a=aa o->h'.get? a=aa o):f6 P w h' a ks:=by obtain⟨es,ep,t,ss,e,r⟩:=S.ex;exact⟨es,ep,t,ss,k _ e,r⟩
theorem FF:∀ {vs:List ai} {ss:List Str},eB vs ss->∀ x,x∈ss↔∃ t,Value.str x t∈vs
 | _,_,.nil,x=>by simp
 | _,_,.cons y t h,x=>by
  rw[bV,FF h x];constructor
  ·rintro(rfl | ⟨t',q⟩)
   ·exact⟨t,mC ..⟩
   ·exact⟨t',jA _ q⟩
  ·rintro⟨t',q⟩;rcases bV.mp q with q | q
   ·cases q; exact .inl rfl
   ·exact .inr ⟨t',q⟩
theorem vV:∀ {us vs:List ai},us.Perm vs->∀ {ss:List Str},eB vs ss->∃ aF,eB us aF/\aF.Perm ss:=by intro us vs p ss h;refine⟨us.map strOf,strsAre_map us λv hv=>h.all v (p.mem_iff.mp hv),?_⟩;have:=p.map strOf;rwa[h.strs]at this
section
variable{P:aM}{w:aG}{A:aR}{E:ai->ao->Prop}{s:ao}
def js(ks:List Str)(x:Str):List Str:=if x∈ks then ks else ks++[x]
theorem f6.put{h:aA}{a:af}{es es':Array (Int×ai)}{ep:Nat}{t t':jf}(e:h.get? a=aa { cls:=.type "set",dict:=ae,data:=.set es ep t }) : (h.update a (Obj.putSet es' t')).get? a=aa { cls:=.type "set",dict:=ae,data:=.set es' (ep+1) t' }:=by have:=p9 (Obj.putSet es' t') e (by rw[putSet_of es' t' rfl]; rfl);rw[putSet_of es' t' rfl]at this;exact this
theorem JT{a:af}{ks:List Str}{x:Str}{tk:Tok}{Q:Bool->ao->Prop}(S:f6 P w s.heap a ks)(hn:ks.length<4000)(h:∀ h' b,mD a s.heap h'->f6 P w h' a (js ks x)->Q b { s with heap:=h' }) : aw (au P w) A (setAddHashed a (.str x tk) ((gF P w).hash x)) Q E s:=by
 obtain⟨es,ep,t,ss,ho,hS,hp,hel,hsz,hf,uJ,cE⟩:=S.ex;have isD:∀ y t',(gF P w).is x (.str y t')=decide (y=x):=λy t'=>by
  show pR x (.str y t')=_;rw[rJ];simp[pR]
  try exact eq_comm
 have kc:(gF P w).is x (.str x tk)=ah:=by rw[isD]; simp
 have hb:es.size<scanBound:=BF hsz (by decide);unfold setAddHashed setAddHashedIn;refine n6 (ar (rS ho rfl hf ?_));dsimp only;rw[byScan_of (knd:=gF P w) (x:=.str x tk) rfl hb hel];simp only[if_true];unfold setAddByScan;refine ar (ar (oh (ar (wpAny_setScan_of kc ho rfl hf hel ?_))));have memx:x∈ks↔∃ e∈es.toList,(gF P w).is x e.2=ah:=by
  rw[← hp.mem_iff,FF hS x];constructor
  ·rintro⟨t',q⟩;obtain⟨e,he,ee⟩:=dW.mp q;exact⟨e,he,by rw[ee,isD]; simp⟩
  ·rintro⟨e,he,q⟩;obtain⟨y,t',ey⟩:=hS.all e.2 (dW.mpr ⟨e,he,rfl⟩);rw[ey,isD]at q;have:y=x:=of_decide_eq_true q;subst this;exact⟨t',dW.mpr ⟨e,he,ey⟩⟩
 have klen:ks.length=es.size:=by
  have e1:=hp.length_eq;have e2:ss.length=es.size:=by rw[← hS.strs]; simp
  lia
 cases hr:List.findIdx? (λe=>(gF P w).is x e.2) es.toList with
 | some j=>dsimp only;obtain⟨hj,hpj,_⟩:=QX.mp hr;have hx:x∈ks:=memx.mpr ⟨_,BJ hj,hpj⟩;refine aQ (aQ ?_);exact h s.heap _ (Heap.SameBut.refl a s.heap) (by unfold js; rw[if_pos hx]; exact S)
 | none=>
  dsimp only;have hx:¬ x∈ks:=λhm=>by obtain⟨e,he,q⟩:=memx.mp hm;have:=List.findIdx?_eq_none_iff.mp hr e he;rw[q]at this;exact Bool.noConfusion this
  have hgw:∀ (b:Bool) {s₁:ao} {Q':Unit->ao->Prop},Q' () s₁->aw (au P w) A (match b with | ah=>rule "set.scan.the-table-gave-way" | ak=>pure ()) Q' E s₁ :=
   λb s₁ Q' hq=>by cases b <;> first | exact aQ hq | exact oh hq
  have ym:=layNew_perm t es ((gF P w).hash x) (.str x tk);have yo:=layNew_fits t es ((gF P w).hash x) (.str x tk);have hmk:=JG t es ((gF P w).hash x) (.str x tk);generalize hL:layNew t es ((gF P w).hash x) (.str x tk)=L at ym yo hmk ⊢;obtain⟨es1,t1,wasDummy,gave⟩:=L;dsimp only at ym yo hmk ⊢;rw[uu]at ym;have hel1:ElemsOf (gF P w) es1.toList:=(hel.push kc rfl).perm ym;have hsz1:es1.size=es.size+1:=by have:=ym.length_eq;simpa using this
  have hS1:∃ uY,eB (es1.toList.map (·.2)) uY/\uY.Perm (js ks x):=by
   have p1:=ym.map (λe:Int×ai=>e.2);rw[mL]at p1;have q1:eB (es.toList.map (·.2)++[Value.str x tk]) (ss++[x]):=by
    have gen:∀ {vs:List ai} {zs:List Str},eB vs zs->eB (vs++[Value.str x tk]) (zs++[x]):=by
     intro vs zs hh
     induction hh with
     | nil=>exact .cons x tk .nil
     | cons y t _ ih=>exact .cons y t ih
    exact gen hS
   obtain⟨uY,r1,r2⟩:=vV p1 q1;refine⟨uY,r1,r2.trans ?_⟩;unfold js;rw[if_neg hx];exact hp.append_right _
  obtain⟨uY,r1,r2⟩:=hS1;have cY:js ks x≠[]:=by unfold js; rw[if_neg hx]; simp
  have tail:∀ t2:jf,t2.fits es1.size=ah->t2.led=(!d9 w)->t2.plain=ak->aw (au P w) A (do
    storeSet a es1 t2
    if(!wasDummy && t2.tooFull)=ah then do
      (match (rR t2 es1 (rT es1.size)).2.2 with | ah=>rule "set.scan.the-table-gave-way" | ak=>pure ())
      storeSet a (rR t2 es1 (rT es1.size)).1 (rR t2 es1 (rT es1.size)).2.1
      pure (aa ah)
     else pure (aa ah)) (λr s'=>∃ h',r=aa ah/\s'={ s with heap:=h' }/\mD a s.heap h'/\f6 P w h' a (js ks x)) E s:=by
   intro t2 hf2 mX fN;refine ar (wpAny_storeSet_of ho rfl ?_ (fits_of_scanBound (BF (show es1.size<4090 by lia) (by decide))));have o1:=f6.put (es':=es1) (t':=t2) ho;have iT:=xV s.heap a (Obj.putSet es1 t2);split
   ·have fO:=relayAll_perm t2 es1 (rT es1.size);have hf3:=relayAll_fits t2 es1 (rT es1.size);have hm3:=Nk t2 es1 (rT es1.size) fN;generalize hRl:rR t2 es1 (rT es1.size)=Rl at fO hf3 hm3 ⊢;obtain⟨es2,t3,gave2⟩:=Rl;dsimp only at fO hf3 hm3 ⊢;have hsz2:es2.size=es1.size:=by have:=fO.length_eq; simpa using this
    refine ar (hgw _ ?_);refine ar (wpAny_storeSet_of o1 rfl ?_ (fits_of_scanBound (BF (show es2.size<4090 by lia) (by decide))));obtain⟨ss2,u1,u2⟩:=vV (fO.map (λe:Int×ai=>e.2)) r1;refine aQ ⟨_,rfl,rfl,iT.trans (xV _ a _),⟨es2,_,t3,ss2,f6.put o1,u1,u2.trans r2,hel1.perm fO,∅,hf3,hm3.1.trans mX,λ_=>hm3.2⟩⟩
   ·exact aQ ⟨_,rfl,rfl,iT,⟨es1,_,t2,uY,o1,r1,r2,hel1,∅,hf2,mX,λ_=>fN⟩⟩
  have Ib:t1.led=(!d9 w):=hmk.1.trans uJ;refine ar (hgw _ ?_);split
  ·refine ar ?_;rw[hashByValue_scannable 8 (x:=.str x tk) rfl];refine aQ ?_;have hk:plainKind (.str x tk)=ak:=rfl;rw[hk];simp only[p_,if_false];refine aX (tail { t1 with plain:=ak } (SetTable.fits_plain_off yo) Ib rfl) λr s' ⟨h',e1,e2,e3,e4⟩=>?_;subst e1 e2;exact aQ (h h' _ e3 e4)
  ·rename_i hpl1;refine ar (aQ ?_);simp only[if_true];refine aX (tail t1 yo Ib (by simpa using hpl1)) λr s' ⟨h',e1,e2,e3,e4⟩=>?_;subst e1 e2;exact aQ (h h' _ e3 e4)
end
def met(val:Nat->Str)(i:Nat):List Str:=((bJ i).map val).foldl js []
theorem FE(val:Nat->Str)(i:Nat):met val (i+1)=js (met val i) (val i):=by unfold met; rw[ur,mL,List.foldl_append]; rfl
theorem EE(val:Nat->Str){i:Nat}:∀ {j:Nat},i<=j->(met val i).length<=(met val j).length
 | 0,h=>by rw[show i=0 by lia]; exact bp _
 | j+1,h=>by
  by_cases e:i=j+1
  ·subst e; exact bp _
  ·refine cr (EE val (j:=j) ∅) ?_;rw[FE];unfold js;split
   ·exact bp _
   ·simp
section
variable{P:aM}{w:aG}{A:aR}{R:Result->ao->Prop}{I:af}{fp wr:List af}{G:Array GenState->Array GenState->Prop}{n:Nat}{Pv:Nat->ai->Prop}{St:Nat->ao->Prop}
theorem Kt(W:WalksS P w A.in1 I fp wr G n Pv St)(S:af)(hSf:S∉fp)(val:Nat->Str)(uK:∀ i v,Pv i v->∃ t,v = .str (val i) t)(hb:∀ i,i<=n->(met val i).length<4000) : ∀ (k i:Nat) (s:ao),n-i=k->i<=n->St i s->f6 P w s.heap S (met val i) -> (∀ s',Moved (S::wr) G s s'->f6 P w s'.heap S (met val n)->R (.ok (.ret .none)) s')->j5 (au P w) A (.builtin "set.update.loop" ⟨[.ref S,.ref I],[]⟩) R s:=by
 have hSw:S∉wr:=λh=>hSf (W.sub _ h);have lR:∀ b∈wr,b∈S::wr:=λb hb=>jA _ hb;intro k
 induction k with
 | zero=>
  intro i s hk hi k7 hS hR;obtain rfl:i=n:=∅
  refine uv QY ?_;rw[xW Hy _];show aw _ A.in1 (pyNext (.ref I) >>= _) _ _ s;refine ar (W.done s _ _ k7 λs' hm=>?_);show aw _ A.in1 (ret Value.none) _ _ s';exact aQ (hR s' (hm.mono lR) (hS.at λo e=>hm.heap S o hSw e))
 | succ k ih=>
  intro i s hk hi k7 hS hR;have bS:i<n:=∅
  refine uv QY ?_;rw[xW Hy _];show aw _ A.in1 (pyNext (.ref I) >>= _) _ _ s;refine ar (W.item i s _ _ bS k7 λv s' hP hst' hm=>?_);obtain⟨t,rfl⟩:=uK i v hP;have uZ:f6 P w s'.heap S (met val i):=hS.at λo e=>hm.heap S o hSw e;show aw _ A.in1 (nX [Value.str (val i) t] (setAdd S (.str (val i) t)) >>= _) _ _ s';refine ar (n6 ?_);unfold setAdd;refine n6 ?_;have kc:(gF P w).is (val i) (.str (val i) t)=ah:=by show pR (val i) (.str (val i) t)=ah;simp[pR]
  refine ar ((gF P w).pyHash (k:=val i) kc ?_);have Q8:(met val i).length<4000:=hb i (mB bS);refine JT (s:={ s' with toks:=s'.toks+1 }) uZ Q8 λh' b mY oz=>?_;rw[← FE]at oz;refine aQ ⟨BL Hy _,ih (i+1) _ ∅ bS (W.frame _ s' _ _ hst' (um _) λb hb o e=>?_) oz λs'' hm'' hS''=>?_⟩
  ·rw[mY.2 b (λh:b=S=>hSf (by rw[← h]; exact hb))]; exact e
  ·refine hR s'' (Moved.trans W.gtrans ((hm.mono lR).then_heap (um _) λb o hb e=>?_) hm'') hS'';rw[mY.2 b (λh:b=S=>hb (by rw[h]; exact mC))]; exact e
end
section
variable{P:aM}{w:aG}{A:aR}{E:ai->ao->Prop}{s:ao}
theorem LJ(a:ai){Q:ai->ao->Prop} (h:f6 P w (s.heap.push { cls:=.type "set",dict:=ae,data:=.set #[] 0 (.fresh 0 0 (!d9 w)) }) s.heap.objs.size [] -> Q (.ref s.heap.objs.size) { s with heap:=s.heap.push { cls:=.type "set",dict:=ae,data:=.set #[] 0 (.fresh 0 0 (!d9 w)) } }) : j5 (au P w) A (.call (.builtin "set.__new__") ⟨[.type "set",a],[]⟩) (wants Q E) s:=by
 refine codeAny_of_tree ?_;show aw _ A.in1 (do Hz "set.__new__" ⟨[.type "set",a],[]⟩; again (.builtin "set.__new__" ⟨[.type "set",a],[]⟩)) _ _ s;refine ar (wpAny_of_eq (PySem.F.newCall_set_1 a) (aQ ⟨BL F.plain_set_new _,uv F.entry_set_new ?_⟩));rw[xW F.plain_set_new _];unfold Builtin.«set.__new__» Builtin.Frozenset.newClass;have lR:=sub_set_self;obtain⟨hp,g,d,tk,os⟩:=s;dsimp only
 wp_walk
 refine rV (aQ ?_);dsimp only;simp only[newObj];refine ar (wpAny_alloc (aQ ?_));refine aQ (h ⟨#[],0,_,[],cW _ rfl,.nil,rQ _,λe he=>by simp at he,by decide,rfl,rfl,λh=>absurd rfl h⟩)
end
end L2
set_option maxHeartbeats 8000000
namespace L2
theorem IG:entryFor table "set.__iter__" = aa Builtin.«frozenset.__iter__»:=entryFor_alias (id':="frozenset.__iter__") (by kernel_rfl) rfl (by decide +kernel) (by kernel_rfl)
theorem DK:Slot "set_iterator" "__next__" "set_iterator.__next__" :=
 .of (owner:="set_iterator") (n:="__next__") (by rw[typeLookup_type,builtinLookup_eq_fast]; kernel_rfl) (by decide +kernel) (by decide +kernel) (by decide +kernel) (by first | exact .inl (by decide +kernel) | exact .inr (by decide +kernel)) (by rw[isSubtype_type]; kernel_rfl)
theorem LU:entryFor table "set_iterator.__next__" = aa Builtin.«set_iterator.__next__»:=entryFor_of_fast (by kernel_rfl)
theorem MV(a:ai):argsOk "set_iterator.__next__" ⟨[a],[]⟩:=by unfold argsOk; kernel_rfl
theorem Cm:Slot "set_iterator" "__iter__" "set_iterator.__iter__" :=
 .of (owner:="set_iterator") (n:="__iter__") (by rw[typeLookup_type,builtinLookup_eq_fast]; kernel_rfl) (by decide +kernel) (by decide +kernel) (by decide +kernel) (by first | exact .inl (by decide +kernel) | exact .inr (by decide +kernel)) (by rw[isSubtype_type]; kernel_rfl)
theorem MU:entryFor table "set_iterator.__iter__" = aa Builtin.«dict_keyiterator.__iter__»:=entryFor_alias (id':="dict_keyiterator.__iter__") (by kernel_rfl) rfl (by decide +kernel) (by kernel_rfl)
theorem Ij(a:ai):argsOk "set_iterator.__iter__" ⟨[a],[]⟩:=by unfold argsOk; kernel_rfl
def iD(first:ai)(i:Nat)(a:af)(n ep:Nat):Obj:={ cls:=.type "set_iterator",data:=.fields #[first,.int i 0,.ref a,.int n 0,.int ep 0] }
section
variable{P:aM}{w:aG}{A:aR}{E:ai->ao->Prop}{s:ao}
theorem vh{I a:af}{first:ai}{i n ep:Nat}{Q:ai->ao->Prop}(h:s.heap.get? I=aa (iD first i a n ep))(hQ:Q (.ref I) s):aw (au P w) A (nY (.ref I)) Q E s:=by
 have hT:s.TypeIs (.ref I) "set_iterator":=⟨_,h,rfl⟩
 refine wpAny_pyIter_slot hT Cm (xL Cm hT MU ?_ (Ij _));show aw _ _ (ret (.ref I)) _ _ s;exact aQ ⟨_,rfl,"set_iterator",_,hT,DK.lookup,hQ⟩
theorem o_{I a:af}{first:ai}{i:Nat}{es:Array (Int×ai)}{ep:Nat}{t:jf}{Q:Option ai->ao->Prop}(ha:s.heap.get? a=aa { cls:=.type "set",dict:=ae,data:=.set es ep t })(hf:t.fits es.size=ah)(hI:s.heap.get? I=aa (iD first i a es.size ep))(h:aw (au P w) A.in1 (if let .int slot _:=first then do
    match ← mM a slot.toNat (i:Int).toNat (ep:Int).toNat with
    | some (x,next)=>do
     mO (.ref I) 0 (et next)
     mO (.ref I) 1 (et ((i:Int)+1))
     ret x
    | none=>do mO (.ref I) 2 .none; raiseNew (← newExc (.type "StopIteration") [])
   else do
    let aa places ← seqItems? first | unsupported "internal:set_iterator"
    match places[(i:Int).toNat]? with
    | some (.int place _)=>do
     let x ← setNextDrawn a place.toNat (ep:Int).toNat
     mO (.ref I) 1 (et ((i:Int)+1))
     ret x
    | some _=>unsupported "internal:set_iterator"
    | none=>do mO (.ref I) 0 (et 0); mO (.ref I) 2 .none; raiseNew (← newExc (.type "StopIteration") []))
   (λfin s'=>∃ r,fin = .done (.ret r)/\Q (aa r) s') (λe s'=>aw (au P w) A (do if ← isInstance e (.type "StopIteration")then pure ae else throw e) Q E s') s) :
  aw (au P w) A (pyNext (.ref I)) Q E s:=by
 have hT:s.TypeIs (.ref I) "set_iterator":=⟨_,hI,rfl⟩
 unfold pyNext;refine ar (wpAny_attempt (wpAny_callSpecial?_slot (name:=b0 "__next__") hT DK (xL DK hT LU ?_ (MV _))));unfold Builtin.«set_iterator.__next__» slotArgs;refine ar (aQ ?_);refine ar (wpAny_fieldsOf hI rfl ?_);show aw _ _ (setEntries a >>= _) _ _ s;refine ar (wpAny_setEntries_of ha rfl hf ?_);have e0:(((es.size:Nat):Int) != ((es.size:Nat):Int))=ak:=by simp
 rw[e0];simp only[p_,if_false];refine dZ ?_ (λfin s' q=>?_) (λe s' q=>q) (Q:=λfin s'=>∃ r,fin = .done (.ret r)/\Q (aa r) s') (E:=λe s'=>aw (au P w) A (do if ← isInstance e (.type "StopIteration")then pure ae else throw e) Q E s')
 ·exact h
 ·obtain⟨r,e1,e2⟩:=q;exact⟨r,e1,aQ e2⟩
end
theorem AT{α:Type}:∀ {l:List α} {i:Nat} (h:i<l.length),(l[i]::l.eraseIdx i).Perm l
 | [],i,h=>by simp at h
 | x::r,0,h=>by simp
 | x::r,i+1,h=>by have q:=AT (l:=r) (i:=i) (by simpa using h);simp only[List.getElem_cons_succ,List.eraseIdx_cons_succ];exact(List.Perm.swap x _ _).trans (List.Perm.cons x q)
theorem Ej{α:Type}(next:Nat->Nat):∀ (kX k:Nat) (left:List α) (out:Array α),kX=left.length->(pickOrder.go next kX k left out).toList.Perm (out.toList++left)
 | 0,k,left,out,h=>by have:left=[]:=ut h.symm;subst this;simp[pickOrder.go]
 | kX+1,k,left,out,h=>by
  have bS:next k % left.length<left.length:=Nat.mod_lt _ ∅
  unfold pickOrder.go;rw[fK bS];dsimp only;have ih:=Ej next kX (k+1) (left.eraseIdx (next k % left.length)) (out.push left[next k % left.length]) (by rw[List.length_eraseIdx,if_pos bS]; lia)
  refine ih.trans ?_;rw[uu,gb];exact HA _ (AT bS)
theorem D9{α:Type}(next:Nat->Nat)(xs:Array α):(uw next xs).toList.Perm xs.toList:=by
 have:=Ej next xs.size 0 xs.toList #[] (by simp)
 simpa[uw]using this
section
variable{P:aM}{w:aG}{A:aR}{E:ai->ao->Prop}{s:ao}
theorem N5{src:Source}{n:Nat}{Q:Nat->ao->Prop}(hn:n≠0)(h:∀ k d,k<n->Q k { s with drawn:=d }):aw (au P w) A (choose src n) Q E s:=λΓ p hΓ=>by unfold choose;rw[Sem.wp_choose];refine⟨hn,?_⟩;exact h _ _ (Nat.mod_lt _ (Nat.pos_of_ne_zero hn))
theorem Ec{α:Type}:∀ (n:Nat) (xs:List α) (s:ao) (Q:List α->ao->Prop),n=xs.length->(∀ ys d,ys.Perm xs->Q ys { s with drawn:=d })->aw (au P w) A (drawOrder n xs) Q E s
 | 0,[],s,Q,_,h=>by unfold drawOrder;exact aQ (h [] s.drawn (rQ _))
 | 0,x::xs,s,Q,hn,h=>by simp at hn
 | n+1,[],s,Q,hn,h=>by simp at hn
 | n+1,x::xs,s,Q,hn,h=>by unfold drawOrder;refine ar (N5 (by simp) λk d hk=>?_);rw[fK hk];dsimp only;refine ar (Ec n ((x::xs).eraseIdx k) _ _ (by rw[List.length_eraseIdx,if_pos hk]; lia) λys d' hy=>?_);refine aQ (h _ d' ?_);exact(List.Perm.cons _ hy).trans (AT hk)
theorem vt{Q:Option ai->ao->Prop}{R:Fin->ao->Prop}(hh:A.handled=ae)(hQ:∀ h',(∀ b o,s.heap.get? b=aa o->h'.get? b=aa o)->Q ae { s with heap:=h' }) : aw (au P w) A.in1 (do raiseNew (← newExc (.type "StopIteration") [])) R (λe s'=>aw (au P w) A (do if ← isInstance e (.type "StopIteration")then pure ae else throw e) Q E s') s:=by
 refine ar ?_;simp only[newExc,newTuple];refine ar (mK ?_ (by size_fits)); refine ar (m:=firstArgMember _ _) (wpAny_of_eq (a:=Value.none) (by first | rfl | (simp only[firstArgMember]; rfl)) ?_);refine mK ?_ (by size_fits); simp only[raiseNew];refine ar (wpAny_handled ?_); rw[show A.in1.handled=ae from hh];refine ar (aQ (wpAny_throw ?_)); refine ar (wpAny_isInstance (T:="StopIteration") (b:=ah) ⟨_,cW _ rfl,rfl⟩ isSubtype_stop ?_);exact aQ (hQ _ λb o e=>bG _ (bG _ e))
theorem As{I a:af}{first f':ai}{i n ep:Nat}{Q:Unit->ao->Prop}(hI:s.heap.get? I=aa (iD first i a n ep))(h:∀ h',mD I s.heap h'->h'.get? I=aa (iD f' i a n ep)->Q () { s with heap:=h' }) : aw (au P w) A (mO (.ref I) 0 f') Q E s:=by refine rW hI rfl (by simp[iD]) (h _ (xV ..) ?_);rw[p9 _ hI (by rfl)];rfl
theorem zf{I a:af}{first:ai}{i n ep:Nat}{Q:Unit->ao->Prop}(hI:s.heap.get? I=aa (iD first i a n ep))(h:∀ h',mD I s.heap h'->h'.get? I=aa (iD first (i+1) a n ep)->Q () { s with heap:=h' }) : aw (au P w) A (mO (.ref I) 1 (et ((i:Int)+1))) Q E s:=by refine rW hI rfl (by simp[iD]) (h _ (xV ..) ?_);rw[p9 _ hI (by rfl)];rfl
theorem v9{I a:af}{first:ai}{i n ep:Nat}{Q:Unit->ao->Prop}(hI:s.heap.get? I=aa (iD first i a n ep))(h:∀ h',mD I s.heap h'->(∃ o,h'.get? I=aa o)->Q () { s with heap:=h' }) : aw (au P w) A (mO (.ref I) 2 .none) Q E s:=by refine rW hI rfl (by simp[iD]) (h _ (xV ..) ⟨_,p9 _ hI (by rfl)⟩)
abbrev pG(es:Array (Int×ai))(ep:Nat)(t:jf):Obj:={ cls:=.type "set",dict:=ae,data:=.set es ep t }
theorem NI{I a:af}{es:Array (Int×ai)}{ep:Nat}{t:jf}(cY:a≠I)(hf:t.fits es.size=ah)(hb:d9 w=ah)(hh:A.handled=ae) : Walks P w A I [I,a] [I] es.size (λi v=>((uw (w.params.setOrder a ep) es).toList.map (·.2))[i]?=aa v) (λi h=>h.get? I=aa (iD (et 0) i a es.size ep)/\h.get? a=aa (pG es ep t)):=by
 have hsz:(uw (w.params.setOrder a ep) es).size=es.size:=by have:=(D9 (w.params.setOrder a ep) es).length_eq; simpa using this
 have body:∀ (s:ao) (i:Nat) (Q:Option (ai×Nat)->ao->Prop) (E:ai->ao->Prop),s.heap.get? a=aa (pG es ep t) ->
   Q (((uw (w.params.setOrder a ep) es)[i]?).map λe=>(e.2,0)) s->aw (au P w) A.in1 (mM a (0:Int).toNat (i:Int).toNat (ep:Int).toNat) Q E s:=λs i Q E ha hq=>by
  unfold mM;refine ar (rS ha rfl hf ?_);unfold xX;refine ar (ar (rV (aQ ?_)));show aw _ _ (if d9 w=ah then _ else _) _ _ s;rw[if_pos hb];simp only[kQ,bne_self_eq_false,p_,if_false];unfold setWalk;refine ar (ar (rS ha rfl hf ?_));unfold xX;refine ar (ar (rV (aQ ?_)));show aw _ _ (if d9 w=ah then _ else _) _ _ s;rw[if_pos hb];refine ar (rV (aQ (aQ ?_)));exact hq
 refine⟨λb hb=>by simp at hb; simp[hb],λi h h' st k=>⟨k I (by simp) _ st.1,k a (by simp) _ st.2⟩,λi s Q E hi st hQ=>?_,λs Q E st hQ=>?_,λi s Q E st hQ=>vh st.1 hQ⟩
 ·refine o_ st.2 hf st.1 ?_;refine ar (body s i _ _ st.2 ?_);have bS:i<(uw (w.params.setOrder a ep) es).size:=∅
  rw[BM bS];dsimp only[ux];refine ar (As st.1 λh1 iT e1=>?_);refine ar (zf (s:={ s with heap:=h1 }) e1 λh2 k_ e2=>?_);refine aQ ⟨_,rfl,hQ _ h2 s.toks ?_ ⟨e2,?_⟩ λb o hb e=>?_⟩
  ·rw[j9];simp[BM bS]
  ·exact(k_.2 a cY).trans ((iT.2 a cY).trans st.2)
  ·exact(k_.2 b (by simpa using hb)).trans ((iT.2 b (by simpa using hb)).trans e)
 ·refine o_ st.2 hf st.1 ?_;refine ar (body s es.size _ _ st.2 ?_);rw[Array.getElem?_eq_none ∅];dsimp only[Option.map_none];refine ar (v9 st.1 λh1 iT _=>?_);exact vt (s:={ s with heap:=h1 }) hh λh2 k2=>hQ h2 s.toks λb o hb e=>k2 b o ((iT.2 b (by simpa using hb)).trans e)
theorem QH{I a T:af}{es:Array (Int×ai)}{ep:Nat}{t:jf}{ord:List Nat}(cY:a≠I)(hT:T≠I)(hf:t.fits es.size=ah)(hp:ord.Perm (bJ es.size))(hh:A.handled=ae) : Walks P w A I [I,a,T] [I] es.size (λi v=>(ord.filterMap λj=>(es[j]?).map (·.2))[i]?=aa v) (λi h=>h.get? I=aa (iD (.ref T) i a es.size ep)/\h.get? a=aa (pG es ep t)/\h.get? T=aa { cls:=.type "tuple",data:=.seq (ord.map λ(k:Nat)=>et k).toArray }):=by
 have hol:ord.length=es.size:=by simpa using hp.length_eq
 have hmem:∀ j∈ord,j<es.size:=λj hj=>by simpa using hp.mem_iff.mp hj
 have fm:∀ (l:List Nat),(∀ j∈l,j<es.size)->∀ (i j:Nat),l[i]?=aa j->∃ e:Int×ai,es[j]?=aa e/\(l.filterMap λj=>(es[j]?).map (·.2))[i]?=aa e.2:=by
  intro l
  induction l with
  | nil=>intro _ i j h; simp at h
  | cons x r ih=>
   intro hl i j h;have hx:x<es.size:=hl x (mC ..);have ex:es[x]?=aa es[x]:=BM hx;cases i with
   | zero=>simp at h;subst h;exact⟨_,ex,by rw[pV,ex]; rfl⟩
   | succ i=>obtain⟨e,q1,q2⟩:=ih (λj hj=>hl j (jA _ hj)) i j (by simpa using h);exact⟨e,q1,by rw[pV,ex]; simpa using q2⟩
 have tupR:∀ (s:ao) (Q:Option (Array ai)->ao->Prop) (E:ai->ao->Prop),s.heap.get? T=aa { cls:=.type "tuple",data:=.seq (ord.map λ(k:Nat)=>et k).toArray }->Q (aa (ord.map λ(k:Nat)=>et k).toArray) s->aw (au P w) A.in1 (seqItems? (.ref T)) Q E s:=λs Q E ht hq=>by exact wpAny_seqItems ht rfl hq
 refine⟨λb hb=>by simp at hb; simp[hb],λi h h' st k=>⟨k I (by simp) _ st.1,k a (by simp) _ st.2.1,k T (by simp) _ st.2.2⟩,λi s Q E hi st hQ=>?_,λs Q E st hQ=>?_,λi s Q E st hQ=>vh st.1 hQ⟩
 ·refine o_ st.2.1 hf st.1 ?_;refine ar (tupR s _ _ st.2.2 ?_);have bS:i<ord.length:=∅
  have e1:((ord.map λ(k:Nat)=>et k).toArray)[(i:Int).toNat]?=aa (et (ord[i]:Nat)):=by simp[bS]
  dsimp only;rw[e1];obtain⟨e,q1,q2⟩:=fm ord hmem i ord[i] (fK bS);show aw _ _ (setNextDrawn a _ _ >>= _) _ _ s;refine ar ?_;unfold setNextDrawn;refine ar (rS st.2.1 rfl hf ?_);simp only[kQ,bne_self_eq_false,p_,if_false];rw[q1];refine aQ ?_;refine ar (zf st.1 λh2 k_ e2=>?_);refine aQ ⟨_,rfl,hQ _ h2 s.toks q2 ⟨e2,(k_.2 a cY).trans st.2.1,(k_.2 T hT).trans st.2.2⟩ λb o hb e=>(k_.2 b (by simpa using hb)).trans e⟩
 ·refine o_ st.2.1 hf st.1 ?_;refine ar (tupR s _ _ st.2.2 ?_);have e1:((ord.map λ(k:Nat)=>et k).toArray)[(es.size:Int).toNat]?=ae:=by simp[hol]
  dsimp only;rw[e1];refine ar (As st.1 λh1 iT e1=>?_);refine ar (v9 (s:={ s with heap:=h1 }) e1 λh2 k_ _=>?_);exact vt (s:={ s with heap:=h2 }) hh λh3 k3=>hQ h3 s.toks λb o hb e=>k3 b o ((k_.2 b (by simpa using hb)).trans ((iT.2 b (by simpa using hb)).trans e))
theorem Jr(j k:Nat):QZ #[j] k=if j<k then 1 else 0:=by
 unfold QZ;simp only[cC,dq,kR];unfold HB;simp;split
 ·rename_i h;unfold HB;simp
 ·unfold HB;simp
theorem JL{I a:af}{es:Array (Int×ai)}{ep:Nat}{t:jf}(cY:a≠I)(hf:t.fits es.size=ah)(hb:d9 w=ak)(uJ:t.led=ah)(h1:es.size=1)(hh:A.handled=ae) : Walks P w A I [I,a] [I] 1 (λi v=>(es.toList.map (·.2))[i]?=aa v) (λi h=>h.get? I=aa (iD (et (if i=0 then 0 else((t.place.getD 0 0:Nat):Int)+1)) i a es.size ep)/\h.get? a=aa (pG es ep t)):=by
 have hps:t.place.size=1:=by simp only[SetTable.fits,fc,beq_iff_eq]at hf;lia
 obtain⟨j,hj⟩:∃ j,t.place = #[j]:=by
  match hq:t.place,hps with
  | ⟨[j]⟩,_=>exact⟨j,rfl⟩
 have gj:((t.place.getD 0 0:Nat):Int)=(j:Int):=by rw[hj]; rfl
 obtain⟨e,he⟩:∃ e,es = #[e]:=by
  match hq:es,h1 with
  | ⟨[e]⟩,_=>exact⟨e,rfl⟩
 have body:∀ (s:ao) (slot:Nat) (i:Nat) (Q:Option (ai×Nat)->ao->Prop) (E:ai->ao->Prop),s.heap.get? a=aa (pG es ep t) ->
   Q (if j<slot then ae else aa (e.2,j+1)) s->aw (au P w) A.in1 (mM a slot i ep) Q E s:=λs slot i Q E ha hq=>by
  unfold mM;refine ar (rS ha rfl hf ?_);unfold xX;refine ar (ar (rV (aQ ?_)));show aw _ _ (if d9 w=ah then _ else _) _ _ s;rw[if_neg (by rw[hb]; decide)];refine xY (λhc=>absurd (show(!t.plain && decide (es.size > 1))=ah from hc) (by rw[h1]; simp)) (λ_=>?_);refine ar ?_;refine dZ (Q:=λ_ s'=>s'=s) (E:=E) ?_ (λ_ s' hs'=>?_) (λ_ _ x=>x)
  ·refine xY (λhc=>absurd (show(!t.led && !es.isEmpty)=ah from hc) (by rw[uJ]; simp)) (λ_=>aQ rfl)
  ·subst hs';rw[hj,Jr,he];by_cases bS:j<slot
   ·rw[if_pos bS]at hq ⊢;exact aQ hq
   ·rw[if_neg bS]at hq ⊢;exact aQ hq
 refine⟨λb hb=>by simp at hb; simp[hb],λi h h' st k=>⟨k I (by simp) _ st.1,k a (by simp) _ st.2⟩,λi s Q E hi st hQ=>?_,λs Q E st hQ=>?_,λi s Q E st hQ=>vh st.1 hQ⟩
 ·obtain rfl:i=0:=∅
  refine o_ st.2 hf st.1 ?_;show aw _ _ (mM a (0:Int).toNat ((0:Nat):Int).toNat (ep:Int).toNat >>= _) _ _ s;simp only[kQ,Int.toNat_zero];refine ar (body s 0 0 _ _ st.2 ?_);rw[if_neg (Nat.not_lt_zero j)];dsimp only;refine ar (As st.1 λh1 iT e1=>?_);refine ar (zf (s:={ s with heap:=h1 }) e1 λh2 k_ e2=>?_);refine aQ ⟨_,rfl,hQ _ h2 s.toks ?_ ⟨?_,?_⟩ λb o hb e=>?_⟩
  ·rw[he]; rfl
  ·rw[e2,if_neg (by decide),gj]; rfl
  ·exact(k_.2 a cY).trans ((iT.2 a cY).trans st.2)
  ·exact(k_.2 b (by simpa using hb)).trans ((iT.2 b (by simpa using hb)).trans e)
 ·refine o_ st.2 hf st.1 ?_;rw[if_neg (by decide),gj];show aw _ _ (mM a ((j:Int)+1).toNat ((1:Nat):Int).toNat (ep:Int).toNat >>= _) _ _ s;have e1:((j:Int)+1).toNat=j+1:=∅
  rw[e1,kQ,kQ];refine ar (body s (j+1) 1 _ _ st.2 ?_);rw[if_pos (lO j)];dsimp only;refine ar (v9 st.1 λh1 iT _=>?_);exact vt (s:={ s with heap:=h1 }) hh λh2 k2=>hQ h2 s.toks λb o hb e=>k2 b o ((iT.2 b (by simpa using hb)).trans e)
theorem Fs:∀ {vs:List ai} {ss:List Str} (i:Nat) (v:ai),eB vs ss->vs[i]?=aa v->∃ t,v = .str (ss.getD i n5) t
 | _,_,i,v,.nil,h=>by simp at h
 | _,_,0,v,.cons y t _,h=>by simp at h; exact⟨t,by rw[← h]; rfl⟩
 | _,_,i+1,v,.cons y t hr,h=>by simp only[List.getElem?_cons_succ]at h;obtain⟨t',e⟩:=Fs i v hr h;exact⟨t',by rw[e]; rfl⟩
set_option maxRecDepth 100000 in
theorem Mz{l:af}{items:Array ai}{ss:List Str}{Q:ai->ao->Prop}(hh:A.handled=ae)(hl:s.heap.IsList l items)(hi:eB items.toList ss)(hb:(met (λi=>ss.getD i n5) items.size).length<4000)(h:∀ (h':aA) (tk:Nat),f6 P w h' s.heap.objs.size (met (λi=>ss.getD i n5) items.size)->(∀ b o,b<s.heap.objs.size->s.heap.get? b=aa o->h'.get? b=aa o)->Q (.ref s.heap.objs.size) { s with heap:=h',toks:=tk }) : aw (au P w) A (call (.type "set") [.ref l]) Q E s:=by
 obtain⟨c,tl,hmro⟩:=F.called_set.mro; have hmade:=F.called_set.made; have lR:=F.called_set.sub;refine rL (codeAny_of_tree ?_);show aw _ _ (callAny (.type "set") _) _ _ _; refine aQ ⟨Code.quiet_builtin _ (by decide +kernel),uv F.entry_type_call ?_⟩;rw[Around.under_plain (weight_type_call_type "set" [.ref l] []) rfl]; have h1:=F.called_set.notType; have h2:=F.called_set.canCreate;have hct:=PySem.F.typeCall_set_1 (.ref l)
 repeat any_goals (first | assumption | wp_step)
 refine mH (LJ (P:=P) (w:=w) (.ref l) (E:=E) (Q:=λobj s1=>obj = .ref s.heap.objs.size/\s1={ s with heap:=s.heap.push { cls:=.type "set",dict:=ae,data:=.set #[] 0 (.fresh 0 0 (!d9 w)) } }/\f6 P w s1.heap s.heap.objs.size []) λS0=>⟨rfl,rfl,S0⟩) λr s1 hr=>?_;cases r with
 | error e=>exact hr
 | ok fl=>
  cases fl with
  | ret obj=>
   obtain⟨rfl,rfl,S0⟩:=hr;have hS:=cW (h:=s.heap) (o:=({ cls:=.type "set",dict:=ae,data:=.set #[] 0 (.fresh 0 0 (!d9 w)) }:Obj));have uZ:(s.heap.push { cls:=.type "set",dict:=ae,data:=.set #[] 0 (.fresh 0 0 (!d9 w)) }).get? s.heap.objs.size=aa { cls:=.type "set",dict:=ae,data:=.set #[] 0 (.fresh 0 0 (!d9 w)) }:=cW _ rfl;have hT:Shared.TypeIs { s with heap:=s.heap.push { cls:=.type "set",dict:=ae,data:=.set #[] 0 (.fresh 0 0 (!d9 w)) } } (.ref s.heap.objs.size) "set":=⟨_,uZ,rfl⟩
   have hli:=F.called_set.init.lookup; have hbi:=F.called_set.init.bind (.ref s.heap.objs.size)
   repeat any_goals (first | assumption | wp_step)
   refine mH (codeAny_call_builtin (R:=wants (λr s2=>r = .none/\∃ h' tk,s2={ s with heap:=h',toks:=tk }/\f6 P w h' s.heap.objs.size (met (λi=>ss.getD i n5) items.size) /\ (∀ b o,b<s.heap.objs.size->s.heap.get? b=aa o->h'.get? b=aa o)) E) F.called_set.init.plain F.entry_set_init (check_set_init_1 hT ?_)) λr2 s2 sq=>?_
   ·obtain⟨⟨ocls,odict,odata,oslots⟩,hol,uW,nl,hdl⟩:=hl;simp only at uW hdl; subst uW; subst hdl;have hol':(s.heap.push { cls:=.type "set",dict:=ae,data:=.set #[] 0 (.fresh 0 0 (!d9 w)) }).get? l=aa { cls:=.type "list",dict:=odict,data:=.seq items nl,slots:=oslots }:=bG _ hol;have hsls:=PySem.F.sub_list_set; have hslf:=PySem.F.sub_list_frozenset; have cY:(Value.type "list" == Value.type "dict")=ak:=by decide
    have uX:(s.heap.push { cls:=.type "set",dict:=ae,data:=.set #[] 0 (.fresh 0 0 (!d9 w)) }).IsList l items:=⟨_,hol',rfl,nl,rfl⟩
    unfold Builtin.«set.__init__» noKeywords Builtin.Frozenset.updateFrom; generalize hPI:nY=PI
    wp_walk
    subst hPI;refine Hu uX (ar (wpAny_runValue ?_));have hlS:l<s.heap.objs.size:=bP hol;have hh3:A.in1.in1.in1.handled=ae:=by simp[hh]
    have hsz:(s.heap.push { cls:=.type "set",dict:=ae,data:=.set #[] 0 (.fresh 0 0 (!d9 w)) }).objs.size=s.heap.objs.size+1:=uk ..;have hneI:l≠(s.heap.push { cls:=.type "set",dict:=ae,data:=.set #[] 0 (.fresh 0 0 (!d9 w)) }).objs.size:=by rw[hsz]; exact dH (lQ hlS)
    have hSf:s.heap.objs.size∉[(s.heap.push { cls:=.type "set",dict:=ae,data:=.set #[] 0 (.fresh 0 0 (!d9 w)) }).objs.size,l]:=by rw[hsz]; simp only[bV,gG,kT,or_false,not_or]; exact⟨dH (lO _),rH hlS⟩
    refine Kt ((Walks.list hh3 _ l hneI items).toS) s.heap.objs.size hSf (λi=>ss.getD i n5) (λi v hv=>Fs i v hi (by rw[xN]; exact hv)) (λi hi=>xQ (EE _ hi) hb) (items.size-0) 0 _ ∅ (mG _)
     ⟨⟨_,cW _ rfl,rfl,rfl⟩,(uX.push _)⟩ (S0.at λo e=>bG _ e) ?_
    intro s' hm oz;obtain⟨h',g',d',tk',os'⟩:=s';obtain rfl:g'=s.gens:=hm.gens;obtain rfl:d'=s.drawn:=hm.drawn;obtain rfl:os'=s.os:=hm.os;show aw _ _ _ _ _ _;refine aQ ?_;show aw _ _ (ret Value.none) _ _ _;refine aQ ⟨rfl,h',tk',rfl,oz,λb o hb e=>hm.heap b o ?_ (bG _ (bG _ e))⟩;rw[hsz]; simp only[bV,gG,kT,or_false,not_or]; exact⟨dH hb,dH (lQ hb)⟩
   ·cases r2 with
    | error e=>exact sq
    | ok fl2=>
     cases fl2 with
     | ret r=>
      obtain⟨rfl,h',tk,rfl,oz,u0⟩:=sq
      repeat any_goals (first | assumption | wp_step)
      exact h _ _ oz u0
     | _=>exact sq.elim
  | _=>exact hr.elim
end
theorem Gs{n:Nat}(h:n<=4096):n<a9:=xQ h (by decide)
theorem Oq:typeLookup (.type "set") "__len__" = pure (aa (.builtin "set.__len__")):=F.slot_set_len.lookup
section
variable{P:aM}{w:aG}{A:aR}{E:ai->ao->Prop}{s:ao}
structure Fl(P:aM)(w:aG)(s s':ao)(a I:af)(ks:List Str)(fp:List af)(n:Nat)(Pv:Nat->ai->Prop)(St:Nat->aA->Prop):Prop where
 wk:∀ A:aR,A.handled=ae->Walks P w A I fp [I] n Pv St
 st:St 0 s'.heap
 old:∀ b o,s.heap.get? b=aa o->s'.heap.get? b=aa o
 new:s.heap.objs.size<=I
 lt:∀ b∈fp,b<s'.heap.objs.size
 rest:s'={ s with heap:=s'.heap,drawn:=s'.drawn }
 ord:∀ bg:Array ai,ItemsOf Pv bg n->∃ ss,eB bg.toList ss/\ss.Perm ks
 len:n<4090
 fps:∀ b∈fp,b=a\/s.heap.objs.size<=b
theorem wC{l:List ai}{bg:Array ai}{n:Nat}(hl:l.length=n)(h:ItemsOf (λi v=>l[i]?=aa v) bg n):bg.toList=l:=by
 refine ka λi=>?_;by_cases hi:i<n
 ·have:i<bg.size:=by rw[h.1]; exact hi
  have q:=h.2 i bg[i] (BM this);rw[q];simp[this]
 ·rw[jg (by rw[mF,h.1]; lia),jg ∅]
end
def eW(ls:List Tx):List Tx:=ls.foldl (λks x=>if x∈ks then ks else ks++[x]) []
theorem C5(ls:List Tx):met (λi=>(ls.map tS).getD i n5) ls.length=(eW ls).map tS:=by
 have gen:∀ (l:List Tx) (bg:List Tx),(l.map tS).foldl js (bg.map tS)=(l.foldl (λks x=>if x∈ks then ks else ks++[x]) bg).map tS:=by
  intro l
  induction l with
  | nil=>intro bg; rfl
  | cons x r ih=>
   intro bg;rw[fI,og,og];have:js (bg.map tS) (tS x)=(if x∈bg then bg else bg++[x]).map tS:=by
    unfold js;have hm:tS x∈bg.map tS↔x∈bg:=by rw[dW];exact⟨λ⟨y,hy,e⟩=>by rw[← sW e]; exact hy,λh=>⟨x,h,rfl⟩⟩
    by_cases h:x∈bg
    ·rw[if_pos h,if_pos (hm.mpr h)]
    ·rw[if_neg h,if_neg (λz=>h (hm.mp z)),mL]; rfl
   rw[this,ih]
 have e:(bJ ls.length).map (λi=>(ls.map tS).getD i n5)=ls.map tS:=by
  refine ka λi=>?_;rw[j9];by_cases hi:i<ls.length
  ·rw[BH hi];simp[hi]
  ·rw[jg (by simpa using hi),jg (by simpa using hi)];rfl
 unfold met;rw[e];exact gen ls []
theorem Fc(l bg:List Tx):(bg.Nodup->(l.foldl (λks x=>if x∈ks then ks else ks++[x]) bg).Nodup)/\∀ x,x∈l.foldl (λks x=>if x∈ks then ks else ks++[x]) bg↔x∈bg\/x∈l:=by
 induction l generalizing bg with
 | nil=>exact⟨λh=>h,λx=>by simp⟩
 | cons y r ih=>
  rw[og];obtain⟨h1,h2⟩:=ih (if y∈bg then bg else bg++[y]);refine⟨λh=>h1 ?_,λx=>?_⟩
  ·split
   ·exact h
   ·rename_i hy;rw[List.nodup_append];exact⟨h,by simp,λa ha b hb=>by simp at hb; subst hb; exact λe=>hy (e ▸ ha)⟩
  ·rw[h2 x,bV];split
   ·rename_i hy;constructor
    ·rintro(h | h)
     ·exact .inl h
     ·exact .inr (.inr h)
    ·rintro(h | rfl | h)
     ·exact .inl h
     ·exact .inl hy
     ·exact .inr h
   ·rw[eM,gG,or_assoc]
theorem A9(l:List Tx):(eW l).Nodup:=(Fc l []).1 List.nodup_nil
theorem nv(l:List Tx)(x:Tx):x∈eW l↔x∈l:=by rw[eW,(Fc l []).2 x]; simp
theorem Og(l:List Tx):(eW l).length<=l.length:=by
 have gen:∀ (l bg:List Tx),(l.foldl (λks x=>if x∈ks then ks else ks++[x]) bg).length<=bg.length+l.length:=by
  intro l
  induction l with
  | nil=>intro bg; simp
  | cons x r ih=>intro bg;rw[og];refine cr (ih _) ?_;split <;> simp <;> lia
 simpa[eW]using gen l []
section
variable{X:Cx}
def oQ(X:Cx)(a:af)(ls:List Tx):HO:=.ext λh=>f6 X.prog X.w h a (ls.map tS)
theorem Lp(hc:X.calm=ah):eu X (.type "set") (λxs H Q=>∃ (p:af) (ls:List Tx),xs=[.ref p]/\bR X.K H p (cI ls)/\(eW ls).length<4000/\∀ a,H a=ae->Q (.ref a) (upd H a (oQ X a (eW ls)))):=by
 intro ag s σ H xs us Q I r h;obtain⟨p,ls,rfl,hq,h60,q⟩:=h;obtain⟨u,rfl,ru⟩:=vals1 r;cases ru;obtain⟨its,rv,pl,hz⟩:=I.list hq;have hl:=rv.length;rw[tR]at hl;refine Mz (P:=X.prog) (w:=X.w) (I.ok.hd hc) pl.isList (by simpa using yy rv) (by rw[cC,show its.length=ls.length by lia,C5,cX]; exact h60) λh' tk S k=>?_;have S':f6 X.prog X.w h' s.heap.objs.size ((eW ls).map tS):=by
  have e:its.toArray.size=ls.length:=by rw[cC]; lia
  rw[e,C5]at S;exact S
 refine⟨.ref s.heap.objs.size,_,I.laid (t':=tk) (o:=oQ X s.heap.objs.size (eW ls)) (λb o e=>k b o (bP e) e) (bp _) ?_,rfl,q _ I.fresh⟩;obtain⟨es,ep,t,ss,e,_⟩:=S'.ex;exact⟨S',⟨_,e⟩,λh1 h2 q1 q2=>q1.at q2⟩
end
structure DU(P:aM)(w:aG)(K:aq)(mg:Str->Option ai)(base:aA)(x:Str)(k:Nat)(ps:List Str)(sp:Sp):Prop where
 ex:∃ f fd,mg x=aa (.ref f)/\ez P w K mg base qI k f fd ps sp/\Binds K fd ps []/\jC K (.ref f)=ah
theorem DU.mono{P:aM}{w:aG}{K:aq}{mg:Str->Option ai}{base:aA}{x:Str}{j k:Nat}{ps:List Str}{sp:Sp}(c:DU P w K mg base x j ps sp)(h:j<=k):DU P w K mg base x k ps sp:=by obtain⟨f,fd,h1,h2,h3,h4⟩:=c.ex;exact⟨f,fd,h1,h2.mono h,h3,h4⟩
structure cP(K:aq)(mg:Str->Option ai)(x:Str)(st:aY):Prop where
 ex:∃ f fd,mg x=aa (.ref f)/\ko K x x st f fd
def pK(t:af)(H H':Hp):Prop:=∀ b o,H b=aa o->b≠t->H' b=aa o
theorem pK.refl(t:af)(H:Hp):pK t H H:=λ_ _ h _=>h
theorem pK.trans{t:af}{H H1 H2:Hp}(a:pK t H H1)(b:pK t H1 H2):pK t H H2:=λc o h hc=>b c o (a c o h hc) hc
theorem pK.free{t:af}{H H':Hp}(e:pK t H H'){l:af}(h:H' l=ae)(hl:l≠t):H l=ae:=by
 cases q:H l with
 | none=>rfl
 | some o=>rw[e l o q hl]at h; cases h
theorem pK.seq{K:aq}{t a:af}{H H':Hp}{xs:List V}(e:pK t H H')(ha:a≠t)(h:bR K H a xs):bR K H' a xs:=by
 rcases h with(h | ⟨o,h⟩) | h
 ·exact .inl (.inl (e _ _ h ha))
 ·exact .inl (.inr ⟨o,e _ _ h ha⟩)
 ·exact .inr h
theorem pK.tup{K:aq}{t a:af}{H H':Hp}{xs:List V}(e:pK t H H')(ha:a≠t)(h:cq K H a xs):cq K H' a xs:=by
 rcases h with(h | ⟨o,h⟩) | h
 ·exact .inl (.inl (e _ _ h ha))
 ·exact .inl (.inr ⟨o,e _ _ h ha⟩)
 ·exact .inr h
def vE(H:Hp)(t:af)(n:Nat):Prop:=∃ xs,H t=aa (.lst xs)/\xs.length<=n
theorem vE.mono{H:Hp}{t:af}{m n:Nat}(h:vE H t m)(hn:m<=n):vE H t n:=let ⟨xs,a,b⟩:=h; ⟨xs,a,cr b hn⟩
theorem vE.upd{H:Hp}{t p:af}{n:Nat}{o:HO}(h:vE H t n)(hp:H p=ae):vE (upd H p o) t n:=by obtain⟨xs,a,b⟩:=h;exact⟨xs,by rw[bw (kn a hp)]; exact a,b⟩
theorem FA{H:Hp}{p:af}{o:HO}(h:H p=ae):Same H (upd H p o):=λb u q=>by rw[bw (kn q h)]; exact q
theorem wP{α:Type}{xs:List α}{k:Int}(h0:0<=k)(h:k.toNat<xs.length):eF xs k=aa xs[k.toNat]:=by
 have e:((k.toNat:Nat):Int)=k:=∅
 have q:=Ou (xs:=xs) (j:=k.toNat) (v:=xs[k.toNat]) (by simp[h]);rwa[e]at q
def DY(N:List Str)(sc scope:eK)(x:Str)(N':List Str)(cap:List Nat):Bool :=
 decide (scope.kind = .function) && scope.names.all (λy=>(decide (y.2≠.cell) || decide (scope.names.lookup y.1=aa .cell)) && (decide (y.2≠.local) || decide (scope.names.lookup y.1=aa .local)) && (decide (y.2≠.free) || decide (sc.names.lookup y.1=aa .cell) || decide (sc.names.lookup y.1=aa .free)))
 && (decide (scope.names.lookup x=aa .local) || decide (scope.names.lookup x=aa .cell)) && decide N'.Nodup && decide (N'.head?=aa x) && decide (N'.length=cap.length+1) && (cap.zip N'.tail).all λp=>decide (N[p.1]?=aa p.2) && decide (scope.names.lookup p.2=aa .free)
theorem nu.of{X:Cx}{scope:eK}{x:Str}{N':List Str}{cap:List Nat}(N:List Str)(sc:eK)(hN:X.N=N)(hsc:X.env.scope=sc)(h:DY N sc scope x N' cap=ah):nu X scope x N' cap:=by
 subst hN hsc;simp only[DY,fc,decide_eq_true_eq,lP,BK]at h;obtain⟨⟨⟨⟨⟨⟨h1,h2⟩,h3⟩,h4⟩,h5⟩,h6⟩,h7⟩:=h;refine⟨h1,λy hy e=>(h2 y hy).1.1.elim (λz=>absurd e z) λz=>z,λy hy e=>?_,h3,λy hy e=>?_,h4,h5,h6,λi j y e1 e2=>?_⟩
 ·rcases(h2 y hy).1.2 with z | z
  ·exact absurd e z
  ·exact z
 ·rcases(h2 y hy).2 with(z | z) | z
  ·exact absurd e z
  ·exact .inl z
  ·exact .inr z
 ·have hm:(j,y)∈cap.zip N'.tail:=by
   refine List.mem_iff_getElem?.mpr ⟨i,?_⟩;rw[List.getElem?_zip_eq_some];refine⟨e2,?_⟩;rw[← List.drop_one,mP,Nat.add_comm];exact e1
  exact h7 _ hm
end L2
namespace Pu
open L2
abbrev St:=L2.St
inductive PV where
 | non | bl (b:Bool) | int (i:Int) | str (x:Tx) | tup (xs:List PV) | lst (xs:List PV) | raw (v:V) | exc (c:ai)
def me(a:af)(c:ai):HO:=.ext λh=>∃ o vs,h.get? a=aa o/\o.cls=c/\o.data = .fields vs/\o.dict=ae
def bi:Nat:=1000000
theorem kA:bi<=a9:=by rw[nZ]; decide
def cR:HO->Prop
 | .lst _=>True
 | .dK _=>True
 | .dT _=>True
 | .ins _ _ _=>True
 | .own _=>True
 | _=>False
mutual
def aV(K:aq)(H:Hp)(F:af->Prop):PV->V->Prop
 | .non,v=>v = .non
 | .bl b,v=>v = .bl b
 | .int i,v=>v = .int i
 | .str x,v=>v=tV x/\x.length<=bi
 | .tup xs,v=>∃ a vs,v = .ref a/\H a=aa (.tup vs)/\Reps K H F xs vs
 | .lst xs,v=>∃ a vs,v = .ref a/\Rd H a (.lst vs)/\F a/\Reps K H F xs vs
 | .raw u,v=>v=u
 | .exc c,v=>∃ a,v = .ref a/\H a=aa (me a c)
def Reps(K:aq)(H:Hp)(F:af->Prop):List PV->List V->Prop
 | [],vs=>vs=[]
 | x::xs,vs=>∃ v r,vs=v::r/\aV K H F x v/\Reps K H F xs r
end
section
variable{K:aq}{H H':Hp}{F F':af->Prop}
mutual
theorem aV.mono(hF:∀ a,F a->F' a)(hL:∀ a xs,F a->Rd H a (.lst xs)->Rd H' a (.lst xs))(hT:∀ a o,H a=aa o->¬ cR o->H' a=aa o):∀ (x:PV) (v:V),aV K H F x v->aV K H' F' x v
 | .non,_,h=>h
 | .bl _,_,h=>h
 | .int _,_,h=>h
 | .str _,_,h=>h
 | .raw _,_,h=>h
 | .exc _,_,⟨a,e,h⟩=>⟨a,e,hT a _ h id⟩
 | .tup xs,_,⟨a,vs,e,h1,h2⟩=>⟨a,vs,e,hT a _ h1 id,Reps.mono hF hL hT xs vs h2⟩
 | .lst xs,_,⟨a,vs,e,h1,h0,h2⟩=>⟨a,vs,e,hL a vs h0 h1,hF a h0,Reps.mono hF hL hT xs vs h2⟩
theorem Reps.mono(hF:∀ a,F a->F' a)(hL:∀ a xs,F a->Rd H a (.lst xs)->Rd H' a (.lst xs))(hT:∀ a o,H a=aa o->¬ cR o->H' a=aa o):∀ (xs:List PV) (vs:List V),Reps K H F xs vs->Reps K H' F' xs vs
 | [],_,h=>h
 | x::xs,_,⟨v,r,e,h1,h2⟩=>⟨v,r,e,aV.mono hF hL hT x v h1,Reps.mono hF hL hT xs r h2⟩
end
theorem Reps.len:∀ {xs:List PV} {vs:List V},Reps K H F xs vs->vs.length=xs.length
 | [],_,h=>by rw[show _=[] from h]; rfl
 | _::_,_,⟨_,_,e,_,h2⟩=>by rw[e,dq,dq,Reps.len h2]
theorem Reps.get:∀ {xs:List PV} {vs:List V} {i:Nat} {x:PV},Reps K H F xs vs->xs[i]?=aa x->∃ v,vs[i]?=aa v/\aV K H F x v
 | [],_,_,_,_,e=>by simp at e
 | x::xs,_,0,y,⟨v,r,e,h1,_⟩,q=>by simp at q; subst q; subst e; exact⟨v,rfl,h1⟩
 | x::xs,_,i+1,y,⟨v,r,e,_,h2⟩,q=>by obtain⟨w,a,b⟩:=Reps.get (i:=i) (x:=y) h2 (by simpa using q);subst e;exact⟨w,by simpa using a,b⟩
theorem Reps.back:∀ {xs:List PV} {vs:List V} {i:Nat} {v:V},Reps K H F xs vs->vs[i]?=aa v->∃ x,xs[i]?=aa x/\aV K H F x v
 | [],_,_,_,h,e=>by rw[show _=[] from h]at e; simp at e
 | x::xs,_,0,y,⟨v,r,e,h1,_⟩,q=>by subst e; simp at q; subst q; exact⟨x,rfl,h1⟩
 | x::xs,_,i+1,y,⟨v,r,e,_,h2⟩,q=>by subst e;obtain⟨w,a,b⟩:=Reps.back (i:=i) (v:=y) h2 (by simpa using q);exact⟨w,by simpa using a,b⟩
theorem Reps.app:∀ {xs ys:List PV} {vs ws:List V},Reps K H F xs vs->Reps K H F ys ws->Reps K H F (xs++ys) (vs++ws)
 | [],_,_,_,h,g=>by rw[show _=[] from h]; exact g
 | x::xs,_,_,_,⟨v,r,e,h1,h2⟩,g=>by subst e; exact⟨v,_,rfl,h1,Reps.app h2 g⟩
theorem Reps.one{x:PV}{v:V}(h:aV K H F x v):Reps K H F [x] [v]:=⟨v,[],rfl,h,rfl⟩
theorem Reps.drop:∀ (n:Nat) {xs:List PV} {vs:List V},Reps K H F xs vs->Reps K H F (xs.drop n) (vs.drop n)
 | 0,_,_,h=>h
 | _+1,[],_,h=>by rw[show _=[] from h]; rfl
 | n+1,_::_,_,⟨_,_,e,_,h2⟩=>by subst e; exact Reps.drop n h2
theorem Reps.take:∀ (n:Nat) {xs:List PV} {vs:List V},Reps K H F xs vs->Reps K H F (xs.take n) (vs.take n)
 | 0,_,_,_=>by rw[BN,BN]; rfl
 | _+1,[],_,h=>by rw[show _=[] from h]; rfl
 | n+1,_::_,_,⟨v,_,e,h1,h2⟩=>by subst e; exact⟨v,_,rfl,h1,Reps.take n h2⟩
theorem Reps.set{x:PV}{v:V}(hx:aV K H F x v):∀ (n:Nat) {xs:List PV} {vs:List V},Reps K H F xs vs->Reps K H F (xs.set n x) (vs.set n v)
 | _,[],_,h=>by rw[show _=[] from h]; rfl
 | 0,_::_,_,⟨_,r,e,_,h2⟩=>by subst e; exact⟨v,r,rfl,hx,h2⟩
 | n+1,_::_,_,⟨w,_,e,h1,h2⟩=>by subst e; exact⟨w,_,rfl,h1,Reps.set hx n h2⟩
theorem Reps.cons{x:PV}{v:V}{xs:List PV}{vs:List V}(h:aV K H F x v)(g:Reps K H F xs vs):Reps K H F (x::xs) (v::vs):=⟨v,vs,rfl,h,g⟩
end
structure a_(O O' F F':af->Prop)(H H':Hp):Prop where
 fro:∀ a,F a->F' a
 keep:∀ b o,H b=aa o->¬ O b->H' b=aa o
 there:∀ b o,H b=aa o->∃ o',H' b=aa o'
 fnew:∀ a,F' a->F a\/H a=ae\/O a
 onew:∀ a,O' a->O a\/H a=ae
theorem a_.refl(O F:af->Prop)(H:Hp):a_ O O F F H H:=⟨λ_ h=>h,λ_ _ h _=>h,λ_ o h=>⟨o,h⟩,λ_ h=>.inl h,λ_ h=>.inl h⟩
theorem a_.trans{O O1 O2 F F1 F2:af->Prop}{H H1 H2:Hp}(g:a_ O O1 F F1 H H1)(k:a_ O1 O2 F1 F2 H1 H2):a_ O O2 F F2 H H2 where
 fro:=λa h=>k.fro a (g.fro a h)
 keep:=λb o h n=>k.keep b o (g.keep b o h n) λz=>(g.onew b z).elim n λq=>by rw[q]at h; cases h
 there:=λb o h=>let ⟨o',h'⟩:=g.there b o h; k.there b o' h'
 fnew:=λa h=>by
  have back:H1 a=ae->H a=ae\/O a:=λz=>by
   cases q:H a with
   | none=>exact .inl rfl
   | some o=>obtain⟨o',h'⟩:=g.there a o q; rw[z]at h'; cases h'
  rcases k.fnew a h with z | z | z
  ·exact g.fnew a z
  ·exact .inr (back z)
  ·exact .inr ((g.onew a z).symm)
 onew:=λa h=>by
  rcases k.onew a h with z | z
  ·exact g.onew a z
  ·cases q:H a with
   | none=>exact .inr rfl
   | some o=>obtain⟨o',h'⟩:=g.there a o q; rw[z]at h'; cases h'
def kl(O F:af->Prop)(H:Hp):Prop:=∀ b,O b->¬ F b/\∃ o,H b=aa o/\cR o
section
variable{K:aq}{O O' F F':af->Prop}{H H':Hp}
theorem a_.imm(g:a_ O O' F F' H H')(f:kl O F H){a:af}{o:HO}(h:H a=aa o)(n:¬ cR o):H' a=aa o :=
 g.keep _ _ h λz=>by
  obtain⟨_,o',e',n'⟩:=f a z;rw[h]at e'; cases e'; exact n n'
theorem a_.lst(g:a_ O O' F F' H H')(f:kl O F H){a:af}{xs:List V}(hF:F a)(h:Rd H a (.lst xs)):Rd H' a (.lst xs):=by
 have no:¬ O a:=λz=>(f a z).1 hF;rcases h with h | ⟨o,h⟩
 ·exact .inl (g.keep _ _ h no)
 ·exact .inr ⟨o,g.keep _ _ h no⟩
theorem aV.grow(g:a_ O O' F F' H H')(f:kl O F H){x:PV}{v:V}(h:aV K H F x v):aV K H' F' x v:=aV.mono g.fro (λ_ _ hF q=>g.lst f hF q) (λ_ _ q n=>g.imm f q n) x v h
theorem Reps.grow(g:a_ O O' F F' H H')(f:kl O F H){x:List PV}{v:List V}(h:Reps K H F x v):Reps K H' F' x v:=Reps.mono g.fro (λ_ _ hF q=>g.lst f hF q) (λ_ _ q n=>g.imm f q n) x v h
end
theorem _root_.L2.Same.rd{H H':Hp}{a:af}{u:HO}(e:Same H H')(h:Rd H a u):Rd H' a u:=h.elim (λz=>.inl (e _ _ z)) λ⟨o,z⟩=>.inr ⟨o,e _ _ z⟩
structure Al(F F':af->Prop)(H H':Hp):Prop where
 fro:∀ a,F a->F' a
 same:Same H H'
 fnew:∀ a,F' a->F a\/(H a=ae/\∃ o,H' a=aa o)
theorem Al.refl(F:af->Prop)(H:Hp):Al F F H H:=⟨λ_ h=>h,Same.refl H,λ_ h=>.inl h⟩
theorem Al.grow{F F' O:af->Prop}{H H':Hp}(a:Al F F' H H'):a_ O O F F' H H' :=⟨a.fro,λb o h _=>a.same b o h,λb o h=>⟨o,a.same b o h⟩,λb h=>(a.fnew b h).imp id λz=>.inl z.1,λ_ h=>.inl h⟩
theorem Al.rep{K:aq}{F F':af->Prop}{H H':Hp}(a:Al F F' H H'){x:PV}{v:V}(h:aV K H F x v):aV K H' F' x v:=aV.mono a.fro (λ_ _ _ q=>a.same.rd q) (λ_ _ q _=>a.same _ _ q) x v h
theorem Al.reps{K:aq}{F F':af->Prop}{H H':Hp}(a:Al F F' H H'){x:List PV}{v:List V}(h:Reps K H F x v):Reps K H' F' x v:=Reps.mono a.fro (λ_ _ _ q=>a.same.rd q) (λ_ _ q _=>a.same _ _ q) x v h
theorem Al.trans{F F1 F2:af->Prop}{H H1 H2:Hp}(a:Al F F1 H H1)(b:Al F1 F2 H1 H2):Al F F2 H H2 :=
 ⟨λc h=>b.fro c (a.fro c h),a.same.trans b.same,λc h=>by
  rcases b.fnew c h with z | ⟨z,w⟩
  ·rcases a.fnew c z with y | ⟨y,o,q⟩
   ·exact .inl y
   ·exact .inr ⟨y,o,b.same _ _ q⟩
  ·exact .inr ⟨a.same.free z,w⟩⟩
theorem Al.new{F:af->Prop}{H:Hp}{l:af}{o:HO}(h:H l=ae):Al F (λa=>F a\/a=l) H (upd H l o) :=⟨λ_ h=>.inl h,FA h,λa z=>z.imp id λe=>by subst e; exact⟨h,o,b_⟩⟩
theorem Al.new0{F:af->Prop}{H:Hp}{l:af}{o:HO}(h:H l=ae):Al F F H (upd H l o):=⟨λ_ h=>h,FA h,λa z=>.inl z⟩
inductive PO where
 | lst (xs:List PV) | dK (kvs:List (aJ×PV)) | lls (ft:List (List PV)) | ins (C:af) (fs:List (Str×PV)) | dT (kvs:List (List aJ×PV)) | inl (C:af) (fs:List (Str×PV)) (y:Str) (xs:List PV)
def jo:PO->Bool
 | .lls _=>ak
 | .inl ..=>ak
 | _=>ah
inductive Slot where
 | none | val (v:PV) | own (o:PO)
abbrev aj:=List Slot
def f7(K:aq)(H:Hp)(F:af->Prop)(kvs:List (aJ×PV))(ws:List (aJ×V)):Prop:=mx (λ(p:aJ×PV) (q:aJ×V)=>p.1=q.1/\aV K H F p.2 q.2) kvs ws
def g9(K:aq)(H:Hp)(F:af->Prop)(fs:List (Str×PV))(ws:List (Str×V)):Prop:=mx (λ(p:Str×PV) (q:Str×V)=>p.1=q.1/\aV K H F p.2 q.2) fs ws
def xf(K:aq)(H:Hp)(F:af->Prop)(kvs:List (List aJ×PV))(ws:List (List aJ×V)):Prop:=mx (λ(p:List aJ×PV) (q:List aJ×V)=>p.1=q.1/\aV K H F p.2 q.2) kvs ws
def jz(K:aq)(H:Hp)(F:af->Prop)(ft:List (List PV))(as:List af):Prop:=mx (λ(xs:List PV) (b:af)=>∃ vs,H b=aa (.lst vs)/\Reps K H F xs vs) ft as
def dX(K:aq)(H:Hp)(F:af->Prop)(po:PO)(a:af)(S:af->Prop):Prop :=
 match po with
 | .lst xs=>(∃ vs,H a=aa (.lst vs)/\Reps K H F xs vs)/\∀ b,S b↔b=a
 | .dK kvs=>(∃ ws,H a=aa (.dK ws)/\f7 K H F kvs ws)/\∀ b,S b↔b=a
 | .lls ft=>∃ as,H a=aa (.lst (as.map .ref))/\jz K H F ft as/\as.Nodup/\a∉as/\∀ b,S b↔b=a\/b∈as
 | .ins C fs=>(∃ dx ws,H a=aa (.ins C dx ws)/\g9 K H F fs ws)/\∀ b,S b↔b=a
 | .dT kvs=>(∃ ws,H a=aa (.dT ws)/\xf K H F kvs ws)/\∀ b,S b↔b=a
 | .inl C fs y xs=>∃ dx ws b vs,H a=aa (.ins C dx (ws++[(y,.ref b)]))/\g9 K H F fs ws/\fs.lookup y=ae/\H b=aa (.lst vs)/\Reps K H F xs vs/\a≠b/\∀ c,S c↔c=a\/c=b
structure aH(K:aq)(F:af->Prop)(S:Nat->af->Prop)(ε:aj)(σ:St)(H:Hp):Prop where
 len:ε.length=σ.length
 ex:∀ a,F a->∃ o,H a=aa o
 val:∀ (i:Nat) (pv:PV),ε[i]?=aa (.val pv)->∃ v,σ[i]?=aa (aa v)/\aV K H F pv v
 own:∀ (i:Nat) (po:PO),ε[i]?=aa (.own po)->∃ a,σ[i]?=aa (aa (.ref a))/\dX K H F po a (S i)
 foot:∀ (i:Nat) (b:af),S i b->(∃ po,ε[i]?=aa (.own po))/\¬ F b/\∃ o,H b=aa o/\cR o
 dist:∀ (i j:Nat) (b:af),S i b->S j b->i=j
def U(S:Nat->af->Prop)(b:af):Prop:=∃ i,S i b
section
variable{K:aq}{F F':af->Prop}{S:Nat->af->Prop}{ε:aj}{σ:St}{H H':Hp}
theorem aH.fit(r:aH K F S ε σ H):kl (U S) F H:=λb ⟨i,h⟩=>(r.foot i b h).2
theorem f7.mono{kvs:List (aJ×PV)}{ws:List (aJ×V)}(hF:∀ x v,aV K H F x v->aV K H' F' x v)(h:f7 K H F kvs ws):f7 K H' F' kvs ws:=by
 unfold f7 at h ⊢
 induction h with
 | nil=>exact .nil
 | cons r _ ih=>exact .cons ⟨r.1,hF _ _ r.2⟩ ih
theorem g9.mono{fs:List (Str×PV)}{ws:List (Str×V)}(hF:∀ x v,aV K H F x v->aV K H' F' x v)(h:g9 K H F fs ws):g9 K H' F' fs ws:=by
 unfold g9 at h ⊢
 induction h with
 | nil=>exact .nil
 | cons r _ ih=>exact .cons ⟨r.1,hF _ _ r.2⟩ ih
theorem xf.mono{kvs:List (List aJ×PV)}{ws:List (List aJ×V)}(hF:∀ x v,aV K H F x v->aV K H' F' x v)(h:xf K H F kvs ws):xf K H' F' kvs ws:=by
 unfold xf at h ⊢
 induction h with
 | nil=>exact .nil
 | cons r _ ih=>exact .cons ⟨r.1,hF _ _ r.2⟩ ih
theorem jz.mono{ft:List (List PV)}{as:List af}(oA:∀ x v,Reps K H F x v->Reps K H' F' x v)(ha:∀ b o,b∈as->H b=aa o->H' b=aa o)(h:jz K H F ft as):jz K H' F' ft as:=by
 unfold jz at h ⊢
 induction h with
 | nil=>exact .nil
 | cons r _ ih=>obtain⟨vs,h1,h2⟩:=r;exact .cons ⟨vs,ha _ _ (by simp) h1,oA _ _ h2⟩ (ih λb o hb=>ha b o (by simp[hb]))
theorem dX.mono{po:PO}{a:af}{Sa:af->Prop}(hF:∀ x v,aV K H F x v->aV K H' F' x v)(oA:∀ x v,Reps K H F x v->Reps K H' F' x v)(ha:∀ b o,Sa b->H b=aa o->H' b=aa o)(h:dX K H F po a Sa):dX K H' F' po a Sa:=by
 cases po with
 | lst xs=>obtain⟨⟨vs,e,q⟩,w⟩:=h; exact⟨⟨vs,ha a _ ((w a).mpr rfl) e,oA _ _ q⟩,w⟩
 | dK kvs=>obtain⟨⟨ws,e,q⟩,w⟩:=h; exact⟨⟨ws,ha a _ ((w a).mpr rfl) e,q.mono hF⟩,w⟩
 | lls ft=>obtain⟨as,e,q,n1,n2,w⟩:=h; exact⟨as,ha a _ ((w a).mpr (.inl rfl)) e,q.mono oA λb o hb=>ha b o ((w b).mpr (.inr hb)),n1,n2,w⟩
 | ins C fs=>obtain⟨⟨dx,ws,e,q⟩,w⟩:=h; exact⟨⟨dx,ws,ha a _ ((w a).mpr rfl) e,q.mono hF⟩,w⟩
 | dT kvs=>obtain⟨⟨ws,e,q⟩,w⟩:=h; exact⟨⟨ws,ha a _ ((w a).mpr rfl) e,q.mono hF⟩,w⟩
 | inl C fs y xs=>obtain⟨dx,ws,b,vs,e,q,n,e2,q2,ne,w⟩:=h; exact⟨dx,ws,b,vs,ha a _ ((w a).mpr (.inl rfl)) e,q.mono hF,n,ha b _ ((w b).mpr (.inr rfl)) e2,oA _ _ q2,ne,w⟩
theorem aH.al(r:aH K F S ε σ H)(a:Al F F' H H'):aH K F' S ε σ H' where
 len:=r.len
 ex:=λb h=>(a.fnew b h).elim (λz=>let ⟨o,q⟩:=r.ex b z; ⟨o,a.same _ _ q⟩) λz=>z.2
 val:=λi pv e=>let ⟨v,h1,h2⟩:=r.val i pv e; ⟨v,h1,a.rep h2⟩
 own:=λi po e=>let ⟨b,h1,h2⟩:=r.own i po e; ⟨b,h1,h2.mono (λ_ _ q=>a.rep q) (λ_ _ q=>a.reps q) λc o _ q=>a.same _ _ q⟩
 foot:=λi b h=>by
  obtain⟨h1,h2,o,h3,h4⟩:=r.foot i b h;refine⟨h1,λz=>?_,o,a.same _ _ h3,h4⟩;rcases a.fnew b z with y | ⟨y,_⟩
  ·exact h2 y
  ·rw[h3]at y; cases y
 dist:=r.dist
end
inductive R(α:Type) where
 | ok (a:α) (ε:aj) | er (c:ai) (ε:aj) | no
def R.bind{α β:Type}(r:R α)(k:α->aj->R β):R β:=match r with
 | .ok a ε=>k a ε
 | .er c ε=>.er c ε
 | .no=>.no
def aO{α:Type}(o:Option α)(ε:aj):R α:=match o with
 | some a=>.ok a ε
 | none=>.no
@[simp] theorem R.bind_ok{α β:Type}(a:α)(ε:aj)(k:α->aj->R β):(R.ok a ε).bind k=k a ε:=rfl
@[simp] theorem R.bind_er{α β:Type}(c:ai)(ε:aj)(k:α->aj->R β):(R.er c ε:R α).bind k = .er c ε:=rfl
@[simp] theorem R.bind_no{α β:Type}(k:α->aj->R β):(R.no:R α).bind k = .no:=rfl
@[simp] theorem cz{α:Type}(a:α)(ε:aj):aO (aa a) ε = .ok a ε:=rfl
@[simp] theorem Rz{α:Type}(ε:aj):aO (ae:Option α) ε = .no:=rfl
def Ok(K:aq)(E:XK)(σ:St)(F:af->Prop)(S:Nat->af->Prop)(H:Hp){α:Type}(r:R α)(C:α->aj->(af->Prop)->(Nat->af->Prop)->Hp->Prop):Prop:=match r with
 | .ok a ε'=>∀ F' S' H',aH K F' S' ε' σ H'->a_ (U S) (U S') F F' H H'->C a ε' F' S' H'
 | .er c ε'=>∀ x F' S' H',aH K F' S' ε' σ H'->a_ (U S) (U S') F F' H H'->E c x H'
 | .no=>False
section
variable{K:aq}{E:XK}{σ:St}{F:af->Prop}{S:Nat->af->Prop}{H:Hp}{α β:Type}{C C':α->aj->(af->Prop)->(Nat->af->Prop)->Hp->Prop}{D:β->aj->(af->Prop)->(Nat->af->Prop)->Hp->Prop}
theorem Ok.imp{r:R α}(h:Ok K E σ F S H r C)(f:∀ a ε' F' S' H',aH K F' S' ε' σ H'->a_ (U S) (U S') F F' H H'->C a ε' F' S' H'->C' a ε' F' S' H'):Ok K E σ F S H r C':=by
 cases r with
 | ok a ε'=>exact λF' S' H' r g=>f a ε' F' S' H' r g (h F' S' H' r g)
 | er c ε'=>exact h
 | no=>exact h
theorem Ok.from{r:R β}{F1:af->Prop}{S1:Nat->af->Prop}{H1:Hp}(h:Ok K E σ F S H r D)(g:a_ (U S) (U S1) F F1 H H1):Ok K E σ F1 S1 H1 r D:=by
 cases r with
 | ok a ε'=>exact λF' S' H' r' g'=>h F' S' H' r' (g.trans g')
 | er c ε'=>exact λx F' S' H' r' g'=>h x F' S' H' r' (g.trans g')
 | no=>exact h
theorem Ok.bind{r:R α}{k:α->aj->R β}(h:Ok K E σ F S H (r.bind k) D):Ok K E σ F S H r (λa ε1 F1 S1 H1=>Ok K E σ F1 S1 H1 (k a ε1) D):=by
 cases r with
 | ok a ε'=>exact λF' S' H' r g=>Ok.from h g
 | er c ε'=>exact h
 | no=>exact h
end
structure Bx(p:Prop):Prop where
 run:p
def iY(X:Cx)(e:aB):TE:=λσ H Q=>Bx (∀ ag s,Inv X ag σ H s->aw (au X.prog X.w) X.A (aD e X.env) (EP X ag σ Q) X.xe s)
def yF(X:Cx)(e:aB):TT:=λσ H Q=>Bx (∀ ag s,Inv X ag σ H s->aw (au X.prog X.w) X.A (mE e X.env (aD e X.env)) (TP X ag σ Q) X.xe s)
def wpS(X:Cx)(st:aY):TS:=λD σ H=>Bx (∀ ag s,Inv X ag σ H s->aw (au X.prog X.w) X.A (exec st X.env) (SP X ag D) X.xe s)
def qL(X:Cx)(st:List aY):TS:=λD σ H=>Bx (∀ ag s,Inv X ag σ H s->aw (au X.prog X.w) X.A (execs st X.env) (SP X ag D) X.xe s)
section
variable{X:Cx}{e:aB}{st:aY}{sts:List aY}
theorem bD:PE X e (iY X e):=λag s _ _ _ I h=>h.run ag s I
theorem pr:PT X e (yF X e):=λag s _ _ _ I h=>h.run ag s I
theorem D1:PS X st (wpS X st):=λag s _ _ _ I h=>h.run ag s I
theorem tQ:jw X sts (qL X sts):=λag s _ _ _ I h=>h.run ag s I
theorem bC{t:TE}(h:PE X e t){σ:St}{H:Hp}{Q:VK}(q:t σ H Q):iY X e σ H Q:=⟨λag s I=>h ag s σ H Q I q⟩
theorem t9{t:TT}(h:PT X e t){σ:St}{H:Hp}{Q:Bool->Hp->Prop}(q:t σ H Q):yF X e σ H Q:=⟨λag s I=>h ag s σ H Q I q⟩
theorem iw{t:TS}(h:PS X st t){σ:St}{H:Hp}{D:lF}(q:t D σ H):wpS X st D σ H:=⟨λag s I=>h ag s σ H D I q⟩
theorem Az{t:TS}(h:jw X sts t){σ:St}{H:Hp}{D:lF}(q:t D σ H):qL X sts D σ H:=⟨λag s I=>h ag s σ H D I q⟩
end
def DE(X:Cx)(E:XK)(e:aB)(d:aj->R PV):Prop :=
 ∀ F S ε σ H Q,aH X.K F S ε σ H->Ok X.K E σ F S H (d ε) (λpv _ F' _ H'=>∀ v,aV X.K H' F' pv v->Q v H')->iY X e σ H Q
def DN(X:Cx)(E:XK)(e:aB)(d:aj->R PO):Prop :=
 ∀ F S ε σ H Q,aH X.K F S ε σ H->Ok X.K E σ F S H (d ε) (λpo _ F' S' H'=>∀ a Sa,dX X.K H' F' po a Sa->(∀ b,Sa b->H b=ae/\¬ F' b/\¬ U S' b/\∃ o,H' b=aa o/\cR o)->Q (.ref a) H')->iY X e σ H Q
def DT(X:Cx)(E:XK)(e:aB)(d:aj->R Bool):Prop :=
 ∀ F S ε σ H Q,aH X.K F S ε σ H->Ok X.K E σ F S H (d ε) (λb _ _ _ H'=>Q b H')->yF X e σ H Q
end Pu
namespace Pu
open L2
section
variable{X:Cx}{E:XK}{a b c:aB}{da db dc:aj->R PV}{pos:Pos}
def dC(pv:PV):aj->R PV:=λε=>.ok pv ε
theorem bn{i j pos}:DE X E (.Constant (.int i) j pos) (dC (.int i)):=λF S ε σ H Q r h=>bC Qc (h F S H r (a_.refl ..) _ rfl)
theorem nB{i j pos}:DE X E (.Constant (.bool i) j pos) (dC (.bl i)):=λF S ε σ H Q r h=>bC Nu (h F S H r (a_.refl ..) _ rfl)
theorem CA{j pos}:DE X E (.Constant .none j pos) (dC .non):=λF S ε σ H Q r h=>bC NL (h F S H r (a_.refl ..) _ rfl)
theorem cN(l:Tx){x:Str}{j pos}(hx:x=tS l:=by decide +kernel)(hl:l.length<=bi:=by decide):DE X E (.Constant (.str x) j pos) (dC (.str l)):=λF S ε σ H Q r h=>bC Mw (h F S H r (a_.refl ..) _ (by rw[hx]; exact⟨rfl,hl⟩))
def dV(i:Nat):aj->R PV:=λε=>match ε[i]? with
 | some (.val pv)=>.ok pv ε
 | _=>.no
theorem ax(i:Nat){x:Str}{pos:Pos}(hN:X.N[i]?=aa x:=by rfl)(hv:c7 X.env.scope x:=by first | exact Or.inl rfl | exact Or.inr (Or.inl rfl) | exact Or.inr (Or.inr rfl))(hd:(x == ("__debug__" : Str))=ak:=by decide)(a7:(x == ("__classdict__" : Str))=ak:=by decide):DE X E (.Name x pos) (dV i):=λF S ε σ H Q r h=>by
 unfold dV at h;split at h
 ·rename_i p e;obtain⟨v,e1,e2⟩:=r.val i p e;exact bC (dP hN hv hd a7) ⟨v,e1,h F S H r (a_.refl ..) v e2⟩
 ·exact h.elim
theorem t0{x:Str}{i:Int}{pos:Pos}(h:∃ t,X.mg x=aa (.int i t))(hg:Gl X x:=by rfl)(hd:(x == ("__debug__" : Str))=ak:=by decide):DE X E (.Name x pos) (dC (.int i)):=λF S ε σ H Q r q=>by obtain⟨t,e⟩:=h;exact bC (Af (v:=.int i) hg e ⟨t,rfl⟩ hd) (q F S H r (a_.refl ..) _ rfl)
theorem rn{x:Str}{l:Tx}{pos:Pos}(h:∃ t,X.mg x=aa (.str (tS l) t))(hg:Gl X x:=by rfl)(hl:l.length<=bi:=by decide)(hd:(x == ("__debug__" : Str))=ak:=by decide):DE X E (.Name x pos) (dC (.str l)):=λF S ε σ H Q r q=>by obtain⟨t,e⟩:=h;exact bC (Af (v:=tV l) hg e ⟨t,rfl⟩ hd) (q F S H r (a_.refl ..) _ ⟨rfl,hl⟩)
def aH.frz{K:aq}{F:af->Prop}{S:Nat->af->Prop}{ε:aj}{σ:St}{H:Hp}{i:Nat}{xs:List PV}(r:aH K F S ε σ H)(e:ε[i]?=aa (.own (.lst xs))) : ∃ a F' S',aH K F' S' (ε.set i (.val (.lst xs))) σ H/\a_ (U S) (U S') F F' H H/\σ[i]?=aa (aa (.ref a))/\aV K H F' (.lst xs) (.ref a):=by
 obtain⟨a,e1,⟨vs,ha,hr⟩,hS⟩:=r.own i _ e;have hi:i<ε.length:=(cu.mp e).1;have sub:∀ b,F b->F b\/b=a:=λb h=>.inl h;have mono:∀ x v,aV K H F x v->aV K H (λb=>F b\/b=a) x v:=aV.mono sub (λ_ _ _ q=>q) (λ_ _ q _=>q);have monos:∀ x v,Reps K H F x v->Reps K H (λb=>F b\/b=a) x v:=Reps.mono sub (λ_ _ _ q=>q) (λ_ _ q _=>q);have rp:aV K H (λb=>F b\/b=a) (.lst xs) (.ref a):=⟨a,vs,rfl,.inl ha,.inr rfl,monos _ _ hr⟩
 refine⟨a,λb=>F b\/b=a,λj b=>S j b/\j≠i,⟨by rw[fL]; exact r.len,λb h=>?_,λj pv q=>?_,λj po q=>?_,λj b h=>?_,λj k b h1 h2=>r.dist j k b h1.1 h2.1⟩,?_,e1,rp⟩
 ·rcases h with h | rfl
  ·exact r.ex b h
  ·exact⟨_,ha⟩
 ·by_cases hj:i=j
  ·subst hj;rw[cA hi]at q;cases q;exact⟨_,e1,rp⟩
  ·rw[cg hj]at q;obtain⟨v,q1,q2⟩:=r.val j pv q;exact⟨v,q1,mono _ _ q2⟩
 ·by_cases hj:i=j
  ·subst hj;rw[cA hi]at q;cases q
  ·rw[cg hj]at q;obtain⟨v,q1,q2⟩:=r.own j po q;refine⟨v,q1,?_⟩;have q3:=q2.mono (H':=H) mono monos λ_ _ _ z=>z;have eS:(λb=>S j b/\j≠i)=S j:=by funext b; simp[eh hj]
   rw[eS]; exact q3
 ·obtain⟨⟨po,q1⟩,q2,q3⟩:=r.foot j b h.1;refine⟨⟨po,by rw[cg (eh h.2)]; exact q1⟩,λz=>?_,q3⟩;rcases z with z | rfl
  ·exact q2 z
  ·exact h.2 (r.dist j i b h.1 ((hS b).mpr rfl))
 ·refine⟨λ_ h=>.inl h,λb o h _=>h,λb o h=>⟨o,h⟩,λb h=>?_,λb ⟨j,h⟩=>.inl ⟨j,h.1⟩⟩;rcases h with h | rfl
  ·exact .inl h
  ·exact .inr (.inr ⟨i,(hS b).mpr rfl⟩)
def dM(i:Nat):aj->R PV:=λε=>match ε[i]? with
 | some (.own (.lst xs))=>.ok (.lst xs) (ε.set i (.val (.lst xs)))
 | _=>.no
theorem GS(i:Nat){x:Str}{pos:Pos}(hN:X.N[i]?=aa x:=by rfl)(hv:c7 X.env.scope x:=by first | exact Or.inl rfl | exact Or.inr (Or.inl rfl) | exact Or.inr (Or.inr rfl))(hd:(x == ("__debug__" : Str))=ak:=by decide)(a7:(x == ("__classdict__" : Str))=ak:=by decide):DE X E (.Name x pos) (dM i):=λF S ε σ H Q r h=>by
 unfold dM at h;split at h
 ·rename_i p e;obtain⟨a,F',S',r',g,e1,e2⟩:=r.frz e;exact bC (dP hN hv hd a7) ⟨_,e1,h F' S' H r' g _ e2⟩
 ·exact h.elim
def P2(K:aq)(r:R2)(f:PV->PV->Option PV):Prop:=∀ (F:af->Prop) (H:Hp) (x y:PV) (v u:V) (Q:VK) (pv:PV),aV K H F x v->aV K H F y u->f x y=aa pv->(∀ w F' H',Al F F' H H'->aV K H' F' pv w->Q w H')->r v u H Q
def d2(f:PV->PV->Option PV)(da db:aj->R PV):aj->R PV:=λε=>(da ε).bind λx ε1=>(db ε1).bind λy ε2=>aO (f x y) ε2
theorem xi{r:R2}{f:PV->PV->Option PV}(hp:P2 X.K r f)(ha:DE X E a da)(hb:DE X E b db){F:af->Prop}{S:Nat->af->Prop}{ε:aj}{σ:St}{H:Hp}{Q:VK}(rl:aH X.K F S ε σ H)(h:Ok X.K E σ F S H (d2 f da db ε) (λpv _ F' _ H'=>∀ v,aV X.K H' F' pv v->Q v H')):iY X a σ H λx H1=>iY X b σ H1 λy H2=>r x y H2 Q:=by
 refine ha F S ε σ H _ rl ((Ok.bind h).imp λx ε1 F1 S1 H1 r1 g1 h1 v rv=>?_);refine hb F1 S1 ε1 σ H1 _ r1 ((Ok.bind h1).imp λy ε2 F2 S2 H2 r2 g2 h2 u ru=>?_);cases e:f x y with
 | none=>rw[e]at h2; exact h2.elim
 | some pv=>rw[e]at h2;exact hp F2 H2 x y v u Q pv (rv.grow g2 r1.fit) ru e λw F' H' al rw'=>h2 F' S2 H' (r2.al al) al.grow w rw'
theorem bE{op:Operator}{r:R2}{f:PV->PV->Option PV}(ho:bU X (jB op) r)(hp:P2 X.K r f)(ha:DE X E a da)(hb:DE X E b db):DE X E (.BinOp a op b pos) (d2 f da db):=λF S ε σ H Q rl h=>bC (Iq ho bD bD) (xi hp ha hb rl h)
theorem t4{op:CmpOp}{r:R2}{f:PV->PV->Option PV}(ho:bU X (eN op) r)(hp:P2 X.K r f)(ha:DE X E a da)(hb:DE X E b db)(hm:xF op b=ak):DE X E (.Compare a [op] [b] pos) (d2 f da db):=λF S ε σ H Q rl h=>bC (OA ho bD bD hm) (xi hp ha hb rl h)
def nc:PV->Option Bool
 | .bl b=>aa b
 | _=>ae
def dB(d:aj->R PV):aj->R Bool:=λε=>(d ε).bind λx ε1=>aO (nc x) ε1
theorem GC{K:aq}{H:Hp}{F:af->Prop}{x:PV}{v:V}{k:Bool}(h:aV K H F x v)(e:nc x=aa k):v = .bl k:=by
 cases x <;> simp[nc]at e;subst e; exact h
theorem sN{F:af->Prop}{S:Nat->af->Prop}{ε:aj}{σ:St}{H:Hp}{Q:Bool->Hp->Prop}{d:aj->R PV}(h:Ok X.K E σ F S H (dB d ε) (λk _ _ _ H'=>Q k H')) : Ok X.K E σ F S H (d ε) (λpv _ F' _ H'=>∀ v,aV X.K H' F' pv v->∃ k,v = .bl k/\Q k H'):=by
 refine(Ok.bind h).imp λx ε1 F1 S1 H1 r1 g1 h1 v rv=>?_;cases e:nc x with
 | none=>rw[e]at h1; exact h1.elim
 | some k=>rw[e]at h1; exact⟨k,GC rv e,h1 F1 S1 H1 r1 (a_.refl ..)⟩
theorem fu{op:CmpOp}{r:R2}{f:PV->PV->Option PV}(ho:bU X (eN op) r)(hp:P2 X.K r f)(ha:DE X E a da)(hb:DE X E b db)(hm:xF op b=ak):DT X E (.Compare a [op] [b] pos) (dB (d2 f da db)):=λF S ε σ H Q rl h=>t9 (Eh ho bD bD hm) (xi (Q:=λx H'=>∃ k,x = .bl k/\Q k H') hp ha hb rl (sN h))
theorem lL{e:aB}{d:aj->R PV}(hd:DE X E e d)(he:∀ fM,mE e X.env fM=(do let v ← fM; rG e.pos; nX [v] (truthy v)):=by intro _; rfl):DT X E e (dB d):=λF S ε σ H Q rl h=>t9 (OI bD he) (hd F S ε σ H _ rl (sN h))
def pf(f g:PV->PV->Option PV)(da db dc:aj->R PV):aj->R PV:=λε=>(da ε).bind λx ε1=>(db ε1).bind λy ε2=>(aO ((f x y).bind nc) ε2).bind λk ε2=>
 match k with
 | true=>(dc ε2).bind λz ε3=>aO (g y z) ε3
 | false=>.ok (.bl ak) ε2
theorem Gm{r r':R2}{f g:PV->PV->Option PV}(hp:P2 X.K r f)(ig:P2 X.K r' g)(ha:DE X E a da)(hb:DE X E b db)(hc:DE X E c dc){F:af->Prop}{S:Nat->af->Prop}{ε:aj}{σ:St}{H:Hp}{Q:VK}(rl:aH X.K F S ε σ H)(h:Ok X.K E σ F S H (pf f g da db dc ε) (λpv _ F' _ H'=>∀ v,aV X.K H' F' pv v->Q v H')):yY r r' (iY X a) (iY X b) (iY X c) σ H Q:=by
 refine ha F S ε σ H _ rl ((Ok.bind h).imp λx ε1 F1 S1 H1 r1 g1 h1 v rv=>?_);refine hb F1 S1 ε1 σ H1 _ r1 ((Ok.bind h1).imp λy ε2 F2 S2 H2 r2 g2 h2 u ru=>?_);cases e:f x y with
 | none=>rw[e]at h2; exact h2.elim
 | some pv=>
  rw[e]at h2;refine hp F2 H2 x y v u _ pv (rv.grow g2 r1.fit) ru e λw F' H' al rw'=>?_;cases e2:nc pv with
  | none=>rw[iC,e2]at h2; exact h2.elim
  | some k=>
   rw[iC,e2]at h2;refine⟨k,GC rw' e2,?_⟩;have r3:=r2.al al;cases k with
   | false=>exact o4 (Ok.from h2 al.grow F' S2 H' r3 (a_.refl ..) _ rfl)
   | true=>
    have h3:Ok X.K E σ F2 S2 H2 ((dc ε2).bind λz ε3=>aO (g y z) ε3) (λpv _ F' _ H'=>∀ v,aV X.K H' F' pv v->Q v H'):=h2;refine pB (hc F' S2 ε2 σ H' _ r3 ((Ok.bind (Ok.from h3 al.grow)).imp λz ε4 F4 S4 H4 r4 g4 h4 u4 ru4=>?_));cases e4:g y z with
    | none=>rw[e4]at h4; exact h4.elim
    | some pz=>rw[e4]at h4;exact ig F4 H4 y z u u4 Q pz ((al.rep ru).grow g4 r3.fit) ru4 e4 λw5 F5 H5 al5 rw5=>h4 F5 S4 H5 (r4.al al5) al5.grow w5 rw5
theorem Qf{op op':CmpOp}{r r':R2}{f g:PV->PV->Option PV}(ho:bU X (eN op) r)(iP:bU X (eN op') r')(hp:P2 X.K r f)(ig:P2 X.K r' g)(ha:DE X E a da)(hb:DE X E b db)(hc:DE X E c dc)(hm:lastMarks [op,op'] [b,c]=ak:=by with_unfolding_all rfl):DE X E (.Compare a [op,op'] [b,c] pos) (pf f g da db dc):=λF S ε σ H Q rl h=>bC (NG ho iP bD bD bD hm) (Gm hp ig ha hb hc rl h)
theorem J1{op op':CmpOp}{r r':R2}{f g:PV->PV->Option PV}(ho:bU X (eN op) r)(iP:bU X (eN op') r')(hp:P2 X.K r f)(ig:P2 X.K r' g)(ha:DE X E a da)(hb:DE X E b db)(hc:DE X E c dc)(hm:lastMarks [op,op'] [b,c]=ak:=by with_unfolding_all rfl):DT X E (.Compare a [op,op'] [b,c] pos) (dB (pf f g da db dc)):=λF S ε σ H Q rl h=>t9 (Oa ho iP bD bD bD hm) (Gm (Q:=λx H'=>∃ k,x = .bl k/\Q k H') hp ig ha hb hc rl (sN h))
variable{ta tb:aj->R Bool}{rest:List aB}
def DW(X:Cx)(E:XK)(e:aB)(d:aj->R Bool):Prop:=∀ F S ε σ H Q,aH X.K F S ε σ H->Ok X.K E σ F S H (d ε) (λb _ _ _ H'=>Q b H')->∀ (fM:Sem ai) ag s,Inv X ag σ H s->aw (au X.prog X.w) X.A (mE e X.env fM) (TP X ag σ Q) X.xe s
def KI(X:Cx)(e:aB):TT:=λσ H Q=>∀ (fM:Sem ai) ag s,Inv X ag σ H s->aw (au X.prog X.w) X.A (mE e X.env fM) (TP X ag σ Q) X.xe s
theorem Go{e:aB}:PW X e (KI X e):=λfM ag s _ _ _ I h=>h fM ag s I
theorem DW.dt{e:aB}{d:aj->R Bool}(h:DW X E e d):DT X E e d:=λF S ε σ H Q rl q=>⟨λag s I=>h F S ε σ H Q rl q _ ag s I⟩
def oP(ta tb:aj->R Bool):aj->R Bool:=λε=>(ta ε).bind λk ε1=>match k with
 | true=>tb ε1
 | false=>.ok ak ε1
def fS(ta tb:aj->R Bool):aj->R Bool:=λε=>(ta ε).bind λk ε1=>match k with
 | true=>.ok ah ε1
 | false=>tb ε1
def iW(ta:aj->R Bool):aj->R Bool:=λε=>(ta ε).bind λk ε1=>.ok (!k) ε1
theorem IQ(h:DT X E a ta):DW X E (.BoolOp .And [a] pos) ta:=λF S ε σ H Q rl q fM ag s I=>Nt pr fM ag s σ H Q I (h F S ε σ H Q rl q)
theorem oO(h:DT X E a ta):DW X E (.BoolOp .Or [a] pos) ta:=λF S ε σ H Q rl q fM ag s I=>Mc pr fM ag s σ H Q I (h F S ε σ H Q rl q)
theorem LL(ha:DT X E a ta)(hb:DW X E (.BoolOp .And (b::rest) pos) tb):DW X E (.BoolOp .And (a::b::rest) pos) (oP ta tb):=λF S ε σ H Q rl q fM ag s I=>by
 refine LX pr Go fM ag s σ H Q I (ha F S ε σ H _ rl ((Ok.bind q).imp λk ε1 F1 S1 H1 r1 g1 h1=>?_));cases k with
 | true=>exact pB (hb F1 S1 ε1 σ H1 Q r1 h1)
 | false=>exact o4 (h1 F1 S1 H1 r1 (a_.refl ..))
theorem l9(ha:DT X E a ta)(hb:DW X E (.BoolOp .Or (b::rest) pos) tb):DW X E (.BoolOp .Or (a::b::rest) pos) (fS ta tb):=λF S ε σ H Q rl q fM ag s I=>by
 refine NF pr Go fM ag s σ H Q I (ha F S ε σ H _ rl ((Ok.bind q).imp λk ε1 F1 S1 H1 r1 g1 h1=>?_));cases k with
 | true=>exact pB (h1 F1 S1 H1 r1 (a_.refl ..))
 | false=>exact o4 (hb F1 S1 ε1 σ H1 Q r1 h1)
theorem lq(ha:DT X E a ta):DT X E (.UnaryOp .Not a pos) (iW ta):=λF S ε σ H Q rl q=>t9 (Ko pr) (ha F S ε σ H _ rl ((Ok.bind q).imp λk ε1 F1 S1 H1 r1 g1 h1=>h1 F1 S1 H1 r1 (a_.refl ..)))
def ki(da db:aj->R PV):aj->R PV:=λε=>(dB da ε).bind λk ε1=>match k with
 | true=>db ε1
 | false=>.ok (.bl ak) ε1
def Fp(da db:aj->R PV):aj->R PV:=λε=>(dB da ε).bind λk ε1=>match k with
 | true=>.ok (.bl ah) ε1
 | false=>db ε1
def xg(da:aj->R PV):aj->R PV:=λε=>(dB da ε).bind λk ε1=>.ok (.bl (!k)) ε1
theorem Gn{d:aj->R PV}{β:Type}{D:β->aj->(af->Prop)->(Nat->af->Prop)->Hp->Prop}{k:Bool->aj->R β}{F:af->Prop}{S:Nat->af->Prop}{ε:aj}{σ:St}{H:Hp}{P:Bool->Hp->Prop}(h:Ok X.K E σ F S H ((dB d ε).bind k) D) (f:∀ c ε1 F1 S1 H1,aH X.K F1 S1 ε1 σ H1->a_ (U S) (U S1) F F1 H H1->Ok X.K E σ F1 S1 H1 (k c ε1) D->P c H1) : Ok X.K E σ F S H (d ε) (λpv _ F' _ H'=>∀ v,aV X.K H' F' pv v->∃ c,v = .bl c/\P c H'):=by have h2:=(Ok.bind h).imp (C':=λc ε1 F1 S1 H1=>P c H1) λc ε1 F1 S1 H1 r1 g1 h1=>f c ε1 F1 S1 H1 r1 g1 h1;exact sN h2
theorem sF{op}{d:aj->R PV}(h:DE X E a d):DE X E (.BoolOp op [a] pos) d:=λF S ε σ H Q rl q=>bC (Lg bD) (h F S ε σ H Q rl q)
theorem q8(ha:DE X E a da)(hb:DE X E (.BoolOp .And (b::rest) pos) db):DE X E (.BoolOp .And (a::b::rest) pos) (ki da db):=λF S ε σ H Q rl q=>by
 refine bC (IF bD bD) (ha F S ε σ H _ rl (Gn q λk ε1 F1 S1 H1 r1 g1 h1=>?_));cases k with
 | true=>exact pB (hb F1 S1 ε1 σ H1 Q r1 h1)
 | false=>exact o4 (h1 F1 S1 H1 r1 (a_.refl ..) _ rfl)
theorem OF(ha:DE X E a da):DE X E (.UnaryOp .Not a pos) (xg da):=λF S ε σ H Q rl q=>bC (O5 bD) (ha F S ε σ H _ rl (Gn q λk ε1 F1 S1 H1 r1 g1 h1=>h1 F1 S1 H1 r1 (a_.refl ..) _ rfl))
def bX{α:Type}(t:aj->R Bool)(da db:aj->R α):aj->R α:=λε=>(t ε).bind λk ε1=>match k with
 | true=>da ε1
 | false=>db ε1
theorem Fk(hc:DT X E c ta)(ha:DE X E a da)(hb:DE X E b db):DE X E (.IfExp c a b pos) (bX ta da db):=λF S ε σ H Q rl q=>by
 refine bC (L4 pr bD bD) (hc F S ε σ H _ rl ((Ok.bind q).imp λk ε1 F1 S1 H1 r1 g1 h1=>?_));cases k with
 | true=>exact pB (ha F1 S1 ε1 σ H1 Q r1 h1)
 | false=>exact o4 (hb F1 S1 ε1 σ H1 Q r1 h1)
def P1(K:aq)(r:V->Hp->VK->Prop)(f:PV->Option PV):Prop:=∀ (F:af->Prop) (H:Hp) (x:PV) (v:V) (Q:VK) (pv:PV),aV K H F x v->f x=aa pv->(∀ w F' H',Al F F' H H'->aV K H' F' pv w->Q w H')->r v H Q
def d1(f:PV->Option PV)(da:aj->R PV):aj->R PV:=λε=>(da ε).bind λx ε1=>aO (f x) ε1
theorem NT{r:V->Hp->VK->Prop}{f:PV->Option PV}(hp:P1 X.K r f)(ha:DE X E a da){F:af->Prop}{S:Nat->af->Prop}{ε:aj}{σ:St}{H:Hp}{Q:VK}(rl:aH X.K F S ε σ H)(h:Ok X.K E σ F S H (d1 f da ε) (λpv _ F' _ H'=>∀ v,aV X.K H' F' pv v->Q v H')):iY X a σ H λx H1=>r x H1 Q:=by
 refine ha F S ε σ H _ rl ((Ok.bind h).imp λx ε1 F1 S1 H1 r1 g1 h1 v rv=>?_);cases e:f x with
 | none=>rw[e]at h1; exact h1.elim
 | some pv=>rw[e]at h1;exact hp F1 H1 x v Q pv rv e λw F' H' al rw'=>h1 F' S1 H' (r1.al al) al.grow w rw'
theorem tw{op:UnaryOp}{r:V->Hp->VK->Prop}{f:PV->Option PV}(ho:xA X (unaryOp op) r)(hp:P1 X.K r f)(ha:DE X E a da):DE X E (.UnaryOp op a pos) (d1 f da):=λF S ε σ H Q rl h=>bC (OV ho bD) (NT hp ha rl h)
end
def oK(X:Cx)(es:List aB):TA:=λσ H Q=>Bx (∀ pos ag s,Inv X ag σ H s->aw (au X.prog X.w) X.A (spliced (bK pos (aC es X.env))) (AP X ag σ Q) X.xe s)
def DA(X:Cx)(E:XK)(es:List aB)(d:aj->R (List PV)):Prop :=
 ∀ F S ε σ H Q,aH X.K F S ε σ H->Ok X.K E σ F S H (d ε) (λpvs _ F' _ H'=>∀ vs,Reps X.K H' F' pvs vs->Q vs H')->oK X es σ H Q
section
variable{X:Cx}{E:XK}{a b c e:aB}{es:List aB}{da db dc d:aj->R PV}{ds:aj->R (List PV)}{pos:Pos}
theorem fZ{es:List aB}:PA X es (oK X es):=λpos ag s _ _ _ I h=>h.run pos ag s I
theorem o7{t:TA}(h:PA X es t){σ:St}{H:Hp}{Q:List V->Hp->Prop}(q:t σ H Q):oK X es σ H Q:=⟨λpos ag s I=>h pos ag s σ H Q I q⟩
def aL:aj->R (List PV):=λε=>.ok [] ε
def az(d:aj->R PV)(ds:aj->R (List PV)):aj->R (List PV):=λε=>(d ε).bind λx ε1=>(ds ε1).bind λxs ε2=>.ok (x::xs) ε2
theorem bb:DA X E [] aL:=λF S ε σ H Q rl h=>o7 i7 (h F S H rl (a_.refl ..) _ rfl)
theorem Mu(ha:DE X E e d)(hr:DA X E es ds)(hs:aC (e::es) X.env=(ak,aD e X.env)::aC es X.env:=by rfl):DA X E (e::es) (az d ds):=λF S ε σ H Q rl h=>by refine o7 (gP bD fZ hs) (ha F S ε σ H _ rl ((Ok.bind h).imp λx ε1 F1 S1 H1 r1 g1 h1 v rv=>?_));refine hr F1 S1 ε1 σ H1 _ r1 ((Ok.bind h1).imp λxs ε2 F2 S2 H2 r2 g2 h2 vs iU=>?_);exact h2 F2 S2 H2 r2 (a_.refl ..) _ ⟨v,vs,rfl,rv.grow g2 r1.fit,iU⟩
theorem aH.more{K:aq}{F N:af->Prop}{S:Nat->af->Prop}{ε:aj}{σ:St}{H:Hp}(r:aH K F S ε σ H)(hn:∀ b,N b->¬ U S b/\∃ o,H b=aa o):aH K (λb=>F b\/N b) S ε σ H:=by
 have mono:∀ x v,aV K H F x v->aV K H (λb=>F b\/N b) x v:=aV.mono (λ_ h=>.inl h) (λ_ _ _ q=>q) (λ_ _ q _=>q);have monos:∀ x v,Reps K H F x v->Reps K H (λb=>F b\/N b) x v:=Reps.mono (λ_ h=>.inl h) (λ_ _ _ q=>q) (λ_ _ q _=>q);refine⟨r.len,λb h=>h.elim (r.ex b) λz=>(hn b z).2,λi pv e=>?_,λi po e=>?_,λi b h=>?_,r.dist⟩
 ·obtain⟨v,h1,h2⟩:=r.val i pv e; exact⟨v,h1,mono _ _ h2⟩
 ·obtain⟨v,h1,h2⟩:=r.own i po e; exact⟨v,h1,h2.mono mono monos λ_ _ _ z=>z⟩
 ·obtain⟨h1,h2,h3⟩:=r.foot i b h;exact⟨h1,λz=>z.elim h2 λw=>(hn b w).1 ⟨i,h⟩,h3⟩
def vK:PO->Option PV
 | .lst xs=>aa (.lst xs)
 | _=>ae
def dF(d:aj->R PO):aj->R PV:=λε=>(d ε).bind λpo ε1=>aO (vK po) ε1
theorem DN.de{d:aj->R PO}(h:DN X E e d):DE X E e (dF d):=λF S ε σ H Q rl q=>by
 unfold dF at q;refine h F S ε σ H Q rl ?_;cases e0:d ε with
 | no=>rw[e0]at q; exact q.elim
 | er c ε'=>rw[e0]at q; exact q
 | ok po ε1=>
  rw[e0]at q;intro F1 S1 H1 r1 g1 a Sa ow fr;cases po with
  | dK kvs=>exact q.elim
  | lls ft=>exact q.elim
  | ins C fs=>exact q.elim
  | dT kvs=>exact q.elim
  | inl C fs y xs=>exact q.elim
  | lst xs=>
   have hN:∀ b,Sa b->¬ U S1 b/\∃ o,H1 b=aa o:=λb z=>let ⟨_,_,x3,o,x4,_⟩:=fr b z; ⟨x3,o,x4⟩
   obtain⟨⟨vs,ha,hr⟩,hS⟩:=ow;have g2:a_ (U S) (U S1) F (λb=>F1 b\/Sa b) H H1:=⟨λb z=>.inl (g1.fro b z),g1.keep,g1.there,λb z=>z.elim (g1.fnew b) λw=>.inr (.inl (fr b w).1),g1.onew⟩
   exact q _ S1 H1 (r1.more hN) g2 _ ⟨a,vs,rfl,.inl ha,.inr ((hS a).mpr rfl),Reps.mono (λ_ z=>.inl z) (λ_ _ _ z=>z) (λ_ _ z _=>z) _ _ hr⟩
def jb(xs:List PV):Option PV:=if xs.length<=1000 then aa (.tup xs)else ae
def c8(xs:List PV):Option PO:=if xs.length<=1000 then aa (.lst xs)else ae
def dL{α:Type}(f:List PV->Option α)(ds:aj->R (List PV)):aj->R α:=λε=>(ds ε).bind λxs ε1=>aO (f xs) ε1
def PL(K:aq)(r:List V->Hp->VK->Prop)(f:List PV->Option PV):Prop:=∀ (F:af->Prop) (H:Hp) (xs:List PV) (vs:List V) (Q:VK) (pv:PV),Reps K H F xs vs->f xs=aa pv->(∀ w F' H',Al F F' H H'->aV K H' F' pv w->Q w H')->r vs H Q
def kj(K:aq)(r:List V->Hp->VK->Prop)(f:List PV->Option PO):Prop:=∀ (F:af->Prop) (H:Hp) (xs:List PV) (vs:List V) (Q:VK) (po:PO),(∀ a,F a->∃ o,H a=aa o)->Reps K H F xs vs->f xs=aa po ->
 (∀ a F' H' Sa,Al F F' H H'->dX K H' F' po a Sa->(∀ b,Sa b->H b=ae/\¬ F' b/\∃ o,H' b=aa o/\cR o)->Q (.ref a) H')->r vs H Q
theorem An{r:List V->Hp->VK->Prop}{f:List PV->Option PV}(hp:PL X.K r f)(hd:DA X E es ds){F:af->Prop}{S:Nat->af->Prop}{ε:aj}{σ:St}{H:Hp}{Q:VK}(rl:aH X.K F S ε σ H)(h:Ok X.K E σ F S H (dL f ds ε) (λpv _ F' _ H'=>∀ v,aV X.K H' F' pv v->Q v H')):oK X es σ H λxs H1=>r xs H1 Q:=by
 refine hd F S ε σ H _ rl ((Ok.bind h).imp λxs ε1 F1 S1 H1 r1 g1 h1 vs iU=>?_);cases e:f xs with
 | none=>rw[e]at h1; exact h1.elim
 | some pv=>rw[e]at h1;exact hp F1 H1 xs vs Q pv iU e λw F' H' al rw'=>h1 F' S1 H' (r1.al al) al.grow w rw'
theorem jO{O O' F F':af->Prop}{H H':Hp}(g:a_ O O' F F' H H'){b:af}(h:H' b=ae):H b=ae:=by
 cases q:H b with
 | none=>rfl
 | some o=>obtain⟨o',e⟩:=g.there b o q; rw[h]at e; cases e
theorem wv{r:List V->Hp->VK->Prop}{f:List PV->Option PO}(hp:kj X.K r f)(hd:DA X E es ds){F:af->Prop}{S:Nat->af->Prop}{ε:aj}{σ:St}{H:Hp}{Q:VK}(rl:aH X.K F S ε σ H)(h:Ok X.K E σ F S H (dL f ds ε) (λpo _ F' S' H'=>∀ a Sa,dX X.K H' F' po a Sa->(∀ b,Sa b->H b=ae/\¬ F' b/\¬ U S' b/\∃ o,H' b=aa o/\cR o)->Q (.ref a) H')):oK X es σ H λxs H1=>r xs H1 Q:=by
 refine hd F S ε σ H _ rl ((Ok.bind h).imp λxs ε1 F1 S1 H1 r1 g1 h1 vs iU=>?_);cases e:f xs with
 | none=>rw[e]at h1; exact h1.elim
 | some po=>
  rw[e]at h1;refine hp F1 H1 xs vs Q po r1.ex iU e λa F' H' Sa al ow fr=>h1 F' S1 H' (r1.al al) al.grow a Sa ow λb z=>?_;obtain⟨z1,z2,o,z3,z4⟩:=fr b z;refine⟨jO g1 z1,z2,λ⟨i,w⟩=>?_,o,z3,z4⟩;obtain⟨_,_,o',w1,_⟩:=r1.foot i b w;rw[z1]at w1; cases w1
theorem zC{n:Nat}(h:n<=1000):n<=a9:=mB (FO h)
theorem LC{K:aq}:PL K (λxs H Q=>xs.length<=a9/\∀ p,H p=ae->Q (.ref p) (upd H p (.tup xs))) jb:=λF H xs vs Q pv rs e q=>by
 unfold jb at e;split at e
 ·cases e;refine⟨by rw[rs.len]; exact zC (by assumption),λp hp=>q _ F _ (Al.new0 hp) ⟨p,vs,rfl,b_,(Al.new0 hp).reps rs⟩⟩
 ·cases e
theorem v5{K:aq}{F:af->Prop}{H:Hp}{l:af}{xs:List PV}{vs:List V}(hl:H l=ae)(rs:Reps K H F xs vs):dX K (upd H l (.lst vs)) F (.lst xs) l (λb=>b=l):=⟨⟨vs,b_,(Al.new0 hl).reps rs⟩,λb=>Iff.rfl⟩
theorem wu{F:af->Prop}{H:Hp}{l:af}{o:HO}(hl:H l=ae)(hF:∀ a,F a->∃ o,H a=aa o)(hn:cR o):∀ b,b=l->H b=ae/\¬ F b/\∃ o',(upd H l o) b=aa o'/\cR o':=λb z=>by
 subst z;exact⟨hl,(λw=>by obtain⟨o,q⟩:=hF b w; rw[hl]at q; cases q),o,b_,hn⟩
theorem Pm{K:aq}:kj K (λxs H Q=>xs.length<=a9/\∀ p,H p=ae->Q (.ref p) (upd H p (.lst xs))) c8:=λF H xs vs Q po hF rs e q=>by
 unfold c8 at e;split at e
 ·cases e;exact⟨by rw[rs.len]; exact zC (by assumption),λp hp=>q p F _ _ (Al.new0 hp) (v5 hp rs) (wu hp hF trivial)⟩
 ·cases e
theorem qG{x1}(h:DA X E es ds):DE X E (.Tuple es x1 pos) (dL jb ds):=λF S ε σ H Q rl q=>bC (Kf fZ) (An LC h rl q)
theorem o0(h:DA X E es ds):DN X E (.List es pos) (dL c8 ds):=λF S ε σ H Q rl q=>bC (PZ fZ) (wv Pm h rl q)
theorem mn(h:DA X E es ds):DE X E (.List es pos) (dF (dL c8 ds)):=(o0 h).de
variable{x:Str}{p:Pos}{id T:String}{r:List V->Hp->VK->Prop}{f:List PV->Option PV}{fn:List PV->Option PO}
theorem cT(hc:eu X (.builtin id) r)(hp:PL X.K r f)(hm:X.mg x=ae)(hv:ef x=aa (.builtin id))(ha:DA X E (e::es) ds)(hg:Gl X x:=by rfl)(hn:x≠"__name__":=by decide)(eC:(x == ("__debug__" : Str))=ak:=by decide)(he:aC (e::es) X.env=(ak,aD e X.env)::aC es X.env:=by rfl) (cE:(bK pos (aC es X.env)).any (·.1)=ak:=by rfl):DE X E (.Call (.Name x p) (e::es) [] pos) (dL f ds):=λF S ε σ H Q rl q=>bC (pN hc hg hm hv fZ hn eC he cE) (An hp ha rl q)
theorem JZ(hc:eu X (.builtin id) r)(hp:kj X.K r fn)(hm:X.mg x=ae)(hv:ef x=aa (.builtin id))(ha:DA X E (e::es) ds)(hg:Gl X x:=by rfl)(hn:x≠"__name__":=by decide)(eC:(x == ("__debug__" : Str))=ak:=by decide)(he:aC (e::es) X.env=(ak,aD e X.env)::aC es X.env:=by rfl) (cE:(bK pos (aC es X.env)).any (·.1)=ak:=by rfl):DN X E (.Call (.Name x p) (e::es) [] pos) (dL fn ds):=λF S ε σ H Q rl q=>bC (pN hc hg hm hv fZ hn eC he cE) (wv hp ha rl q)
theorem rC(hc:eu X (.type T) r)(hp:PL X.K r f)(hm:X.mg x=ae)(hv:ef x=aa (.type T))(ha:DA X E (e::es) ds)(hg:Gl X x:=by rfl)(hn:x≠"__name__":=by decide)(eC:(x == ("__debug__" : Str))=ak:=by decide)(he:aC (e::es) X.env=(ak,aD e X.env)::aC es X.env:=by rfl) (cE:(bK pos (aC es X.env)).any (·.1)=ak:=by rfl):DE X E (.Call (.Name x p) (e::es) [] pos) (dL f ds):=λF S ε σ H Q rl q=>bC (wW hc hg hm hv fZ hn eC he cE) (An hp ha rl q)
theorem Md(hc:eu X (.type T) r)(hp:kj X.K r fn)(hm:X.mg x=ae)(hv:ef x=aa (.type T))(ha:DA X E (e::es) ds)(hg:Gl X x:=by rfl)(hn:x≠"__name__":=by decide)(eC:(x == ("__debug__" : Str))=ak:=by decide)(he:aC (e::es) X.env=(ak,aD e X.env)::aC es X.env:=by rfl) (cE:(bK pos (aC es X.env)).any (·.1)=ak:=by rfl):DN X E (.Call (.Name x p) (e::es) [] pos) (dL fn ds):=λF S ε σ H Q rl q=>bC (wW hc hg hm hv fZ hn eC he cE) (wv hp ha rl q)
theorem il{r:R2}{f:PV->PV->Option PV}(hr:li X r)(hp:P2 X.K r f)(ha:DE X E a da)(hb:DE X E b db)(hs:z8 b:=by exact λ_ _=>rfl):DE X E (.Subscript a b pos) (d2 f da db):=λF S ε σ H Q rl h=>bC (EA hr bD bD hs) (xi hp ha hb rl h)
def Aj(X:Cx)(e:Option aB):TO:=λσ H Q=>Bx (∀ ag s,Inv X ag σ H s->aw (au X.prog X.w) X.A (evalPart e X.env) (λu s'=>∃ o H',Inv X ag σ H' s'/\mJ u o/\Q o H') X.xe s)
theorem yE{o:Option aB}:L2.PO X o (Aj X o):=λag s _ _ _ I h=>h.run ag s I
theorem GN{o:Option aB}{t:TO}(h:L2.PO X o t){σ:St}{H:Hp}{Q:Option Int->Hp->Prop}(q:t σ H Q):Aj X o σ H Q:=⟨λag s I=>h ag s σ H Q I q⟩
def DO(X:Cx)(E:XK)(e:Option aB)(d:aj->R (Option Int)):Prop:=∀ F S ε σ H Q,aH X.K F S ε σ H->Ok X.K E σ F S H (d ε) (λo _ _ _ H'=>Q o H')->Aj X e σ H Q
def jP:aj->R (Option Int):=λε=>.ok ae ε
def w6:PV->Option Int
 | .int i=>aa i
 | _=>ae
def iq(d:aj->R PV):aj->R (Option Int):=λε=>(d ε).bind λx ε1=>aO ((w6 x).map aa) ε1
theorem wp:DO X E ae jP:=λF S ε σ H Q rl h=>GN LK (h F S H rl (a_.refl ..))
theorem sL(he:DE X E e d):DO X E (aa e) (iq d):=λF S ε σ H Q rl h=>by
 refine GN (Nm bD) (he F S ε σ H _ rl ((Ok.bind h).imp λx ε1 F1 S1 H1 r1 g1 h1 v rv=>?_));cases x <;> first | exact(show False from h1).elim | skip
 rename_i i;exact⟨i,rv,h1 F1 S1 H1 r1 (a_.refl ..)⟩
def jM{α:Type}(f:PV->Option Int->Option Int->Option α)(d:aj->R PV)(dl du:aj->R (Option Int)):aj->R α:=λε=>(d ε).bind λx ε1=>(dl ε1).bind λl ε2=>(du ε2).bind λu ε3=>aO (f x l u) ε3
def E4(K:aq)(r:V->Option Int->Option Int->Hp->VK->Prop)(f:PV->Option Int->Option Int->Option PV):Prop:=∀ (F:af->Prop) (H:Hp) (x:PV) (lo hi:Option Int) (v:V) (Q:VK) (pv:PV),aV K H F x v->f x lo hi=aa pv->(∀ w F' H',Al F F' H H'->aV K H' F' pv w->Q w H')->r v lo hi H Q
theorem w8{r:V->Option Int->Option Int->Hp->VK->Prop}{f:PV->Option Int->Option Int->Option PV}{lo hi:Option aB}{dl du:aj->R (Option Int)}{p2:Pos}(hr:mf X r)(hp:E4 X.K r f)(he:DE X E e d)(hl:DO X E lo dl)(hu:DO X E hi du) : DE X E (.Subscript e (.Slice lo hi ae p2) pos) (jM f d dl du):=λF S ε σ H Q rl h=>by
 refine bC (MD hr bD yE yE) (he F S ε σ H _ rl ((Ok.bind h).imp λx ε1 F1 S1 H1 r1 g1 h1 v rv=>?_));refine hl F1 S1 ε1 σ H1 _ r1 ((Ok.bind h1).imp λl ε2 F2 S2 H2 r2 g2 h2=>?_);refine hu F2 S2 ε2 σ H2 _ r2 ((Ok.bind h2).imp λu ε3 F3 S3 H3 r3 g3 h3=>?_);cases e3:f x l u with
 | none=>rw[e3]at h3; exact h3.elim
 | some pv=>rw[e3]at h3;exact hp F3 H3 x l u v Q pv ((rv.grow g2 r1.fit).grow g3 r2.fit) e3 λw F' H' al rw'=>h3 F' S3 H' (r3.al al) al.grow w rw'
end
inductive aT where
 | next | ret (s:Slot) | brk | cont
def kF(K:aq)(H:Hp)(F:af->Prop)(s:Slot)(v:V)(Sr:af->Prop):Prop:=match s with
 | .val pv=>aV K H F pv v/\∀ b,¬ Sr b
 | .own po=>∃ a,v = .ref a/\dX K H F po a Sr
 | .none=>False
def im(pin:List Nat)(σ σ':St):Prop:=∀ i∈pin,σ'[i]?=σ[i]?
theorem im.refl(pin:List Nat)(σ:St):im pin σ σ:=λ_ _=>rfl
theorem im.trans{pin:List Nat}{σ σ1 σ2:St}(a:im pin σ σ1)(b:im pin σ1 σ2):im pin σ σ2:=λi h=>(b i h).trans (a i h)
theorem im.set{pin:List Nat}{σ:St}{i:Nat}{x:Option V}(h:i∉pin):im pin σ (σ.set i x):=λj hj=>by rw[cg (by rintro rfl; exact h hj)]
def pL(F':af->Prop)(S':Nat->af->Prop)(H':Hp)(Sr:af->Prop):Prop:=∀ b,Sr b->¬ F' b/\¬ U S' b/\∃ o,H' b=aa o/\cR o
def jc(K:aq)(E:XK)(pin:List Nat)(σ:St)(F:af->Prop)(S:Nat->af->Prop)(H:Hp)(r:R aT)(D:lF):Prop:=match r with
 | .ok .next ε'=>∀ F' S' σ' H',aH K F' S' ε' σ' H'->a_ (U S) (U S') F F' H H'->im pin σ σ'->D.nx σ' H'
 | .ok .brk ε'=>∀ F' S' σ' H',aH K F' S' ε' σ' H'->a_ (U S) (U S') F F' H H'->im pin σ σ'->D.bk σ' H'
 | .ok .cont ε'=>∀ F' S' σ' H',aH K F' S' ε' σ' H'->a_ (U S) (U S') F F' H H'->im pin σ σ'->D.ct σ' H'
 | .ok (.ret s) ε'=>∀ v F' S' σ' H' Sr,aH K F' S' ε' σ' H'->a_ (U S) (λb=>U S' b\/Sr b) F F' H H'->im pin σ σ'->kF K H' F' s v Sr->pL F' S' H' Sr->D.rt v H'
 | .er c ε'=>∀ x F' S' σ' H',aH K F' S' ε' σ' H'->a_ (U S) (U S') F F' H H'->im pin σ σ'->E c x H'
 | .no=>False
def DS(X:Cx)(E:XK)(pin:List Nat)(st:aY)(d:aj->R aT):Prop:=∀ F S ε σ H D,aH X.K F S ε σ H->jc X.K E pin σ F S H (d ε) D->wpS X st D σ H
def fU(X:Cx)(E:XK)(pin:List Nat)(st:List aY)(d:aj->R aT):Prop:=∀ F S ε σ H D,aH X.K F S ε σ H->jc X.K E pin σ F S H (d ε) D->qL X st D σ H
section
variable{K:aq}{E:XK}{pin:List Nat}{σ σ1:St}{F F1:af->Prop}{S S1:Nat->af->Prop}{H H1:Hp}{D:lF}
theorem jc.from{r:R aT}(h:jc K E pin σ F S H r D)(g:a_ (U S) (U S1) F F1 H H1)(p:im pin σ σ1):jc K E pin σ1 F1 S1 H1 r D:=by
 cases r with
 | no=>exact h
 | er c ε'=>exact λx F' S' σ' H' r' g' p'=>h x F' S' σ' H' r' (g.trans g') (p.trans p')
 | ok f ε'=>
  cases f with
  | next=>exact λF' S' σ' H' r' g' p'=>h F' S' σ' H' r' (g.trans g') (p.trans p')
  | brk=>exact λF' S' σ' H' r' g' p'=>h F' S' σ' H' r' (g.trans g') (p.trans p')
  | cont=>exact λF' S' σ' H' r' g' p'=>h F' S' σ' H' r' (g.trans g') (p.trans p')
  | ret s=>exact λv F' S' σ' H' Sr r' g' p'=>h v F' S' σ' H' Sr r' (g.trans g') (p.trans p')
theorem jc.bindE{α:Type}{r:R α}{k:α->aj->R aT}(h:jc K E pin σ F S H (r.bind k) D):Ok K E σ F S H r (λa ε1 F1 S1 H1=>jc K E pin σ F1 S1 H1 (k a ε1) D):=by
 cases r with
 | no=>exact h
 | er c ε'=>exact λx F' S' H' r' g'=>h x F' S' σ H' r' g' (im.refl _ _)
 | ok a ε'=>exact λF' S' H' r' g'=>h.from g' (im.refl _ _)
end
section
variable{X:Cx}{E:XK}{pin:List Nat}{st:aY}{rest:List aY}{d d1 d2:aj->R aT}{e:aB}{de:aj->R PV}{pos:Pos}
def dy:aj->R aT:=λε=>.ok .next ε
theorem fz:fU X E pin [] dy:=λF S ε σ H D rl h=>Az JW (h F S σ H rl (a_.refl ..) (im.refl _ _))
def aN(d1 d2:aj->R aT):aj->R aT:=λε=>match d1 ε with
 | .ok .next ε1=>d2 ε1
 | r=>r
theorem bt(h1:DS X E pin st d1)(h2:fU X E pin rest d2):fU X E pin (st::rest) (aN d1 d2):=λF S ε σ H D rl h=>by
 refine Az (IN D1 tQ) (h1 F S ε σ H { D with nx:=qL X rest D } rl ?_);unfold aN at h;split at h
 ·rename_i ε1 e1;rw[e1];exact λF' S' σ' H' r' g' p'=>h2 F' S' ε1 σ' H' D r' (h.from g' p')
 ·rename_i r cY;generalize d1 ε=r1 at h cY;cases r1 with
  | no=>exact h
  | er c ε'=>exact h
  | ok f ε'=>
   cases f with
   | next=>exact absurd rfl (cY ε')
   | brk=>exact h
   | cont=>exact h
   | ret s=>exact h
theorem bq(h1:DS X E pin st d1):fU X E pin [st] d1:=λF S ε σ H D rl h=>Az (JS D1) (h1 F S ε σ H D rl h)
def xu(f:aT):aj->R aT:=λε=>.ok f ε
def Gx(d:aj->R PV):aj->R aT:=λε=>(d ε).bind λ_ ε1=>.ok .next ε1
def cy(d:aj->R PV):aj->R aT:=λε=>(d ε).bind λx ε1=>.ok (.ret (.val x)) ε1
theorem a_.cup{O O' F F':af->Prop}{H H':Hp}(g:a_ O O' F F' H H'):a_ O (λb=>O' b\/False) F F' H H':=⟨g.fro,g.keep,g.there,g.fnew,λa h=>h.elim (g.onew a) dU⟩
theorem dY(he:DE X E e de):DS X E pin (.Return (aa e) pos) (cy de):=λF S ε σ H D rl h=>iw (vM bD) (he F S ε σ H _ rl (h.bindE.imp λx ε1 F1 S1 H1 r1 g1 h1 v rv=>h1 v F1 S1 σ H1 (λ_=>False) r1 (a_.refl ..).cup (im.refl _ _) ⟨rv,λ_ z=>z⟩ λ_ z=>z.elim))
theorem P0:DS X E pin (.Return ae pos) (xu (.ret (.val .non))):=λF S ε σ H D rl h=>iw Qn (h _ F S σ H (λ_=>False) rl (a_.refl ..).cup (im.refl _ _) ⟨rfl,λ_ z=>z⟩ λ_ z=>z.elim)
def vn(d:aj->R PO):aj->R aT:=λε=>(d ε).bind λx ε1=>.ok (.ret (.own x)) ε1
theorem Mb{dn:aj->R PO}(he:DN X E e dn):DS X E pin (.Return (aa e) pos) (vn dn):=λF S ε σ H D rl h=>by
 refine iw (vM bD) (he F S ε σ H _ rl ?_);unfold vn at h;cases e0:dn ε with
 | no=>rw[e0]at h; exact h.elim
 | er c ε'=>rw[e0]at h; exact λx F' S' H' r' g'=>h x F' S' σ H' r' g' (im.refl _ _)
 | ok po ε1=>rw[e0]at h;intro F1 S1 H1 r1 g1 a Sa ow fr;exact h _ F1 S1 σ H1 Sa r1 ⟨g1.fro,g1.keep,g1.there,g1.fnew,λb z=>z.elim (g1.onew b) λw=>.inr (fr b w).1⟩ (im.refl _ _) ⟨a,rfl,ow⟩ λb z=>let ⟨_,x2,x3,x4⟩:=fr b z; ⟨x2,x3,x4⟩
def pE(i:Nat):aj->R aT:=λε=>match ε[i]? with
 | some (.own po)=>.ok (.ret (.own po)) (ε.set i .none)
 | _=>.no
theorem aH.drop{K:aq}{F:af->Prop}{S:Nat->af->Prop}{ε:aj}{σ:St}{H:Hp}(r:aH K F S ε σ H)(i:Nat):aH K F (λj b=>S j b/\j≠i) (ε.set i .none) σ H:=by
 have no:∀ {j s},(ε.set i .none)[j]?=aa s->s≠.none->j≠i/\ε[j]?=aa s:=λ{j s} e hs=>by
  by_cases hj:i=j
  ·subst hj;by_cases hi:i<ε.length
   ·rw[cA hi]at e; exact absurd (fj e).symm hs
   ·rw[jg (by rw[fL]; lia)]at e; cases e
  ·rw[cg hj]at e; exact⟨eh hj,e⟩
 refine⟨by rw[fL]; exact r.len,r.ex,λj pv e=>r.val j pv (no e (by intro z; cases z)).2,λj po e=>?_,λj b h=>?_,λj k b h1 h2=>r.dist j k b h1.1 h2.1⟩
 ·obtain⟨hj,e⟩:=no e (by intro z; cases z);obtain⟨a,h1,h2⟩:=r.own j po e;have eS:(λb=>S j b/\j≠i)=S j:=by funext b; simp[hj]
  exact⟨a,h1,by rw[eS]; exact h2⟩
 ·obtain⟨⟨po,q1⟩,q2⟩:=r.foot j b h.1;exact⟨⟨po,by rw[cg (eh h.2)]; exact q1⟩,q2⟩
theorem Ae(i:Nat){x:Str}{p:Pos}(hN:X.N[i]?=aa x:=by rfl)(hv:c7 X.env.scope x:=by first | exact Or.inl rfl | exact Or.inr (Or.inl rfl) | exact Or.inr (Or.inr rfl))(hd:(x == ("__debug__" : Str))=ak:=by decide)(a7:(x == ("__classdict__" : Str))=ak:=by decide):DS X E pin (.Return (aa (.Name x p)) pos) (pE i):=λF S ε σ H D rl h=>by
 unfold pE at h;split at h
 ·rename_i po e;obtain⟨a,e1,ow⟩:=rl.own i po e;refine iw (vM (dP hN hv hd a7)) ⟨_,e1,h _ F (λj b=>S j b/\j≠i) σ H (S i) (rl.drop i) ⟨λ_ z=>z,λ_ _ z _=>z,λ_ o z=>⟨o,z⟩,λ_ z=>.inl z,λb z=>?_⟩ (im.refl _ _) ⟨a,rfl,ow⟩ λb z=>?_⟩
  ·rcases z with⟨j,z,_⟩ | z
   ·exact .inl ⟨j,z⟩
   ·exact .inl ⟨i,z⟩
  ·exact⟨(rl.foot i b z).2.1,λ⟨j,w,hj⟩=>hj (rl.dist j i b w z),(rl.foot i b z).2.2⟩
 ·exact h.elim
theorem aH.set{K:aq}{F:af->Prop}{S:Nat->af->Prop}{ε:aj}{σ:St}{H:Hp}{i:Nat}{pv:PV}{v:V}(r:aH K F S ε σ H)(h:aV K H F pv v):aH K F (λj b=>S j b/\j≠i) (ε.set i (.val pv)) (σ.set i (aa v)) H:=by
 have r0:=r.drop i;have len:(ε.set i (.val pv)).length=(σ.set i (aa v)).length:=by rw[fL,fL]; exact r.len
 refine⟨len,r.ex,λj p e=>?_,λj po e=>?_,λj b h=>?_,r0.dist⟩
 ·by_cases hj:i=j
  ·subst hj;have hi:i<ε.length:=by have:=(cu.mp e).1;rw[fL]at this; exact this
   rw[cA hi]at e;cases e;exact⟨v,cA (by rw[← r.len]; exact hi),h⟩
  ·rw[cg hj]at e;obtain⟨w,h1,h2⟩:=r.val j p e;exact⟨w,by rw[cg hj]; exact h1,h2⟩
 ·have hj:i≠j:=by
   rintro rfl;have hi:i<ε.length:=by have:=(cu.mp e).1;rw[fL]at this; exact this
   rw[cA hi]at e; cases e
  rw[cg hj]at e;obtain⟨a,h1,h2⟩:=r.own j po e;have eS:(λb=>S j b/\j≠i)=S j:=by funext b; simp[eh hj]
  exact⟨a,by rw[cg hj]; exact h1,by rw[eS]; exact h2⟩
 ·obtain⟨⟨po,q1⟩,q2⟩:=r0.foot j b h;refine⟨⟨po,?_⟩,q2⟩;rw[cg (eh h.2)]at q1 ⊢;exact q1
theorem a_.less{S:Nat->af->Prop}{F:af->Prop}{H:Hp}(i:Nat):a_ (U S) (U λj b=>S j b/\j≠i) F F H H:=⟨λ_ z=>z,λ_ _ z _=>z,λ_ o z=>⟨o,z⟩,λ_ z=>.inl z,λb ⟨j,z⟩=>.inl ⟨j,z.1⟩⟩
theorem aH.setOwn{K:aq}{F:af->Prop}{S:Nat->af->Prop}{ε:aj}{σ:St}{H:Hp}{i:Nat}{po:PO}{a:af}{Sa:af->Prop}(r:aH K F S ε σ H)(hi:i<ε.length)(h:dX K H F po a Sa)(fr:pL F S H Sa) : aH K F (λj b=>(S j b/\j≠i)\/(j=i/\Sa b)) (ε.set i (.own po)) (σ.set i (aa (.ref a))) H:=by
 have r0:=r.drop i;refine⟨by rw[fL,fL]; exact r.len,r.ex,λj p e=>?_,λj po' e=>?_,λj b h=>?_,λj k b h1 h2=>?_⟩
 ·have hj:i≠j:=by rintro rfl; rw[cA hi]at e; cases e
  rw[cg hj]at e;obtain⟨w,h1,h2⟩:=r.val j p e;exact⟨w,by rw[cg hj]; exact h1,h2⟩
 ·by_cases hj:i=j
  ·subst hj;rw[cA hi]at e;cases e;have eS:(λb=>(S i b/\i≠i)\/(i=i/\Sa b))=Sa:=by funext b; simp
   exact⟨a,cA (by rw[← r.len]; exact hi),by rw[eS]; exact h⟩
  ·rw[cg hj]at e;obtain⟨a',h1,h2⟩:=r.own j po' e;have eS:(λb=>(S j b/\j≠i)\/(j=i/\Sa b))=S j:=by funext b; simp[eh hj]
   exact⟨a',by rw[cg hj]; exact h1,by rw[eS]; exact h2⟩
 ·rcases h with h | ⟨rfl,h⟩
  ·obtain⟨⟨po',q1⟩,q2⟩:=r0.foot j b h;refine⟨⟨po',?_⟩,q2⟩;rw[cg (eh h.2)]at q1 ⊢;exact q1
  ·obtain⟨x1,x2,x3⟩:=fr b h;exact⟨⟨po,cA hi⟩,x1,x3⟩
 ·rcases h1 with h1 | ⟨rfl,h1⟩ <;> rcases h2 with h2 | ⟨rfl,h2⟩
  ·exact r.dist j k b h1.1 h2.1
  ·exact absurd ⟨j,h1.1⟩ (fr b h2).2.1
  ·exact absurd ⟨k,h2.1⟩ (fr b h1).2.1
  ·rfl
def cM(i:Nat)(d:aj->R PV):aj->R aT:=λε=>(d ε).bind λx ε1=>.ok .next (ε1.set i (.val x))
theorem g6(i:Nat){x:Str}{p:Pos}(hN:X.N.Nodup)(he:DE X E e de)(hp:i∉pin:=by decide)(hi:X.N[i]?=aa x:=by rfl)(hx:Loc X.env.scope x:=by first | exact Or.inl rfl | exact Or.inr rfl)(hs:j4 e (aa (.Name x p)) pos.line X.env=pure ak:=by rfl)(hf:X.fn x=ah\/X.env.scope.names.lookup x=aa .local:=by first | exact .inl rfl | exact .inr rfl):DS X E pin (.Assign [.Name x p] e pos) (cM i de):=λF S ε σ H D rl h=>iw (GE hN hi hx bD hs hf) (he F S ε σ H _ rl (h.bindE.imp λx ε1 F1 S1 H1 r1 g1 h1 v rv=>h1 F1 _ _ H1 (r1.set rv) (a_.less i) (im.set hp)))
def fi(i:Nat)(d:aj->R PO):aj->R aT:=λε=>(d ε).bind λx ε1=>if i<ε1.length then .ok .next (ε1.set i (.own x))else .no
theorem nL(i:Nat){x:Str}{p:Pos}{dn:aj->R PO}(hN:X.N.Nodup)(he:DN X E e dn)(hp:i∉pin:=by decide)(hi:X.N[i]?=aa x:=by rfl)(hx:Loc X.env.scope x:=by first | exact Or.inl rfl | exact Or.inr rfl)(hs:j4 e (aa (.Name x p)) pos.line X.env=pure ak:=by rfl)(hf:X.fn x=ah\/X.env.scope.names.lookup x=aa .local:=by first | exact .inl rfl | exact .inr rfl):DS X E pin (.Assign [.Name x p] e pos) (fi i dn):=λF S ε σ H D rl h=>by
 refine iw (GE hN hi hx bD hs hf) (he F S ε σ H _ rl ?_);unfold fi at h;cases e0:dn ε with
 | no=>rw[e0]at h; exact h.elim
 | er c ε'=>rw[e0]at h; exact λx F' S' H' r' g'=>h x F' S' σ H' r' g' (im.refl _ _)
 | ok po ε1=>
  rw[e0]at h;simp only[R.bind_ok]at h;intro F1 S1 H1 r1 g1 a Sa ow fr;by_cases hl:i<ε1.length
  ·rw[if_pos hl]at h;refine h F1 _ _ H1 (r1.setOwn hl ow λb z=>(fr b z).2) ⟨g1.fro,g1.keep,g1.there,g1.fnew,λb ⟨j,z⟩=>?_⟩ (im.set hp);rcases z with z | ⟨_,z⟩
   ·exact g1.onew b ⟨j,z.1⟩
   ·exact .inr (fr b z).1
  ·rw[if_neg hl]at h; exact h.elim
theorem fE{c:aB}{a b:List aY}{t:aj->R Bool}(hc:DT X E c t)(ha:fU X E pin a d1)(hb:fU X E pin b d2):DS X E pin (.If c a b pos) (bX t d1 d2):=λF S ε σ H D rl h=>by
 refine iw (P8 pr tQ tQ) (hc F S ε σ H _ rl (h.bindE.imp λk ε1 F1 S1 H1 r1 g1 h1=>?_));cases k with
 | true=>exact pB (ha F1 S1 ε1 σ H1 D r1 h1)
 | false=>exact o4 (hb F1 S1 ε1 σ H1 D r1 h1)
def EC:aj->R aT:=λ_=>.no
theorem P5{sts:List aY}:fU X E pin sts EC:=λ_ _ _ _ _ _ _ h=>h.elim
def gk(r:R aT):R aT:=match r with
 | .er _ _=>.no
 | r=>r
theorem o5(h:DS X.nox E0 pin st d):DS X E pin st (λε=>gk (d ε)):=λF S ε σ H D rl q=>Bx.mk λag s I=>by
 have q:jc X.K E pin σ F S H (gk (d ε)) D:=q;have q':jc X.K E0 pin σ F S H (d ε) D:=by
  cases e:d ε with
  | no=>rw[e]at q; exact q
  | er c ε'=>rw[e]at q; exact q.elim
  | ok f ε'=>rw[e]at q; cases f <;> exact q
 exact dZ ((h F S ε σ H D rl q').run ag s (I.wish _)) (λ_ _ z=>z.unwish) λ_ _ z=>z.elim
def ub(X:Cx)(tg iter:aB):TI:=λσ H Rr=>Bx (∀ ag s,Inv X ag σ H s->aw (au X.prog X.w) X.A (aD iter X.env) (λv s1=>aw (au X.prog X.w) X.A (nY v) (vC X ag σ tg Rr) X.xe s1) X.xe s)
theorem G4{tg iter:aB}:PI X tg iter (ub X tg iter):=λag s _ _ _ I h=>h.run ag s I
theorem D3{tg iter:aB}{t:TI}(h:PI X tg iter t){σ:St}{H:Hp}{Rr:It->Hp->Prop}(q:t σ H Rr):ub X tg iter σ H Rr:=⟨λag s I=>h ag s σ H Rr I q⟩
def DI(X:Cx)(E:XK)(tg iter:aB)(d:aj->R (List PV)):Prop:=∀ F S ε σ H Rr,aH X.K F S ε σ H ->
 Ok X.K E σ F S H (d ε) (λpvs _ F' S' H'=>∀ J vs RR,Reps X.K H' F' pvs vs->vs.length<=a9->Walk J vs RR->(∀ S'' F'' H'',a_ (U S') (U S'') F' F'' H' H''->RR H'')->Rr J H')->ub X tg iter σ H Rr
def gT(i:Nat)(db:aj->R aT):List PV->aj->R aT
 | [],ε=>.ok .next ε
 | x::xs,ε=>match db (ε.set i (.val x))with
  | .ok .next ε'=>gT i db xs ε'
  | .ok .cont ε'=>gT i db xs ε'
  | .ok .brk ε'=>.ok .next ε'
  | r=>r
def gM(i:Nat)(di:aj->R (List PV))(db:aj->R aT):aj->R aT:=λε=>(di ε).bind λxs ε1=>gT i db xs ε1
theorem o8(i:Nat){x:Str}{p:Pos}{iter:aB}{body:List aY}{di:aj->R (List PV)}{db:aj->R aT}(hpo:PassesOwn (au X.prog X.w) X.A X.env X.xe)(hc:X.calm=ah)(hN:X.N.Nodup)(hi:DI X E (.Name x p) iter di)(hb:fU X E pin body db)(hp:i∉pin:=by decide) (hx:X.N[i]?=aa x:=by rfl) (hl:Loc X.env.scope x:=by first | exact Or.inl rfl | exact Or.inr rfl) (hs:∀ x,Bq iter X.env x=pure x:=by intro _; rfl)(hf:X.fn x=ah\/X.env.scope.names.lookup x=aa .local:=by first | exact .inl rfl | exact .inr rfl):DS X E pin (.For (.Name x p) iter body [] pos) (gM i di db):=λF S ε σ H D rl h=>by
 refine iw (MH hpo hc G4 (QN hN hx hl hf) tQ hs) (hi F S ε σ H _ rl (h.bindE.imp λxs ε1 F1 S1 H1 r1 g1 h1 J vs RR rs hz hw keep=>?_));refine Oi hw (λk σ' H'=>∃ F' S' ε',aH X.K F' S' ε' σ' H'/\a_ (U S1) (U S') F1 F' H1 H'/\jc X.K E pin σ' F' S' H' (gT i db (xs.drop k) ε') D) ⟨F1,S1,ε1,r1,a_.refl ..,h1⟩ (λk σ' H' _ ⟨F',S',ε',_,g,_⟩=>keep S' F' H' g) ?_ ?_
 ·rintro k v σ' H' hv ⟨F',S',ε',r',g',q⟩;obtain⟨x,hx,rx⟩:=rs.back hv;have hk:k<xs.length:=(cu.mp hx).1;have ed:xs.drop k=x::xs.drop (k+1):=by rw[xZ hk];congr 1;exact(cu.mp hx).2
  rw[ed]at q;have rx':=rx.grow g' r1.fit;have r2:=r'.set (i:=i) rx';have gl:a_ (U S') (U λj b=>S' j b/\j≠i) F' F' H' H':=a_.less i;show qL X body _ (σ'.set i (aa v)) H';refine hb F' _ _ _ H' _ r2 ?_;unfold gT at q;have q:=q.from gl (im.set (x:=aa v) hp);cases e:db (ε'.set i (.val x))with
  | no=>rw[e]at q; exact q
  | er c ε3=>rw[e]at q; exact q
  | ok f ε3=>
   rw[e]at q;cases f with
   | next=>exact λF3 S3 σ3 H3 r3 g3 p3=>⟨F3,S3,ε3,r3,(g'.trans gl).trans g3,q.from g3 p3⟩
   | cont=>exact λF3 S3 σ3 H3 r3 g3 p3=>⟨F3,S3,ε3,r3,(g'.trans gl).trans g3,q.from g3 p3⟩
   | brk=>exact q
   | ret s=>exact q
 ·rintro σ' H' ⟨F',S',ε',r',g',q⟩;have hl:vs.length=xs.length:=rs.len;rw[hl,HC]at q;exact q F' S' σ' H' r' (a_.refl ..) (im.refl _ _)
end
def pI(K:aq)(E:XK)(vs:List V)(F:af->Prop)(S:Nat->af->Prop)(H:Hp)(r:R Slot)(Q:VK):Prop:=match r with
 | .ok s aF=>∀ v F' S' H' Sr,aH K F' S' aF (vs.map aa) H'->a_ (U S) (λb=>U S' b\/Sr b) F F' H H'->kF K H' F' s v Sr->pL F' S' H' Sr->(∀ b,Sr b->H b=ae)->Q v H'
 | .er c aF=>∀ x F' S' H',aH K F' S' aF (vs.map aa) H'->a_ (U S) (U S') F F' H H'->E c x H'
 | .no=>False
def br(K:aq)(g:aj->R Slot):Sp:=λvs H Q E=>∃ F S ss,aH K F S ss (vs.map aa) H/\pI K E vs F S H (g ss) Q
structure cF(CX:dJ)(P:aM)(w:aG)(K:aq)(mg:Str->Option ai)(base:aA)(x:Str)(k:Nat)(ps:List Str)(sp:Sp):Prop where
 ex:∃ f fd,mg x=aa (.ref f)/\ez P w K mg base CX k f fd ps sp/\Binds K fd ps []/\jC K (.ref f)=ah
theorem cF.mono{CX:dJ}{P:aM}{w:aG}{K:aq}{mg:Str->Option ai}{base:aA}{x:Str}{j k:Nat}{ps:List Str}{sp:Sp}(c:cF CX P w K mg base x j ps sp)(h:j<=k):cF CX P w K mg base x k ps sp:=by obtain⟨f,fd,h1,h2,h3,h4⟩:=c.ex;exact⟨f,fd,h1,h2.mono h,h3,h4⟩
def back:aj->aj->Option aj
 | [],_=>aa []
 | .own _::ss,.own po::es=>(back ss es).map (.own po::·)
 | .own _::_,_=>ae
 | s::ss,_::es=>(back ss es).map (s::·)
 | _::_,[]=>ae
theorem wt:∀ {ss es aF:aj},back ss es=aa aF->aF.length=ss.length/\∀ (i:Nat) (s:Slot),aF[i]?=aa s->(∃ po po',ss[i]?=aa (.own po)/\es[i]?=aa (.own po')/\s = .own po')\/(ss[i]?=aa s/\∀ po,s≠.own po)
 | [],_,aF,h=>by cases h; exact⟨rfl,λi s e=>by simp at e⟩
 | .own po::ss,.own po'::es,aF,h=>by
  unfold back at h;cases e:back ss es with
  | none=>rw[e]at h; cases h
  | some r=>
   rw[e]at h; cases h;obtain⟨l,q⟩:=wt e;refine⟨by simp[l],λi s hi=>?_⟩;cases i with
   | zero=>simp at hi; subst hi; exact .inl ⟨po,po',rfl,rfl,rfl⟩
   | succ i=>simpa using q i s (by simpa using hi)
 | .own po::ss,.none::es,aF,h=>by cases h
 | .own po::ss,.val _::es,aF,h=>by cases h
 | .own po::ss,[],aF,h=>by cases h
 | .none::ss,[],aF,h=>by cases h
 | .val _::ss,[],aF,h=>by cases h
 | .none::ss,x::es,aF,h=>by
  have h:(back ss es).map (Slot.none::·)=aa aF:=by unfold back at h; cases x <;> exact h
  cases e:back ss es with
  | none=>rw[e]at h; cases h
  | some r=>
   rw[e]at h; cases h;obtain⟨l,q⟩:=wt e;refine⟨by simp[l],λi s hi=>?_⟩;cases i with
   | zero=>simp at hi; subst hi; exact .inr ⟨rfl,λ_ z=>by cases z⟩
   | succ i=>simpa using q i s (by simpa using hi)
 | .val pv::ss,x::es,aF,h=>by
  have h:(back ss es).map (Slot.val pv::·)=aa aF:=by unfold back at h; cases x <;> exact h
  cases e:back ss es with
  | none=>rw[e]at h; cases h
  | some r=>
   rw[e]at h; cases h;obtain⟨l,q⟩:=wt e;refine⟨by simp[l],λi s hi=>?_⟩;cases i with
   | zero=>simp at hi; subst hi; exact .inr ⟨rfl,λ_ z=>by cases z⟩
   | succ i=>simpa using q i s (by simpa using hi)
def bu(n:Nat)(d:aj->R aT):aj->R Slot:=λss=>match d (ss++aU n .none)with
 | .ok (.ret r) ε'=>(aO (back ss ε') []).bind λaF _=>.ok r aF
 | .ok .next ε'=>(aO (back ss ε') []).bind λaF _=>.ok (.val .non) aF
 | .er c ε'=>(aO (back ss ε') []).bind λaF _=>.er c aF
 | _=>.no
section
variable{K:aq}{F F':af->Prop}{S S':Nat->af->Prop}{ss ε' aF:aj}{σ':St}{H H':Hp}{vs:List V}
theorem aH.start(r:aH K F S ss (vs.map aa) H)(n:Nat):aH K F S (ss++aU n .none) (vs.map aa++aU n ae) H:=by
 have hl:ss.length=(vs.map aa).length:=r.len;have no:∀ {j:Nat} {s:Slot},(ss++aU n Slot.none)[j]?=aa s->s≠.none->ss[j]?=aa s:=λ{j s} e hs=>by
  by_cases hj:j<ss.length
  ·rw[fJ hj]at e; exact e
  ·rw[jE ∅,List.getElem?_replicate]at e;split at e
   ·exact absurd (fj e).symm hs
   ·cases e
 have up:∀ {j:Nat} {v:Option V},(vs.map aa)[j]?=aa v->(vs.map aa++aU n ae)[j]?=aa v:=λ{j v} e=>by rw[fJ (cu.mp e).1]; exact e
 refine⟨by simp[hl],r.ex,λj pv e=>?_,λj po e=>?_,λj b h=>?_,r.dist⟩
 ·obtain⟨v,h1,h2⟩:=r.val j pv (no e (by intro z; cases z)); exact⟨v,up h1,h2⟩
 ·obtain⟨v,h1,h2⟩:=r.own j po (no e (by intro z; cases z)); exact⟨v,up h1,h2⟩
 ·obtain⟨⟨po,q⟩,q2⟩:=r.foot j b h;exact⟨⟨po,by rw[fJ (cu.mp q).1]; exact q⟩,q2⟩
theorem D7{po:PO}{a:af}{Sa:af->Prop}(h:dX K H F po a Sa)(hf:jo po=ah):∀ b,Sa b↔b=a:=by
 cases po with
 | lst xs=>exact h.2
 | dK kvs=>exact h.2
 | lls ft=>cases hf
 | ins C fs=>exact h.2
 | dT kvs=>exact h.2
 | inl C fs y xs=>cases hf
theorem LM{po:PO}{a:af}{Sa:af->Prop}(h:dX K H F po a Sa):Sa a:=by
 cases po with
 | lst xs=>exact(h.2 a).mpr rfl
 | dK kvs=>exact(h.2 a).mpr rfl
 | lls ft=>obtain⟨as,_,_,_,_,w⟩:=h; exact(w a).mpr (.inl rfl)
 | ins C fs=>exact(h.2 a).mpr rfl
 | dT kvs=>exact(h.2 a).mpr rfl
 | inl C fs y xs=>obtain⟨_,_,_,_,_,_,_,_,_,_,w⟩:=h; exact(w a).mpr (.inl rfl)
theorem aH.back{O':af->Prop}{pin:List Nat}{n:Nat}(r0:aH K F S ss (vs.map aa) H)(r:aH K F' S' ε' σ' H')(g:a_ (U S) O' F F' H H')(p:im pin (vs.map aa++aU n ae) σ')(lS:∀ (i:Nat) (po:PO),ss[i]?=aa (.own po)->i∈pin)(hb:back ss ε'=aa aF) : ∃ S'',aH K F' S'' aF (vs.map aa) H'/\(∀ b,U S'' b->U S' b)/\((∀ (i:Nat) (po:PO),ss[i]?=aa (.own po)->jo po=ah)->∀ b,U S b->U S'' b):=by
 obtain⟨hl,hg⟩:=wt hb;have inj:∀ (i:Nat) (po:PO),ss[i]?=aa (.own po)->∃ a,(vs.map aa)[i]?=aa (aa (.ref a))/\σ'[i]?=aa (aa (.ref a))/\dX K H F po a (S i):=λi po e=>by obtain⟨a,h1,h2⟩:=r0.own i po e;refine⟨a,h1,?_,h2⟩;rw[p i (lS i po e),fJ (cu.mp h1).1]; exact h1
 have bk:∀ (i:Nat) (po:PO),ss[i]?=aa (.own po)->∃ po',aF[i]?=aa (.own po')/\ε'[i]?=aa (.own po'):=λi po e=>by
  have hi:i<aF.length:=by rw[hl]; exact(cu.mp e).1
  rcases hg i aF[i] (by simp[hi])with⟨p1,p2,q1,q2,q3⟩ | ⟨q1,q2⟩
  ·exact⟨p2,by rw[fK hi,q3],q2⟩
  ·rw[e]at q1; exact absurd (fj q1).symm (q2 po)
 refine⟨λi b=>S' i b/\∃ po,ss[i]?=aa (.own po),⟨by rw[hl]; exact r0.len,r.ex,λi pv e=>?_,λi po e=>?_,λi b h=>?_,λi j b h1 h2=>r.dist i j b h1.1 h2.1⟩,λb ⟨i,h⟩=>⟨i,h.1⟩,λoC b ⟨i,h⟩=>?_⟩
 ·rcases hg i _ e with⟨_,_,_,_,z⟩ | ⟨q1,_⟩
  ·cases z
  ·obtain⟨v,h1,h2⟩:=r0.val i pv q1;exact⟨v,h1,h2.grow g r0.fit⟩
 ·rcases hg i _ e with⟨p1,p2,q1,q2,q3⟩ | ⟨_,q2⟩
  ·cases q3;obtain⟨a,h1,h2,h3⟩:=inj i p1 q1;obtain⟨a',h4,h5⟩:=r.own i po q2;rw[h2]at h4;cases h4;refine⟨a,h1,?_⟩;have eS:(λb=>S' i b/\∃ po,ss[i]?=aa (.own po))=S' i:=by funext b; exact propext ⟨λz=>z.1,λz=>⟨z,p1,q1⟩⟩
   rw[eS]; exact h5
  ·exact absurd rfl (q2 po)
 ·obtain⟨po,q⟩:=h.2;obtain⟨po',z1,z2⟩:=bk i po q;exact⟨⟨po',z1⟩,(r.foot i b h.1).2⟩
 ·obtain⟨⟨po,q⟩,_⟩:=r0.foot i b h;obtain⟨a,h1,h2,h3⟩:=inj i po q;obtain⟨po',z1,z2⟩:=bk i po q;obtain⟨a',h4,h5⟩:=r.own i po' z2;rw[h2]at h4;cases h4;have e:b=a:=(D7 h3 (oC i po q) b).mp h;exact⟨i,e ▸ LM h5,po,q⟩
end
theorem CM{f:af}{fd:e_}{CX:dJ}{P:aM}{w:aG}{K:aq}{mg:Str->Option ai}{base:aA}{x qual:Str}{st:aY}{N ps:List Str}{k n:Nat}{g:aj->R Slot}{d:aj->R aT}{pin:List Nat}(Fn:ko K x qual st f fd)(Sc:bN N ps (aP st))(hn:N.length=ps.length+n)(hb:∀ (kV doc pm:ai) (an:Option af) (aE ct:ai) (us:List ai),us.length=ps.length->eO (fq x qual (gn st) (dm st) (aP st) .none kV doc pm an aE ct) ⟨us,[]⟩=pure (ps.zip us))(a8:∀ ss,g ss≠.no->ss.length=ps.length) (lS:∀ ss,g ss≠.no->∀ (i:Nat) po,ss[i]?=aa (.own po)->i∈pin) (oC:∀ ss rs aF,g ss = .ok rs aF->(∃ pv,rs = .val pv)\/∀ (i:Nat) po,ss[i]?=aa (.own po)->jo po=ah) (hg:∀ ss,g ss≠.no->bu n d ss=g ss)(d4:∀ (A:aR) (outer:List Env) (s:ao) (H:Hp) (E:XK),bZ k (A.deeper (f_ qual (aP st) s.heap.objs.size f fd.code))->fU (fY CX P w K mg base N qual (aP st) f fd.code A outer s H E) E pin (dm st) d) : ez P w K mg base CX (k+1) f fd ps (br K g):=by
 obtain⟨oc,od,kV,doc,pm,an,aE,ct,osl,rfl,lk,a7⟩:=Fn.ex;have ne:∀ {E:XK} {vs:List V} {F:af->Prop} {S:Nat->af->Prop} {H:Hp} {ss:aj} {Q:VK},pI K E vs F S H (g ss) Q->g ss≠.no:=λ{E vs F S H ss Q} h z=>by rw[z]at h; exact h
 refine Cn lk a7 Sc (λvs H Q E ⟨F,S,ss,rl,ok⟩=>?_) λA outer s H vs Q E hr gY=>?_
 ·have:=a8 ss (ne ok);have h2:=rl.len;rw[cX]at h2;lia
 ·obtain⟨F,S,ss,rl,ok⟩:=gY;refine⟨_,tQ,?_⟩;have hl:=a8 ss (ne ok);have h2:=rl.len;rw[cX]at h2;have es:L2.start N vs=vs.map aa++aU n ae:=by unfold L2.start;rw[show N.length-vs.length=n by lia]
  rw[es];refine d4 A outer s H E hr F S _ _ H _ (rl.start n) ?_;have sh:=lS ss (ne ok);have jJ:=hg ss (ne ok);have yt:=oC ss;rw[← jJ]at ok yt;unfold bu at ok yt;generalize d (ss++aU n .none)=r at ok yt ⊢;cases r with
  | no=>exact ok
  | er c ε'=>
   intro x F' S' σ' H' r' g' p';have ok:pI K E vs F S H ((aO (back ss ε') []).bind λaF _=>.er c aF) Q:=ok;cases e:back ss ε' with
   | none=>rw[e]at ok; exact ok.elim
   | some aF=>rw[e]at ok;obtain⟨S'',r'',sub,_⟩:=rl.back r' g' p' sh e;exact ok x F' S'' H' r'' ⟨g'.fro,g'.keep,g'.there,g'.fnew,λb z=>g'.onew b (sub b z)⟩
  | ok fl ε'=>
   have fin:∀ (rs:Slot),(∀ aF,back ss ε'=aa aF->(∃ pv,rs = .val pv)\/∀ (i:Nat) po,ss[i]?=aa (.own po)->jo po=ah)->pI K E vs F S H ((aO (back ss ε') []).bind λaF _=>.ok rs aF) Q->∀ (v:V) F' S' σ' H' Sr,aH K F' S' ε' σ' H'->a_ (U S) (λb=>U S' b\/Sr b) F F' H H'->im pin (vs.map aa++aU n ae) σ'->kF K H' F' rs v Sr->pL F' S' H' Sr->Q v H':=by
    intro rs hrs ok v F' S' σ' H' Sr r' g' p' hv lo;cases e:back ss ε' with
    | none=>rw[e]at ok; exact ok.elim
    | some aF=>
     rw[e]at ok;obtain⟨S'',r'',sub,up⟩:=rl.back r' g' p' sh e;refine ok v F' S'' H' Sr r'' ⟨g'.fro,g'.keep,g'.there,g'.fnew,λb z=>g'.onew b (z.imp (sub b) id)⟩ hv (λb z=>⟨(lo b z).1,λw=>(lo b z).2.1 (sub b w),(lo b z).2.2⟩) λb z=>?_;rcases hrs aF e with⟨pv,rfl⟩ | hf
     ·exact absurd z (hv.2 b)
     rcases g'.onew b (.inr z)with w | w
     ·exact absurd (sub b (up hf b w)) (lo b z).2.1
     ·exact w
   cases fl with
   | brk=>exact ok.elim
   | cont=>exact ok.elim
   | ret rs=>exact fin rs (λaF e=>yt rs aF (by show(aO (back ss ε') []).bind _=_; rw[e]; rfl)) ok
   | next=>exact λF' S' σ' H' r' g' p'=>fin (.val .non) (λ_ _=>.inl ⟨_,rfl⟩) ok .non F' S' σ' H' (λ_=>False) r' ⟨g'.fro,g'.keep,g'.there,g'.fnew,λb z=>z.elim (g'.onew b) dU⟩ p' ⟨rfl,λ_ z=>z⟩ λ_ z=>z.elim
theorem E2{f:af}{fd:e_}{CX:dJ}{P:aM}{w:aG}{K:aq}{mg:Str->Option ai}{base:aA}{x qual:Str}{st:aY}{N ps:List Str}{k n:Nat}{g:aj->R Slot}{d:aj->R aT}{pin:List Nat}(Fn:ko K x qual st f fd)(Sc:bN N ps (aP st))(hn:N.length=ps.length+n)(hb:∀ (kV doc pm:ai) (an:Option af) (aE ct:ai) (us:List ai),us.length=ps.length->eO (fq x qual (gn st) (dm st) (aP st) .none kV doc pm an aE ct) ⟨us,[]⟩=pure (ps.zip us))(a8:∀ ss,g ss≠.no->ss.length=ps.length) (lS:∀ ss,g ss≠.no->∀ (i:Nat) po,ss[i]?=aa (.own po)->i∈pin/\jo po=ah) (hg:∀ ss,g ss≠.no->bu n d ss=g ss)(d4:∀ (f:af) (aE:ai) (A:aR) (outer:List Env) (s:ao) (H:Hp) (E:XK),bZ k (A.deeper (f_ qual (aP st) s.heap.objs.size f aE))->fU (fY CX P w K mg base N qual (aP st) f aE A outer s H E) E pin (dm st) d) : ez P w K mg base CX (k+1) f fd ps (br K g):=CM Fn Sc hn hb a8 (λss h i po e=>(lS ss h i po e).1) (λss rs aF h=>.inr λi po e=>(lS ss (by rw[h]; exact nofun) i po e).2) hg λA outer s H E=>d4 f fd.code A outer s H E
theorem QE{CX:dJ}{P:aM}{w:aG}{K:aq}{mg:Str->Option ai}{base:aA}{x:Str}{st:aY}{N ps:List Str}{k n:Nat}{g:aj->R Slot}{d:aj->R aT}{pin:List Nat}(D:cP K mg x st)(Sc:bN N ps (aP st))(hn:N.length=ps.length+n)(hb:∀ (kV doc pm:ai) (an:Option af) (aE ct:ai) (us:List ai),us.length=ps.length->eO (fq x x (gn st) (dm st) (aP st) .none kV doc pm an aE ct) ⟨us,[]⟩=pure (ps.zip us))(a8:∀ ss,g ss≠.no->ss.length=ps.length) (lS:∀ ss,g ss≠.no->∀ (i:Nat) po,ss[i]?=aa (.own po)->i∈pin/\jo po=ah) (hg:∀ ss,g ss≠.no->bu n d ss=g ss)(d4:∀ (f:af) (aE:ai) (A:aR) (outer:List Env) (s:ao) (H:Hp) (E:XK),bZ k (A.deeper (f_ x (aP st) s.heap.objs.size f aE))->fU (fY CX P w K mg base N x (aP st) f aE A outer s H E) E pin (dm st) d) : cF CX P w K mg base x (k+1) ps (br K g):=by obtain⟨f,fd,hm,Fn⟩:=D.ex;exact⟨f,fd,hm,E2 Fn Sc hn hb a8 lS hg d4,Fn.binds hb,Fn.kp⟩
abbrev bA:=Sum PV Nat
def eU(K:aq)(σ:St)(F:af->Prop)(H:Hp):List bA->List V->Prop
 | [],vs=>vs=[]
 | .inl pv::as,vs=>∃ v r,vs=v::r/\aV K H F pv v/\eU K σ F H as r
 | .inr i::as,vs=>∃ v r,vs=v::r/\σ[i]?=aa (aa v)/\eU K σ F H as r
def DG(X:Cx)(E:XK)(es:List aB)(d:aj->R (List bA)):Prop :=
 ∀ F S ε σ H Q,aH X.K F S ε σ H->Ok X.K E σ F S H (d ε) (λas _ F' _ H'=>∀ vs,eU X.K σ F' H' as vs->Q vs H')->oK X es σ H Q
section
variable{X:Cx}{E:XK}{e:aB}{es:List aB}{de:aj->R PV}{dg:aj->R (List bA)}{pos:Pos}
def bT:aj->R (List bA):=λε=>.ok [] ε
def gV(d:aj->R PV)(dg:aj->R (List bA)):aj->R (List bA):=λε=>(d ε).bind λx ε1=>(dg ε1).bind λxs ε2=>.ok (.inl x::xs) ε2
def gO(i:Nat)(dg:aj->R (List bA)):aj->R (List bA):=λε=>match ε[i]? with
 | some (.own _)=>(dg ε).bind λxs ε2=>.ok (.inr i::xs) ε2
 | _=>.no
theorem bW:DG X E [] bT:=λF S ε σ H Q rl h=>o7 i7 (h F S H rl (a_.refl ..) _ rfl)
theorem J2(ha:DE X E e de)(hr:DG X E es dg)(hs:aC (e::es) X.env=(ak,aD e X.env)::aC es X.env:=by rfl):DG X E (e::es) (gV de dg):=λF S ε σ H Q rl h=>by refine o7 (gP bD fZ hs) (ha F S ε σ H _ rl ((Ok.bind h).imp λx ε1 F1 S1 H1 r1 g1 h1 v rv=>?_));refine hr F1 S1 ε1 σ H1 _ r1 ((Ok.bind h1).imp λxs ε2 F2 S2 H2 r2 g2 h2 vs iU=>?_);exact h2 F2 S2 H2 r2 (a_.refl ..) _ ⟨v,vs,rfl,rv.grow g2 r1.fit,iU⟩
theorem jm(i:Nat){x:Str}{p:Pos}(hr:DG X E es dg)(hN:X.N[i]?=aa x:=by rfl)(hv:c7 X.env.scope x:=by first | exact Or.inl rfl | exact Or.inr (Or.inl rfl) | exact Or.inr (Or.inr rfl))(hd:(x == ("__debug__" : Str))=ak:=by decide)(a7:(x == ("__classdict__" : Str))=ak:=by decide) (hs:aC (.Name x p::es) X.env=(ak,aD (.Name x p) X.env)::aC es X.env:=by rfl):DG X E (.Name x p::es) (gO i dg):=λF S ε σ H Q rl h=>by
 unfold gO at h;split at h
 ·rename_i po e;obtain⟨a,e1,_⟩:=rl.own i po e;refine o7 (gP (dP hN hv hd a7) fZ hs) ⟨_,e1,hr F S ε σ H _ rl ((Ok.bind h).imp λxs ε2 F2 S2 H2 r2 g2 h2 vs iU=>?_)⟩;exact h2 F2 S2 H2 r2 (a_.refl ..) _ ⟨_,vs,rfl,e1,iU⟩
 ·exact h.elim
end
def cJ(ε:aj):List bA->Option aj
 | []=>aa []
 | .inl pv::as=>(cJ ε as).map (.val pv::·)
 | .inr i::as=>match ε[i]? with
  | some (.own po)=>(cJ ε as).map (.own po::·)
  | _=>ae
def eD:aj->List bA->aj->aj
 | ε,.inl _::as,_::ss=>eD ε as ss
 | ε,.inr i::as,s::ss=>eD (ε.set i s) as ss
 | ε,_,_=>ε
def bF:List bA->List Nat
 | []=>[]
 | .inl _::as=>bF as
 | .inr i::as=>i::bF as
theorem EG:∀ {as:List bA} {i:Nat},i∈bF as↔∃ k:Nat,as[k]?=aa (.inr i)
 | [],i=>by simp[bF]
 | .inl _::as,i=>by
  unfold bF;rw[EG];constructor
  ·rintro⟨k,h⟩; exact⟨k+1,by simpa using h⟩
  ·rintro⟨k,h⟩;cases k with
   | zero=>simp at h
   | succ k=>exact⟨k,by simpa using h⟩
 | .inr j::as,i=>by
  unfold bF;rw[bV,EG];constructor
  ·rintro(rfl | ⟨k,h⟩)
   ·exact⟨0,rfl⟩
   ·exact⟨k+1,by simpa using h⟩
  ·rintro⟨k,h⟩;cases k with
   | zero=>simp at h; exact .inl h.symm
   | succ k=>exact .inr ⟨k,by simpa using h⟩
theorem wK{ε:aj}:∀ {as:List bA} {ss:aj},cJ ε as=aa ss->ss.length=as.length/\∀ (k:Nat) (s:Slot),ss[k]?=aa s->(∃ pv,as[k]?=aa (.inl pv)/\s = .val pv)\/∃ i po,as[k]?=aa (.inr i)/\ε[i]?=aa (.own po)/\s = .own po
 | [],ss,h=>by cases h; exact⟨rfl,λk s e=>by simp at e⟩
 | .inl pv::as,ss,h=>by
  unfold cJ at h;cases e:cJ ε as with
  | none=>rw[e]at h; cases h
  | some r=>
   rw[e]at h; cases h;obtain⟨l,q⟩:=wK e;refine⟨by simp[l],λk s hk=>?_⟩;cases k with
   | zero=>simp at hk; exact .inl ⟨pv,rfl,hk.symm⟩
   | succ k=>simpa using q k s (by simpa using hk)
 | .inr i::as,ss,h=>by
  unfold cJ at h;split at h
  ·rename_i po ei;cases e:cJ ε as with
   | none=>rw[e]at h; cases h
   | some r=>
    rw[e]at h; cases h;obtain⟨l,q⟩:=wK e;refine⟨by simp[l],λk s hk=>?_⟩;cases k with
    | zero=>simp at hk; exact .inr ⟨i,po,rfl,ei,hk.symm⟩
    | succ k=>simpa using q k s (by simpa using hk)
  ·cases h
theorem vJ:∀ (as:List bA) (ε ss:aj),(eD ε as ss).length=ε.length
 | [],ε,ss=>by cases ss <;> rfl
 | .inl _::as,ε,[]=>rfl
 | .inr _::as,ε,[]=>rfl
 | .inl _::as,ε,s::ss=>vJ as ε ss
 | .inr i::as,ε,s::ss=>by show(eD (ε.set i s) as ss).length=_; rw[vJ,fL]
theorem rk:∀ (as:List bA) (ε ss:aj) (j:Nat),j∉bF as->(eD ε as ss)[j]?=ε[j]?
 | [],ε,ss,j,_=>by cases ss <;> rfl
 | .inl _::as,ε,[],j,_=>rfl
 | .inr _::as,ε,[],j,_=>rfl
 | .inl _::as,ε,s::ss,j,h=>rk as ε ss j h
 | .inr i::as,ε,s::ss,j,h=>by
  have h1:¬ (j=i\/j∈bF as):=by simpa[bF]using h
  show(eD (ε.set i s) as ss)[j]?=_;rw[rk as _ ss j λz=>h1 (.inr z),cg λz=>h1 (.inl z.symm)]
theorem sD:∀ (as:List bA) (ε ss:aj) (j k:Nat) (s:Slot),(bF as).Nodup->j<ε.length->as[k]?=aa (.inr j)->ss[k]?=aa s->(eD ε as ss)[j]?=aa s
 | [],ε,ss,j,k,s,_,_,h,_=>by simp at h
 | _::as,ε,[],j,k,s,_,_,_,h=>by simp at h
 | .inl _::as,ε,t::ss,j,0,s,_,_,h,_=>by simp at h
 | .inl _::as,ε,t::ss,j,k+1,s,nd,hj,h,g=>sD as ε ss j k s nd hj (by simpa using h) (by simpa using g)
 | .inr i::as,ε,t::ss,j,0,s,nd,hj,h,g=>by simp at h g;subst h g;have nd':i∉bF as:=(j8.mp nd).1;show(eD (ε.set i t) as ss)[i]?=_;rw[rk as _ ss i nd',cA hj]
 | .inr i::as,ε,t::ss,j,k+1,s,nd,hj,h,g=>sD as (ε.set i t) ss j k s (j8.mp nd).2 (by rw[fL]; exact hj) (by simpa using h) (by simpa using g)
theorem eU.len{K:aq}{σ:St}{F:af->Prop}{H:Hp}:∀ {as:List bA} {vs:List V},eU K σ F H as vs->vs.length=as.length
 | [],_,h=>by rw[show _=[] from h]; rfl
 | .inl _::as,_,⟨v,r,e,_,h⟩=>by rw[e,dq,dq,eU.len h]
 | .inr _::as,_,⟨v,r,e,_,h⟩=>by rw[e,dq,dq,eU.len h]
theorem eU.val{K:aq}{σ:St}{F:af->Prop}{H:Hp}:∀ {as:List bA} {vs:List V} {k:Nat} {pv:PV},eU K σ F H as vs->as[k]?=aa (.inl pv)->∃ v,vs[k]?=aa v/\aV K H F pv v
 | [],_,k,_,_,e=>by simp at e
 | .inl x::as,_,0,pv,⟨v,r,e,h,_⟩,q=>by simp at q; subst q e; exact⟨v,rfl,h⟩
 | .inr _::as,_,0,pv,_,q=>by simp at q
 | .inl x::as,_,k+1,pv,⟨v,r,e,_,h⟩,q=>by obtain⟨w,a,b⟩:=eU.val (k:=k) h (by simpa using q); subst e; exact⟨w,by simpa using a,b⟩
 | .inr x::as,_,k+1,pv,⟨v,r,e,_,h⟩,q=>by obtain⟨w,a,b⟩:=eU.val (k:=k) h (by simpa using q); subst e; exact⟨w,by simpa using a,b⟩
theorem eU.own{K:aq}{σ:St}{F:af->Prop}{H:Hp}:∀ {as:List bA} {vs:List V} {k i:Nat},eU K σ F H as vs->as[k]?=aa (.inr i)->∃ v,vs[k]?=aa v/\σ[i]?=aa (aa v)
 | [],_,k,_,_,e=>by simp at e
 | .inr x::as,_,0,pv,⟨v,r,e,h,_⟩,q=>by simp at q; subst q e; exact⟨v,rfl,h⟩
 | .inl _::as,_,0,pv,_,q=>by simp at q
 | .inl x::as,_,k+1,pv,⟨v,r,e,_,h⟩,q=>by obtain⟨w,a,b⟩:=eU.own (k:=k) h (by simpa using q); subst e; exact⟨w,by simpa using a,b⟩
 | .inr x::as,_,k+1,pv,⟨v,r,e,_,h⟩,q=>by obtain⟨w,a,b⟩:=eU.own (k:=k) h (by simpa using q); subst e; exact⟨w,by simpa using a,b⟩
section
variable{K:aq}{F F':af->Prop}{S S':Nat->af->Prop}{ε ss aF:aj}{σ:St}{H H':Hp}{as:List bA}{vs:List V}
def jU(as:List bA)(S:Nat->af->Prop)(k:Nat)(b:af):Prop:=∃ i,as[k]?=aa (.inr i)/\S i b
theorem wz(b:af)(h:U (jU as S) b):U S b:=let ⟨_,i,_,h⟩:=h; ⟨i,h⟩
theorem xy:∀ {as:List bA} {i k l:Nat},(bF as).Nodup->as[k]?=aa (.inr i)->as[l]?=aa (.inr i)->k=l
 | [],_,_,_,_,h,_=>by simp at h
 | .inl _::as,i,0,_,_,h,_=>by simp at h
 | .inl _::as,i,_,0,_,_,h=>by simp at h
 | .inl _::as,i,k+1,l+1,nd,h1,h2=>by rw[xy (as:=as) (i:=i) (k:=k) (l:=l) nd (by simpa using h1) (by simpa using h2)]
 | .inr j::as,i,0,0,_,_,_=>rfl
 | .inr j::as,i,0,l+1,nd,h1,h2=>by simp at h1; subst h1;exact absurd (EG.mpr ⟨l,by simpa using h2⟩) (j8.mp nd).1
 | .inr j::as,i,k+1,0,nd,h1,h2=>by simp at h2; subst h2;exact absurd (EG.mpr ⟨k,by simpa using h1⟩) (j8.mp nd).1
 | .inr j::as,i,k+1,l+1,nd,h1,h2=>by rw[xy (as:=as) (i:=i) (k:=k) (l:=l) (j8.mp nd).2 (by simpa using h1) (by simpa using h2)]
theorem aH.cal(r:aH K F S ε σ H)(ha:eU K σ F H as vs)(hs:cJ ε as=aa ss)(nd:(bF as).Nodup):aH K F (jU as S) ss (vs.map aa) H:=by
 obtain⟨hl,hg⟩:=wK hs;have up:∀ {k:Nat} {v:V},vs[k]?=aa v->(vs.map aa)[k]?=aa (aa v):=λ{k v} e=>by rw[j9,e]; rfl
 refine⟨by rw[hl,cX,ha.len],r.ex,λk pv e=>?_,λk po e=>?_,λk b h=>?_,λk l b h1 h2=>?_⟩
 ·rcases hg k _ e with⟨p,q1,q2⟩ | ⟨_,_,_,_,z⟩
  ·cases q2;obtain⟨v,a1,a2⟩:=ha.val q1;exact⟨v,up a1,a2⟩
  ·cases z
 ·rcases hg k _ e with⟨_,_,z⟩ | ⟨i,p,q1,q2,q3⟩
  ·cases z
  ·cases q3;obtain⟨v,a1,a2⟩:=ha.own q1;obtain⟨a,b1,b2⟩:=r.own i po q2;rw[a2]at b1;cases b1;have eS:jU as S k=S i:=by
    funext b;exact propext ⟨λ⟨j,h1,h2⟩=>by rw[q1]at h1; cases h1; exact h2,λh=>⟨i,q1,h⟩⟩
   exact⟨a,up a1,by rw[eS]; exact b2⟩
 ·obtain⟨i,h1,h2⟩:=h;obtain⟨⟨po,q⟩,q2⟩:=r.foot i b h2;have hk:k<ss.length:=by rw[hl]; exact(cu.mp h1).1
  refine⟨?_,q2⟩;rcases hg k ss[k] (by simp[hk])with⟨_,z,_⟩ | ⟨j,p,z1,z2,z3⟩
  ·rw[h1]at z; cases z
  ·exact⟨p,by rw[fK hk,z3]⟩
 ·obtain⟨i,a1,a2⟩:=h1;obtain⟨j,b1,b2⟩:=h2;have:=r.dist i j b a2 b2;subst this;exact xy nd a1 b1
theorem aH.called{O':af->Prop}(r:aH K F S ε σ H)(ha:eU K σ F H as vs)(hs:cJ ε as=aa ss)(nd:(bF as).Nodup)(r':aH K F' S' aF (vs.map aa) H')(g:a_ (U (jU as S)) O' F F' H H')(hO:∀ b,U S' b->O' b)(hso:∀ (k:Nat) i,as[k]?=aa (.inr i)->∃ po,aF[k]?=aa (.own po)) : ∃ S2,aH K F' S2 (eD ε as aF) σ H'/\a_ (U S) (U S2) F F' H H'/\∀ b,U S2 b->U S' b\/U S b:=by
 have up:∀ {k:Nat} {v:V},(vs.map aa)[k]?=aa (aa v)->vs[k]?=aa v:=λ{k v} e=>by
  rw[j9]at e;cases q:vs[k]? with
  | none=>rw[q]at e; cases e
  | some x=>rw[q]at e; cases e; rfl
 have fit:kl (U (jU as S)) F H:=λb h=>r.fit b (wz b h);have slen:∀ i po,ε[i]?=aa (.own po)->i<ε.length:=λi po e=>(cu.mp e).1;have lt:∀ (k:Nat) i,as[k]?=aa (.inr i)->i<ε.length:=λk i e=>by
  obtain⟨hl,hg⟩:=wK hs;have hk:k<ss.length:=by rw[hl]; exact(cu.mp e).1
  rcases hg k ss[k] (by simp[hk])with⟨_,z,_⟩ | ⟨j,p,z1,z2,z3⟩
  ·rw[e]at z; cases z
  ·rw[e]at z1; cases z1; exact slen _ _ z2
 refine⟨λj b=>(∃ k:Nat,as[k]?=aa (.inr j)/\S' k b)\/(j∉bF as/\S j b),⟨by rw[vJ]; exact r.len,r'.ex,λj pv e=>?_,λj po e=>?_,λj b h=>?_,λi j b h1 h2=>?_⟩,⟨g.fro,λb o e n=>g.keep b o e λz=>n (wz b z),g.there,λa z=>(g.fnew a z).imp id λw=>w.imp id (wz a),λb ⟨j,z⟩=>?_⟩,λb ⟨j,z⟩=>?_⟩
 ·by_cases hj:j∈bF as
  ·obtain⟨k,hk⟩:=EG.mp hj;obtain⟨po,q⟩:=hso k j hk;rw[sD as ε aF j k _ nd (lt k j hk) hk q]at e;cases e
  ·rw[rk as ε aF j hj]at e;obtain⟨v,h1,h2⟩:=r.val j pv e;exact⟨v,h1,h2.grow g fit⟩
 ·by_cases hj:j∈bF as
  ·obtain⟨k,hk⟩:=EG.mp hj;obtain⟨po',q⟩:=hso k j hk;rw[sD as ε aF j k _ nd (lt k j hk) hk q]at e;cases e;obtain⟨a,h1,h2⟩:=r'.own k po q;obtain⟨v,a1,a2⟩:=ha.own hk;rw[up h1]at a1;cases a1;have eS:(λb=>(∃ k:Nat,as[k]?=aa (.inr j)/\S' k b)\/(j∉bF as/\S j b))=S' k:=by
    funext b;refine propext ⟨λz=>?_,λz=>.inl ⟨k,hk,z⟩⟩;rcases z with⟨l,z1,z2⟩ | ⟨z,_⟩
    ·rw[xy nd hk z1]; exact z2
    ·exact absurd hj z
   exact⟨a,a2,by rw[eS]; exact h2⟩
  ·rw[rk as ε aF j hj]at e;obtain⟨a,h1,h2⟩:=r.own j po e;have eS:(λb=>(∃ k:Nat,as[k]?=aa (.inr j)/\S' k b)\/(j∉bF as/\S j b))=S j:=by
    funext b;refine propext ⟨λz=>?_,λz=>.inr ⟨hj,z⟩⟩;rcases z with⟨l,z1,z2⟩ | ⟨_,z⟩
    ·exact absurd (EG.mpr ⟨l,z1⟩) hj
    ·exact z
   have h3:dX K H' F' po a (S j):=by refine h2.mono (λ_ _ q=>q.grow g fit) (λ_ _ q=>q.grow g fit) λb o z q=>g.keep b o q λ⟨l,i,w1,w2⟩=>?_;have:=r.dist i j b w2 z;subst this;exact hj (EG.mpr ⟨l,w1⟩)
   exact⟨a,h1,by rw[eS]; exact h3⟩
 ·rcases h with⟨k,h1,h2⟩ | ⟨h1,h2⟩
  ·obtain⟨⟨po,q⟩,q2⟩:=r'.foot k b h2;exact⟨⟨po,sD as ε aF j k _ nd (lt k j h1) h1 q⟩,q2⟩
  ·obtain⟨⟨po,q⟩,q2,o,q3,q4⟩:=r.foot j b h2;have no:¬ U (jU as S) b:=λ⟨l,i,w1,w2⟩=>by have:=r.dist i j b w2 h2;subst this;exact h1 (EG.mpr ⟨l,w1⟩)
   refine⟨⟨po,by rw[rk as ε aF j h1]; exact q⟩,λz=>?_,o,g.keep b o q3 no,q4⟩;rcases g.fnew b z with w | w | w
   ·exact q2 w
   ·rw[q3]at w; cases w
   ·exact no w
 ·have cross:∀ {i j:Nat} {b:af},(∃ k:Nat,as[k]?=aa (.inr i)/\S' k b)->(j∉bF as/\S j b)->False:=λ{i j b} ⟨k,w1,w2⟩ ⟨w3,w4⟩=>by
   obtain⟨_,_,o,q3,_⟩:=r.foot j b w4;rcases g.onew b (hO b ⟨k,w2⟩)with⟨l,i',z1,z2⟩ | z
   ·have:=r.dist i' j b z2 w4;subst this;exact w3 (EG.mpr ⟨l,z1⟩)
   ·rw[q3]at z; cases z
  rcases h1 with h1 | h1 <;> rcases h2 with h2 | h2
  ·obtain⟨k,a1,a2⟩:=h1;obtain⟨l,b1,b2⟩:=h2;have:=r'.dist k l b a2 b2;subst this;rw[a1]at b1; cases b1; rfl
  ·exact(cross h1 h2).elim
  ·exact(cross h2 h1).elim
  ·exact r.dist i j b h1.2 h2.2
 ·rcases z with⟨k,_,z⟩ | ⟨_,z⟩
  ·rcases g.onew b (hO b ⟨k,z⟩)with w | w
   ·exact .inl (wz b w)
   ·exact .inr w
  ·exact .inl ⟨j,z⟩
 ·rcases z with⟨k,_,z⟩ | ⟨_,z⟩
  ·exact .inl ⟨k,z⟩
  ·exact .inr ⟨j,z⟩
end
def DR(X:Cx)(E:XK)(e:aB)(d:aj->R Slot):Prop :=
 ∀ F S ε σ H Q,aH X.K F S ε σ H->Ok X.K E σ F S H (d ε) (λs _ F' S' H'=>∀ v Sr,kF X.K H' F' s v Sr->(∀ b,Sr b->H b=ae/\¬ F' b/\¬ U S' b/\∃ o,H' b=aa o/\cR o)->Q v H')->iY X e σ H Q
def dG:List bA->aj->Bool
 | [],_=>ah
 | .inl _::as,_::ss=>dG as ss
 | .inr _::as,.own _::ss=>dG as ss
 | _,_=>ak
theorem jT:∀ {as:List bA} {ss:aj},dG as ss=ah->∀ (k:Nat) i,as[k]?=aa (.inr i)->∃ po,ss[k]?=aa (.own po)
 | [],_,_,k,i,h=>by simp at h
 | .inl _::as,s::ss,q,0,i,h=>by simp at h
 | .inl _::as,s::ss,q,k+1,i,h=>by simpa using jT (as:=as) (ss:=ss) (by unfold dG at q; exact q) k i (by simpa using h)
 | .inr _::as,.own po::ss,q,0,i,h=>⟨po,rfl⟩
 | .inr _::as,.own po::ss,q,k+1,i,h=>by simpa using jT (as:=as) (ss:=ss) (by unfold dG at q; exact q) k i (by simpa using h)
 | .inr _::as,.val _::ss,q,k,i,h=>by cases q
 | .inr _::as,.none::ss,q,k,i,h=>by cases q
 | .inl _::as,[],q,k,i,h=>by cases q
 | .inr _::as,[],q,k,i,h=>by cases q
def cZ{α:Type}(ε:aj)(as:List bA)(r:R α):R α:=match r with
 | .ok s aF=>if dG as aF then .ok s (eD ε as aF)else .no
 | .er c aF=>if dG as aF then .er c (eD ε as aF)else .no
 | .no=>.no
def bh(g:aj->R Slot)(dg:aj->R (List bA)):aj->R Slot:=λε=>(dg ε).bind λas ε1=>(aO (if(bF as).Nodup then cJ ε1 as else ae) ε1).bind λss ε1=>cZ ε1 as (g ss)
section
variable{CX:dJ}{X:Cx}{E:XK}{pin:List Nat}{e:aB}{es:List aB}{dg:aj->R (List bA)}{pos:Pos}{x:Str}{k:Nat}{ps:List Str}{g:aj->R Slot}{p:Pos}{d:aj->R Slot}
theorem cH(c:cF CX X.prog X.w X.K X.mg X.base x k ps (br X.K g))(hr:bZ k X.A)(hx:i9 CX X E)(ha:DG X E (e::es) dg)(hg:Gl X x:=by rfl)(hd:(x == ("__debug__" : Str))=ak:=by decide) (h1:aC (e::es) X.env=(ak,aD e X.env)::aC es X.env:=by rfl) (h2:(bK pos (aC es X.env)).any (·.1)=ak:=by rfl) : DR X E (.Call (.Name x p) (e::es) [] pos) (bh g dg):=λF S ε σ H Q rl h=>by
 obtain⟨f,fd,hm,Fn,hb,hk⟩:=c.ex;refine bC (y9 Fn hr hg hm hk hb .nil hx fZ hd h1 h2) (ha F S ε σ H _ rl ((Ok.bind h).imp λas ε1 F1 S1 H1 r1 g1 q vs av=>?_));have q:=Ok.bind q;by_cases nd:(bF as).Nodup
 ·rw[if_pos nd]at q;cases es:cJ ε1 as with
  | none=>rw[es]at q; exact q.elim
  | some ss=>
   rw[es]at q;have q:=q F1 S1 H1 r1 (a_.refl ..);dsimp only at q;rw[gD];refine⟨F1,jU as S1,ss,r1.cal av es nd,?_⟩;cases eg:g ss with
   | no=>rw[eg]at q; exact q.elim
   | er cv aF=>
    rw[eg]at q;intro y F' S' H' r' g';unfold cZ at q;dsimp only at q;by_cases kp:dG as aF=ah
    ·rw[if_pos kp]at q;obtain⟨S2,r2,g2,_⟩:=r1.called av es nd r' g' (λ_ z=>z) (jT kp);exact q y F' S2 H' r2 g2
    ·rw[if_neg kp]at q; exact q.elim
   | ok s aF=>
    rw[eg]at q;intro v F' S' H' Sr r' g' rv lo fr;unfold cZ at q;dsimp only at q;by_cases kp:dG as aF=ah
    ·rw[if_pos kp]at q;obtain⟨S2,r2,g2,u2⟩:=r1.called av es nd r' g' (λ_ z=>.inl z) (jT kp);refine q F' S2 H' r2 g2 v Sr rv λb z=>⟨jO g1 (fr b z),(lo b z).1,λw=>?_,(lo b z).2.2⟩
     rcases u2 b w with w | ⟨i,w⟩
     ·exact(lo b z).2.1 w
     ·obtain⟨_,_,o,y1,_⟩:=r1.foot i b w;rw[fr b z]at y1; cases y1
    ·rw[if_neg kp]at q; exact q.elim
 ·rw[if_neg nd]at q; exact q.elim
def AQ:Slot->Option PV
 | .val pv=>aa pv
 | .own (.lst xs)=>aa (.lst xs)
 | _=>ae
def bf(d:aj->R Slot):aj->R PV:=λε=>(d ε).bind λs ε1=>aO (AQ s) ε1
def Ao:Slot->Option PO
 | .own po=>aa po
 | _=>ae
def lE(d:aj->R Slot):aj->R PO:=λε=>(d ε).bind λs ε1=>aO (Ao s) ε1
theorem DR.dn(h:DR X E e d):DN X E e (lE d):=λF S ε σ H Q rl q=>by
 unfold lE at q;refine h F S ε σ H Q rl ?_;cases e0:d ε with
 | no=>rw[e0]at q; exact q.elim
 | er c ε'=>rw[e0]at q; exact q
 | ok s ε1=>
  rw[e0]at q;cases s with
  | none=>exact q.elim
  | val pv=>exact q.elim
  | own po=>intro F1 S1 H1 r1 g1 v Sr rv fr;obtain⟨a,rfl,ow⟩:=rv;exact q F1 S1 H1 r1 g1 a Sr ow fr
theorem DR.de(h:DR X E e d):DE X E e (bf d):=λF S ε σ H Q rl q=>by
 unfold bf at q;cases e0:d ε with
 | no=>rw[e0]at q; exact q.elim
 | er c ε'=>refine h F S ε σ H Q rl ?_; rw[e0]at q ⊢; exact q
 | ok s ε1=>
  cases s with
  | none=>rw[e0]at q; exact q.elim
  | val pv=>refine h F S ε σ H Q rl ?_;rw[e0]at q ⊢;exact λF1 S1 H1 r1 g1 v Sr rv fr=>q F1 S1 H1 r1 g1 v rv.1
  | own po=>
   refine h.dn.de F S ε σ H Q rl ?_;unfold dF lE;rw[e0]at q ⊢;cases po with
   | lst xs=>exact q
   | dK kvs=>exact q
   | lls ft=>exact q
   | ins C fs=>exact q
   | dT kvs=>exact q
   | inl C fs y xs=>exact q
def l8(d:aj->R Slot):aj->R aT:=λε=>(d ε).bind λs ε1=>.ok (.ret s) ε1
theorem sI(he:DR X E e d):DS X E pin (.Return (aa e) pos) (l8 d):=λF S ε σ H D rl h=>by
 refine iw (vM bD) (he F S ε σ H _ rl ?_);unfold l8 at h;cases e0:d ε with
 | no=>rw[e0]at h; exact h.elim
 | er c ε'=>rw[e0]at h; exact λx F' S' H' r' g'=>h x F' S' σ H' r' g' (im.refl _ _)
 | ok s ε1=>rw[e0]at h;intro F1 S1 H1 r1 g1 v Sr rv fr;exact h v F1 S1 σ H1 Sr r1 ⟨g1.fro,g1.keep,g1.there,g1.fnew,λb z=>z.elim (g1.onew b) λw=>.inr (fr b w).1⟩ (im.refl _ _) rv λb z=>(fr b z).2
def eJ(d:aj->R Slot):aj->R aT:=λε=>(d ε).bind λ_ ε1=>.ok .next ε1
theorem l7(he:DR X E e d)(hs:j4 e ae pos.line X.env=pure ak:=by rfl):DS X E pin (.Expr e pos) (eJ d):=λF S ε σ H D rl h=>iw (wB bD hs) (he F S ε σ H _ rl (h.bindE.imp λx ε1 F1 S1 H1 r1 g1 h1 v Sr rv fr=>h1 F1 S1 σ H1 r1 (a_.refl ..) (im.refl _ _)))
end
def ff(ε:aj):List Nat->Option (List bA)
 | []=>aa []
 | j::cap=>match ε[j]? with
  | some (.val pv)=>(ff ε cap).map (.inl pv::·)
  | some (.own _)=>(ff ε cap).map (.inr j::·)
  | _=>ae
def eX{α:Type}(cap:List Nat)(d:aj->R α)(x:PV):aj->R α:=λε=>(aO (ff ε cap) ε).bind λas _=>(aO (if(bF as).Nodup then cJ ε (.inl x::as)else ae) ε).bind λss _=>cZ ε (.inl x::as) (d ss)
def ce{α:Type}(r:R α):R α:=match r with
 | .er _ _=>.no
 | r=>r
def kE(cap:List Nat)(dt:aj->R Bool)(de:aj->R PV):List PV->List PV->aj->R (List PV)
 | [],bg,ε=>.ok bg ε
 | x::xs,bg,ε=>(ce (eX cap dt x ε)).bind λk ε1=>match k with
  | true=>(ce (eX cap de x ε1)).bind λy ε2=>kE cap dt de xs (bg++[y]) ε2
  | false=>kE cap dt de xs bg ε1
def fG(cap:List Nat)(di:aj->R (List PV))(dt:aj->R Bool)(de:aj->R PV):aj->R PO:=λε=>(di ε).bind λxs ε1=>(kE cap dt de xs [] ε1).bind λys ε2=>.ok (.lst ys) ε2
theorem yC{K:aq}{F:af->Prop}{S:Nat->af->Prop}{ε:aj}{σ:St}{H:Hp}(r:aH K F S ε σ H):∀ {cap:List Nat} {as:List bA},ff ε cap=aa as->∃ vs,eU K σ F H as vs/\i6 σ cap=vs.map aa
 | [],as,h=>by cases h; exact⟨[],rfl,rfl⟩
 | j::cap,as,h=>by
  unfold ff at h;split at h
  ·rename_i pv e;cases q:ff ε cap with
   | none=>rw[q]at h; cases h
   | some bs=>
    rw[q]at h; cases h;obtain⟨vs,h1,h2⟩:=yC r q;obtain⟨v,e1,e2⟩:=r.val j pv e;refine⟨v::vs,⟨v,vs,rfl,e2,h1⟩,?_⟩;show(σ[j]?).join::i6 σ cap=_;rw[e1,h2]; rfl
  ·rename_i po e;cases q:ff ε cap with
   | none=>rw[q]at h; cases h
   | some bs=>
    rw[q]at h; cases h;obtain⟨vs,h1,h2⟩:=yC r q;obtain⟨a,e1,e2⟩:=r.own j po e;refine⟨.ref a::vs,⟨_,vs,rfl,e1,h1⟩,?_⟩;show(σ[j]?).join::i6 σ cap=_;rw[e1,h2]; rfl
  ·cases h
theorem CV{K:aq}{E:XK}{F:af->Prop}{S:Nat->af->Prop}{ε:aj}{σ:St}{H:Hp}{α:Type}{cap:List Nat}{d:aj->R α}{x:PV}{v:V}{C:α->aj->(af->Prop)->(Nat->af->Prop)->Hp->Prop}(r:aH K F S ε σ H) (rx:aV K H F x v) (h:Ok K E σ F S H (ce (eX cap d x ε)) C) : ∃ Sb ss,aH K F Sb ss (aa v::i6 σ cap) H/\Ok K E0 (aa v::i6 σ cap) F Sb H (d ss) (λa _ F' _ H'=>∃ ε' S',aH K F' S' ε' σ H'/\a_ (U S) (U S') F F' H H'/\C a ε' F' S' H'):=by
 unfold eX at h;cases ec:ff ε cap with
 | none=>rw[ec]at h; exact h.elim
 | some as=>
  rw[ec]at h;simp only[cz,R.bind_ok]at h;by_cases nd:(bF as).Nodup
  ·rw[if_pos nd]at h;cases es:cJ ε (.inl x::as)with
   | none=>rw[es]at h; exact h.elim
   | some ss=>
    rw[es]at h;simp only[cz,R.bind_ok]at h;obtain⟨vs,av,ev⟩:=yC r ec;have av':eU K σ F H (.inl x::as) (v::vs):=⟨v,vs,rfl,rx,av⟩
    have eσ:aa v::i6 σ cap=(v::vs).map aa:=by rw[ev]; rfl
    have nd':(bF (.inl x::as)).Nodup:=nd;refine⟨jU (.inl x::as) S,ss,by rw[eσ]; exact r.cal av' es nd',?_⟩;rw[eσ];cases ed:d ss with
    | no=>rw[ed]at h; exact h.elim
    | er c aF=>
     rw[ed]at h;unfold cZ at h;dsimp only at h;by_cases kp:dG (.inl x::as) aF=ah
     ·rw[if_pos kp]at h; exact h.elim
     ·rw[if_neg kp]at h; exact h.elim
    | ok a aF=>
     rw[ed]at h;intro F' S' H' r' g';unfold cZ at h;dsimp only at h;by_cases kp:dG (.inl x::as) aF=ah
     ·rw[if_pos kp]at h;obtain⟨S2,r2,g2,_⟩:=r.called av' es nd' r' g' (λ_ z=>z) (jT kp);exact⟨_,S2,r2,g2,h F' S2 H' r2 g2⟩
     ·rw[if_neg kp]at h; exact h.elim
  ·rw[if_neg nd]at h; exact h.elim
def zZ(X:Cx)(ifs:List aB):TT:=λσ H Q=>Bx (∀ ag s,Inv X ag σ H s->aw (au X.prog X.w) X.A (forIn ifs ah λc r=>if r=ah then do let ok ← mE c X.env (aD c X.env); pure (ForInStep.yield ok)else pure (ForInStep.yield r)) (TP X ag σ Q) X.xe s)
def DF(X:Cx)(E:XK)(ifs:List aB)(d:aj->R Bool):Prop:=∀ F S ε σ H Q,aH X.K F S ε σ H->Ok X.K E σ F S H (d ε) (λb _ _ _ H'=>Q b H')->zZ X ifs σ H Q
def dR:aj->R Bool:=λε=>.ok ah ε
theorem oU{X:Cx}{E:XK}:DF X E [] dR:=λF S ε σ H Q rl h=>⟨λag s I=>LB ag s σ H Q I (h F S H rl (a_.refl ..))⟩
theorem Ok.bindB{K:aq}{E:XK}{σ:St}{F F1:af->Prop}{S S1:Nat->af->Prop}{H H1:Hp}{α β:Type}{D:β->aj->(af->Prop)->(Nat->af->Prop)->Hp->Prop}{r:R α}{k:α->aj->R β}(h:Ok K E σ F S H (r.bind k) D)(g:a_ (U S) (U S1) F F1 H H1) : Ok K E σ F1 S1 H1 r (λa ε1 _ _ _=>Ok K E σ F S H (k a ε1) D):=by
 cases r with
 | no=>exact h
 | er c ε'=>exact λx F' S' H' r' g'=>h x F' S' H' r' (g.trans g')
 | ok a ε'=>exact λF' S' H' r' g'=>h
section
variable{X:Cx}{E:XK}{scope:eK}{x:Str}{N':List Str}{cap:List Nat}
theorem a_.stay{O O' F F':af->Prop}{H H':Hp}(g:a_ O O' F F' H H'){l:af}{o:HO}(e:H l=aa o)(n:¬ O l)(nF:¬ F l):H' l=aa o/\¬ F' l/\¬ O' l :=
 ⟨g.keep l o e n,λz=>(g.fnew l z).elim nF λw=>w.elim (λq=>by rw[e]at q; cases q) n,λz=>(g.onew l z).elim n λq=>by rw[e]at q; cases q⟩
theorem Ms{elt iter:aB}{px:Pos}{ifs:List aB}{di:aj->R (List PV)}{dt:aj->R Bool}{de:aj->R PV}(hi:DI X E (.Name x px) iter di)(ht:∀ C s₀ H₀ ex pn,DF (eY X scope N' C s₀ H₀ ex pn) E0 ifs dt) (he:∀ C s₀ H₀ ex pn,DE (eY X scope N' C s₀ H₀ ex pn) E0 elt de){F:af->Prop} {S:Nat->af->Prop} {ε:aj} {σ:St} {H:Hp} {Q:VK} (rl:aH X.K F S ε σ H) (h:Ok X.K E σ F S H (fG cap di dt de ε) (λpo _ F' S' H'=>∀ a Sa,dX X.K H' F' po a Sa->(∀ b,Sa b->H b=ae/\¬ F' b/\¬ U S' b/\∃ o,H' b=aa o/\cR o)->Q (.ref a) H')) : GY (ub X (.Name x px) iter) (λσ H Q=>∀ C s₀ H₀ ex pn,zZ (eY X scope N' C s₀ H₀ ex pn) ifs σ H Q) (λσ H Q=>∀ C s₀ H₀ ex pn,iY (eY X scope N' C s₀ H₀ ex pn) elt σ H Q) cap σ H Q:=by
 refine hi F S ε σ H _ rl ((Ok.bind h).imp λxs ε1 F1 S1 H1 r1 g1 h1 J vs RR rs hz hw keep l hl=>?_);have h1:=h1.bind;have hvl:vs.length=xs.length:=rs.len;have a0:Al F1 F1 H1 (upd H1 l (.lst [])):=Al.new0 hl;have nF1:¬ F1 l:=λz=>by obtain⟨o,q⟩:=r1.ex l z; rw[hl]at q; cases q
 have nS1:¬ U S1 l:=λ⟨i,z⟩=>by obtain⟨_,_,o,q,_⟩:=r1.foot i l z; rw[hl]at q; cases q
 have hH:H l=ae:=jO g1 hl;refine⟨λi m ys H'=>m=xs.length-i/\i<=xs.length/\∃ F' S' ε' bg,aH X.K F' S' ε' σ H'/\a_ (U S1) (U S') F1 F' H1 H'/\H' l=aa (.lst ys)/\¬ F' l/\¬ U S' l/\Reps X.K H' F' bg ys/\ys.length<=i /\ Ok X.K E σ F1 S1 H1 (kE cap dt de (xs.drop i) bg ε') (λys' ε2 F2 S2 H2=>Ok X.K E σ F2 S2 H2 (R.ok (PO.lst ys') ε2) (λpo _ F' S' H'=>∀ a Sa,dX X.K H' F' po a Sa->(∀ b,Sa b->H b=ae/\¬ F' b/\¬ U S' b/\∃ o,H' b=aa o/\cR o)->Q (.ref a) H')),⟨_,rfl,mG _,F1,S1,ε1,[],r1.al a0,a0.grow,b_,nF1,nS1,rfl,bp _,h1⟩,?_⟩;rintro i m ys H2 ⟨rfl,hi,F2,S2,ε2,bg,r2,g2,el,nF2,nS2,racc,hyl,q2⟩;have RH:=keep S2 F2 H2 g2;by_cases bS:i<xs.length
 ·obtain⟨v,hv⟩:∃ v,vs[i]?=aa v:=⟨_,fK ∅⟩
  obtain⟨go,yl⟩:=(hw H2 RH i).1 v hv;refine .inr ⟨go,λv' H' y=>?_⟩;obtain⟨e1,e2⟩:=yl v' H' y;subst e1 e2;obtain⟨px',hx,rx⟩:=rs.back hv;have ed:xs.drop i=px'::xs.drop (i+1):=by rw[xZ bS];congr 1;exact(cu.mp hx).2
  rw[ed]at q2;have rx2:=rx.grow g2 r1.fit;have q3:=Ok.bindB q2 g2;obtain⟨Sb,ss,rb,okb⟩:=CV r2 rx2 q3;intro C s₀ H₀ ex pn;refine ht C s₀ H₀ ex pn F2 Sb ss _ H' _ rb (okb.imp λb _ F3 _ H3 _ _ ⟨ε3,S3,r3,g3,q4⟩=>?_);obtain⟨el3,nF3,nS3⟩:=g3.stay el nS2 nF2;cases b with
  | false=>exact o4 ⟨_,∅,rfl,bS,F3,S3,ε3,bg,r3,g2.trans g3,el3,nF3,nS3,racc.grow g3 r2.fit,∅,q4⟩
  | true=>
   refine pB ?_;have q5:Ok X.K E σ F1 S1 H1 ((ce (eX cap de px' ε3)).bind λy ε2=>kE cap dt de (xs.drop (i+1)) (bg++[y]) ε2) _:=q4;obtain⟨Sc,sc,rc,okc⟩:=CV r3 (rx2.grow g3 r2.fit) (Ok.bindB q5 (g2.trans g3));intro C s₀ H₀ ex pn;refine he C s₀ H₀ ex pn F3 Sc sc _ H3 _ rc (okc.imp λy _ F4 _ H4 _ _ ⟨ε4,S4,r4,g4,q6⟩ u ru=>?_);obtain⟨el4,nF4,nS4⟩:=g4.stay el3 nS3 nF3;have racc4:=(racc.grow g3 r2.fit).grow g4 r3.fit;have gl:a_ (λb=>U S4 b\/b=l) (U S4) F4 F4 H4 (upd H4 l (.lst (ys++[u]))):=⟨λ_ z=>z,λb o e n=>by rw[bw λz=>n (.inr z)]; exact e,λb o e=>by
    by_cases hb:b=l
    ·subst hb; exact⟨_,b_⟩
    ·exact⟨o,by rw[bw hb]; exact e⟩,λ_ z=>.inl z,λ_ z=>.inl (.inl z)⟩
   have fit4:kl (λb=>U S4 b\/b=l) F4 H4:=λb z=>by
    rcases z with z | rfl
    ·exact r4.fit b z
    ·exact⟨nF4,_,el4,trivial⟩
   have r5:aH X.K F4 S4 ε4 σ (upd H4 l (.lst (ys++[u]))):=by
    refine⟨r4.len,λb z=>let ⟨o,q⟩:=r4.ex b z; gl.there b o q,λj pv e=>?_,λj po e=>?_,λj b z=>?_,r4.dist⟩
    ·obtain⟨w,x1,x2⟩:=r4.val j pv e; exact⟨w,x1,x2.grow gl fit4⟩
    ·obtain⟨w,x1,x2⟩:=r4.own j po e;refine⟨w,x1,x2.mono (λ_ _ q=>q.grow gl fit4) (λ_ _ q=>q.grow gl fit4) λb o z q=>?_⟩;rw[bw (by rintro rfl; exact nS4 ⟨j,z⟩)]; exact q
    ·obtain⟨x1,x2,o,x3,x4⟩:=r4.foot j b z;exact⟨x1,x2,o,by rw[bw (by rintro rfl; exact nS4 ⟨j,z⟩)]; exact x3,x4⟩
   have g5:a_ (U S1) (U S4) F1 F4 H1 (upd H4 l (.lst (ys++[u]))):=by
    have gg:=(g2.trans g3).trans g4;refine⟨gg.fro,λb o e n=>?_,λb o e=>?_,gg.fnew,gg.onew⟩
    ·rw[bw (by rintro rfl; rw[hl]at e; cases e)]; exact gg.keep b o e n
    ·obtain⟨o',q⟩:=gg.there b o e; exact gl.there b o' q
   refine⟨el4,?_,_,∅,rfl,bS,F4,S4,ε4,bg++[y],r5,g5,b_,nF4,nS4,(racc4.grow gl fit4).app (.one (ru.grow gl fit4)),by simp; lia,q6⟩;lia
 ·have e:i=xs.length:=∅
  subst e;refine .inl ⟨(hw H2 RH _).2 hvl.symm,?_⟩;rw[HC]at q2;exact q2 F2 S2 H2 r2 g2 F2 S2 H2 r2 (a_.refl ..) l (λb=>b=l) ⟨⟨ys,el,racc⟩,λb=>Iff.rfl⟩ λb z=>by subst z; exact⟨hH,nF2,nS2,_,el,trivial⟩
theorem oJ{elt iter:aB}{px pos:Pos}{ifs:List aB}{di:aj->R (List PV)}{dt:aj->R Bool}{de:aj->R PV}(B:nu X scope x N' cap)(hc:X.calm=ah)(hi:DI X E (.Name x px) iter di)(ht:∀ C s₀ H₀ ex pn,DF (eY X scope N' C s₀ H₀ ex pn) E0 ifs dt) (he:∀ C s₀ H₀ ex pn,DE (eY X scope N' C s₀ H₀ ex pn) E0 elt de) (hs:∀ x,Bq iter X.env x=pure x:=by intro _; rfl) : DN X E (.ListComp elt [⟨.Name x px,iter,ifs,0⟩] scope pos) (fG cap di dt de):=λF S ε σ H Q rl h=>bC (Mj (wi:=ub X (.Name x px) iter) (ts:=λσ H Q=>∀ C s₀ H₀ ex pn,zZ (eY X scope N' C s₀ H₀ ex pn) ifs σ H Q) (te:=λσ H Q=>∀ C s₀ H₀ ex pn,iY (eY X scope N' C s₀ H₀ ex pn) elt σ H Q) (pos:=pos) B hc G4 (λC s₀ H₀ ex pn ag s σ H Q I h=>(h C s₀ H₀ ex pn).run ag s I) (λC s₀ H₀ ex pn ag s σ H Q I h=>(h C s₀ H₀ ex pn).run ag s I) hs) (Ms hi ht he rl h)
end
theorem Kr(x y:Tx):tS x++tS y=tS (x++y):=by
 show(⟨x.toArray++y.toArray⟩:Str)=⟨(x++y).toArray⟩
 simp
def aW:PV->PV->Option PV
 | .int i,.int j=>aa (.int (i+j))
 | .str x,.str y=>if(x++y).length<=bi then aa (.str (x++y))else ae
 | .tup xs,.tup ys=>if xs≠[]/\ys≠[]/\xs.length+ys.length<=1000 then aa (.tup (xs++ys))else ae
 | .lst xs,.lst ys=>if xs.length+ys.length<=bi then aa (.lst (xs++ys))else ae
 | _,_=>ae
def mw:PV->PV->Option PV
 | .int i,.int j=>aa (.int (i-j))
 | _,_=>ae
def t6(i:Int):Bool:=decide (-(2 ^ 64)<i/\i<2 ^ 64)
def cG:PV->PV->Option PV
 | .int i,.int j=>if t6 i || t6 j then aa (.int (i * j))else ae
 | .str x,.int j=>if 0<=j/\j<=100/\x.length<=100 then aa (.str (aU j.toNat x).flatten)else ae
 | _,_=>ae
def fV:PV->PV->Option PV
 | .int i,.int j=>if 0<j then aa (.int (i % j))else ae
 | _,_=>ae
def tf:PV->PV->Option PV
 | .int i,.int j=>if 0<=j/\j<=1000000/\i.natAbs<2 ^ 64 then aa (.int (i ^ j.toNat))else ae
 | _,_=>ae
def gh:PV->Option PV
 | .int i=>aa (.int (-i))
 | _=>ae
def Fe:R2:=λx y H Q=>∃ l b xs zs,x = .ref l/\y = .ref b/\Rd H l (.lst xs)/\Rd H b (.lst zs)/\xs.length+zs.length<=a9/\∀ p,H p=ae->Q (.ref p) (upd H p (.lst (xs++zs)))
def El(K:aq):R2:=λx y H Q=>((lm λi j=>V.int (i+j)) x y H Q\/∃ i j,x = .str i/\y = .str j/\i.length+j.length<=a9/\Q (.str (i++j)) H)\/(DD K x y H Q\/Fe x y H Q)
def Fq:R2:=λx y H Q=>rI Ak (λi j=>.int (i * j)) x y H Q\/∃ (z:Tx) (n:Nat),x=tV z/\y = .int n/\n<=100/\z.length<=100/\Q (tV (aU n z).flatten) H
section
variable{X:Cx}{K:aq}
theorem yI:P2 K (lm λi j=>.int (i-j)) mw:=λF H x y v u Q pv rx ry e q=>by
 unfold mw at e;split at e
 ·cases e; exact⟨_,_,rx,ry,q _ F H (Al.refl ..) rfl⟩
 ·cases e
theorem rE:P2 K (rI (λ_ j=>0<j) λi j=>.int (i % j)) fV:=λF H x y v u Q pv rx ry e q=>by
 unfold fV at e;split at e
 ·split at e
  ·cases e; exact⟨_,_,rx,ry,by assumption,q _ F H (Al.refl ..) rfl⟩
  ·cases e
 ·cases e
theorem QL:P2 K (rI Ef λi j=>.int (i ^ j.toNat)) tf:=λF H x y v u Q pv rx ry e q=>by
 unfold tf at e;split at e
 ·split at e
  ·cases e; exact⟨_,_,rx,ry,by assumption,q _ F H (Al.refl ..) rfl⟩
  ·cases e
 ·cases e
theorem t8:P1 K (rU λi=>.int (-i)) gh:=λF H x v Q pv rx e q=>by
 unfold gh at e;split at e
 ·cases e; exact⟨_,rx,q _ F H (Al.refl ..) rfl⟩
 ·cases e
theorem AC{ag:List (af×Obj)}{σ:St}{H:Hp}{s:ao}{l:af}{xs:List V}(I:Inv X ag σ H s)(h:Rd H l (.lst xs)):∃ (its:List ai) (n:Nat),bd xs its/\s.heap.get? l=aa { cls:=.type "list",data:=.seq its.toArray n }/\xs.length<=a9:=by obtain⟨z,its,n,r,e⟩:=h.ok I.hok;exact⟨its,n,r,e,z⟩
theorem Lb:bU X (jB .Add) Fe:=by
 intro ag s σ H x y v u Q I rx ry h;obtain⟨l,b,xs,zs,rfl,rfl,hl,hb,hz,q⟩:=h;cases rx;cases ry;obtain⟨its,n,r,e,_⟩:=AC I hl;obtain⟨its2,n2,r2,e2,_⟩:=AC I hb;have hl:=r.length;have mX:=r2.length;refine PySem.P.add_list e e2 ?_ (by rw[cC,cC]; lia);have ea:its.toArray++its2.toArray=(its++its2).toArray:=by simp
 rw[ea];exact⟨.ref _,_,I.lnew (t':=s.toks) (r.append r2) (by rw[dr]; lia),rfl,q _ I.fresh⟩
theorem dE:bU X (jB .Add) (El X.K):=(Ry.or KY).or (Rq.or Lb)
theorem dz:P2 K (El K) aW:=λF H x y v u Q pv rx ry e q=>by
 unfold aW at e;split at e
 ·cases e; exact .inl (.inl ⟨_,_,rx,ry,q _ F H (Al.refl ..) rfl⟩)
 ·rename_i x y;split at e
  ·rename_i hl;cases e;refine .inl (.inr ⟨_,_,rx.1,ry.1,?_,?_⟩)
   ·rw[iE,iE]; rw[dr]at hl; exact cr hl kA
   ·exact q _ F H (Al.refl ..) ⟨by rw[Kr]; rfl,hl⟩
  ·cases e
 ·rename_i xs ys;split at e
  ·rename_i hl;cases e;obtain⟨a,vs,rfl,ha,ra⟩:=rx;obtain⟨b,ws,rfl,hb,rb⟩:=ry;have la:=ra.len;have lb:=rb.len;refine .inr (.inl ⟨a,b,vs,ws,rfl,rfl,cq.of ha,cq.of hb,λz=>hl.1 (by rw[z]at la; exact ut la.symm),by rw[la,lb]; exact zC hl.2.2,λz=>absurd (by rw[z]at lb; exact ut lb.symm) hl.2.1,λ_ p hp=>?_⟩);exact q _ F _ (Al.new0 hp) ⟨p,_,rfl,b_,(Al.new0 hp).reps (ra.app rb)⟩
  ·cases e
 ·rename_i xs ys;split at e
  ·rename_i hl;cases e;obtain⟨a,vs,rfl,ha,fa,ra⟩:=rx;obtain⟨b,ws,rfl,hb,fb,rb⟩:=ry;have la:=ra.len;have lb:=rb.len;refine .inr (.inr ⟨a,b,vs,ws,rfl,rfl,ha,hb,by rw[la,lb]; exact cr hl kA,λp hp=>?_⟩);exact q _ _ _ (Al.new hp) ⟨p,_,rfl,.inl b_,.inr rfl,(Al.new hp).reps (ra.app rb)⟩
  ·cases e
 ·cases e
theorem lD:bU X (jB .Mult) Fq:=Ri.or ND
theorem lz:P2 K Fq cG:=λF H x y v u Q pv rx ry e q=>by
 unfold cG at e;split at e
 ·rename_i i j;split at e
  ·rename_i h;cases e;refine .inl ⟨_,_,rx,ry,?_,q _ F H (Al.refl ..) rfl⟩;rw[BK]at h;exact h.imp of_decide_eq_true of_decide_eq_true
  ·cases e
 ·rename_i x j;split at e
  ·rename_i h;cases e;refine .inr ⟨x,j.toNat,rx.1,?_,∅,h.2.2,q _ F H (Al.refl ..) ⟨rfl,?_⟩⟩
   ·rw[show u=V.int j from ry]; congr 1; lia
   ·rw[MG];have h1:j.toNat<=100:=∅
    exact cr (Nat.mul_le_mul h1 h.2.2) (by decide)
  ·cases e
 ·cases e
def ge(f:Int->Int->Bool):PV->PV->Option PV
 | .int i,.int j=>aa (.bl (f i j))
 | _,_=>ae
theorem ml{f:Int->Int->Bool}:P2 K (lm λi j=>.bl (f i j)) (ge f):=λF H x y v u Q pv rx ry e q=>by
 unfold ge at e;split at e
 ·cases e; exact⟨_,_,rx,ry,q _ F H (Al.refl ..) rfl⟩
 ·cases e
def dN:PV->Option V
 | .non=>aa .non
 | .bl b=>aa (.bl b)
 | .int i=>aa (.int i)
 | .str x=>aa (tV x)
 | _=>ae
theorem jk{H:Hp}{F:af->Prop}{x:PV}{v w:V}(r:aV K H F x v)(e:dN x=aa w):v=w:=by
 cases x <;> simp[dN]at e <;> subst e
 ·exact r
 ·exact r
 ·exact r
 ·exact r.1
theorem sE{x:PV}{w:V}(e:dN x=aa w):gw w=ah:=by
 cases x <;> simp[dN]at e <;> subst e <;> rfl
mutual
def cS:PV->PV->Option Bool
 | .tup xs,y=>match y with
  | .tup ys=>hG xs ys
  | _=>ae
 | .lst xs,y=>match y with
  | .lst ys=>hG xs ys
  | _=>ae
 | .non,y=>(dN y).map (fh .non)
 | .bl b,y=>(dN y).map (fh (.bl b))
 | .int i,y=>(dN y).map (fh (.int i))
 | .str x,y=>(dN y).map (fh (tV x))
 | .raw _,_=>ae
 | .exc _,_=>ae
def hG:List PV->List PV->Option Bool
 | [],ys=>aa ys.isEmpty
 | x::xs,ys=>match ys with
  | []=>aa ak
  | y::ys=>(cS x y).bind λa=>(hG xs ys).map λb=>a && b
end
mutual
def jv:PV->Nat
 | .tup xs=>iM xs+1
 | .lst xs=>iM xs+1
 | _=>0
def iM:List PV->Nat
 | []=>0
 | x::xs=>max (jv x) (iM xs)
end
theorem G3{H:Hp}{d d':Nat}{x y:V}{k:Bool}(h:io K H d x y k)(hd:d<=d'):io K H d' x y k:=λX hK ag σ s u v A I ru rv hu=>h X hK ag σ s u v A I ru rv ∅
theorem wA{H:Hp}{F:af->Prop}{w:V}{y:PV}{u:V}{k:Bool}{d:Nat}(fw:gw w=ah)(e:(dN y).map (fh w)=aa k)(ry:aV K H F y u):io K H d w u k:=by
 cases q:dN y with
 | none=>rw[q]at e; cases e
 | some z=>
  rw[q]at e;cases e;rw[jk ry q];exact JQ fw (sE q)
theorem Jo{H:Hp}{a:af}{xs ys:List V}(h:Rd H a (.lst xs))(g:Rd H a (.lst ys)):xs=ys:=by
 rcases h with h | ⟨o,h⟩ <;> rcases g with g | ⟨o',g⟩ <;> rw[h]at g <;> cases g <;> rfl
theorem Qv{a:Bool}{e:Nat->Bool}{n m:Nat}:fW (λj=>if j=0 then a else e (j-1)) (n+1) (m+1)=(a && fW e n m):=by
 unfold fW;rw[show min (n+1) (m+1)=min n m+1 by lia,xR,rN,xS,if_pos rfl,Bool.and_assoc];congr 1;congr 1
 ·simp
mutual
theorem zx{H:Hp}{F:af->Prop}:∀ (x y:PV) {v:V} {k:Bool},cS x y=aa k->aV K H F x v->aV K H F y v->k=ah
 | .tup xs,y,v,k,e,rx,ry=>by
  unfold cS at e;split at e
  ·obtain⟨a,vs,rfl,ha,ra⟩:=rx;obtain⟨b,ws,eb,hb,rb⟩:=ry;cases eb;rw[ha]at hb;cases hb;exact At xs _ e ra rb
  ·cases e
 | .lst xs,y,v,k,e,rx,ry=>by
  unfold cS at e;split at e
  ·obtain⟨a,vs,rfl,ha,_,ra⟩:=rx;obtain⟨b,ws,eb,hb,_,rb⟩:=ry;cases eb;rw[Jo ha hb]at ra;exact At xs _ e ra rb
  ·cases e
 | .non,y,v,k,e,rx,ry=>by
  unfold cS at e;cases q:dN y with
  | none=>rw[q]at e; cases e
  | some z=>rw[q]at e; cases e; rw[← jk ry q,show v=V.non from rx]; rfl
 | .bl b,y,v,k,e,rx,ry=>by
  unfold cS at e;cases q:dN y with
  | none=>rw[q]at e; cases e
  | some z=>rw[q]at e; cases e; rw[← jk ry q,show v=V.bl b from rx]; exact beq_self_eq_true b
 | .int b,y,v,k,e,rx,ry=>by
  unfold cS at e;cases q:dN y with
  | none=>rw[q]at e; cases e
  | some z=>rw[q]at e; cases e; rw[← jk ry q,show v=V.int b from rx]; exact beq_self_eq_true b
 | .str b,y,v,k,e,rx,ry=>by
  unfold cS at e;cases q:dN y with
  | none=>rw[q]at e; cases e
  | some z=>rw[q]at e; cases e; rw[← jk ry q,show v=tV b from rx.1]; exact beq_self_eq_true (tS b)
 | .raw _,_,_,_,e,_,_=>by unfold cS at e; cases e
 | .exc _,_,_,_,e,_,_=>by unfold cS at e; cases e
theorem At{H:Hp}{F:af->Prop}:∀ (xs ys:List PV) {vs:List V} {k:Bool},hG xs ys=aa k->Reps K H F xs vs->Reps K H F ys vs->k=ah
 | [],ys,vs,k,e,rx,ry=>by
  unfold hG at e;rw[show vs=[] from rx]at ry;have:=ry.len;cases ys with
  | nil=>cases e; rfl
  | cons=>simp at this
 | x::xs,ys,vs,k,e,rx,ry=>by
  unfold hG at e;obtain⟨v,r,rfl,h1,h2⟩:=rx;cases ys with
  | nil=>have:=ry.len; simp at this
  | cons y ys=>
   obtain⟨v',r',ev,g1,g2⟩:=ry;cases ev;simp only at e;cases q1:cS x y with
   | none=>rw[q1]at e; cases e
   | some a=>
    cases q2:hG xs ys with
    | none=>rw[q1,q2]at e; cases e
    | some b=>
     rw[q1,q2]at e;cases e;rw[zx x y q1 h1 g1,At xs ys q2 h2 g2]; rfl
end
mutual
theorem QO{H:Hp}{F:af->Prop}:∀ (x y:PV) {v u:V} {k:Bool},cS x y=aa k->aV K H F x v->aV K H F y u->io K H (jv x) v u k
 | .tup xs,y,v,u,k,e,rx,ry=>by
  have e0:=e;unfold cS at e;split at e
  ·rename_i ys;obtain⟨a,vs,rfl,ha,ra⟩:=id rx;obtain⟨b,ws,rfl,hb,rb⟩:=id ry;by_cases gc:a=b
   ·subst gc;rw[zx _ _ e0 rx ry];exact CU
   ·obtain⟨f,hf,rfl⟩:=tz xs ys e ra rb;unfold jv;exact KD (cq.of ha) (cq.of hb) gc hf
  ·cases e
 | .lst xs,y,v,u,k,e,rx,ry=>by
  have e0:=e;unfold cS at e;split at e
  ·rename_i ys;obtain⟨a,vs,rfl,ha,_,ra⟩:=id rx;obtain⟨b,ws,rfl,hb,_,rb⟩:=id ry;by_cases gc:a=b
   ·subst gc;rw[zx _ _ e0 rx ry];exact CU
   ·obtain⟨f,hf,rfl⟩:=tz xs ys e ra rb;unfold jv;exact IE (.inl ha) (.inl hb) gc hf
  ·cases e
 | .non,y,v,u,k,e,rx,ry=>by unfold cS at e; rw[show v=V.non from rx]; exact wA rfl e ry
 | .bl b,y,v,u,k,e,rx,ry=>by unfold cS at e; rw[show v=V.bl b from rx]; exact wA rfl e ry
 | .int b,y,v,u,k,e,rx,ry=>by unfold cS at e; rw[show v=V.int b from rx]; exact wA rfl e ry
 | .str b,y,v,u,k,e,rx,ry=>by unfold cS at e; rw[show v=tV b from rx.1]; exact wA rfl e ry
 | .raw _,_,_,_,_,e,_,_=>by unfold cS at e; cases e
 | .exc _,_,_,_,_,e,_,_=>by unfold cS at e; cases e
theorem tz{H:Hp}{F:af->Prop}:∀ (xs ys:List PV) {vs us:List V} {k:Bool},hG xs ys=aa k->Reps K H F xs vs->Reps K H F ys us -> ∃ f:Nat->Bool,(∀ (j:Nat) x y,vs[j]?=aa x->us[j]?=aa y->io K H (iM xs) x y (f j))/\k=fW f vs.length us.length
 | [],ys,vs,us,k,e,rx,ry=>by
  unfold hG at e;rw[show vs=[] from rx];refine⟨λ_=>ah,λj x y h=>by simp at h,?_⟩;have:=ry.len;cases e;unfold fW;cases ys with
  | nil=>simp at this; simp[this]
  | cons=>rw[this]; simp
 | x::xs,ys,vs,us,k,e,rx,ry=>by
  unfold hG at e;obtain⟨v,r,rfl,h1,h2⟩:=rx;cases ys with
  | nil=>
   cases e;rw[show us=[] from ry];exact⟨λ_=>ah,λj x y _ h=>by simp at h,by simp[fW]⟩
  | cons y ys=>
   obtain⟨u,r',rfl,g1,g2⟩:=ry;simp only at e;cases q1:cS x y with
   | none=>rw[q1]at e; cases e
   | some a=>
    cases q2:hG xs ys with
    | none=>rw[q1,q2]at e; cases e
    | some b=>
     rw[q1,q2]at e;cases e;obtain⟨f,hf,rfl⟩:=tz xs ys q2 h2 g2;refine⟨λj=>if j=0 then a else f (j-1),λj p q hp hq=>?_,by rw[dq,dq,Qv]⟩;cases j with
     | zero=>simp at hp hq;subst hp hq;show io K H _ _ _ (if(0:Nat)=0 then a else f (0-1));rw[if_pos rfl];exact G3 (QO x y q1 h1 g1) (by unfold iM; exact Nat.le_max_left _ _)
     | succ j=>show io K H _ _ _ (if j+1=0 then a else f (j+1-1));rw[if_neg ∅];exact G3 (hf j p q (by simpa using hp) (by simpa using hq)) (show iM xs<=max (jv x) (iM xs)from Nat.le_max_right _ _)
end
def eqT(neg:Bool)(x y:PV):Option PV:=match dN x,dN y with
 | some v,aa u=>if pF v u then aa (.bl (neg ^^ decide (v=u)))else ae
 | none,ae=>if jv x<=8 then(cS x y).map λk=>.bl (neg ^^ k)else ae
 | _,_=>ae
def Gg(K:aq):R2:=λx y H Q=>Fh x y H Q\/sT K ak x y H Q
def CP(K:aq):R2:=λx y H Q=>Eo x y H Q\/sT K ah x y H Q
theorem kJ(hu:X.A.units+64<cLine):bU X (eN .Eq) (Gg X.K):=Rt.or (IU hu)
theorem ln(hu:X.A.units+64<cLine):bU X (eN .NotEq) (CP X.K):=RK.or (N_ hu)
theorem Gk{H:Hp}{F:af->Prop}{x y:PV}{v u:V}{k:Bool}{Q:VK}{neg:Bool}(hx:dN x=ae)(e:cS x y=aa k)(hd:jv x<=8)(rx:aV K H F x v)(ry:aV K H F y u)(q:Q (.bl (neg ^^ k)) H):sT K neg v u H Q:=by
 have fin:∀ {k':Bool},k=k'->Q (.bl (if neg=ah then !k' else k')) H:=λ{k'} z=>by subst z; cases neg <;> simpa using q
 cases x with
 | tup xs=>
  unfold cS at e;split at e
  ·rename_i ys;obtain⟨a,vs,rfl,ha,ra⟩:=rx;obtain⟨b,ws,rfl,hb,rb⟩:=ry;obtain⟨f,hf,ek⟩:=tz xs ys e ra rb;unfold jv at hd;exact⟨a,b,vs,ws,iM xs,f,rfl,rfl,.inr ⟨cq.of ha,cq.of hb⟩,∅,hf,fin ek⟩
  ·cases e
 | lst xs=>
  unfold cS at e;split at e
  ·rename_i ys;obtain⟨a,vs,rfl,ha,_,ra⟩:=rx;obtain⟨b,ws,rfl,hb,_,rb⟩:=ry;obtain⟨f,hf,ek⟩:=tz xs ys e ra rb;unfold jv at hd;exact⟨a,b,vs,ws,iM xs,f,rfl,rfl,.inl ⟨.inl ha,.inl hb⟩,∅,hf,fin ek⟩
  ·cases e
 | raw _=>unfold cS at e; cases e
 | exc _=>unfold cS at e; cases e
 | non=>cases hx
 | bl _=>cases hx
 | int _=>cases hx
 | str _=>cases hx
theorem kq:P2 K (Gg K) (eqT ak):=λF H x y v u Q pv rx ry e q=>by
 unfold eqT at e;split at e
 ·rename_i a b ea eb;split at e
  ·rename_i hs;cases e;rw[jk rx ea,jk ry eb];refine .inl ⟨hs,?_⟩;have:=q (.bl (decide (a=b))) F H (Al.refl ..) (by simp[aV]);exact this
  ·cases e
 ·rename_i ea eb;split at e
  ·rename_i hd;cases ek:cS x y with
   | none=>rw[ek]at e; cases e
   | some k=>
    rw[ek]at e;cases e;exact .inr (Gk (neg:=ak) ea ek hd rx ry (q _ F H (Al.refl ..) rfl))
  ·cases e
 ·cases e
theorem lG:P2 K (CP K) (eqT ah):=λF H x y v u Q pv rx ry e q=>by
 unfold eqT at e;split at e
 ·rename_i a b ea eb;split at e
  ·rename_i hs;cases e;rw[jk rx ea,jk ry eb];refine .inl ⟨hs,?_⟩;have:=q (.bl (!decide (a=b))) F H (Al.refl ..) (by simp[aV]);exact this
  ·cases e
 ·rename_i ea eb;split at e
  ·rename_i hd;cases ek:cS x y with
   | none=>rw[ek]at e; cases e
   | some k=>
    rw[ek]at e;cases e;exact .inr (Gk (neg:=ah) ea ek hd rx ry (q _ F H (Al.refl ..) rfl))
  ·cases e
 ·cases e
end
end Pu
namespace Pu
open L2
section
variable{X:Cx}{K:aq}
def vk(i j:Tx):Bool:=!(ui (tS j) (tS i) 0 (tS j).length 1).isEmpty
def jW:List PV->Option (List V)
 | []=>aa []
 | x::xs=>(dN x).bind λv=>(jW xs).map λr=>v::r
theorem vA{H:Hp}{F:af->Prop}:∀ {xs:List PV} {vs ws:List V},Reps K H F xs vs->jW xs=aa ws->vs=ws/\ws.all gw=ah
 | [],_,_,r,e=>by cases e; exact⟨r,rfl⟩
 | x::xs,_,ws,⟨v,r,rfl,h1,h2⟩,e=>by
  unfold jW at e;cases q:dN x with
  | none=>rw[q]at e; cases e
  | some w=>
   cases q2:jW xs with
   | none=>rw[q,q2]at e; cases e
   | some wr=>
    rw[q,q2]at e;cases e;obtain⟨e1,e2⟩:=vA h2 q2;exact⟨by rw[jk h1 q,e1],by rw[rN,sE q,e2]; rfl⟩
def qB(neg:Bool):PV->PV->Option PV
 | .str x,.str y=>aa (.bl (neg ^^ vk x y))
 | x,.lst ys=>(dN x).bind λv=>(jW ys).map λws=>.bl (neg ^^ ti v ws)
 | x,.tup ys=>(dN x).bind λv=>(jW ys).map λws=>.bl (neg ^^ ti v ws)
 | _,_=>ae
def GJ(K:aq):R2:=λx y H Q=>(∃ i j,x = .str i/\y = .str j/\Q (.bl (!(ui j i 0 j.length 1).isEmpty)) H)\/zK K ak x y H Q
theorem O6:bU X (eN .In) (GJ X.K):=Rm.or Pd
theorem DH{H:Hp}{F:af->Prop}{x:PV}{ys:List PV}{v:V}{p:af}{us:List V}{Q:VK}{neg:Bool}{pv:PV}(rx:aV K H F x v)(hp:bR K H p us\/cq K H p us)(ru:Reps K H F ys us)(e:((dN x).bind λv=>(jW ys).map λws=>PV.bl (neg ^^ ti v ws))=aa pv) (q:∀ w,aV K H F pv w->Q w H):zK K neg v (.ref p) H Q:=by
 cases q1:dN x with
 | none=>rw[q1]at e; cases e
 | some w=>
  cases q2:jW ys with
  | none=>rw[q1,q2]at e; cases e
  | some ws=>
   rw[q1,q2]at e;cases e;obtain⟨rfl,hf⟩:=vA ru q2;rw[jk rx q1];refine⟨p,us,rfl,hp,sE q1,hf,?_⟩;have:=q _ rfl;cases neg <;> simpa using this
theorem II:P2 K (GJ K) (qB ak):=λF H x y v u Q pv rx ry e q=>by
 unfold qB at e;split at e
 ·cases e; exact .inl ⟨_,_,rx.1,ry.1,by have:=q _ F H (Al.refl ..) rfl; simpa[vk]using this⟩
 ·obtain⟨a,us,rfl,ha,_,ra⟩:=ry;exact .inr (DH (neg:=ak) rx (.inl (.inl ha)) ra e λw rw'=>q w F H (Al.refl ..) rw')
 ·obtain⟨a,us,rfl,ha,ra⟩:=ry;exact .inr (DH (neg:=ak) rx (.inr (cq.of ha)) ra e λw rw'=>q w F H (Al.refl ..) rw')
 ·cases e
def cb:List PV->Option PV
 | [.str x]=>aa (.int x.length)
 | [.lst xs]=>aa (.int xs.length)
 | [.tup xs]=>aa (.int xs.length)
 | _=>ae
theorem gf{H:Hp}{F:af->Prop}{x:PV}{vs:List V}(r:Reps K H F [x] vs):∃ v,vs=[v]/\aV K H F x v:=by obtain⟨v,r',rfl,h1,h2⟩:=r;rw[show r'=[] from h2];exact⟨v,rfl,h1⟩
theorem iL:PL K (λxs H Q=>∃ x n,xs=[x]/\Dp K x H n/\Q (.int n) H) cb:=λF H xs vs Q pv rs e q=>by
 unfold cb at e;split at e
 ·cases e;obtain⟨v,rfl,rv⟩:=gf rs;rw[rv.1];exact⟨_,_,rfl,⟨by rw[iE]; exact cr rv.2 kA,rfl⟩,by rw[iE]; exact q _ F H (Al.refl ..) rfl⟩
 ·cases e;obtain⟨v,rfl,a,us,rfl,ha,_,ra⟩:=gf rs;exact⟨_,_,rfl,.inl ⟨us,.inl ha,rfl⟩,by rw[ra.len]; exact q _ F H (Al.refl ..) rfl⟩
 ·cases e;obtain⟨v,rfl,a,us,rfl,ha,ra⟩:=gf rs;exact⟨_,_,rfl,.inr ⟨us,cq.of ha,rfl⟩,by rw[ra.len]; exact q _ F H (Al.refl ..) rfl⟩
 ·cases e
def qU:List PV->Option PO
 | [.lst xs]=>aa (.lst xs)
 | [.tup xs]=>aa (.lst xs)
 | _=>ae
theorem Ff:kj K (λxs H Q=>∃ p ys,xs=[.ref p]/\(bR K H p ys\/cq K H p ys)/\∀ l,H l=ae->Q (.ref l) (upd H l (.lst ys))) qU:=λF H xs vs Q po hF rs e q=>by
 unfold qU at e;split at e
 ·cases e;obtain⟨v,rfl,a,us,rfl,ha,_,ra⟩:=gf rs;exact⟨a,us,rfl,.inl (.inl ha),λl hl=>q l F _ _ (Al.new0 hl) (v5 hl ra) (wu hl hF trivial)⟩
 ·cases e;obtain⟨v,rfl,a,us,rfl,ha,ra⟩:=gf rs;exact⟨a,us,rfl,.inr (cq.of ha),λl hl=>q l F _ _ (Al.new0 hl) (v5 hl ra) (wu hl hF trivial)⟩
 ·cases e
def qQ:List PV->Option PV
 | [.lst xs]=>aa (.tup xs)
 | [.tup xs]=>aa (.tup xs)
 | _=>ae
theorem Ge:PL K (λxs H Q=>∃ p ys,xs=[.ref p]/\((bR K H p ys/\∀ l,H l=ae->Q (.ref l) (upd H l (.tup ys)))\/(cq K H p ys/\Q (.ref p) H))) qQ:=λF H xs vs Q pv rs e q=>by
 unfold qQ at e;split at e
 ·cases e;obtain⟨v,rfl,a,us,rfl,ha,_,ra⟩:=gf rs;exact⟨a,us,rfl,.inl ⟨.inl ha,λl hl=>q _ F _ (Al.new0 hl) ⟨l,us,rfl,b_,(Al.new0 hl).reps ra⟩⟩⟩
 ·cases e;obtain⟨v,rfl,a,us,rfl,ha,ra⟩:=gf rs;exact⟨a,us,rfl,.inr ⟨cq.of ha,q _ F H (Al.refl ..) ⟨a,us,rfl,ha,ra⟩⟩⟩
 ·cases e
def gx:List PV->Option (List Tx)
 | []=>aa []
 | .str x::xs=>(gx xs).map (x::·)
 | _=>ae
def am(ls:List Tx):List PV:=ls.map .str
theorem sQ(ls:List Tx):gx (am ls)=aa ls:=by
 induction ls with
 | nil=>rfl
 | cons x ls ih=>show(gx (am ls)).map (x::·)=_; rw[ih]; rfl
theorem vq:∀ {xs:List PV} {ls:List Tx},gx xs=aa ls->xs=am ls
 | [],ls,e=>by cases e; rfl
 | .str x::xs,ls,e=>by
  unfold gx at e;cases q:gx xs with
  | none=>rw[q]at e; cases e
  | some r=>rw[q]at e; cases e; rw[vq q]; rfl
 | .non::_,_,e=>by cases e
 | .bl _::_,_,e=>by cases e
 | .int _::_,_,e=>by cases e
 | .tup _::_,_,e=>by cases e
 | .lst _::_,_,e=>by cases e
 | .raw _::_,_,e=>by cases e
 | .exc _::_,_,e=>by cases e
theorem Rj{H:Hp}{F:af->Prop}:∀ {ls:List Tx} {vs:List V},Reps K H F (am ls) vs↔vs=cI ls/\∀ x∈ls,x.length<=bi
 | [],vs=>by simp[am,Reps,cI]
 | x::ls,vs=>by
  show(∃ v r,vs=v::r/\(v=tV x/\x.length<=bi)/\Reps K H F (am ls) r)↔_;constructor
  ·rintro⟨v,r,rfl,⟨rfl,h1⟩,h2⟩;obtain⟨rfl,h3⟩:=Rj.mp h2;exact⟨rfl,λy hy=>by
    rcases bV.mp hy with rfl | hy
    ·exact h1
    ·exact h3 y hy⟩
  ·rintro⟨rfl,h⟩;exact⟨tV x,cI ls,rfl,⟨rfl,h x (by simp)⟩,Rj.mpr ⟨rfl,λy hy=>h y (by simp[hy])⟩⟩
def l5:List PV->Option (List Bool)
 | []=>aa []
 | .bl b::xs=>(l5 xs).map (b::·)
 | _=>ae
theorem ES{H:Hp}{F:af->Prop}:∀ {xs:List PV} {vs:List V} {bs:List Bool},Reps K H F xs vs->l5 xs=aa bs->vs=bs.map V.bl
 | [],_,_,r,e=>by cases e; exact r
 | .bl b::xs,_,bs,⟨v,r,rfl,h1,h2⟩,e=>by
  unfold l5 at e;cases q:l5 xs with
  | none=>rw[q]at e; cases e
  | some r'=>rw[q]at e; cases e; rw[ES h2 q,show v=V.bl b from h1]; rfl
 | .non::_,_,_,_,e=>by cases e
 | .str _::_,_,_,_,e=>by cases e
 | .int _::_,_,_,_,e=>by cases e
 | .tup _::_,_,_,_,e=>by cases e
 | .lst _::_,_,_,_,e=>by cases e
 | .raw _::_,_,_,_,e=>by cases e
 | .exc _::_,_,_,_,e=>by cases e
def pD:List PV->Option PV
 | [.lst xs]=>(l5 xs).map λbs=>.bl (bs.all id)
 | _=>ae
theorem Bi:PL K (λxs H Q=>∃ (p:af) (bs:List Bool),xs=[.ref p]/\bR K H p (bs.map V.bl)/\Q (.bl (bs.all id)) H) pD:=λF H xs vs Q pv rs e q=>by
 unfold pD at e;split at e
 ·rename_i ys;cases q1:l5 ys with
  | none=>rw[q1]at e; cases e
  | some bs=>
   rw[q1]at e;cases e;obtain⟨v,rfl,a,us,rfl,ha,_,ra⟩:=gf rs;rw[ES ra q1]at ha;exact⟨a,bs,rfl,.inl ha,q _ F H (Al.refl ..) rfl⟩
 ·cases e
def ro:PV->Option String
 | .non=>aa "NoneType"
 | .bl _=>aa "bool"
 | .int _=>aa "int"
 | .str _=>aa "str"
 | .tup _=>aa "tuple"
 | .lst _=>aa "list"
 | _=>ae
def gA:List PV->Option PV
 | [x,.raw (.ty T)]=>(ro x).bind λt=>(gX [] (.type t) (.type T)).map λb=>.bl b
 | _=>ae
theorem oM:eu X (.builtin "isinstance") (λxs H Q=>∃ x t T b,xs=[x,.ty T]/\iA X.K H x (.type t)/\gX X.K (.type t) (.type T)=aa b/\Q (.bl b) H):=by
 intro ag s σ H xs us Q I r h;obtain⟨x,t,T,b,rfl,ty,e,q⟩:=h;cases r with
 | cons r1 r2=>
  cases r2 with
  | cons r3 r4=>
   cases r4;cases r3;exact Lr I r1 ty e λtk=>⟨.bl b,H,I.tok _,rfl,q⟩
theorem L9{H:Hp}{F:af->Prop}{x:PV}{v:V}{t:String}(r:aV K H F x v)(e:ro x=aa t):iA K H v (.type t):=by
 cases x with
 | non=>cases e; rw[show v=V.non from r]; exact .non
 | bl b=>cases e; rw[show v=V.bl b from r]; exact .bl b
 | int b=>cases e; rw[show v=V.int b from r]; exact .int b
 | str b=>cases e; rw[show v=tV b from r.1]; exact .str _
 | tup xs=>cases e; obtain⟨a,vs,rfl,ha,_⟩:=r; exact .tup ha
 | lst xs=>
  cases e;obtain⟨a,vs,rfl,ha,_⟩:=r;rcases ha with ha | ⟨o,ha⟩
  ·exact .lst ha
  ·exact .frz ha
 | raw _=>cases e
 | exc _=>cases e
theorem pq:PL K (λxs H Q=>∃ x t T b,xs=[x,.ty T]/\iA K H x (.type t)/\gX K (.type t) (.type T)=aa b/\Q (.bl b) H) gA:=λF H xs vs Q pv rs e q=>by
 unfold gA at e;split at e
 ·rename_i x T;cases q1:ro x with
  | none=>rw[q1]at e; cases e
  | some t=>
   cases q2:gX [] (.type t) (.type T)with
   | none=>rw[q1,iC,q2]at e; cases e
   | some b=>
    rw[q1,iC,q2]at e;cases e;obtain⟨v,r',rfl,h1,h2⟩:=rs;obtain⟨u,rfl,h3⟩:=gf h2;rw[show u=V.ty T from h3];exact⟨v,t,T,b,rfl,L9 h1 q1,q2,q _ F H (Al.refl ..) rfl⟩
 ·cases e
theorem oS{E:XK}{x:Str}{T:String}{pos:Pos}(hm:X.mg x=ae)(hv:ef x=aa (.type T))(hg:Gl X x:=by rfl)(hn:x≠"__name__":=by decide)(hd:(x == ("__debug__" : Str))=ak:=by decide):DE X E (.Name x pos) (dC (.raw (.ty T))):=λF S ε σ H Q r q=>bC (LW (v:=.ty T) hg hm hv rfl hn hd) (q F S H r (a_.refl ..) _ rfl)
def bL:PV->PV->Option PV
 | .lst xs,.int i=>eF xs i
 | .tup xs,.int i=>eF xs i
 | .str x,.int i=>(eF x i).map λc=>.str [c]
 | _,_=>ae
theorem C1{H:Hp}{F:af->Prop}{xs:List PV}{vs:List V}{i:Int}{x:PV}(r:Reps K H F xs vs)(e:eF xs i=aa x):∃ v,eF vs i=aa v/\aV K H F x v:=by
 unfold eF at e ⊢;rw[r.len];cases q:kx xs.length i with
 | none=>rw[q]at e; cases e
 | some j=>rw[q]at e; exact r.get e
theorem ic:P2 K (Gc K) bL:=λF H x y v u Q pv rx ry e q=>by
 unfold bL at e;split at e
 ·rename_i xs i;obtain⟨a,us,rfl,ha,_,ra⟩:=rx;obtain⟨w,e1,e2⟩:=C1 ra e;exact .inl ⟨a,us,i,w,rfl,ry,.inl ha,e1,q _ F H (Al.refl ..) e2⟩
 ·rename_i xs i;obtain⟨a,us,rfl,ha,ra⟩:=rx;obtain⟨w,e1,e2⟩:=C1 ra e;exact .inr (.inl ⟨a,us,i,w,rfl,ry,cq.of ha,e1,q _ F H (Al.refl ..) e2⟩)
 ·rename_i x i;cases q1:eF x i with
  | none=>rw[q1]at e; cases e
  | some c=>
   rw[q1]at e;cases e;rw[rx.1];exact .inr (.inr ⟨_,i,c,rfl,ry,by rw[iE]; exact cr rx.2 kA,by rw[nM]; exact q1,q _ F H (Al.refl ..) ⟨rfl,by show 1<=bi; decide⟩⟩)
 ·cases e
def gv{α:Type}(xs:List α)(lo hi:Option Int):List α:=(xs.drop (HT.sIx xs.length 0 lo)).take (HT.sIx xs.length xs.length hi-HT.sIx xs.length 0 lo)
theorem Ng{α:Type}(xs:List α)(lo hi:Option Int):(gv xs lo hi).length<=xs.length:=by unfold gv;rw[jD,jF];lia
def i5:PV->Option Int->Option Int->Option PV
 | .str x,lo,hi=>aa (.str (gv x lo hi))
 | .lst xs,lo,hi=>aa (.lst (gv xs lo hi))
 | .tup xs,lo,hi=>if HT.sIx xs.length 0 lo=0/\HT.sIx xs.length xs.length hi=xs.length then ae else aa (.tup (gv xs lo hi))
 | _,_,_=>ae
def EF(K:aq):V->Option Int->Option Int->Hp->VK->Prop:=λx lo hi H Q=>EW x lo hi H Q\/(Eu K x lo hi H Q\/FI K x lo hi H Q)
theorem xv:mf X (EF X.K):=Rh.or (Rk.or Ln)
theorem Dj{H:Hp}{F:af->Prop}{xs:List PV}{vs:List V}(r:Reps K H F xs vs)(lo hi:Option Int):Reps K H F (gv xs lo hi) (nj vs lo hi):=by unfold gv nj;rw[r.len];exact(r.drop _).take _
theorem xj:E4 K (EF K) i5:=λF H x lo hi v Q pv rx e q=>by
 unfold i5 at e;split at e
 ·cases e;rw[rx.1];refine .inl ⟨_,rfl,by rw[iE]; exact cr rx.2 kA,?_⟩;refine q _ F H (Al.refl ..) ⟨?_,cr (Ng ..) rx.2⟩;unfold lx gv;rw[iE,nM]; rfl
 ·cases e;obtain⟨a,us,rfl,ha,_,ra⟩:=rx;exact .inr (.inl ⟨a,us,rfl,.inl ha,λp hp=>q _ _ _ (Al.new hp) ⟨p,_,rfl,.inl b_,.inr rfl,(Al.new hp).reps (Dj ra lo hi)⟩⟩)
 ·split at e
  ·cases e
  ·rename_i hw;cases e;obtain⟨a,us,rfl,ha,ra⟩:=rx;exact .inr (.inr ⟨a,us,rfl,cq.of ha,by rw[ra.len]; exact hw,λp hp=>q _ _ _ (Al.new0 hp) ⟨p,_,rfl,b_,(Al.new0 hp).reps (Dj ra lo hi)⟩⟩)
 ·cases e
variable{E:XK}{tg l a b:aB}{d:aj->R PV}{ds:aj->R (List PV)}{p pos:Pos}
def kI:PV->Option (List PV)
 | .lst xs=>aa xs
 | .tup xs=>aa xs
 | .str x=>aa (x.map λc=>.str [c])
 | _=>ae
def dO(d:aj->R PV):aj->R (List PV):=λε=>(d ε).bind λx ε1=>aO (kI x) ε1
theorem Ed{H:Hp}{F:af->Prop}:∀ (x:Tx),Reps K H F (x.map λc=>PV.str [c]) (x.map sg)
 | []=>rfl
 | c::x=>⟨sg c,x.map sg,rfl,⟨rfl,by show 1<=bi; decide⟩,Ed x⟩
theorem kL(he:DE X E l d):DI X E tg l (dO d):=λF S ε σ H Rr rl h=>Bx.mk λag s I=>by
 have w:=he F S ε σ H (λv H1=>∃ F1 S1 ε1 x,aH X.K F1 S1 ε1 σ H1/\aV X.K H1 F1 x v/\Ok X.K E σ F1 S1 H1 (aO (kI x) ε1) (λpvs _ F' S' H'=>∀ J vs RR,Reps X.K H' F' pvs vs->vs.length<=a9->Walk J vs RR->(∀ S'' F'' H'',a_ (U S') (U S'') F' F'' H' H''->RR H'')->Rr J H')) rl
  ((Ok.bind h).imp λx ε1 F1 S1 H1 r1 g1 h1 v rv=>⟨F1,S1,ε1,x,r1,rv,h1⟩)
 refine aX (w.run ag s I) λv s1 ⟨x,H1,I1,rx,F1,S1,ε1,pv,r1,rv,h1⟩=>?_;cases pv with
 | lst xs=>
  obtain⟨a,us,rfl,ha,hF,ra⟩:=rv;cases rx;obtain⟨its,rr,pp,hz⟩:=I1.list (.inl ha);refine Hu pp.isList ?_;refine⟨s1.heap.objs.size,[s1.heap.objs.size],_,_,H1,rfl,I1.kept (t':=s1.toks) λb o e=>bG _ e,MY a _,⟨_,cW _ rfl,rfl,rfl⟩,λb hb=>?_,h1 F1 S1 H1 r1 (a_.refl ..) (yQ X.K a) us (λH=>bR X.K H a us) ra hz Nc λS2 F2 H2 g2=>.inl (g2.lst r1.fit hF ha)⟩;have e:b=s1.heap.objs.size:=by simpa using hb
  subst e;exact I1.fpOk (bp _) (I1.hok.fresh (bp _))
 | tup xs=>
  obtain⟨a,us,rfl,ha,ra⟩:=rv;cases rx;obtain⟨its,rr,pp,hz⟩:=I1.tuple (cq.of ha);refine wpAny_pyIter_tuple (show s1.heap.IsTuple a its.toArray from pp) ?_;refine⟨s1.heap.objs.size,[s1.heap.objs.size],_,_,H1,rfl,I1.kept (t':=s1.toks) λb o e=>bG _ e,O_ a _,⟨_,cW _ rfl,rfl,rfl⟩,λb hb=>?_,h1 F1 S1 H1 r1 (a_.refl ..) (Ap X.K a) us (λH=>cq X.K H a us) ra hz IZ λS2 F2 H2 g2=>cq.of (g2.imm r1.fit ha id)⟩;have e:b=s1.heap.objs.size:=by simpa using hb
  subst e;exact I1.fpOk (bp _) (I1.hok.fresh (bp _))
 | str z=>
  obtain⟨rfl,hz⟩:=rv;obtain⟨t,rfl⟩:=rx;have qq:Rr (ua (tS z)) H1:=h1 F1 S1 H1 r1 (a_.refl ..) (ua (tS z)) (z.map sg) (λ_=>True) (Ed z) (by rw[cX]; exact cr hz kA) (by have:=NU (z:=tS z); rw[nM]at this; exact this) λ_ _ _ _=>trivial;have fin:∀ (n:String) (St':Nat->aA->Prop),(∀ i h,St' i h->∃ o n vs,h.get? s1.heap.objs.size=aa o/\o.cls = .type n/\o.data = .fields vs /\ ["enumerate","zip","dict_itemiterator","dict_reverseitemiterator","odict_iterator","itertools.zip_longest","itertools.pairwise"].contains n=ak) ->
    (∀ (A:aR) (i:Nat) (s:ao) (Q:ai->ao->Prop) (E:ai->ao->Prop),St' i s.heap->Q (.ref s1.heap.objs.size) s->aw (au X.prog X.w) A (nY (.ref s1.heap.objs.size)) Q E s) ->
    (∀ A:aR,A.handled=ae->Walks X.prog X.w A s1.heap.objs.size [s1.heap.objs.size] [s1.heap.objs.size] (tS z).cps.size (SignAt (tS z)) St') ->
    St' 0 (s1.heap.push { cls:=.type n,data:=.fields #[.str (tS z) t,.int 0 0] }) ->
    vC X ag σ tg Rr (.ref s1.heap.objs.size) { s1 with heap:=s1.heap.push { cls:=.type n,data:=.fields #[.str (tS z) t,.int 0 0] } }:=λn St' h1 h2 h3 h4=>by
   refine⟨s1.heap.objs.size,[s1.heap.objs.size],St',ua (tS z),H1,rfl,I1.kept (t':=s1.toks) λb o e=>bG _ e,OT h1 h2 h3,h4,λb hb=>?_,qq⟩;have e:b=s1.heap.objs.size:=by simpa using hb
   subst e;exact I1.fpOk (bp _) (I1.hok.fresh (bp _))
  cases ha:(tS z).cps.all (· < 128)
  ·refine wpAny_pyIter_wide ha (fin "str_iterator" (λi h=>h.IsStrIter s1.heap.objs.size "str_iterator" (tS z) t i) (λi h ⟨o,e1,e2,e3⟩=>⟨o,_,_,e1,e2,e3,by decide⟩) (λA i s Q E st h=>wpAny_pyIter_striter_wide st h) (λA' hA=>Walks.strWide hA _ (tS z) t) ⟨_,cW _ rfl,rfl,rfl⟩)
  ·refine wpAny_pyIter_ascii ha (fin "str_ascii_iterator" (λi h=>h.IsStrIter s1.heap.objs.size "str_ascii_iterator" (tS z) t i) (λi h ⟨o,e1,e2,e3⟩=>⟨o,_,_,e1,e2,e3,by decide⟩) (λA i s Q E st h=>wpAny_pyIter_striter_ascii st h) (λA' hA=>Walks.strAscii hA _ (tS z) t) ⟨_,cW _ rfl,rfl,rfl⟩)
 | non=>exact(show False from h1).elim
 | bl _=>exact(show False from h1).elim
 | int _=>exact(show False from h1).elim
 | raw _=>exact(show False from h1).elim
 | exc _=>exact(show False from h1).elim
def ik(lo:Int)(n:Nat):List PV:=(bJ n).map λi=>PV.int (lo+(i:Nat))
theorem C8{H:Hp}{F:af->Prop}(lo:Int)(n:Nat):Reps K H F (ik lo n) (qJ lo n):=by
 unfold ik qJ
 induction (bJ n)with
 | nil=>rfl
 | cons x xs ih=>exact⟨_,_,rfl,rfl,ih⟩
def nH:List PV->Option (List PV)
 | [.int j]=>if j<=1000000/\-1000000<=j then aa (ik 0 j.toNat)else ae
 | _=>ae
def wd:List PV->Option (List PV)
 | [.int i,.int j]=>if j<=1000000/\-1000000<=j/\i<=1000000/\-1000000<=i then aa (ik i (j-i).toNat)else ae
 | _=>ae
theorem C7(hm:X.mg "range" = ae)(ha:DA X E [a] ds)(hg:Gl X "range":=by rfl)(hs:aC [a] X.env=[(ak,aD a X.env)]:=by rfl):DI X E tg (.Call (.Name "range" p) [a] [] pos) (dL nH ds):=λF S ε σ H Rr rl h=>by
 refine D3 (Qs hg hm fZ hs) (ha F S ε σ H _ rl ((Ok.bind h).imp λxs ε1 F1 S1 H1 r1 g1 h1 vs iU=>?_));unfold nH at h1;split at h1
 ·rename_i j;split at h1
  ·rename_i hj;obtain⟨v,rfl,rv⟩:=gf iU;refine⟨j,by rw[show v=V.int j from rv],∅,∅,h1 F1 S1 H1 r1 (a_.refl ..) _ _ _ (C8 0 j.toNat) (by rw[vR,nZ]; lia) En λ_ _ _ _=>trivial⟩
  ·exact h1.elim
 ·exact h1.elim
theorem Mq(hm:X.mg "range" = ae)(ha:DA X E [a,b] ds)(hg:Gl X "range":=by rfl)(hs:aC [a,b] X.env=[(ak,aD a X.env),(ak,aD b X.env)]:=by rfl)(jH:aC [b] X.env=[(ak,aD b X.env)]:=by rfl) : DI X E tg (.Call (.Name "range" p) [a,b] [] pos) (dL wd ds):=λF S ε σ H Rr rl h=>by
 refine D3 (Ll hg hm fZ hs jH) (ha F S ε σ H _ rl ((Ok.bind h).imp λxs ε1 F1 S1 H1 r1 g1 h1 vs iU=>?_));unfold wd at h1;split at h1
 ·rename_i i j;split at h1
  ·rename_i hj;obtain⟨v,r',rfl,h2,h3⟩:=iU;obtain⟨u,rfl,h4⟩:=gf h3;refine⟨i,j,by rw[show v=V.int i from h2,show u=V.int j from h4],⟨∅,∅,∅,∅⟩,h1 F1 S1 H1 r1 (a_.refl ..) _ _ _ (C8 i (j-i).toNat) (by rw[vR,nZ]; lia) En λ_ _ _ _=>trivial⟩
  ·exact h1.elim
 ·exact h1.elim
end
section
variable{K:aq}{F:af->Prop}{S:Nat->af->Prop}{ε:aj}{σ:St}{H:Hp}{i:Nat}{xs xs':List PV}{vs':List V}{a:af}
theorem aH.lstAt(r:aH K F S ε σ H)(e:ε[i]?=aa (.own (.lst xs))):∃ a vs,σ[i]?=aa (aa (.ref a))/\H a=aa (.lst vs)/\Reps K H F xs vs/\S i a/\∀ b,S i b->b=a:=by obtain⟨a,e1,⟨vs,h1,h2⟩,h3⟩:=r.own i _ e;exact⟨a,vs,e1,h1,h2,(h3 a).mpr rfl,λb h=>(h3 b).mp h⟩
theorem aH.upd(r:aH K F S ε σ H)(e:ε[i]?=aa (.own (.lst xs)))(ea:σ[i]?=aa (aa (.ref a)))(h:Reps K H F xs' vs') : aH K F S (ε.set i (.own (.lst xs'))) σ (upd H a (.lst vs'))/\a_ (U S) (U S) F F H (upd H a (.lst vs')):=by
 obtain⟨a',vs,e1,h1,h2,h3,h4⟩:=r.lstAt e;rw[ea]at e1;cases e1;have hi:i<ε.length:=(cu.mp e).1;have g:a_ (U S) (U S) F F H (L2.upd H a (.lst vs')):=⟨λ_ z=>z,λb o q n=>by rw[bw (by rintro rfl; exact n ⟨i,h3⟩)]; exact q,λb o q=>by
  by_cases hb:b=a
  ·subst hb; exact⟨_,b_⟩
  ·exact⟨o,by rw[bw hb]; exact q⟩,λ_ z=>.inl z,λ_ z=>.inl z⟩
 refine⟨⟨by rw[fL]; exact r.len,λb z=>let ⟨o,q⟩:=r.ex b z; g.there b o q,λj pv q=>?_,λj po q=>?_,λj b z=>?_,r.dist⟩,g⟩
 ·have hj:i≠j:=by rintro rfl; rw[cA hi]at q; cases q
  rw[cg hj]at q;obtain⟨v,q1,q2⟩:=r.val j pv q;exact⟨v,q1,q2.grow g r.fit⟩
 ·by_cases hj:i=j
  ·subst hj;rw[cA hi]at q;cases q;exact⟨a,ea,⟨vs',b_,h.grow g r.fit⟩,λb=>⟨h4 b,λz=>by rw[z]; exact h3⟩⟩
  ·rw[cg hj]at q;obtain⟨c,q1,q2⟩:=r.own j po q;refine⟨c,q1,q2.mono (λ_ _ z=>z.grow g r.fit) (λ_ _ z=>z.grow g r.fit) λb o z w=>?_⟩;rw[bw (by rintro rfl; exact hj (r.dist i j b h3 z))]; exact w
 ·obtain⟨⟨po,q1⟩,q2,o,q3,q4⟩:=r.foot j b z;by_cases hj:i=j
  ·subst hj;rw[h4 b z];exact⟨⟨_,cA hi⟩,by rw[← h4 b z]; exact q2,_,b_,trivial⟩
  ·exact⟨⟨po,by rw[cg hj]; exact q1⟩,q2,o,by rw[bw (by rintro rfl; exact hj (r.dist i j b h3 z))]; exact q3,q4⟩
end
section
variable{X:Cx}{E:XK}{pin:List Nat}{e b:aB}{de db:aj->R PV}{pos:Pos}
def dA(ε:aj)(i:Nat):Option (List PV):=match ε[i]? with
 | some (.own (.lst xs))=>aa xs
 | _=>ae
theorem i_{ε:aj}{i:Nat}{xs:List PV}(h:dA ε i=aa xs):ε[i]?=aa (.own (.lst xs)):=by
 unfold dA at h;split at h
 ·cases h; assumption
 ·cases h
def kB(i:Nat)(de:aj->R PV):aj->R aT:=λε=>(aO (dA ε i) ε).bind λ_ ε=>(de ε).bind λy ε1=>(aO (dA ε1 i) ε1).bind λxs ε1=>if xs.length<bi then .ok .next (ε1.set i (.own (.lst (xs++[y]))))else .no
theorem zY(i:Nat){x:Str}{p apos cpos:Pos}(he:DE X E e de)(hN:X.N[i]?=aa x:=by rfl)(hv:c7 X.env.scope x:=by first | exact Or.inl rfl | exact Or.inr (Or.inl rfl) | exact Or.inr (Or.inr rfl))(hd:(x == ("__debug__" : Str))=ak:=by decide)(a7:(x == ("__classdict__" : Str))=ak:=by decide) (h1:f9 (.Name x p) "append" X.env (aD (.Name x p) X.env)=aD (.Name x p) X.env:=by rfl)(h2:((bK cpos (aC [e] X.env)).all (λx=>!x.1) && (j6 cpos (j7 [] X.env)).all (λx=>x.1.isSome) && decide ([e].length+([]:List iN).length+(if([]:List iN).isEmpty then 0 else 1)<30))=ah:=by rfl)(h3:(apos.endLine == cpos.line)=ah:=by rfl) (h4:aC [e] X.env=(ak,aD e X.env)::aC [] X.env:=by rfl) (h5:(bK cpos (aC [] X.env)).any (·.1)=ak:=by rfl)(hs:j4 (.Call (.Attribute (.Name x p) "append" apos) [e] [] cpos) ae pos.line X.env=pure ak:=by rfl) : DS X E pin (.Expr (.Call (.Attribute (.Name x p) "append" apos) [e] [] cpos) pos) (kB i de):=λF S ε σ H D rl h=>by
 unfold kB at h;cases e0:dA ε i with
 | none=>rw[e0]at h; exact h.elim
 | some xs0=>
  rw[e0]at h;simp only[cz,R.bind_ok]at h;obtain⟨a,vs0,ea,ha,_,_,_⟩:=rl.lstAt (i_ e0);refine iw (wB (rg uy PySem.F.slot_list_append PySem.F.type_list_append z6 (dP hN hv hd a7) (gP bD i7 h4) h1 h2 h3 h4 h5) hs) ⟨.ref a,ea,.inl ⟨rfl,_,bR.of ha⟩,?_⟩;refine he F S ε σ H _ rl (h.bindE.imp λy ε1 F1 S1 H1 r1 g1 q v rv=>?_);cases e1:dA ε1 i with
  | none=>rw[e1]at q; exact q.elim
  | some xs=>
   rw[e1]at q;simp only[cz,R.bind_ok]at q;obtain⟨a',vs,ea',qg,ra,_,_⟩:=r1.lstAt (i_ e1);rw[ea]at ea';cases ea';split at q
   ·rename_i hl;obtain⟨r2,g2⟩:=r1.upd (i_ e1) ea (ra.app (.one rv));exact⟨a,vs,v,rfl,rfl,qg,by rw[ra.len]; exact gU hl kA,q F1 S1 σ _ r2 g2 (im.refl _ _)⟩
   ·exact q.elim
def MT:V->List V->Hp->VK->Prop:=λx vs H Q=>∃ l b xs zs,x = .ref l/\vs=[.ref b]/\H l=aa (.lst xs)/\Rd H b (.lst zs)/\xs.length+zs.length<=a9/\Q .non (L2.upd H l (.lst (xs++zs)))
theorem No:uf X "list.extend" MT:=by
 intro ag s σ H x vs v us Q I rx rv h;obtain⟨l,b,xs,zs,rfl,rfl,hH,hB,hz,q⟩:=h;cases rx;obtain⟨u,rfl,ru⟩:=rv.one;cases ru;obtain⟨z,its,n,r,hl,e⟩:=I.lstM hH;obtain⟨its2,n2,r2,e2,_⟩:=AC I hB;have mX:=r2.length;have hsz:its.toArray.size+its2.toArray.size<=a9:=by rw[cC,cC]; lia
 have Q9:¬ (!its.toArray.isEmpty && Hq (its.toArray.size+its2.toArray.size))=ah:=by rw[OH hsz,Bool.and_false];exact f8
 refine p6 F.slot_list_extend ⟨_,e,rfl⟩ F.entry_list_extend (F.args_list_extend_2 _ _)
  (AutoSeq1.list_extend_list_list_0 l its.toArray n b its2.toArray n2 Q9 (by rw[cC]; lia) ∅) ⟨e,e2,?_⟩
 refine⟨.non,_,I.lset (its':=its++its2) hH e (by simp) (r.append r2) ?_,rfl,q⟩;rw[dr];lia
def wH(i:Nat)(de:aj->R PV):aj->R aT:=λε=>(aO (dA ε i) ε).bind λ_ ε=>(de ε).bind λy ε1=>(aO (dA ε1 i) ε1).bind λxs ε1=>match y with
 | .lst ys=>if xs.length+ys.length<=bi then .ok .next (ε1.set i (.own (.lst (xs++ys))))else .no
 | _=>.no
theorem ED(i:Nat){x:Str}{p apos cpos:Pos}(he:DE X E e de)(hN:X.N[i]?=aa x:=by rfl)(hv:c7 X.env.scope x:=by first | exact Or.inl rfl | exact Or.inr (Or.inl rfl) | exact Or.inr (Or.inr rfl))(hd:(x == ("__debug__" : Str))=ak:=by decide)(a7:(x == ("__classdict__" : Str))=ak:=by decide) (h1:f9 (.Name x p) "extend" X.env (aD (.Name x p) X.env)=aD (.Name x p) X.env:=by rfl)(h2:((bK cpos (aC [e] X.env)).all (λx=>!x.1) && (j6 cpos (j7 [] X.env)).all (λx=>x.1.isSome) && decide ([e].length+([]:List iN).length+(if([]:List iN).isEmpty then 0 else 1)<30))=ah:=by rfl)(h3:(apos.endLine == cpos.line)=ah:=by rfl) (h4:aC [e] X.env=(ak,aD e X.env)::aC [] X.env:=by rfl) (h5:(bK cpos (aC [] X.env)).any (·.1)=ak:=by rfl)(hs:j4 (.Call (.Attribute (.Name x p) "extend" apos) [e] [] cpos) ae pos.line X.env=pure ak:=by rfl) : DS X E pin (.Expr (.Call (.Attribute (.Name x p) "extend" apos) [e] [] cpos) pos) (wH i de):=λF S ε σ H D rl h=>by
 unfold wH at h;cases e0:dA ε i with
 | none=>rw[e0]at h; exact h.elim
 | some xs0=>
  rw[e0]at h;simp only[cz,R.bind_ok]at h;obtain⟨a,vs0,ea,ha,_,_,_⟩:=rl.lstAt (i_ e0);refine iw (wB (rg uy PySem.F.slot_list_extend PySem.F.type_list_extend No (dP hN hv hd a7) (gP bD i7 h4) h1 h2 h3 h4 h5) hs) ⟨.ref a,ea,.inl ⟨rfl,_,bR.of ha⟩,?_⟩;refine he F S ε σ H _ rl (h.bindE.imp λy ε1 F1 S1 H1 r1 g1 q v rv=>?_);cases e1:dA ε1 i with
  | none=>rw[e1]at q; exact q.elim
  | some xs=>
   rw[e1]at q;simp only[cz,R.bind_ok]at q;obtain⟨a',vs,ea',qg,ra,_,_⟩:=r1.lstAt (i_ e1);rw[ea]at ea';cases ea';split at q
   ·rename_i ys;split at q
    ·rename_i hl;obtain⟨c,us,rfl,hc,_,rc⟩:=rv;obtain⟨r2,g2⟩:=r1.upd (i_ e1) ea (ra.app rc);exact⟨a,c,vs,us,rfl,rfl,qg,hc,by rw[ra.len,rc.len]; exact cr hl kA,q F1 S1 σ _ r2 g2 (im.refl _ _)⟩
    ·exact q.elim
   ·exact q.elim
end
mutual
def imm:PV->Bool
 | .lst _=>ak
 | .tup xs=>lB xs
 | _=>ah
def lB:List PV->Bool
 | []=>ah
 | x::xs=>imm x && lB xs
end
mutual
theorem aV.imm{K:aq}{H:Hp}{F F':af->Prop}:∀ (x:PV) {v:V},imm x=ah->aV K H F x v->aV K H F' x v
 | .non,_,_,h=>h
 | .bl _,_,_,h=>h
 | .int _,_,_,h=>h
 | .str _,_,_,h=>h
 | .raw _,_,_,h=>h
 | .exc _,_,_,h=>h
 | .lst _,_,e,_=>by simp[Pu.imm]at e
 | .tup xs,_,e,⟨a,vs,e1,h1,h2⟩=>⟨a,vs,e1,h1,Reps.imm xs (by simpa[Pu.imm]using e) h2⟩
theorem Reps.imm{K:aq}{H:Hp}{F F':af->Prop}:∀ (xs:List PV) {vs:List V},lB xs=ah->Reps K H F xs vs->Reps K H F' xs vs
 | [],_,_,h=>h
 | x::xs,_,e,⟨v,r,e1,h1,h2⟩=>by
  have e':imm x=ah/\lB xs=ah:=by simpa[lB]using e
  exact⟨v,r,e1,aV.imm x e'.1 h1,Reps.imm xs e'.2 h2⟩
end
section
variable{K:aq}{F:af->Prop}{S:Nat->af->Prop}{ε:aj}{σ:St}{H:Hp}{i:Nat}{xs:List PV}
theorem aH.look(r:aH K F S ε σ H)(e:ε[i]?=aa (.own (.lst xs))):∃ a,σ[i]?=aa (aa (.ref a))/\¬ F a/\aV K H (λb=>F b\/b=a) (.lst xs) (.ref a)/\(∀ b,F b\/b=a->∃ o,H b=aa o) /\ (∀ {F' H'},Al (λb=>F b\/b=a) F' H H'->Al F (λb=>F' b/\b≠a) H H'):=by
 obtain⟨a,vs,e1,h1,h2,h3,h4⟩:=r.lstAt e;have nF:¬ F a:=(r.foot i a h3).2.1;refine⟨a,e1,nF,⟨a,vs,rfl,.inl h1,.inr rfl,Reps.mono (λ_ z=>.inl z) (λ_ _ _ z=>z) (λ_ _ z _=>z) _ _ h2⟩,λb z=>z.elim (r.ex b) λz=>by rw[z]; exact⟨_,h1⟩,λ{F' H'} al=>⟨λb z=>⟨al.fro b (.inl z),by rintro rfl; exact nF z⟩,al.same,λb z=>?_⟩⟩;rcases al.fnew b z.1 with(w | w) | w
 ·exact .inl w
 ·exact absurd w z.2
 ·exact .inr w
end
section
variable{X:Cx}{E:XK}{e b:aB}{de db:aj->R PV}{pos p:Pos}{x y:Str}{id T:String}{r:List V->Hp->VK->Prop}{f:List PV->Option PV}{fn:List PV->Option PO}
def g7(o:Option PV):Option PV:=o.bind λv=>if imm v then aa v else ae
theorem yA{o:Option PV}{v:PV}(h:g7 o=aa v):o=aa v/\imm v=ah:=by
 cases o with
 | none=>cases h
 | some w=>
  have h:(if imm w then aa w else ae)=aa v:=h;split at h
  ·cases h; exact⟨rfl,by assumption⟩
  ·cases h
def AE:PO->Bool
 | .lst xs=>lB xs
 | _=>ak
def kG{α:Type}(f:List PV->Option α)(i:Nat):aj->R α:=λε=>(aO (dA ε i) ε).bind λxs ε=>aO (f [.lst xs]) ε
theorem Qo{F:af->Prop}{S:Nat->af->Prop}{ε:aj}{σ:St}{H:Hp}{Q:VK}{i:Nat}(hp:PL X.K r f)(rl:aH X.K F S ε σ H)(h:Ok X.K E σ F S H (kG (λxs=>g7 (f xs)) i ε) (λpv _ F' _ H'=>∀ v,aV X.K H' F' pv v->Q v H')) : ∃ a,σ[i]?=aa (aa (.ref a))/\r [.ref a] H Q:=by
 unfold kG at h;cases e0:dA ε i with
 | none=>rw[e0]at h; exact h.elim
 | some xs=>
  rw[e0]at h;simp only[cz,R.bind_ok]at h;obtain⟨a,ea,nF,ra,u5,eT⟩:=rl.look (i_ e0);refine⟨a,ea,?_⟩;cases e1:g7 (f [.lst xs])with
  | none=>rw[e1]at h; exact h.elim
  | some pv=>rw[e1]at h;obtain⟨e2,e3⟩:=yA e1;exact hp _ H [.lst xs] [.ref a] Q pv (.one ra) e2 λw F' H' al rw'=>h _ S H' (rl.al (eT al)) (eT al).grow w (aV.imm pv e3 rw')
theorem FG(i:Nat)(hc:eu X (.builtin id) r)(hp:PL X.K r f)(hm:X.mg x=ae)(hv:ef x=aa (.builtin id))(hN:X.N[i]?=aa y:=by rfl)(gJ:c7 X.env.scope y:=by first | exact Or.inl rfl | exact Or.inr (Or.inl rfl) | exact Or.inr (Or.inr rfl))(hd:(y == ("__debug__" : Str))=ak:=by decide) (a7:(y == ("__classdict__" : Str))=ak:=by decide) (hg:Gl X x:=by rfl) (hn:x≠"__name__":=by decide) (eC:(x == ("__debug__" : Str))=ak:=by decide) {yp:Pos}(he:aC [.Name y yp] X.env=(ak,aD (.Name y yp) X.env)::aC [] X.env:=by rfl) (cE:(bK pos (aC [] X.env)).any (·.1)=ak:=by rfl):DE X E (.Call (.Name x p) [.Name y yp] [] pos) (kG (λxs=>g7 (f xs)) i):=λF S ε σ H Q rl q=>by obtain⟨a,ea,hr⟩:=Qo hp rl q;exact bC (pN hc hg hm hv (gP (dP hN gJ hd a7) i7 he) hn eC he cE) ⟨_,ea,hr⟩
def nN(o:Option PO):Option PO:=o.bind λv=>if AE v then aa v else ae
theorem OX{F:af->Prop}{S:Nat->af->Prop}{ε:aj}{σ:St}{H:Hp}{Q:VK}{i:Nat}(hp:kj X.K r fn)(rl:aH X.K F S ε σ H)(h:Ok X.K E σ F S H (kG (λxs=>nN (fn xs)) i ε) (λpo _ F' S' H'=>∀ a Sa,dX X.K H' F' po a Sa->(∀ b,Sa b->H b=ae/\¬ F' b/\¬ U S' b/\∃ o,H' b=aa o/\cR o)->Q (.ref a) H')) : ∃ a,σ[i]?=aa (aa (.ref a))/\r [.ref a] H Q:=by
 unfold kG at h;cases e0:dA ε i with
 | none=>rw[e0]at h; exact h.elim
 | some xs=>
  rw[e0]at h;simp only[cz,R.bind_ok]at h;obtain⟨a,ea,nF,ra,u5,eT⟩:=rl.look (i_ e0);refine⟨a,ea,?_⟩;cases e1:fn [.lst xs]with
  | none=>rw[e1]at h; exact h.elim
  | some po=>
   rw[e1]at h;cases po with
   | dK kvs=>exact h.elim
   | lls ft=>exact h.elim
   | ins C fs=>exact h.elim
   | dT kvs=>exact h.elim
   | inl C fs y xs=>exact h.elim
   | lst ys=>
    have h:Ok X.K E σ F S H (aO (if lB ys then aa (PO.lst ys)else ae) ε) _:=h;split at h
    ·rename_i hi;refine hp _ H [.lst xs] [.ref a] Q _ u5 (.one ra) e1 λc F' H' Sa al ow fr=>h _ S H' (rl.al (eT al)) (eT al).grow c Sa ?_ λb z=>?_
     ·obtain⟨⟨vs,o1,o2⟩,o3⟩:=ow;exact⟨⟨vs,o1,Reps.imm ys hi o2⟩,o3⟩
     ·obtain⟨z1,z2,o,z3,z4⟩:=fr b z;refine⟨z1,λw=>z2 w.1,λ⟨j,w⟩=>?_,o,z3,z4⟩;obtain⟨_,_,o',w1,_⟩:=rl.foot j b w;rw[z1]at w1; cases w1
    ·exact h.elim
theorem NY(i:Nat)(hc:eu X (.builtin id) r)(hp:kj X.K r fn)(hm:X.mg x=ae)(hv:ef x=aa (.builtin id))(hN:X.N[i]?=aa y:=by rfl)(gJ:c7 X.env.scope y:=by first | exact Or.inl rfl | exact Or.inr (Or.inl rfl) | exact Or.inr (Or.inr rfl))(hd:(y == ("__debug__" : Str))=ak:=by decide) (a7:(y == ("__classdict__" : Str))=ak:=by decide) (hg:Gl X x:=by rfl) (hn:x≠"__name__":=by decide) (eC:(x == ("__debug__" : Str))=ak:=by decide) {yp:Pos}(he:aC [.Name y yp] X.env=(ak,aD (.Name y yp) X.env)::aC [] X.env:=by rfl) (cE:(bK pos (aC [] X.env)).any (·.1)=ak:=by rfl):DN X E (.Call (.Name x p) [.Name y yp] [] pos) (kG (λxs=>nN (fn xs)) i):=λF S ε σ H Q rl q=>by obtain⟨a,ea,hr⟩:=OX hp rl q;exact bC (pN hc hg hm hv (gP (dP hN gJ hd a7) i7 he) hn eC he cE) ⟨_,ea,hr⟩
def jj(f:PV->PV->Option PV)(i:Nat)(db:aj->R PV):aj->R PV:=λε=>(aO (dA ε i) ε).bind λ_ ε=>(db ε).bind λk ε1=>(aO (dA ε1 i) ε1).bind λxs ε1=>aO (g7 (f (.lst xs) k)) ε1
theorem Gh{F:af->Prop}{S:Nat->af->Prop}{ε:aj}{σ:St}{H:Hp}{Q:VK}{i:Nat}{r:R2}{f:PV->PV->Option PV}(hp:P2 X.K r f)(hb:DE X E b db)(rl:aH X.K F S ε σ H)(h:Ok X.K E σ F S H (jj f i db ε) (λpv _ F' _ H'=>∀ v,aV X.K H' F' pv v->Q v H')) : ∃ a,σ[i]?=aa (aa (.ref a))/\iY X b σ H λu H1=>r (.ref a) u H1 Q:=by
 unfold jj at h;cases e0:dA ε i with
 | none=>rw[e0]at h; exact h.elim
 | some xs0=>
  rw[e0]at h;simp only[cz,R.bind_ok]at h;obtain⟨a,vs,ea,_⟩:=rl.lstAt (i_ e0);refine⟨a,ea,hb F S ε σ H _ rl ((Ok.bind h).imp λk ε1 F1 S1 H1 r1 g1 q u ru=>?_)⟩;cases e1:dA ε1 i with
  | none=>rw[e1]at q; exact q.elim
  | some xs=>
   rw[e1]at q;simp only[cz,R.bind_ok]at q;obtain⟨a',ea',nF,ra,u5,eT⟩:=r1.look (i_ e1);rw[ea]at ea';cases ea';cases e2:g7 (f (.lst xs) k)with
   | none=>rw[e2]at q; exact q.elim
   | some pv=>rw[e2]at q;obtain⟨e3,e4⟩:=yA e2;exact hp _ H1 (.lst xs) k (.ref a) u Q pv ra (aV.mono (λ_ z=>.inl z) (λ_ _ _ z=>z) (λ_ _ z _=>z) _ _ ru) e3 λw F' H' al rw'=>q _ S1 H' (r1.al (eT al)) (eT al).grow w (aV.imm pv e4 rw')
theorem Pj(i:Nat){yp:Pos}{r:R2}{f:PV->PV->Option PV}(hr:li X r)(hp:P2 X.K r f)(hb:DE X E b db)(hN:X.N[i]?=aa y:=by rfl)(gJ:c7 X.env.scope y:=by first | exact Or.inl rfl | exact Or.inr (Or.inl rfl) | exact Or.inr (Or.inr rfl))(hd:(y == ("__debug__" : Str))=ak:=by decide) (a7:(y == ("__classdict__" : Str))=ak:=by decide) (hs:z8 b:=by exact λ_ _=>rfl):DE X E (.Subscript (.Name y yp) b pos) (jj f i db):=λF S ε σ H Q rl h=>by obtain⟨a,ea,hw⟩:=Gh hp hb rl h;exact bC (EA hr (dP hN gJ hd a7) bD hs) ⟨_,ea,hw⟩
end
end Pu
namespace Pu
open L2
def kC(h:aA)(e T:af)(c fl:ai):Prop:=∃ oe vs oT ts,h.get? e=aa oe/\oe.cls=c/\(oe.data = .fields vs/\oe.dict=ae)/\vs[1]?=aa (.ref T)/\T≠e/\h.get? T=aa oT/\oT.data = .fields ts/\ts[3]?=aa fl
def Made(h:aA)(e:af)(c:ai):Prop:=∃ oe vs,h.get? e=aa oe/\oe.cls=c/\(oe.data = .fields vs/\oe.dict=ae)/\vs[1]?=aa .none
structure Kp(fs:List af)(X:af->Prop)(h h':aA):Prop where
 keep:∀ b o,h.get? b=aa o->b∉fs->¬ X b->h'.get? b=aa o
 slot:∀ b o,h.get? b=aa o->b∈fs->¬ X b->∃ sl,h'.get? b=aa { o with slots:=sl }
 there:∀ b o,h.get? b=aa o->∃ o',h'.get? b=aa o'
theorem Kp.trans{fs:List af}{X Y:af->Prop}{h h1 h2:aA}(a:Kp fs X h h1)(b:Kp fs Y h1 h2):Kp fs (λc=>X c\/Y c) h h2 where
 keep:=λc o e n x=>b.keep c o (a.keep c o e n λz=>x (.inl z)) n λz=>x (.inr z)
 slot:=λc o e n x=>by obtain⟨sl,e1⟩:=a.slot c o e n λz=>x (.inl z);obtain⟨sl2,e2⟩:=b.slot c _ e1 n λz=>x (.inr z);exact⟨sl2,e2⟩
 there:=λc o e=>let ⟨o',e'⟩:=a.there c o e; b.there c o' e'
theorem Kp.imp{fs fs':List af}{X Y:af->Prop}{h h':aA}(a:Kp fs X h h')(hfs:∀ b,b∈fs->b∈fs')(hX:∀ b o,h.get? b=aa o->X b->Y b):Kp fs' Y h h' where
 keep:=λc o e n x=>a.keep c o e (λz=>n (hfs c z)) λz=>x (hX c o e z)
 slot:=λc o e n x=>by
  by_cases hc:c∈fs
  ·exact a.slot c o e hc λz=>x (hX c o e z)
  ·exact⟨o.slots,a.keep c o e hc λz=>x (hX c o e z)⟩
 there:=a.there
theorem Lq(f:Array ai->Array ai)(o:Obj):(mQ f o).dict=o.dict:=by
 obtain⟨c,d,dt,sl⟩:=o;cases dt <;> rfl
section
variable{M:Model}{A:aR}{E:ai->ao->Prop}{s:ao}
theorem D8{base:aA}{env:Env}{outer:List Env}{L e:af}{oe:Obj}{vs:Array ai}{head:ai}{Q1:Bool}{Q:Unit->ao->Prop}(lU:A.frames=aa (env::outer)) (hl:s.heap.FunFrames base (env::outer)) (hf:env.frame=aa L) (he:s.heap.get? e=aa oe) (hd:oe.data = .fields vs) (kg:oe.dict=ae) (hsz:1<vs.size)(h:∀ h' T,Kp (fg (env::outer)) (λb=>b=e) s.heap h'->kC h' e T oe.cls .none->s.heap.objs.size<=T->Q () { s with heap:=h' }) : aw M A (do let a ← frameOf env; let pl ← entryPlaceOf L Q1; let b ← EntryCells.newEntry head a .none (et L) .none pl; mO (.ref e) 1 b) (λ_ s'=>aw M A (x0 (.ref e) ae) Q E s') E s:=by
 have hene:e∉(env::outer).filterMap (·.frame):=λhm=>by obtain⟨_,o,ho,u6⟩:=hl.mem hm;rw[he]at ho; injection ho with ho; subst ho; exact u6 vs hd
 refine ar (wpAny_frameOf_fun lU hl hf λh₁ hs₁=>?_);refine ar (wpAny_entryPlaceOf λpl cE=>?_);unfold EntryCells.newEntry newFields;refine ar (mK ?_ (cE.sizeOk5 _ _ _ _ _));have he₁:h₁.get? e=aa oe:=(hs₁.2.1 e hene).trans he;have he₂:=bG (h:=h₁) { cls:=.type "traceback",dict:=ae,data:=.fields ([head,.ref L,.none,et L,.none]++(if pl.isEmpty then aU 6 Value.none else pl)).toArray } he₁;refine rW he₂ hd hsz ?_;have mZ:h₁.objs.size≠e:=rH (bP he₁);have hd₃:=uz hd (·.setIfInBounds 1 (Value.ref h₁.objs.size));have he₃:=p9 (mQ (·.setIfInBounds 1 (Value.ref h₁.objs.size))) he₂ (BO hd₃);have hT₃:=(p5 (h₁.push { cls:=.type "traceback",dict:=ae,data:=.fields ([head,.ref L,.none,et L,.none]++(if pl.isEmpty then aU 6 Value.none else pl)).toArray }) (mQ (·.setIfInBounds 1 (Value.ref h₁.objs.size))) (eh mZ)).trans (cW h₁ rfl);unfold x0;refine ar (pY he₃ hd₃ (x:=.ref h₁.objs.size) (by simp[hsz]) ?_);rw[if_pos (show(Value.ref h₁.objs.size != Value.none)=ah from by simp)];refine rW hT₃ rfl (by simp only[cC,dr,dq,kR] <;> lia) (h _ h₁.objs.size ?_ ?_ ?_)
 ·have keep:∀ b o,b≠e->h₁.get? b=aa o ->
    (((h₁.push { cls:=.type "traceback",dict:=ae,data:=.fields ([head,.ref L,.none,et L,.none]++(if pl.isEmpty then aU 6 Value.none else pl)).toArray }).update e (mQ (·.setIfInBounds 1 (Value.ref h₁.objs.size)))).update h₁.objs.size (mQ (·.setIfInBounds 3 ((ae:Option af).elim Value.none λf=>et f)))).get? b=aa o:=λb o kZ hb=>by
   have hbT:h₁.objs.size≠b:=rH (bP hb);rw[p5 _ _ hbT,p5 _ _ (eh kZ)];exact bG _ hb
  refine⟨λb o hb hn hx=>keep b o hx ((hs₁.2.1 b hn).trans hb),λb o hb hn hx=>?_,λb o hb=>?_⟩
  ·obtain⟨sl,q⟩:=hs₁.2.2 b o hb;exact⟨sl,keep b _ hx q⟩
  ·by_cases kZ:b=e
   ·subst kZ;exact⟨_,(p5 _ _ mZ).trans he₃⟩
   ·obtain⟨sl,q⟩:=hs₁.2.2 b o hb;exact⟨_,keep b _ kZ q⟩
 ·refine⟨_,_,_,_,(p5 _ _ mZ).trans he₃,Obj.cls_mapFields _ _,⟨hd₃,by rw[Lq]; exact kg⟩,by simp[hsz],mZ,p9 _ hT₃ (BO (uz rfl _)),uz rfl _,by first | (simp; done) | (rcases cE with rfl | ⟨_,_,_,_,_,_,_,rfl⟩ <;> simp)⟩
 ·exact lN hs₁.1.symm
theorem N0{base:aA}{env:Env}{outer:List Env}{L e:af}{c:ai}{Q:Unit->ao->Prop}(lU:A.frames=aa (env::outer))(hl:s.heap.FunFrames base (env::outer))(hf:env.frame=aa L)(hm:Made s.heap e c)(h:∀ h' T,Kp (fg (env::outer)) (λb=>b=e) s.heap h'->kC h' e T c .none->s.heap.objs.size<=T->Q () { s with heap:=h' }):aw M A (leaving env (.ref e)) Q E s:=by obtain⟨oe,vs,he,hc,⟨hd,kg⟩,h1⟩:=hm;subst hc;unfold leaving noteFrame;simp only[hf];refine ar (ar (pY he hd h1 ?_));rw[if_neg (by decide)];exact D8 lU hl hf he hd kg (p8.mp h1).1 h
theorem Fo{base:aA}{env:Env}{outer:List Env}{L e T:af}{c:ai}{Q:Unit->ao->Prop}(lU:A.frames=aa (env::outer))(hl:s.heap.FunFrames base (env::outer))(hf:env.frame=aa L)(ht:kC s.heap e T c .none)(h:∀ h' T',Kp (fg (env::outer)) (λb=>b=e\/b=T) s.heap h'->kC h' e T' c .none->s.heap.objs.size<=T'->Q () { s with heap:=h' }) : aw M A (noteFrame (.ref e) env) (λ_ s2=>aw M A (x0 (.ref e) ae) Q E s2) E s:=by
 obtain⟨oe,vs,oT,ts,he,mW,⟨hd,kg⟩,h1,mZ,hT,oE,h3⟩:=ht;subst mW;unfold noteFrame;simp only[hf];refine ar (pY he hd h1 ?_);rw[if_pos (show(Value.ref T != Value.none)=ah from by simp)];refine ar (pY hT oE h3 ?_);rw[if_neg (show ¬ ((Value.none == et L)=ah)from by simp[et])];refine ar (rW hT oE (p8.mp h3).1 ?_);have other:∀ b,b≠T->(s.heap.update T (mQ (·.setIfInBounds 3 Value.none))).get? b=s.heap.get? b:=λb hb=>p5 _ _ (eh hb);have noRecord:∀ b o,s.heap.get? b=aa o->(∀ vs,o.data≠.fields vs)->b≠T:=λb o hb u6 q=>by rw[q,hT]at hb; injection hb with hb; subst hb; exact u6 ts oE
 refine D8 lU (hl.of_keeps λb o hb u6=>⟨o,(other b (noRecord b o hb u6)).trans hb,rfl⟩) hf ((other e (eh mZ)).trans he) hd kg (p8.mp h1).1 λh' T' k fl hn=>?_;have k0:Kp (fg (env::outer)) (λb=>b=T) s.heap (s.heap.update T (mQ (·.setIfInBounds 3 Value.none))):=by
  refine⟨λb o hb _ hx=>(other b hx).trans hb,λb o hb _ hx=>⟨o.slots,(other b hx).trans hb⟩,λb o hb=>?_⟩;by_cases hx:b=T
  ·subst hx;exact⟨_,p9 _ hT (BO (uz oE _))⟩
  ·exact⟨o,(other b hx).trans hb⟩
 refine h h' T' ((k0.trans k).imp (λ_ z=>z) λb o _ z=>z.symm) fl ?_;have e2:(s.heap.update T (mQ (·.setIfInBounds 3 Value.none))).objs.size<=T':=hn;rwa[HD]at e2
theorem Pl{base:aA}{env:Env}{outer:List Env}{L e T:af}{c:ai}{Q:Unit->ao->Prop}(lU:A.frames=aa (env::outer))(hl:s.heap.FunFrames base (env::outer))(hf:env.frame=aa L)(ht:kC s.heap e T c .none)(h:∀ h' T',Kp (fg (env::outer)) (λb=>b=e\/b=T) s.heap h'->kC h' e T' c .none->s.heap.objs.size<=T'->Q () { s with heap:=h' }):aw M A (leaving env (.ref e)) Q E s:=by unfold leaving;exact ar (Fo lU hl hf ht h)
theorem O7{e T:af}{c fl:ai}{Q:Unit->ao->Prop}(ht:kC s.heap e T c fl)(h:∀ h',Kp [] (λb=>b=T) s.heap h'->kC h' e T c .none->Q () { s with heap:=h' }):aw M A (x0 (.ref e) ae) Q E s:=by
 obtain⟨oe,vs,oT,ts,he,mW,⟨hd,kg⟩,h1,mZ,hT,oE,h3⟩:=ht;have Ie:3<ts.size:=(p8.mp h3).1;have other:∀ b,b≠T->(s.heap.update T (mQ (·.setIfInBounds 3 ((ae:Option af).elim Value.none λf=>et f)))).get? b=s.heap.get? b:=λb hb=>p5 _ _ (eh hb);have self:=p9 (mQ (·.setIfInBounds 3 ((ae:Option af).elim Value.none λf=>et f))) hT (BO (uz oE _));unfold x0;refine ar (pY he hd h1 ?_);rw[if_pos (show(Value.ref T != Value.none)=ah from by simp)];refine rW hT oE Ie (h _ ⟨λb o hb _ hx=>(other b hx).trans hb,λb o hb _ hx=>⟨o.slots,(other b hx).trans hb⟩,λb o hb=>?_⟩ ⟨oe,vs,_,_,(other e (eh mZ)).trans he,mW,⟨hd,kg⟩,h1,mZ,self,uz oE _,by simp[Ie]⟩);by_cases hx:b=T
 ·subst hx; exact⟨_,self⟩
 ·exact⟨o,(other b hx).trans hb⟩
end
def b8(P:aM)(w:aG):dJ:=λouter H s E e s'=>∃ (a T:af) (c:ai) (H':Hp),e = .ref a/\s'.os=s.os/\mz s'.gens/\Un (fg outer) [] H H' s.heap s'.heap/\cQ P w H' s'.heap/\kC s'.heap a T c .none /\
 (s.heap.get? a=ae/\s.heap.get? T=ae/\H' a=ae/\H' T=ae)/\E c ae H'
theorem ID{P:aM}{w:aG}{H:Hp}{h:aA}{a:af}{o:HO}(x:dw P w H h a o):∃ u,h.get? a=aa u:=by
 cases o with
 | lst xs=>obtain⟨_,_,_,_,e⟩:=x; exact⟨_,e⟩
 | tup xs=>obtain⟨_,_,_,⟨o,e,_⟩,_⟩:=x; exact⟨_,e⟩
 | dK kvs=>obtain⟨_,_,_,_,o,_,_,e,_⟩:=x; exact⟨_,e⟩
 | dT kvs=>obtain⟨_,_,_,_,o,_,_,e,_⟩:=x; exact⟨_,e⟩
 | set S n=>obtain⟨o,_,_,_,e,_⟩:=x; exact⟨_,e⟩
 | ins C dx fs=>obtain⟨_,_,_,e,_⟩:=x; exact⟨_,e⟩
 | own y=>exact x
 | xd fs=>obtain⟨_,⟨_,_,_,e,_⟩,_⟩:=x; exact⟨_,e⟩
 | rng lo hi=>obtain⟨_,_,_,e⟩:=x; exact⟨_,e⟩
 | frz ob u=>obtain⟨e,_⟩:=x; exact⟨_,e⟩
 | tbl ps=>obtain⟨_,e,_⟩:=x; exact⟨_,e⟩
 | met f y=>exact⟨_,x⟩
 | ext φ=>obtain⟨_,e,_⟩:=x; exact e
theorem KL{P:aM}{w:aG}{H:Hp}{h:aA}{a:af}(x:cQ P w H h)(e:h.get? a=ae):H a=ae:=by
 cases q:H a with
 | none=>rfl
 | some u=>obtain⟨o,z⟩:=ID (x a u q); rw[e]at z; cases z
theorem rm{fs:List af}{H H':Hp}{h h':aA}{a:af}(u:Un fs [] H H' h h')(e:h'.get? a=ae):h.get? a=ae:=by
 cases q:h.get? a with
 | none=>rfl
 | some o=>obtain⟨o',z⟩:=u.there a o q (by simp); rw[e]at z; cases z
theorem AM{fs fs':List af}{H H':Hp}{h h1 h2:aA}{X:af->Prop}(u:Un fs [] H H' h h1)(k:Kp fs' X h1 h2)(hf:∀ b o,h.get? b=aa o->b∈fs'->b∈fs)(hX:∀ b o,h.get? b=aa o->¬ X b):Un fs [] H H' h h2 where
 keep:=λb o e n hb hx=>k.keep b o (u.keep b o e n hb hx) (λz=>hb (hf b o e z)) (hX b o e)
 slot:=λb o e n hb hx=>by
  obtain⟨sl,e1⟩:=u.slot b o e n hb hx;by_cases lc:b∈fs'
  ·obtain⟨sl2,e2⟩:=k.slot b _ e1 lc (hX b o e);exact⟨sl2,e2⟩
  ·exact⟨sl,k.keep b _ e1 lc (hX b o e)⟩
 free:=u.free
 there:=λb o e hx=>let ⟨o',e'⟩:=u.there b o e hx; k.there b o' e'
 tups:=u.tups
 frzs:=u.frzs
 tbls:=u.tbls
theorem zL{P:aM}{w:aG}{fs:List af}{H:Hp}{h h':aA}{X:af->Prop}(x:cQ P w H h)(k:Kp fs X h h')(hf:∀ b∈fs,H b=ae)(hX:∀ b,X b->H b=ae):cQ P w H h':=λb u e=>
 (x b u e).stay (λc v hc q=>k.keep c v q (λz=>by
   have:=hf c z;rcases hc with rfl | hc
   ·rw[e]at this; cases this
   ·rw[hc]at this; cases this) λz=>by
   have:=hX c z;rcases hc with rfl | hc
   ·rw[e]at this; cases this
   ·rw[hc]at this; cases this) (λ_ q=>q) λ_ _ q=>q
section
variable{P:aM}{w:aG}{K:aq}{mg:Str->Option ai}{base:aA}{N:List Str}{qual:Str}{scope:eK}{f:af}{cd:ai}{A:aR}{outer:List Env}{s₀:ao}{H₀:Hp}{E:XK}
theorem cc:i9 (b8 P w) (fY (b8 P w) P w K mg base N qual scope f cd A outer s₀ H₀ E) E:=λag σ H s e s' I h=>by
 obtain⟨a,T,c,H',rfl,ho,hg,un,hok,fl,⟨fa,fT,na,nT⟩,hE⟩:=h;have I':=I.call' (s':=s') (ch:=[]) ho un hok hg (λb z=>absurd z (by simp));refine Pl (L:=s₀.heap.objs.size) I.ok.frames I'.stack rfl fl λox T' k fl' fT'=>?_;have pe:(fY (b8 P w) P w K mg base N qual scope f cd A outer s₀ H₀ E).ex=[]:=rfl;have fa0:s₀.heap.get? a=ae:=rm I.base fa;have fT0:s₀.heap.get? T=ae:=rm I.base fT;have fT0':s₀.heap.get? T'=ae:=rm I'.base (Bn fT');have old:∀ b o,s₀.heap.get? b=aa o->b≠a/\b≠T:=λb o e=>⟨(by rintro rfl; rw[fa0]at e; cases e),(by rintro rfl; rw[fT0]at e; cases e)⟩
 refine⟨a,T',c,H',rfl,I'.os,I'.bare,AM I'.base k (λb o e z=>?_) (λb o e z=>z.elim (old b o e).1 (old b o e).2),zL I'.hok k I'.stkFree (λb z=>by rcases z with rfl | rfl <;> assumption),fl',⟨fa0,fT0',na,I'.hok.fresh fT'⟩,hE⟩;rcases bV.mp (I.stkSub b z)with q | q
 ·exact absurd (bP e) (by rw[q]; exact gW _)
 ·exact q
end
section
variable{X:Cx}{E:XK}{pin:List Nat}{e:aB}{de:aj->R PV}{x:Str}{C:af}{bmB:List ai}{newId initId B:String}{np cpos pos:Pos}
def Cj(X:Cx)(E:XK):Prop:=∀ (ag:List (af×Obj)) (σ:St) (H:Hp) (s:ao) (a:af) (c:ai) (h':aA),Inv X ag σ H s->(∀ b o,s.heap.get? b=aa o->h'.get? b=aa o)->Made h' a c->s.heap.get? a=ae->(E c ae H)->X.xe (.ref a) { s with heap:=h' }
def ma(c:ai)(de:aj->R PV):aj->R aT:=λε=>(de ε).bind λ_ ε1=>.er c ε1
theorem Nj{h h':aA}{e:af}{cls:ai}{args:List ai}(m:Heap.MadeExcOf h h' e cls args):Made h' e cls:=by obtain⟨t,he,_,_⟩:=m.there;exact⟨_,_,he,rfl,⟨rfl,rfl⟩,rfl⟩
theorem pA(hx:Cj X E)(hc:X.calm=ah)(O:qa x C bmB newId X.mg X.base)(FB:ExcBaseFacts B newId initId bmB)(he:DE X.nox E0 e de)(hg:Gl X x:=by rfl)(hd:(x == ("__debug__" : Str))=ak:=by decide)(h1:aC [e] X.env=[(ak,aD e X.env)]:=by rfl):DS X E pin (.Raise (aa (.Call (.Name x np) [e] [] cpos)) ae pos) (ma (.ref C) (λε=>ce (de ε))):=λF S ε σ H D rl q=>Bx.mk λag s I=>by
 obtain⟨tl,N,nm,qn,bs,hdct,sn,sub,ab,col,dd,k0,k1,k2,k3,k5,mN,hC,hN,hni,T⟩:=O.obj;refine wpAny_Raise_call_subT (C:=C) (nm:=nm) (q:=qn) (N:=N) (bs:=bs) (bm:=tl) (hdct:=hdct) (sn:=sn) (sub:=sub) (ab:=ab) (col:=col) (dd:=dd) (k0:=k0) (k1:=k1) (k2:=k2) (k3:=k3) (k5:=k5)
  FB (mN:=mN) (T.hasType FB.hasBase) (I.ok.hd hc) (by rw[h1]; rfl) hni (pQ I hg O.bound ⟨rfl,?_⟩ hd)
 have q2:Ok X.K E0 σ F S H (de ε) (λ_ ε1 F1 S1 H1=>jc X.K E pin σ F1 S1 H1 (.er (.ref C) ε1) D):=by
  have q:jc X.K E pin σ F S H ((ce (de ε)).bind λ_ ε1=>.er (.ref C) ε1) D:=q;cases e0:de ε with
  | no=>rw[e0]at q; exact q.elim
  | er c ε'=>rw[e0]at q; exact q.elim
  | ok v ε'=>rw[e0]at q; exact λF' S' H' r' g'=>q.from g' (im.refl _ _)
 rw[h1];refine Ho (dZ (Bt (dZ ((he F S ε σ H (λv H1=>∃ F1 S1 ε1,aH X.K F1 S1 ε1 σ H1/\jc X.K E pin σ F1 S1 H1 (.er (.ref C) ε1) D) rl (q2.imp λv ε1 F1 S1 H1 r1 g1 h v' rv=>⟨F1,S1,ε1,r1,h⟩)).run ag s (I.wish _)) (λu s1 ⟨v,H1,I1,r1,F1,S1,ε1,rl1,ok⟩=>?_) λ_ _ z=>z.elim)) (λ_ _ z=>z) λ_ _ z=>z);have I1:=I1.unwish;refine Hi ⟨rfl,(by show 1<=a9; decide),I1.bk _ _ hC,hN.keeps I1.bk,T.keeps I1.bk,λh' a m=>?_⟩;exact hx ag σ H1 s1 a (.ref C) h' I1 m.keeps (Nj m) m.new (ok ae F1 S1 σ H1 rl1 (a_.refl ..) (im.refl _ _))
end
section
variable{P:aM}{w:aG}{K:aq}{mg:Str->Option ai}{base:aA}{N:List Str}{qual:Str}{scope:eK}{f:af}{cd:ai}{A:aR}{outer:List Env}{s₀:ao}{H₀:Hp}{E:XK}
theorem oN:Cj (fY (b8 P w) P w K mg base N qual scope f cd A outer s₀ H₀ E) E:=λag σ H s a c h' I kp md new hE=>by
 have I':Inv _ ag σ H { s with heap:=h' }:=I.kept (t':=s.toks) kp;refine N0 (s:={ s with heap:=h' }) (L:=s₀.heap.objs.size) I.ok.frames I'.stack rfl md λox T' k fl' fT'=>?_;have fa0:s₀.heap.get? a=ae:=rm I.base new;have fT0':s₀.heap.get? T'=ae:=rm I'.base (Bn fT');have na:H a=ae:=KL I.hok new;refine⟨a,T',c,H,rfl,I'.os,I'.bare,AM I'.base k (λb o e z=>?_) (λb o e z=>by rw[show b=a from z,fa0]at e; cases e),zL I'.hok k I'.stkFree (λb z=>by rw[show b=a from z]; exact na),fl',⟨fa0,fT0',na,I'.hok.fresh fT'⟩,hE⟩;rcases bV.mp (I.stkSub b z)with q | q
 ·exact absurd (bP e) (by rw[q]; exact gW _)
 ·exact q
end
section
variable{X:Cx}{ag:List (af×Obj)}{σ:St}{H:Hp}{s:ao}
theorem K5{M:Model}{A:aR}{E:ai->ao->Prop}{i:Nat}{x:Str}{v:V}{Q:Unit->ao->Prop}(I:Inv X ag σ H s)(hN:X.N.Nodup)(hi:X.N[i]?=aa x)(hk:X.env.scope.names.lookup x=aa .local)(hv:σ[i]?=aa (aa v))(h:∀ s',Inv X ag (σ.set i ae) H s'->Q () s'):aw M A (unbindName X.env x) Q E s:=by
 obtain⟨m,hn,hl⟩:=id I.loc;have mW:(X.env.scope.kind == .class || (X.env.scope.kind == .module && X.env.locals != X.env.globals))=ak:=by rw[I.ok.kind]; rfl
 have hiσ:i<σ.length:=(cu.mp hv).1;obtain⟨u,_,lk⟩:=hl i x v hi hv (.inl hk);have hm:m x=aa u:=by
  rcases lk with⟨_,z⟩ | ⟨z,_⟩
  ·exact z
  ·have z:X.env.scope.names.lookup x=aa .cell\/X.env.scope.names.lookup x=aa .free:=z;rcases z with z | z <;> rw[hk]at z <;> cases z
 refine wpAny_unbindName_local hk hn hm mW λh' u' uO hs=>?_;obtain⟨oL,_,_,sk,_⟩:=id hn;have up:∀ b o,X.s₀.heap.get? b=aa o->h'.get? b=s.heap.get? b:=λb o e=>hs.2 b (dH (gU (bP e) I.ok.above));refine h _ ⟨I.ok,I.os,I.bare,⟨λb o e n hb hx=>(up b o e).trans (I.base.keep b o e n hb hx),λb o e n hb hx=>?_,I.base.free,λb o e hx=>?_,I.base.tups,I.base.frzs,I.base.tbls⟩,⟨_,uO,λj y v' e1 e2 e3=>?_⟩,λy c e=>?_,I.free,I.freeC,λp hp=>?_,λb ob e=>?_,by rw[fL]; exact I.len⟩
 ·obtain⟨sl,q⟩:=I.base.slot b o e n hb hx; exact⟨sl,(up b o e).trans q⟩
 ·obtain⟨o',q⟩:=I.base.there b o e hx; exact⟨o',(up b o e).trans q⟩
 ·by_cases hj:j=i
  ·subst hj; rw[cA hiσ]at e2; cases e2
  ·rw[cg (eh hj)]at e2;obtain⟨w,r',q⟩:=hl j y v' e1 e2 e3;refine⟨w,r',?_⟩;rcases q with⟨k,e⟩ | ⟨k,c,e,z⟩
   ·have:y≠x:=λe=>hj (yL hN e1 (e ▸ hi));exact .inl ⟨k,by simp[this,e]⟩
   ·exact .inr ⟨k,c,e,z.sameBut hs (I.cne y c e)⟩
 ·obtain⟨w',z⟩:=I.cell y c e;exact⟨w',z.sameBut hs (I.cne y c e)⟩
 ·obtain⟨e,n,ne,nf,d⟩:=I.pin p hp;exact⟨(hs.2 p.1 ne).trans e,n,ne,nf,d⟩
 ·refine(I.hok b ob e).stay (λc w' hc q=>(hs.2 c ?_).trans q) (λ_ q=>q) λ_ _ q=>q;rintro rfl;rcases hc with rfl | hc
  ·rw[I.free]at e; cases e
  ·rw[I.free]at hc; cases hc
end
def XP(X:Cx)(ag:List (af×Obj))(σ:St)(XE:ai->Hp->Prop)(e:ai)(s':ao):Prop:=∃ s1 H1,Inv X ag σ H1 s1/\b8 X.prog X.w X.stack H1 s1 (λc _ H'=>XE c H') e s'
def DX(X:Cx)(e:aB)(d:aj->R Slot):Prop :=
 ∀ F S ε σ H Q (XE:ai->Hp->Prop),aH X.K F S ε σ H->Ok X.K (λc _ H'=>XE c H') σ F S H (d ε) (λs _ F' S' H'=>∀ v Sr,kF X.K H' F' s v Sr->(∀ b,Sr b->H b=ae/\¬ F' b/\¬ U S' b/\∃ o,H' b=aa o/\cR o)->Q v H') ->
  ∀ ag s,Inv X ag σ H s->aw (au X.prog X.w) X.A (aD e X.env) (EP X ag σ Q) (XP X ag σ XE) s
section
variable{X:Cx}{e:aB}{es:List aB}{dg:aj->R (List bA)}{pos:Pos}{x:Str}{k:Nat}{ps:List Str}{g:aj->R Slot}{p:Pos}{d:aj->R Slot}
def qW(g:aj->R Slot)(dg:aj->R (List bA)):aj->R Slot:=λε=>(ce (dg ε)).bind λas ε1=>(aO (if(bF as).Nodup then cJ ε1 as else ae) ε1).bind λss ε1=>cZ ε1 as (g ss)
theorem J4(c:cF (b8 X.prog X.w) X.prog X.w X.K X.mg X.base x k ps (br X.K g))(hr:bZ k X.A)(ha:DG X.nox E0 (e::es) dg)(hg:Gl X x:=by rfl)(hd:(x == ("__debug__" : Str))=ak:=by decide) (h1:aC (e::es) X.env=(ak,aD e X.env)::aC es X.env:=by rfl) (h2:(bK pos (aC es X.env)).any (·.1)=ak:=by rfl) : DX X (.Call (.Name x p) (e::es) [] pos) (qW g dg):=λF S ε σ H Q XE rl h ag s I=>by
 obtain⟨f,fd,hm,Fn,hb,hk⟩:=c.ex;have q0:Ok X.K E0 σ F S H (dg ε) (λas ε1 F1 S1 H1=>Ok X.K (λc _ H'=>XE c H') σ F1 S1 H1 ((aO (if(bF as).Nodup then cJ ε1 as else ae) ε1).bind λss ε1=>cZ ε1 as (g ss)) (λs _ F' S' H'=>∀ v Sr,kF X.K H' F' s v Sr->(∀ b,Sr b->H b=ae/\¬ F' b/\¬ U S' b/\∃ o,H' b=aa o/\cR o)->Q v H')):=by
  unfold qW at h;cases e0:dg ε with
  | no=>rw[e0]at h; exact h.elim
  | er c ε'=>rw[e0]at h; exact h.elim
  | ok as ε1=>rw[e0]at h; exact λF1 S1 H1 r1 g1=>Ok.from h g1
 refine ul (pQ I hg hm ?_ hd);have wa:=(ha F S ε σ H (λvs H1=>∃ F1 S1 ε1 as,aH X.K F1 S1 ε1 σ H1/\eU X.K σ F1 H1 as vs/\(∀ b,H1 b=ae->H b=ae)/\Ok X.K (λc _ H'=>XE c H') σ F1 S1 H1 ((aO (if(bF as).Nodup then cJ ε1 as else ae) ε1).bind λss ε1=>cZ ε1 as (g ss)) (λs _ F' S' H'=>∀ v Sr,kF X.K H' F' s v Sr->(∀ b,Sr b->H b=ae/\¬ F' b/\¬ U S' b/\∃ o,H' b=aa o/\cR o)->Q v H')) rl (q0.imp λas ε1 F1 S1 H1 r1 g1 q vs av=>⟨F1,S1,ε1,as,r1,av,λb z=>jO g1 z,q⟩)).run pos ag s (I.wish _);refine xI (h₀:=X.base) I.ok.mod.kin hk (dZ wa (λus s1 ⟨vs,H1,I1,r,F1,S1,ε1,as,r1,av,fb,q⟩=>⟨I1.unwish.kIn,?_⟩) λ_ _ z=>z.elim) h1 h2;have I1:=I1.unwish;have q:=Ok.bind q;by_cases nd:(bF as).Nodup
 ·rw[if_pos nd]at q;cases es:cJ ε1 as with
  | none=>rw[es]at q; exact q.elim
  | some ss=>
   rw[es]at q;have q:=q F1 S1 H1 r1 (a_.refl ..);dsimp only at q;have gY:br X.K g vs H1 Q (λc _ H'=>XE c H'):=by
    refine⟨F1,jU as S1,ss,r1.cal av es nd,?_⟩;cases eg:g ss with
    | no=>rw[eg]at q; exact q.elim
    | er cv aF=>
     rw[eg]at q;intro y F' S' H' r' g';unfold cZ at q;dsimp only at q;by_cases kp:dG as aF=ah
     ·rw[if_pos kp]at q;obtain⟨S2,r2,g2,_⟩:=r1.called av es nd r' g' (λ_ z=>z) (jT kp);exact q ae F' S2 H' r2 g2
     ·rw[if_neg kp]at q; exact q.elim
    | ok sl aF=>
     rw[eg]at q;intro v F' S' H' Sr r' g' rv lo fr;unfold cZ at q;dsimp only at q;by_cases kp:dG as aF=ah
     ·rw[if_pos kp]at q;obtain⟨S2,r2,g2,u2⟩:=r1.called av es nd r' g' (λ_ z=>.inl z) (jT kp);refine q F' S2 H' r2 g2 v Sr rv λb z=>⟨fb b (fr b z),(lo b z).1,λw=>?_,(lo b z).2.2⟩
      rcases u2 b w with w | ⟨i,w⟩
      ·exact(lo b z).2.1 w
      ·obtain⟨_,_,o,y1,_⟩:=r1.foot i b w;rw[fr b z]at y1; cases y1
     ·rw[if_neg kp]at q; exact q.elim
   have hl:us.length=ps.length:=by rw[← r.length]; exact Fn.len _ _ _ _ gY
   refine rL (mH (Fn.run X.A X.stack s1 H1 ⟨us,[]⟩ us vs Q _ hr I1.env0 (by have:=hb s1 us I1.kIn (by rw[gD]; exact hl); rwa[gD]at this) r gY) λrr s' hq=>?_);cases rr with
   | error er=>exact⟨s1,H1,I1,hq⟩
   | ok fl=>
    cases fl with
    | ret u=>exact I1.after hq
    | next=>exact dU hq
    | brk=>exact dU hq
    | cont=>exact dU hq
 ·rw[if_neg nd]at q; exact q.elim
end
abbrev hand(X:Cx)(a:af):Cx:={ X with A:=X.A.mark (aa (.ref a)),calm:=ak,xe:=λ_ _=>False }
section
variable{X:Cx}{ag:List (af×Obj)}{σ:St}{H:Hp}{s:ao}{a:af}
theorem Inv.hand(I:Inv X ag σ H s)(hf:(X.A.mark (aa (.ref a))).frames=X.A.frames:=by rfl):Inv (Pu.hand X a) ag σ H s :=
 ⟨⟨I.ok.mod,I.ok.kind,I.ok.glob,I.ok.blt,I.ok.above,I.ok.inj,I.ok.has,I.ok.cab,(λz=>by cases z),hf.trans I.ok.frames,I.ok.stk,I.ok.exf,I.ok.bs,I.ok.bsz,I.ok.noex,I.ok.exfs,I.ok.funs,I.ok.frf,I.ok.tab⟩,I.os,I.bare,I.base,I.loc,I.cell,I.free,I.freeC,I.pin,I.hok,I.len⟩
theorem Inv.unhand(I:Inv (Pu.hand X a) ag σ H s)(ok:X.Ok):Inv X ag σ H s:=⟨ok,I.os,I.bare,I.base,I.loc,I.cell,I.free,I.freeC,I.pin,I.hok,I.len⟩
end
def Under(h:aA)(D:af)(c:ai):Prop:=∃ C bm N nm q bs hdct sn sub ab col dd k0 k1 k2 k3 k5 newId,c = .ref C/\h.get? C=aa (BP nm q C N bs bm hdct sn sub ab col dd k0 k1 k2 k3 k5 newId)/\(Value.ref C::bm).contains (.ref D)=ah
def rf(h:aA)(D:af):Prop:=∃ bm N nm q bs hdct sn sub ab col dd k0 k1 k2 k3 k5 newId,h.get? D=aa (BP nm q D N bs bm hdct sn sub ab col dd k0 k1 k2 k3 k5 newId)/\bm.contains (.type "BaseException")=ah
theorem Under.keeps{h h':aA}{D:af}{c:ai}(x:Under h D c)(k:∀ b o,h.get? b=aa o->h'.get? b=aa o):Under h' D c:=by obtain⟨C,bm,N,nm,q,bs,hdct,sn,sub,ab,col,dd,k0,k1,k2,k3,k5,newId,e,h1,h2⟩:=x;exact⟨C,bm,N,nm,q,bs,hdct,sn,sub,ab,col,dd,k0,k1,k2,k3,k5,newId,e,k _ _ h1,h2⟩
theorem rf.keeps{h h':aA}{D:af}(x:rf h D)(k:∀ b o,h.get? b=aa o->h'.get? b=aa o):rf h' D:=by obtain⟨bm,N,nm,q,bs,hdct,sn,sub,ab,col,dd,k0,k1,k2,k3,k5,newId,h1,h2⟩:=x;exact⟨bm,N,nm,q,bs,hdct,sn,sub,ab,col,dd,k0,k1,k2,k3,k5,newId,k _ _ h1,h2⟩
theorem Ju{M:Model}{A:aR}{E:ai->ao->Prop}{s:ao}{e D:af}{oe:Obj}{c:ai}{Q:Bool->ao->Prop}(hu:Under s.heap D c)(hD:rf s.heap D)(he:s.heap.get? e=aa oe)(mW:oe.cls=c)(hq:Q ah s):aw M A (excMatches (.ref e) (.ref D)) Q E s:=by
 obtain⟨C,bm,N,nm,q,bs,hdct,sn,sub,ab,col,dd,k0,k1,k2,k3,k5,newId,rfl,hC,lf⟩:=hu;obtain⟨bm',N',nm',q',bs',hdct',sn',sub',ab',col',dd',k0',k1',k2',k3',k5',newId',hD,hb⟩:=hD;obtain⟨h,g,d,t,os⟩:=s;have hcB:(Value.ref D::bm').contains (.type "BaseException")=ah:=by rw[List.contains_cons,hb,Bool.or_true]
 have f:=tc_notTuple;unfold excMatches
 repeat (first | (with_reducible refine HE he ?_; rw[mW]) | with_reducible refine HE hC ?_ | with_reducible refine HE hD ?_ | (with_reducible refine wpAny_isSubtype_exc hC ?_; rw[lf]) | (with_reducible refine wpAny_isSubtype_exc hD ?_; rw[hcB]) | wp_step)
 exact hq
def wE(i:Nat)(caught:ai->Bool)(dx:aj->R Slot)(dh:aj->R aT):aj->R aT:=λε=>match dx ε with
 | .ok s ε'=>.ok (.ret s) ε'
 | .er c ε'=>if caught c=ah/\i<ε'.length then(match dh (ε'.set i (.val (.exc c)))with
  | .ok f ε2=>(match ε2[i]? with
   | some (.val _)=>.ok f (ε2.set i .none)
   | _=>.no)
  | _=>.no)else .no
 | .no=>.no
section
variable{X:Cx}{E:XK}{pin:List Nat}{e:aB}{dx:aj->R Slot}{dh:aj->R aT}{rp np hp pos:Pos}{sx n:Str}{D:af}{suite:List aY}{b₀:aY}{caught:ai->Bool}
theorem aH.unset{K:aq}{F:af->Prop}{S:Nat->af->Prop}{ε:aj}{σ:St}{H:Hp}{i:Nat}(r:aH K F S ε σ H):aH K F (λj b=>S j b/\j≠i) (ε.set i .none) (σ.set i ae) H:=by
 have r0:=r.drop i;have ne:∀ {j:Nat} {s:Slot},(ε.set i .none)[j]?=aa s->s≠.none->j≠i:=λ{j s} e hs z=>by
  subst z;by_cases hj:j<ε.length
  ·rw[cA hj]at e; exact hs (fj e).symm
  ·rw[jg (by rw[fL]; lia)]at e; cases e
 refine⟨by rw[fL,fL]; exact r.len,r.ex,λj pv e=>?_,λj po e=>?_,r0.foot,r0.dist⟩
 ·obtain⟨v,h1,h2⟩:=r0.val j pv e;exact⟨v,by rw[cg (eh (ne e (by intro z; cases z)))]; exact h1,h2⟩
 ·obtain⟨v,h1,h2⟩:=r0.own j po e;exact⟨v,by rw[cg (eh (ne e (by intro z; cases z)))]; exact h1,h2⟩
theorem Pn{P:aM}{w:aG}{H:Hp}{h:aA}{a T:af}{c fl:ai}(ok:cQ P w H h)(na:H a=ae)(f:kC h a T c fl):cQ P w (upd H a (me a c)) h:=λb u q=>by
 by_cases hb:b=a
 ·subst hb;rw[b_]at q;cases q;obtain⟨oe,vs,_,_,he,hc,hd,_⟩:=f;exact⟨⟨oe,vs,he,hc,hd⟩,⟨oe,he⟩,λh1 h2 ⟨o,ws,e1,e2,e3⟩ k=>⟨o,ws,k o e1,e2,e3⟩⟩
 ·rw[bw hb]at q;exact(ok b u q).stay (λ_ _ _ z=>z) (λd z=>by rw[bw (kn z na)]; exact z) λd xs z=>by rw[bw (kn z na)]; exact z
theorem Lo(i:Nat)(hN:X.N.Nodup)(hx:DX X e dx)(hD:X.mg sx=aa (.ref D))(hE:rf X.base D)(hcg:∀ c,caught c=ah->Under X.base D c)(hh:∀ a,fU (hand X a) E0 pin (b₀::suite) dh)(ig:i∉pin:=by decide) (hi:X.N[i]?=aa n:=by rfl) (hl:X.env.scope.names.lookup n=aa .local:=by rfl) (hg:Gl X sx:=by rfl) (hd:(sx == ("__debug__" : Str))=ak:=by decide) (k7:X.stack=X.env::X.outer:=by rfl) (hfm:X.env.frame=aa X.env.locals:=by rfl) (hf:X.fn n=ah\/X.env.scope.names.lookup n=aa .local:=by first | exact .inl rfl | exact .inr rfl) : DS X E pin (.Try [.Return (aa e) rp] [.ExceptHandler (aa (.Name sx np)) (aa n) (b₀::suite) hp] [] [] pos) (wE i caught dx dh):=λF S ε σ H Dn rl q=>Bx.mk λag s I=>by
 refine wpAny_Try_except ?_;have body:=hx F S ε σ H (λv H'=>Dn.rt v H') (λc H'=>∃ F' S' ε',aH X.K F' S' ε' σ H'/\a_ (U S) (U S') F F' H H'/\caught c=ah/\i<ε'.length/\jc X.K E pin σ F S H (match dh (ε'.set i (.val (.exc c)))with
  | .ok f ε2=>(match ε2[i]? with
   | some (.val _)=>.ok f (ε2.set i .none)
   | _=>.no)
  | _=>.no) Dn) rl (by
  unfold wE at q;cases e0:dx ε with
  | no=>rw[e0]at q; exact q.elim
  | ok sl ε'=>rw[e0]at q;intro F' S' H' r' g' v Sr rv fr;exact q v F' S' σ H' Sr r' ⟨g'.fro,g'.keep,g'.there,g'.fnew,λb z=>z.elim (g'.onew b) λw=>.inr (fr b w).1⟩ (im.refl _ _) rv λb z=>(fr b z).2
  | er c ε'=>
   rw[e0]at q;intro y F' S' H' r' g';dsimp only at q;by_cases hc:caught c=ah/\i<ε'.length
   ·rw[if_pos hc]at q;exact⟨F',S',ε',r',g',hc.1,hc.2,q⟩
   ·rw[if_neg hc]at q; exact q.elim) ag s I
 refine Hb (wpAny_Return_some (dZ body (λu s1 ⟨v,H1,I1,r1,q1⟩=>?_) λev s1 xp=>?_))
 ·exact⟨v,σ,H1,I1,r1,q1⟩
 obtain⟨s0,H0,I0,a,T,c,H1,rfl,ho,hg1,un,hok,fl,⟨fa,fT,na,nT⟩,F1,S1,ε1,rl1,g1,hcc,bS,okh⟩:=xp;have I1:=I0.call' (s':=s1) (ch:=[]) ho un hok hg1 (λb z=>absurd z (by simp));have kpI:∀ {h2:aA} {Y:af->Prop} {T':af},Kp (fg X.stack) Y s1.heap h2->(∀ b o,s0.heap.get? b=aa o->¬ Y b)->(∀ b,Y b->H1 b=ae)->kC h2 a T' c .none->∀ tk,Inv X ag σ (upd H1 a (me a c)) { s1 with heap:=h2,toks:=tk }:=λ{h2 Y T'} k hY1 hY2 f2 tk=>by
  refine I0.call' (s':={ s1 with heap:=h2,toks:=tk }) (ch:=[]) ho ?_ (Pn (zL hok k (λb hb=>I1.stkFree b hb) hY2) na f2) hg1 (λb z=>absurd z (by simp));have u2:=AM un k (λb o _ z=>z) hY1;have na':∀ b o,H1 b=aa o->b≠a:=λb o e=>kn e na;refine⟨u2.keep,u2.slot,λb o e n hx=>?_,u2.there,λb xs e=>?_,λb o u e=>?_,λb ps e=>?_⟩
  ·rw[bw (by rintro rfl; rw[fa]at e; cases e)]; exact u2.free b o e n hx
  ·have:=u2.tups b xs e; rw[bw (na' b _ this)]; exact this
  ·have:=u2.frzs b o u e; rw[bw (na' b _ this)]; exact this
  ·have:=u2.tbls b ps e; rw[bw (na' b _ this)]; exact this
 have H1T:∀ b,b=a\/b=T->H1 b=ae:=λb z=>by rcases z with rfl | rfl <;> assumption
 have old1:∀ b o,s0.heap.get? b=aa o->¬ (b=a\/b=T):=λb o e z=>by rcases z with rfl | rfl <;> rename_i z <;> simp_all
 refine Fo (outer:=X.outer) (by rw[I0.ok.frames,k7]) (by rw[← k7]; exact I1.stack) hfm fl λh2 T' k fl2 fT'=>?_;rw[← k7]at k;have I2:=kpI k old1 H1T fl2 s1.toks;refine wpAny_handleBy_cons (codeAny_handlers_test ?_) (by intro z; cases z);have I2h:Inv (hand X a) ag σ (upd H1 a (me a c)) { s1 with heap:=h2 }:=Inv.hand I2;refine pQ (X:=hand X a) I2h hg hD ?_ hd;obtain⟨oe,vs,oT,ts,he2,Q_,_⟩:=id fl2;refine Ju (s:={ s1 with heap:=h2 }) ((hcg c hcc).keeps I2.bk) (hE.keeps I2.bk) he2 Q_ ?_;show j5 _ _ _ _ _;refine codeAny_handlers_suite_as (O7 (s:={ s1 with heap:=h2 }) fl2 λh3 k3 fl3=>?_);have k':Kp (fg X.stack) (λb=>(b=a\/b=T)\/b=T') s1.heap h3:=k.trans (k3.imp (λb z=>by simp at z) λb o _ z=>z);have I3:=kpI (T':=T') k' (λb o e z=>by
  rcases z with z | rfl
  ·exact old1 b o e z
  ·rw[rm un (Bn fT')]at e; cases e) (λb z=>by
  rcases z with z | rfl
  ·exact H1T b z
  ·exact I1.hok.fresh fT') fl3 s1.toks
 have I3h:Inv (hand X a) ag σ (upd H1 a (me a c)) { s1 with heap:=h3 }:=Inv.hand I3;refine tL (X:=hand X a) (v:=.ref a) I3h hN hi (.inl hl) rfl (λs4 I4=>?_) hf;have al:Al F1 F1 H1 (upd H1 a (me a c)):=Al.new0 na;have r2:=rl1.al al;have r3:=r2.set (i:=i) (pv:=.exc c) (v:=.ref a) ⟨a,rfl,b_⟩;have g3:a_ (U S) (U λj b=>S1 j b/\j≠i) F F1 H (upd H1 a (me a c)):=(g1.trans al.grow).trans (a_.less i);have less:∀ {S':Nat->af->Prop} {F':af->Prop} {H':Hp},a_ (U S') (U λj b=>S' j b/\j≠i) F' F' H' H':=λ{S' F' H'}=>a_.less i;have pn:∀ {σ':St},im pin (σ.set i (aa (.ref a))) σ'->im pin σ (σ'.set i ae):=λ{σ'} p=>((im.set ig).trans p).trans (im.set ig);have okd:jc (hand X a).K E0 pin (σ.set i (aa (.ref a))) F1 (λj b=>S1 j b/\j≠i) (upd H1 a (me a c)) (dh (ε1.set i (.val (.exc c)))) { nx:=λσ' H'=>Dn.nx (σ'.set i ae) H',rt:=Dn.rt,bk:=λσ' H'=>Dn.bk (σ'.set i ae) H',ct:=λσ' H'=>Dn.ct (σ'.set i ae) H' }:=by
  cases ed:dh (ε1.set i (.val (.exc c)))with
  | no=>rw[ed]at okh; exact okh.elim
  | er c' ε2=>rw[ed]at okh; exact okh.elim
  | ok f ε2=>
   rw[ed]at okh;dsimp only at okh;split at okh
   ·cases f with
    | next=>exact λF' S' σ' H' r' g' p'=>okh F' _ _ H' r'.unset ((g3.trans g').trans less) (pn p')
    | brk=>exact λF' S' σ' H' r' g' p'=>okh F' _ _ H' r'.unset ((g3.trans g').trans less) (pn p')
    | cont=>exact λF' S' σ' H' r' g' p'=>okh F' _ _ H' r'.unset ((g3.trans g').trans less) (pn p')
    | ret sl=>
     intro v F' S' σ' H' Sr r' g' p' rv lo;refine okh v F' _ _ H' Sr r'.unset ?_ (pn p') rv λb z=>⟨(lo b z).1,λ⟨j,w⟩=>(lo b z).2.1 ⟨j,w.1⟩,(lo b z).2.2⟩
     have gg:=g3.trans g';exact⟨gg.fro,gg.keep,gg.there,gg.fnew,λb z=>gg.onew b (z.imp (λ⟨j,w⟩=>⟨j,w.1⟩) id)⟩
   ·exact okh.elim
 refine dZ ((hh a F1 _ _ _ _ _ r3 okd).run ag s4 I4) (λf s5 sp=>?_) λ_ _ z=>z.elim;have away:∀ {σ5:St} {H5:Hp} {Q:Unit->ao->Prop},Inv (hand X a) ag σ5 H5 s5->(∀ s6,Inv X ag (σ5.set i ae) H5 s6->Q () s6)->aw (au X.prog X.w) X.A (do bindName X.env n .none; unbindBehindTheSuite X.env n hp) Q X.xe s5:=λ{σ5 H5 Q} I5 hQ=>by
  have I5':=Inv.unhand I5 I0.ok;refine ar (wpAny_bindName (tL (v:=.non) I5' hN hi (.inl hl) rfl (λs6 I6=>?_) hf));unfold unbindBehindTheSuite;refine wpAny_onRaise ?_;have hiσ:i<σ5.length:=by rw[I5'.len]; exact(cu.mp hi).1
  refine K5 I6 hN hi hl (cA hiσ) λs7 I7=>hQ s7 ?_;rw[List.set_set]at I7;exact I7
 cases f with
 | next=>obtain⟨σ5,H5,I5,q5⟩:=sp; exact away I5 λs6 I6=>⟨_,H5,I6,q5⟩
 | brk=>obtain⟨σ5,H5,I5,q5⟩:=sp; exact away I5 λs6 I6=>⟨_,H5,I6,q5⟩
 | cont=>obtain⟨σ5,H5,I5,q5⟩:=sp; exact away I5 λs6 I6=>⟨_,H5,I6,q5⟩
 | ret u=>obtain⟨v,σ5,H5,I5,rv,q5⟩:=sp; exact away I5 λs6 I6=>⟨v,_,H5,I6,rv,q5⟩
end
structure jr(k:Nat)(A:aR):Prop where
 dp:A.depth+3 * k+5<recursionLimit
 un:A.units+16 * k+200<cLine
theorem bZ.u{k:Nat}{A:aR}(r:bZ k A):jr k A:=⟨r.dp,r.un⟩
theorem bZ.hand{k:Nat}{A:aR}{v:Option ai}(r:bZ k A):jr k (A.mark v):=⟨r.dp,r.un⟩
theorem jr.mono{j k:Nat}{A:aR}(r:jr k A)(h:j<=k):jr j A:=⟨by have:=r.dp; lia,by have:=r.un; lia⟩
theorem jr.deeper{k:Nat}{A:aR}(r:jr (k+1) A)(env:Env):jr k (A.deeper env) :=⟨by have:=r.dp; show A.depth+1+3 * k+5<_; lia,by have:=r.un; show A.units+3+16 * k+200<_; lia⟩
theorem jr.units{k:Nat}{A:aR}(r:jr k A):A.units+64<cLine:=by have:=r.un; lia
def t_(P:aM)(w:aG)(K:aq)(mg:Str->Option ai)(base:aA)(N:List Str)(qual:Str)(scope:eK)(f:af)(cd:ai)(A:aR)(outer:List Env)(s:ao)(H:Hp):Cx :=
 { (fY qI P w K mg base N qual scope f cd A outer s H E0)with calm:=ak,xe:=λ_ _=>False }
structure yZ(P:aM)(w:aG)(K:aq)(mg:Str->Option ai)(base:aA)(k:Nat)(f:af)(fd:e_)(ps:List Str)(sp:Sp):Prop where
 len:∀ vs H Q E,sp vs H Q E->vs.length=ps.length
 run:∀ (A:aR) (outer:List Env) (s:ao) (H:Hp) (args:Args) (us:List ai) (vs:List V) (Q:VK),jr k A->lA P w K mg base A outer s H->BindsTo s fd args (ps.zip us)->bd vs us->sp vs H Q E0 ->
  j5 (au P w) A (.call (.ref f) args) (CR qI outer P w H s Q E0) s
structure vT(P:aM)(w:aG)(K:aq)(mg:Str->Option ai)(base:aA)(x:Str)(k:Nat)(ps:List Str)(sp:Sp):Prop where
 ex:∃ f fd,mg x=aa (.ref f)/\yZ P w K mg base k f fd ps sp/\Binds K fd ps []/\jC K (.ref f)=ah
theorem La{P:aM}{w:aG}{K:aq}{mg:Str->Option ai}{base:aA}{k:Nat}{f:af}{name qual:Str}{params:Arguments}{body:List aY}{scope:eK}{dV kV doc pm aE ct oc:ai}{an od:Option af}{osl:Array (Option ai)} {N ps:List Str} {sp:Sp} (lk:K.lookup f=aa ⟨oc,od,.func (fq name qual params body scope dV kV doc pm an aE ct),osl⟩) (a7:pX K aE qual=ah) (S:bN N ps scope)(len:∀ vs H Q E,sp vs H Q E->vs.length=ps.length)(d4:∀ (A:aR) (outer:List Env) (s:ao) (H:Hp) (vs:List V) (Q:VK),jr k (A.deeper (f_ qual scope s.heap.objs.size f aE))->sp vs H Q E0 -> qL (t_ P w K mg base N qual scope f aE A outer s H) body { nx:=λ_ H'=>Q .non H',rt:=Q } (L2.start N vs) H) : yZ P w K mg base (k+1) f (fq name qual params body scope dV kV doc pm an aE ct) ps sp:=by
 refine⟨len,λA outer s H args us vs Q hr e0 hb r gY=>?_⟩;have hl:=len _ _ _ _ gY;have KX:K.In s.heap:=e0.mod.kin.keeps λb o e=>(e0.bs b o e).1;have lim:s.heap.NoLimit:=e0.mod.nolimit.keeps λb o e=>(e0.bs b o e).1;have B_:∀ y∈ps.zip us,scope.names.lookup y.1=aa .local\/(scope.names.lookup y.1=aa .cell/\((fk (s.heap.objs.size+1) scope.names []).lookup y.1).isSome=ah):=λ⟨n,v⟩ hy=>(S.par n (Bu hy).1).imp id λq=>⟨q,Hk _ _ _ (.inl q)⟩
 refine codeAny_call_function (by have:=hr.dp; lia) (KX _ _ lk) rfl S.co S.gen rfl (PySem.W.codeRec_of KX a7) (hb _ _ _ _ ?_);refine wpAny_newFunctionEnv_cells S.kind B_ λenv he s1 x=>?_;subst he;refine⟨lim.keeps x.toInCall.keep,codeAny_func ?_⟩;have e1:lA P w K mg base { A with handled:=ae } outer s H:=⟨e0.frames,e0.mod,e0.bs,e0.bsz,e0.funs,e0.frf,e0.hok,e0.bare,e0.tab⟩
 have I0:Inv (fY qI P w K mg base N qual scope f aE { A with handled:=ae } outer s H E0) [] (L2.start N vs) H s1:=EQ S rfl e1 hl r x;have I:Inv (t_ P w K mg base N qual scope f aE A outer s H) [] (L2.start N vs) H s1 :=
  ⟨⟨I0.ok.mod,I0.ok.kind,I0.ok.glob,I0.ok.blt,I0.ok.above,I0.ok.inj,I0.ok.has,I0.ok.cab,(λz=>by cases z),Around.frames_deeper e0.frames,I0.ok.stk,I0.ok.exf,I0.ok.bs,I0.ok.bsz,I0.ok.noex,I0.ok.exfs,I0.ok.funs,I0.ok.frf,I0.ok.tab⟩,I0.os,I0.bare,I0.base,I0.loc,I0.cell,I0.free,I0.freeC,I0.pin,I0.hok,I0.len⟩
 refine dZ ((d4 A outer s H vs Q (hr.deeper _) gY).run [] s1 I) (λfl s' hs=>?_) λe s' hs=>hs.elim;have fin:∀ {σ':St} {H':Hp} {v:V} {u:ai},Inv (t_ P w K mg base N qual scope f aE A outer s H) [] σ' H' s'->RelV v u->Q v H'->CE outer P w H s Q u s':=λ{σ' H' v u} J rv q=>⟨v,H',J.os,J.bare,J.base,J.hok,rv,q⟩
 cases fl with
 | ret u=>obtain⟨v,σ',H',J,rv,q⟩:=hs; exact fin J rv q
 | next=>obtain⟨σ',H',J,q⟩:=hs; exact fin (v:=V.non) (u:=Value.none) J rfl q
 | brk=>obtain⟨_,_,_,q⟩:=hs; exact dU q
 | cont=>obtain⟨_,_,_,q⟩:=hs; exact dU q
theorem Ii{P:aM}{w:aG}{K:aq}{mg:Str->Option ai}{base:aA}{x:Str}{st:aY}{N ps:List Str}{k n:Nat}{g:aj->R Slot}{d:aj->R aT}{pin:List Nat}(D:cP K mg x st)(Sc:bN N ps (aP st))(hn:N.length=ps.length+n)(hb:∀ (kV doc pm:ai) (an:Option af) (aE ct:ai) (us:List ai),us.length=ps.length->eO (fq x x (gn st) (dm st) (aP st) .none kV doc pm an aE ct) ⟨us,[]⟩=pure (ps.zip us))(a8:∀ ss,g ss≠.no->ss.length=ps.length) (lS:∀ ss,g ss≠.no->∀ (i:Nat) po,ss[i]?=aa (.own po)->i∈pin/\jo po=ah) (hg:∀ ss,g ss≠.no->bu n d ss=g ss)(d4:∀ (f:af) (aE:ai) (A:aR) (outer:List Env) (s:ao) (H:Hp),jr k (A.deeper (f_ x (aP st) s.heap.objs.size f aE))->fU (t_ P w K mg base N x (aP st) f aE A outer s H) E0 pin (dm st) d) : vT P w K mg base x (k+1) ps (br K g):=by
 obtain⟨f,fd,hm,Fn⟩:=D.ex;refine⟨f,fd,hm,?_,Fn.binds hb,Fn.kp⟩;obtain⟨oc,od,kV,doc,pm,an,aE,ct,osl,rfl,lk,a7⟩:=Fn.ex;have ne:∀ {E:XK} {vs:List V} {F:af->Prop} {S:Nat->af->Prop} {H:Hp} {ss:aj} {Q:VK},pI K E vs F S H (g ss) Q->g ss≠.no:=λ{E vs F S H ss Q} h z=>by rw[z]at h; exact h
 refine La lk a7 Sc (λvs H Q E ⟨F,S,ss,rl,ok⟩=>?_) λA outer s H vs Q hr gY=>?_
 ·have:=a8 ss (ne ok);have h2:=rl.len;rw[cX]at h2;lia
 ·obtain⟨F,S,ss,rl,ok⟩:=gY;have hl:=a8 ss (ne ok);have h2:=rl.len;rw[cX]at h2;have es:L2.start N vs=vs.map aa++aU n ae:=by unfold L2.start;rw[show N.length-vs.length=n by lia]
  rw[es];refine d4 f aE A outer s H hr F S _ _ H _ (rl.start n) ?_;have sh:=lS ss (ne ok);have jJ:=hg ss (ne ok);rw[← jJ]at ok;unfold bu at ok;generalize d (ss++aU n .none)=r at ok ⊢;cases r with
  | no=>exact ok
  | er c ε'=>
   intro x F' S' σ' H' r' g' p';have ok:pI K E0 vs F S H ((aO (back ss ε') []).bind λaF _=>.er c aF) Q:=ok;cases e:back ss ε' with
   | none=>rw[e]at ok; exact ok.elim
   | some aF=>rw[e]at ok;obtain⟨S'',r'',sub,_⟩:=rl.back r' g' p' (λi po e=>(sh i po e).1) e;exact ok x F' S'' H' r'' ⟨g'.fro,g'.keep,g'.there,g'.fnew,λb z=>g'.onew b (sub b z)⟩
  | ok fl ε'=>
   have fin:∀ (rs:Slot),pI K E0 vs F S H ((aO (back ss ε') []).bind λaF _=>.ok rs aF) Q->∀ (v:V) F' S' σ' H' Sr,aH K F' S' ε' σ' H'->a_ (U S) (λb=>U S' b\/Sr b) F F' H H'->im pin (vs.map aa++aU n ae) σ'->kF K H' F' rs v Sr->pL F' S' H' Sr->Q v H':=by
    intro rs ok v F' S' σ' H' Sr r' g' p' hv lo;cases e:back ss ε' with
    | none=>rw[e]at ok; exact ok.elim
    | some aF=>
     rw[e]at ok;obtain⟨S'',r'',sub,up⟩:=rl.back r' g' p' (λi po e=>(sh i po e).1) e;refine ok v F' S'' H' Sr r'' ⟨g'.fro,g'.keep,g'.there,g'.fnew,λb z=>g'.onew b (z.imp (sub b) id)⟩ hv (λb z=>⟨(lo b z).1,λw=>(lo b z).2.1 (sub b w),(lo b z).2.2⟩) λb z=>?_;rcases g'.onew b (.inr z)with w | w
     ·exact absurd (sub b (up (λi po e=>(sh i po e).2) b w)) (lo b z).2.1
     ·exact w
   cases fl with
   | brk=>exact ok.elim
   | cont=>exact ok.elim
   | ret rs=>exact fin rs ok
   | next=>exact λF' S' σ' H' r' g' p'=>fin (.val .non) ok .non F' S' σ' H' (λ_=>False) r' ⟨g'.fro,g'.keep,g'.there,g'.fnew,λb z=>z.elim (g'.onew b) dU⟩ p' ⟨rfl,λ_ z=>z⟩ λ_ z=>z.elim
section
variable{X:Cx}{E:XK}{e:aB}{es:List aB}{dg:aj->R (List bA)}{pos:Pos}{x:Str}{k:Nat}{ps:List Str}{g:aj->R Slot}{p:Pos}
theorem N9{f:af}{fd:e_}{sp:Sp}{t:TA}(Fn:yZ X.prog X.w X.K X.mg X.base k f fd ps sp)(hr:jr k X.A)(hg:Gl X x)(hm:X.mg x=aa (.ref f))(hk:jC X.K (.ref f)=ah)(hb:Binds X.K fd ps [])(ha:PA X (e::es) t) (hd:(x == ("__debug__" : Str))=ak) (he:aC (e::es) X.env=(ak,aD e X.env)::aC es X.env) (cE:(bK pos (aC es X.env)).any (·.1)=ak) : PE X (.Call (.Name x p) (e::es) [] pos) (λσ H Q=>t σ H λvs H1=>sp vs H1 Q E0):=λag s σ H Q I h=>by
 refine ul (pQ I hg hm ?_ hd);refine xI (h₀:=X.base) I.ok.mod.kin hk (aX (ha pos ag s σ H _ I h) λus s1 ⟨vs,H1,I1,r,q⟩=>⟨I1.kIn,?_⟩) he cE;have hl:us.length=ps.length:=by rw[← r.length]; exact Fn.len _ _ _ _ q
 refine rL (mH (Fn.run X.A X.stack s1 H1 ⟨us,[]⟩ us vs Q hr I1.env0 (by have:=hb s1 us I1.kIn (by rw[gD]; exact hl); rwa[gD]at this) r q) λrr s' hq=>?_);cases rr with
 | error er=>exact(show False from hq).elim
 | ok fl=>
  cases fl with
  | ret u=>exact I1.after hq
  | next=>exact dU hq
  | brk=>exact dU hq
  | cont=>exact dU hq
theorem M4(c:vT X.prog X.w X.K X.mg X.base x k ps (br X.K g))(hr:jr k X.A)(ha:DG X E (e::es) dg)(hg:Gl X x:=by rfl)(hd:(x == ("__debug__" : Str))=ak:=by decide) (h1:aC (e::es) X.env=(ak,aD e X.env)::aC es X.env:=by rfl) (h2:(bK pos (aC es X.env)).any (·.1)=ak:=by rfl) : DR X E (.Call (.Name x p) (e::es) [] pos) (λε=>ce (bh g dg ε)):=λF S ε σ H Q rl h=>by
 obtain⟨f,fd,hm,Fn,hb,hk⟩:=c.ex;have h':Ok X.K E σ F S H (dg ε) (λas ε1 F1 S1 H1=>Ok X.K E σ F1 S1 H1 (ce ((aO (if(bF as).Nodup then cJ ε1 as else ae) ε1).bind λss ε1=>cZ ε1 as (g ss))) (λs _ F' S' H'=>∀ v Sr,kF X.K H' F' s v Sr->(∀ b,Sr b->H b=ae/\¬ F' b/\¬ U S' b/\∃ o,H' b=aa o/\cR o)->Q v H')):=by
  have h:Ok X.K E σ F S H (ce ((dg ε).bind λas ε1=>(aO (if(bF as).Nodup then cJ ε1 as else ae) ε1).bind λss ε1=>cZ ε1 as (g ss))) _:=h;cases e0:dg ε with
  | no=>rw[e0]at h; exact h.elim
  | er c ε'=>rw[e0]at h; exact h.elim
  | ok as ε1=>rw[e0]at h; exact λF1 S1 H1 r1 g1=>Ok.from h g1
 refine bC (N9 Fn hr hg hm hk hb fZ hd h1 h2) (ha F S ε σ H _ rl (h'.imp λas ε1 F1 S1 H1 r1 g1 q vs av=>?_));by_cases nd:(bF as).Nodup
 ·rw[if_pos nd]at q;cases es:cJ ε1 as with
  | none=>rw[es]at q; exact q.elim
  | some ss=>
   rw[es]at q;simp only[cz,R.bind_ok]at q;refine⟨F1,jU as S1,ss,r1.cal av es nd,?_⟩;cases eg:g ss with
   | no=>rw[eg]at q; exact q.elim
   | er cv aF=>
    rw[eg]at q;unfold cZ at q;dsimp only at q;by_cases kp:dG as aF=ah
    ·rw[if_pos kp]at q; exact q.elim
    ·rw[if_neg kp]at q; exact q.elim
   | ok s aF=>
    rw[eg]at q;intro v F' S' H' Sr r' g' rv lo fr;unfold cZ at q;dsimp only at q;by_cases kp:dG as aF=ah
    ·rw[if_pos kp]at q;obtain⟨S2,r2,g2,u2⟩:=r1.called av es nd r' g' (λ_ z=>.inl z) (jT kp);refine q F' S2 H' r2 g2 v Sr rv λb z=>⟨jO g1 (fr b z),(lo b z).1,λw=>?_,(lo b z).2.2⟩
     rcases u2 b w with w | ⟨i,w⟩
     ·exact(lo b z).2.1 w
     ·obtain⟨_,_,o,y1,_⟩:=r1.foot i b w;rw[fr b z]at y1; cases y1
    ·rw[if_neg kp]at q; exact q.elim
 ·rw[if_neg nd]at q; exact q.elim
end
structure nE(K:aq)(C:af):Prop where
 ga:ie K (.ref C) "__getattribute__" = aa (aa (.builtin "BaseException.__getattribute__"))
 gt:ie K (.ref C) "__getattr__" = aa ae
 cl:ie K (.ref C) "__class__" = aa (aa (.builtin "object.__class__"))
 gs:Hh K (.builtin "object.__class__") "__get__" = aa (aa (.builtin "getset_descriptor.__get__"))
 tk:PySem.W.takesIn K (.builtin "object.__class__")=aa ah
 ob:xH K C (.type "object")=aa ah
 be:xH K C (.type "BaseException")=aa ah
 cs:(BQ K C).isSome=ah
section
variable{prog:aM}{w:aG}{A:aR}{E:ai->ao->Prop}{K:aq}{h:aA}{g:Array GenState}{d:Drawn}{t:Nat}{os:OsState}{a C:af}{o:Obj}
theorem O4{M:Model}{nameV:ai}{Q:Unit->ao->Prop}(X:K.In h)(k:nE K C)(I:uj h a o C ae)(hq:Q () ⟨h,g,d,t,os⟩):aw M A (Hz "BaseException.__getattribute__" ⟨[.ref a,nameV],[]⟩) Q E ⟨h,g,d,t,os⟩:=by
 have hk:builtinKind "BaseException.__getattribute__" = aa .slot:=by decide +kernel
 have Q2:splitId "BaseException.__getattribute__" = aa ("BaseException","__getattribute__"):=by decide +kernel
 have ha:=F.args_bexc_ga (.ref a) nameV;have L0:=I.type (M:=M);have L1:=PySem.W.looks_mroIn (M:=M) X k.be;simp only[Hz,hk,Q2];refine ar ?_
 ·unfold isInstance
  repeat (first | with_reducible refine ar (L0.at ?_) | with_reducible refine L1.at ?_ | with_reducible refine ar (L1.at ?_) | wp_step)
  exact hq
theorem NZ{tk:Tok}{Q:Fin->ao->Prop}(X:K.In h)(k:nE K C)(I:uj h a o C ae)(hq:Q (.done (.ret (.ref C))) ⟨h,g,d,t,os⟩):aw (au prog w) A (Builtin.«object.__getattribute__» ⟨[.ref a,.str "__class__" tk],[]⟩) Q E ⟨h,g,d,t,os⟩:=by
 have L0:=I.type (M:=au prog w);have hf:PySem.W.findObj K C ae "__class__" = aa (.bind (.builtin "getset_descriptor.__get__") (.builtin "object.__class__")):=by obtain⟨cd,hc⟩:=xJ.mp k.cs;unfold PySem.W.findObj;rw[hc,iC,k.cl,iC];simp[k.gs,k.tk]
 have L1:=PySem.W.looks_find (M:=au prog w) X I hf;have gg:j5 (au prog w) A (.call (.builtin "getset_descriptor.__get__") ⟨[.builtin "object.__class__",.ref a,.ref C],[]⟩) (λr s'=>r = .ok (.ret (.ref C))/\s'=⟨h,g,d,t,os⟩) ⟨h,g,d,t,os⟩:=PySem.W.class_get (s:=⟨h,g,d,t,os⟩) X I k.ob ⟨rfl,rfl⟩;refine ar (aQ (ar (aQ (ar (L0.at (ar (L1.at ?_)))))));show aw _ _ (do ret (← nX [Value.builtin "object.__class__"] (call (.builtin "getset_descriptor.__get__") [.builtin "object.__class__",.ref a,.ref C]))) _ _ _;refine ar (n6 (rL (mH gg λr s' z=>?_)));obtain⟨rfl,rfl⟩:=z;exact aQ hq
theorem Jb{tk:Tok}{Q:ai->ao->Prop}(X:K.In h)(k:nE K C)(I:uj h a o C ae)(hq:Q (.ref C) ⟨h,g,d,t,os⟩):aw (au prog w) A (getAttrBy (.ref a) (.str "__class__" tk) ak) Q E ⟨h,g,d,t,os⟩:=by
 have L0:=I.type (M:=au prog w);have L1:=Hg (M:=au prog w) X k.ga;have L2':=Hg (M:=au prog w) X k.gt;have lV:(Value.builtin "BaseException.__getattribute__" == Value.builtin "object.__getattribute__")=ak:=by decide +kernel
 have oF:(onTheHeap (Value.ref C) && Value.builtin "BaseException.__getattribute__" == Value.builtin "object.__getattribute__")=ak:=by rw[lV]; rfl
 unfold getAttrBy;refine n6 (ar (L0.at (ar (L1.at ?_))));dsimp only;rw[oF];rw[if_neg (by decide)];have f3:=F.attr_ValueError.ga.bind (.ref a);have hx0:(ak && onTheHeap (Value.builtin "BaseException.__getattribute__"))=ak:=rfl
 repeat (any_goals (first | assumption | with_reducible refine L2'.at ?_ | with_reducible refine ar (L2'.at ?_) | wp_step))
 refine codeAny_call_builtin F.attr_ValueError.ga.plain F.entry_bexc_ga (O4 X k I (NZ X k I ?_))
 repeat (any_goals (first | assumption | wp_step))
theorem Ik{Q:Option ai->ao->Prop}(X:K.In h)(k:nE K C)(I:uj h a o C ae)(hq:Q (aa (.ref C)) ⟨h,g,d,t+1,os⟩):aw (au prog w) A (getAttr? (.ref a) "__class__") Q E ⟨h,g,d,t,os⟩:=by
 unfold getAttr? getAttrBy?
 repeat (any_goals (first | assumption | with_reducible apply Jb X k I | wp_step))
theorem K4(k:nE K C):PySem.W.KitX K (.ref a) (.ref C) (λh=>∃ o,uj h a o C ae) where
 ty:=λ_ _ _ ⟨o,I⟩=>I.type
 it:=λ_ _ X _=>by
  obtain⟨cd,hc⟩:=xJ.mp k.cs;unfold BQ at hc;split at hc
  ·rename_i c' d' cd' sl' ho;intro A' Q' E' s' kk q;unfold isType loadHead;exact ar (wpAny_loadPart (kk _ _ (X _ _ ho)) (aQ q))
  ·cases hc
 ne:=λh tp dd its n sl X htp=>by
  obtain⟨cd,hc⟩:=xJ.mp k.cs;refine BR.mpr λq=>?_;have e:C=tp:=Value.ref.inj (beq_iff_eq.mp q);subst e;unfold BQ at hc;split at hc
  ·rename_i c' d' cd' sl' ho;have z:=(X _ _ ho).symm.trans htp;cases z
  ·cases hc
 ca:=λ{_ _ _ _ _ s} X I q=>by obtain⟨o,I⟩:=I;obtain⟨h,g,d,t,os⟩:=s;exact Ik X k I q
end
def wJ:V->Option ai
 | .ref D=>aa (.ref D)
 | .ty T=>aa (.type T)
 | _=>ae
theorem Js{v:V}{u u':ai}(e:wJ v=aa u)(r:RelV v u'):u'=u:=by
 cases v <;> simp[wJ]at e <;> subst e <;> exact r
section
variable{X:Cx}{K:aq}
def G6(K:aq):List V->Hp->VK->Prop:=λxs H Q=>∃ a C D u b,xs=[.ref a,D]/\H a=aa (me a (.ref C))/\nE K C/\wJ D=aa u/\gX K (.ref C) u=aa b/\Q (.bl b) H
theorem Rf:eu X (.builtin "isinstance") (G6 X.K):=by
 intro ag s σ H xs us Q I r h;obtain⟨a,C,D,u,b,rfl,ha,k,hu,e,q⟩:=h;cases r with
 | cons r1 r2=>
  cases r2 with
  | cons r3 r4=>
   cases r4;cases r1;have e3:=Js hu r3;subst e3;obtain⟨⟨o,vs,h1,h2,h3,h4⟩,_,_⟩:=I.hok a _ ha;refine kN (K4 (a:=a) k) I.kIn ⟨o,h1,h2,?_,?_⟩ e (by intro z; cases z) λtk=>⟨.bl b,H,I.tok _,rfl,q⟩
   ·unfold PySem.W.notCls; rw[h3]
   ·rw[h4]; trivial
def iX(tab:ai->V->Option Bool):List PV->Option PV
 | [.exc c,.raw D]=>(tab c D).map .bl
 | xs=>gA xs
def EO(K:aq):List V->Hp->VK->Prop:=λxs H Q=>G6 K xs H Q\/∃ x t T b,xs=[x,.ty T]/\iA K H x (.type t)/\gX K (.type t) (.type T)=aa b/\Q (.bl b) H
theorem jX:eu X (.builtin "isinstance") (EO X.K):=Rf.or oM
def zq(K:aq)(tab:ai->V->Option Bool):Prop:=∀ c D b,tab c D=aa b->∃ C u,c = .ref C/\nE K C/\wJ D=aa u/\gX K (.ref C) u=aa b
theorem jS{tab:ai->V->Option Bool}(ht:zq K tab):PL K (EO K) (iX tab):=λF H xs vs Q pv rs e q=>by
 unfold iX at e;split at e
 ·rename_i c D;cases q1:tab c D with
  | none=>rw[q1]at e; cases e
  | some b=>
   rw[q1]at e;cases e;obtain⟨C,u,rfl,k,hu,hk⟩:=ht c D b q1;obtain⟨v,r',rfl,⟨a,rfl,ha⟩,h2⟩:=rs;obtain⟨v2,rfl,h3⟩:=gf h2;rw[show v2=D from h3];exact .inl ⟨a,C,D,u,b,rfl,ha,k,hu,hk,q _ F H (Al.refl ..) rfl⟩
 ·exact .inr (pq F H _ vs Q pv rs e q)
theorem kD{E:XK}{x:Str}{D:af}{pos:Pos}(hm:X.mg x=aa (.ref D))(hg:Gl X x:=by rfl)(hd:(x == ("__debug__" : Str))=ak:=by decide):DE X E (.Name x pos) (dC (.raw (.ref D))):=λF S ε σ H Q r q=>bC (Af (v:=.ref D) hg hm rfl hd) (q F S H r (a_.refl ..) _ rfl)
variable{E:XK}{e:aB}{de:aj->R PV}{pos:Pos}{y:Str}
def zy(xs:List PV)(y:PV):Option PV:=(dN y).bind λv=>(jW xs).map λws=>.int (ws.countP λz=>fh z v)
def Au(xs:List PV)(y:PV):Option PV:=(dN y).bind λv=>(jW xs).bind λws=>(ws.findIdx? λz=>fh z v).map λj=>.int j
def qP(f:List PV->PV->Option PV)(i:Nat)(de:aj->R PV):aj->R PV:=λε=>(aO (dA ε i) ε).bind λ_ ε=>(de ε).bind λk ε1=>(aO (dA ε1 i) ε1).bind λxs ε1=>aO (f xs k) ε1
theorem KJ(i:Nat){p apos cpos:Pos}(he:DE X E e de)(hN:X.N[i]?=aa y:=by rfl)(hv:c7 X.env.scope y:=by first | exact Or.inl rfl | exact Or.inr (Or.inl rfl) | exact Or.inr (Or.inr rfl))(hd:(y == ("__debug__" : Str))=ak:=by decide)(a7:(y == ("__classdict__" : Str))=ak:=by decide) (h1:f9 (.Name y p) "count" X.env (aD (.Name y p) X.env)=aD (.Name y p) X.env:=by rfl)(h2:((bK cpos (aC [e] X.env)).all (λx=>!x.1) && (j6 cpos (j7 [] X.env)).all (λx=>x.1.isSome) && decide ([e].length+([]:List iN).length+(if([]:List iN).isEmpty then 0 else 1)<30))=ah:=by rfl)(h3:(apos.endLine == cpos.line)=ah:=by rfl) (h4:aC [e] X.env=(ak,aD e X.env)::aC [] X.env:=by rfl) (h5:(bK cpos (aC [] X.env)).any (·.1)=ak:=by rfl) : DE X E (.Call (.Attribute (.Name y p) "count" apos) [e] [] cpos) (qP zy i de):=λF S ε σ H Q rl h=>by
 unfold qP at h;cases e0:dA ε i with
 | none=>rw[e0]at h; exact h.elim
 | some xs0=>
  rw[e0]at h;simp only[cz,R.bind_ok]at h;obtain⟨a,vs0,ea,ha,_,_,_⟩:=rl.lstAt (i_ e0);refine bC (rg uy PySem.F.slot_list_count PySem.F.type_list_count KW (dP hN hv hd a7) (gP bD i7 h4) h1 h2 h3 h4 h5) ⟨.ref a,ea,.inl ⟨rfl,_,bR.of ha⟩,?_⟩;refine he F S ε σ H _ rl ((Ok.bind h).imp λk ε1 F1 S1 H1 r1 g1 q v rv=>?_);cases e1:dA ε1 i with
  | none=>rw[e1]at q; exact q.elim
  | some xs=>
   rw[e1]at q;simp only[cz,R.bind_ok]at q;obtain⟨a',vs,ea',qg,ra,_,_⟩:=r1.lstAt (i_ e1);rw[ea]at ea';cases ea';unfold zy at q;cases q1:dN k with
   | none=>rw[q1]at q; exact q.elim
   | some w=>
    cases q2:jW xs with
    | none=>rw[q1,q2]at q; exact q.elim
    | some ws=>rw[q1,q2]at q;obtain⟨rfl,hf⟩:=vA ra q2;rw[jk rv q1];exact⟨a,vs,w,rfl,rfl,qg,sE q1,hf,q F1 S1 H1 r1 (a_.refl ..) _ rfl⟩
theorem Jm(i:Nat){p apos cpos:Pos}(he:DE X E e de)(hN:X.N[i]?=aa y:=by rfl)(hv:c7 X.env.scope y:=by first | exact Or.inl rfl | exact Or.inr (Or.inl rfl) | exact Or.inr (Or.inr rfl))(hd:(y == ("__debug__" : Str))=ak:=by decide)(a7:(y == ("__classdict__" : Str))=ak:=by decide) (h1:f9 (.Name y p) "index" X.env (aD (.Name y p) X.env)=aD (.Name y p) X.env:=by rfl)(h2:((bK cpos (aC [e] X.env)).all (λx=>!x.1) && (j6 cpos (j7 [] X.env)).all (λx=>x.1.isSome) && decide ([e].length+([]:List iN).length+(if([]:List iN).isEmpty then 0 else 1)<30))=ah:=by rfl)(h3:(apos.endLine == cpos.line)=ah:=by rfl) (h4:aC [e] X.env=(ak,aD e X.env)::aC [] X.env:=by rfl) (h5:(bK cpos (aC [] X.env)).any (·.1)=ak:=by rfl) : DE X E (.Call (.Attribute (.Name y p) "index" apos) [e] [] cpos) (qP Au i de):=λF S ε σ H Q rl h=>by
 unfold qP at h;cases e0:dA ε i with
 | none=>rw[e0]at h; exact h.elim
 | some xs0=>
  rw[e0]at h;simp only[cz,R.bind_ok]at h;obtain⟨a,vs0,ea,ha,_,_,_⟩:=rl.lstAt (i_ e0);refine bC (rg uy PySem.F.slot_list_index PySem.F.type_list_index NO (dP hN hv hd a7) (gP bD i7 h4) h1 h2 h3 h4 h5) ⟨.ref a,ea,.inl ⟨rfl,_,bR.of ha⟩,?_⟩;refine he F S ε σ H _ rl ((Ok.bind h).imp λk ε1 F1 S1 H1 r1 g1 q v rv=>?_);cases e1:dA ε1 i with
  | none=>rw[e1]at q; exact q.elim
  | some xs=>
   rw[e1]at q;simp only[cz,R.bind_ok]at q;obtain⟨a',vs,ea',qg,ra,_,_⟩:=r1.lstAt (i_ e1);rw[ea]at ea';cases ea';unfold Au at q;cases q1:dN k with
   | none=>rw[q1]at q; exact q.elim
   | some w=>
    cases q2:jW xs with
    | none=>rw[q1,q2]at q; exact q.elim
    | some ws=>
     cases q3:ws.findIdx? λz=>fh z w with
     | none=>rw[q1,q2]at q; simp only[iC]at q; rw[q3]at q; exact q.elim
     | some j=>
      rw[q1,q2]at q;simp only[iC]at q;rw[q3]at q;obtain⟨rfl,hf⟩:=vA ra q2;rw[jk rv q1];rw[QX]at q3;obtain⟨hj,h6,h7⟩:=q3;refine⟨a,vs,w,j,rfl,rfl,qg,sE q1,hf,hj,λz hz=>?_,λm z hm hz=>?_,q F1 S1 H1 r1 (a_.refl ..) _ rfl⟩
      ·rw[fK hj]at hz; cases hz; exact h6
      ·have:=h7 m hm;rw[fK ∅]at hz; cases hz;simpa using this
end
def d8(g:Tx):List Tx->Tx
 | []=>[]
 | [x]=>x
 | x::y::r=>x++g++d8 g (y::r)
theorem Cz(a b:Tx):tS (a++b)=tS a++tS b:=by apply Str.ext';simp[tS,Str.cps_append]
theorem z9(g:Tx):∀ ls:List Tx,Str.join (tS g) (ls.map tS)=tS (d8 g ls)
 | []=>rfl
 | [x]=>rfl
 | x::y::r=>by show tS x++tS g++Str.join (tS g) ((y::r).map tS)=tS (x++g++d8 g (y::r));rw[z9 g (y::r),Cz,Cz]
theorem FN(g:Tx)(ls:List Tx):Txt.join (tS g) (ls.map tS)=tS (d8 g ls):=by unfold Txt.join;rw[StrLaws.glued_eq_join,z9]
def dD(c:Nat):Tx->List Tx
 | []=>[[]]
 | a::x=>if a=c then []::dD c x else match dD c x with
  | []=>[[a]]
  | p::r=>(a::p)::r
theorem Mt(c:Nat):∀ x,dD c x≠[]
 | []=>by simp[dD]
 | a::x=>by
  unfold dD;split
  ·simp
  ·split <;> simp
theorem yx(c:Nat):∀ ls:List Tx,ls≠[]->(∀ p∈ls,c∉p)->dD c (d8 [c] ls)=ls
 | [],h,_=>absurd rfl h
 | [x],_,h=>by
  show dD c x=[x]
  have hx:c∉x:=h x (by simp);clear h
  induction x with
  | nil=>rfl
  | cons a x ih=>unfold dD;rw[if_neg (by rintro rfl; exact hx (by simp)),ih (by simp) λz=>hx (by simp[z])]
 | x::y::r,_,h=>by
  have ih:=yx c (y::r) (by simp) λp hp=>h p (by simp[hp]);have hx:c∉x:=h x (by simp);show dD c (x++[c]++d8 [c] (y::r))=_;rw[gb];clear h
  induction x with
  | nil=>show dD c (c::d8 [c] (y::r))=_;unfold dD;rw[if_pos rfl,ih]
  | cons a x ihx=>show dD c (a::(x++([c]++d8 [c] (y::r))))=_;unfold dD;rw[if_neg (by rintro rfl; exact hx (by simp)),ihx (by simp) λz=>hx (by simp[z])]
theorem GG(c:Nat)(x:Tx):x_ (tS x) (tS [c])=(dD c x).map tS:=by
 have h1:=StrLaws.join_split (tS x) (tS [c]);have h2:∀ p∈x_ (tS x) (tS [c]),c∉p.cps.toList:=StrLaws.split_free (tS x) c;have h3:1<=(x_ (tS x) (tS [c])).length:=split_pos _ _;generalize x_ (tS x) (tS [c])=L at h1 h2 h3;have e:L=(L.map λp=>p.cps.toList).map tS:=by
  rw[eP]
  conv=>lhs; rw[← List.map_id L]
  exact iB λp _=>(EY p).symm
 rw[e,z9]at h1;have e2:d8 [c] (L.map λp=>p.cps.toList)=x:=sW h1;rw[e];congr 1;rw[← e2,yx]
 ·intro z; rw[List.map_eq_nil_iff]at z; rw[z]at h3; simp at h3
 ·intro p hp;obtain⟨q,hq,rfl⟩:=dW.mp hp;exact h2 q hq
theorem Jw(c:Nat)(x:Tx):vk [c] x=x.contains c:=by unfold vk;have:=StrLaws.found_one (tS x) c;rw[nM]at this;rw[show(tS [c])=⟨#[c]⟩from rfl,this];simp[List.contains_eq_mem]
theorem AX:∀ {ls:List Tx} {its:List ai},bd (cI ls) its->eB its (ls.map tS)
 | [],_,r=>by cases r; exact .nil
 | x::ls,_,r=>by
  cases r with
  | cons r1 r2=>obtain⟨t,rfl⟩:=r1;exact .cons _ t (AX r2)
section
variable{X:Cx}{K:aq}
def j3(g:Tx)(ls:List Tx):Nat:=(ls.map mI).sum+ls.length * g.length
theorem wy(g:Tx):∀ ls,(d8 g ls).length<=j3 g ls
 | []=>mG _
 | [x]=>by simp[d8,j3]
 | x::y::r=>by have h:=wy g (y::r);show(x++g++d8 g (y::r)).length<=_;generalize d8 g (y::r)=z at h;unfold j3 at *;simp only[dr,fI,List.sum_cons,dq,Nat.add_mul]at *;lia
def zg(K:aq):V->List V->Hp->VK->Prop:=λx xs H Q=>∃ g p ls,x=tV g/\xs=[.ref p]/\(bR K H p (cI ls)\/cq K H p (cI ls))/\j3 g ls<=bi/\Q (tV (d8 g ls)) H
theorem Dm:rF X "str.join" (zg X.K):=by
 intro ag s σ H x xs v us Q I rx rs h;obtain⟨g,p,ls,rfl,rfl,hq,hw,q⟩:=h;obtain⟨t,rfl⟩:=rx;obtain⟨u,rfl,ru⟩:=vals1 rs;cases ru;have hw':((ls.map tS).map (·.length)).sum+(ls.map tS).length * (tS g).length<=16777216:=by
  have e:((ls.map tS).map (·.length))=ls.map mI:=by rw[eP]; exact iB λa _=>iE a
  rw[e,cX,iE];unfold j3 bi at hw;lia
 rcases hq with hq | hq
 ·obtain⟨its,rv,pl,hz⟩:=I.list hq;exact join_list pl.isList (by simpa using AX rv) hw' λt' k=>⟨tV (d8 g ls),H,I.tok _,(by rw[FN]; exact⟨t',rfl⟩),q⟩
 ·obtain⟨its,rv,pl,hz⟩:=I.tuple hq;exact join_tuple pl (by simpa using AX rv) hw' λt' k=>⟨tV (d8 g ls),H,I.tok _,(by rw[FN]; exact⟨t',rfl⟩),q⟩
theorem E3:∀ {l:List (PySem.Str×Tok)} {ls:List Tx},l.map (·.1)=ls.map tS->bd (cI ls) (strValues l)
 | [],[],_=>.nil
 | [],_::_,h=>by cases h
 | _::_,[],h=>by cases h
 | (a,t)::l,x::ls,h=>by have e1:a=tS x:=(List.cons.inj h).1;have e2:l.map (·.1)=ls.map tS:=(List.cons.inj h).2;subst e1;exact .cons ⟨t,rfl⟩ (E3 e2)
def FV:V->List V->Hp->VK->Prop:=λx xs H Q=>∃ y c,x=tV y/\xs=[tV [c]]/\y.length<=bi/\∀ l,H l=ae->Q (.ref l) (upd H l (.lst (cI (dD c y))))
theorem PY:rF X "str.split" FV:=by
 intro ag s σ H x xs v us Q I rx rs h;obtain⟨y,c,rfl,rfl,hz,q⟩:=h;obtain⟨t,rfl⟩:=rx;obtain⟨u,rfl,t',rfl⟩:=vals1 rs;have hx:(tS y).length<=a9:=by rw[iE]; exact cr hz kA
 have e1:=StrLaws.occ_length_le (tS y) (tS [c]) 0 (tS y).length ((tS y).length+1);have hn:(Builtin.Str.partsBetween (tS y) (ui (tS y) (tS [c]) 0 (tS y).length ((tS y).length+1)) (tS [c]).length).length<=a9:=by rw[length_partsBetween,nZ]; rw[iE]at e1 ⊢; unfold bi at hz; lia
 have a8:=split_le (tS y) (tS [c]);have fin:∀ (l:List (PySem.Str×Tok)) (k:Nat),l.map (·.1)=x_ (tS y) (tS [c])->EP X ag σ Q (.ref s.heap.objs.size) { s with toks:=k,heap:=s.heap.push { cls:=.type "list",data:=.seq (strValues l).toArray } }:=λl k e=>by
  rw[GG]at e;have hl:(dD c y).length<=a9:=by rw[GG,cX,iE]at a8;rw[nZ]; unfold bi at hz; lia
  exact⟨.ref s.heap.objs.size,_,I.laid (t':=k) (λb o e=>bG _ e) (bp _) (show dw X.prog X.w _ _ _ (.lst (cI (dD c y)))from⟨by rw[tR]; exact hl,strValues l,0,E3 e,cW _ rfl⟩),rfl,q _ (I.hok.fresh (bp _))⟩
 have hy:((tS [c]).length == 0)=ak:=rfl;cases h1:(decide ((tS y).length<(tS [c]).length) || decide (Builtin.Str.strKind (tS y)<Builtin.Str.strKind (tS [c])))
 ·cases hf:(ui (tS y) (tS [c]) 0 (tS y).length ((tS y).length+1)).isEmpty
  ·refine p6 HF (rM _ _ _) HG (HH _ _) (meets_str_split_sep (tS y) (tS [c]) t t' h1 hy hf hx hn) ?_;show wants _ _ _ { s with toks:=_,heap:=s.heap.push { cls:=.type "list",data:=.seq (strsFrom s.toks (Builtin.Str.partsBetween (tS y) (ui (tS y) (tS [c]) 0 (tS y).length ((tS y).length+1)) (tS [c]).length)).toArray } };rw[strsFrom_eq];exact fin (numbered s.toks _) _ ((numbered_texts _ _).trans ((if_neg (ne_true_of_eq_false h1)).trans (if_neg (ne_true_of_eq_false hf))).symm)
  ·exact p6 HF (rM _ _ _) HG (HH _ _) (meets_str_split_not_found (tS y) (tS [c]) t t' h1 hy hf)
    (fin [(tS y,t)] s.toks ((if_neg (ne_true_of_eq_false h1)).trans (if_pos hf)).symm)
 ·exact p6 HF (rM _ _ _) HG (HH _ _) (meets_str_split_cannot_occur (tS y) (tS [c]) t t' h1)
   (fin [(tS y,t)] s.toks (if_pos h1).symm)
def PM(K:aq)(r:V->List V->Hp->VK->Prop)(f:Tx->List PV->Option PV):Prop:=∀ (F:af->Prop) (H:Hp) (x:Tx) (xs:List PV) (vs:List V) (Q:VK) (pv:PV),x.length<=bi->Reps K H F xs vs->f x xs=aa pv->(∀ w F' H',Al F F' H H'->aV K H' F' pv w->Q w H')->r (tV x) vs H Q
def tK:PV->Option Tx
 | .str x=>aa x
 | _=>ae
def lC(f:Tx->List PV->Option PV)(d:aj->R PV)(ds:aj->R (List PV)):aj->R PV:=λε=>(d ε).bind λx ε1=>(aO (tK x) ε1).bind λy ε1=>(ds ε1).bind λys ε2=>aO (f y ys) ε2
variable{E:XK}{o e:aB}{es:List aB}{d:aj->R PV}{ds:aj->R (List PV)}{name:Str}{apos cpos:Pos}{id:String}{r:V->List V->Hp->VK->Prop}{f:Tx->List PV->Option PV}
theorem zF(slot:PySem.Slot "str" name id)(ot:typeOf (.builtin id)=pure (.type "method_descriptor"))(hm:rF X id r)(hp:PM X.K r f)(ho:DE X E o d)(ha:DA X E (e::es) ds)(qd:f9 o name X.env (aD o X.env)=aD o X.env:=by rfl)(Cc:((bK cpos (aC (e::es) X.env)).all (λx=>!x.1) && (j6 cpos (j7 [] X.env)).all (λx=>x.1.isSome) && decide ((e::es).length+([]:List iN).length+(if([]:List iN).isEmpty then 0 else 1)<30))=ah:=by rfl)(qe:(apos.endLine == cpos.line)=ah:=by rfl) (hs:aC (e::es) X.env=(ak,aD e X.env)::aC es X.env:=by rfl) (B9:(bK cpos (aC es X.env)).any (·.1)=ak:=by rfl) : DE X E (.Call (.Attribute o name apos) (e::es) [] cpos) (lC f d ds):=λF S ε σ H Q rl h=>by
 refine bC (rg PySem.F.plainAttrs_str slot ot hm bD fZ qd Cc qe hs B9) (ho F S ε σ H _ rl ((Ok.bind h).imp λx ε1 F1 S1 H1 r1 g1 h1 v rv=>?_));cases x <;> first | exact(show False from h1).elim | skip
 rename_i y;obtain⟨rfl,hz⟩:=rv;refine⟨rfl,?_⟩;have h1:Ok X.K E σ F1 S1 H1 ((ds ε1).bind λys ε2=>aO (f y ys) ε2) _:=h1;refine ha F1 S1 ε1 σ H1 _ r1 ((Ok.bind h1).imp λxs ε2 F2 S2 H2 r2 g2 h2 vs iU=>?_);cases e:f y xs with
 | none=>rw[e]at h2; exact h2.elim
 | some pv=>rw[e]at h2;exact hp F2 H2 y xs vs Q pv hz iU e λw F' H' al rw'=>h2 F' S2 H' (r2.al al) al.grow w rw'
def oW(g:Tx):List PV->Option PV
 | [.lst xs]=>(gx xs).bind λls=>if j3 g ls<=bi then aa (.str (d8 g ls))else ae
 | [.tup xs]=>(gx xs).bind λls=>if j3 g ls<=bi then aa (.str (d8 g ls))else ae
 | _=>ae
theorem E_:PM K (zg K) oW:=λF H g xs vs Q pv hg rs e q=>by
 have fin:∀ (ys:List PV) (p:af) (us:List V),Reps K H F ys us->(bR K H p us\/cq K H p us)->((gx ys).bind λls=>if j3 g ls<=bi then aa (PV.str (d8 g ls))else ae)=aa pv->zg K (tV g) [.ref p] H Q:=λys p us ra hq e=>by
  cases q1:gx ys with
  | none=>rw[q1]at e; cases e
  | some ls=>
   rw[q1,iC]at e;split at e
   ·rename_i hw;cases e;have hu:=(Rj.mp (vq q1 ▸ ra)).1;subst hu;exact⟨g,p,ls,rfl,rfl,hq,hw,q _ F H (Al.refl ..) ⟨rfl,cr (wy g ls) hw⟩⟩
   ·cases e
 unfold oW at e;split at e
 ·obtain⟨v,rfl,a,us,rfl,ha,_,ra⟩:=gf rs;exact fin _ a us ra (.inl (.inl ha)) e
 ·obtain⟨v,rfl,a,us,rfl,ha,ra⟩:=gf rs;exact fin _ a us ra (.inr (cq.of ha)) e
 ·cases e
theorem FQ{H:Hp}{F:af->Prop}:∀ (ls:List Tx),(∀ x∈ls,x.length<=bi)->Reps K H F (am ls) (cI ls)
 | [],_=>rfl
 | x::ls,h=>⟨tV x,cI ls,rfl,⟨rfl,h x (by simp)⟩,FQ ls λy hy=>h y (by simp[hy])⟩
theorem CI(c:Nat):∀ (x:Tx),∀ p∈dD c x,p.length<=x.length
 | [],p,h=>by simp[dD]at h; subst h; simp
 | a::x,p,h=>by
  have ih:=CI c x;unfold dD at h;split at h
  ·rcases bV.mp h with rfl | h
   ·simp
   ·have:=ih p h; simp; lia
  ·split at h
   ·rename_i e; exact absurd e (Mt c x)
   ·rename_i q r e;rcases bV.mp h with rfl | h
    ·have:=ih q (by rw[e]; simp); simp; lia
    ·have:=ih p (by rw[e]; simp[h]); simp; lia
def qz(y:Tx):List PV->Option PV
 | [.str [c]]=>aa (.lst (am (dD c y)))
 | _=>ae
theorem Kj:PM K FV qz:=λF H y xs vs Q pv hg rs e q=>by
 unfold qz at e;split at e
 ·rename_i c;cases e;obtain⟨v,rfl,rfl,_⟩:=gf rs;exact⟨y,c,rfl,rfl,hg,λl hl=>q _ _ _ (Al.new hl) ⟨l,_,rfl,.inl b_,.inr rfl,FQ _ λp hp=>cr (CI c y p hp) hg⟩⟩
 ·cases e
def jZ:List PV->Option PV
 | [.int i]=>if 0<=i/\i<10 then aa (.str [48+i.toNat])else ae
 | _=>ae
theorem w_:PL K (λxs H Q=>∃ i,xs=[.int i]/\i.natAbs.log2<1920/\Q (.str ((toString i:String):Str)) H) jZ:=λF H xs vs Q pv rs e q=>by
 unfold jZ at e;split at e
 ·rename_i i;split at e
  ·rename_i hi;cases e;obtain⟨v,rfl,rv⟩:=gf rs;have key0:∀ n:Fin 10,((toString ((n.val:Nat):Int):String):Str)=tS [48+n.val]/\(((n.val:Nat):Int)).natAbs.log2<1920:=by decide +kernel
   have key:((toString i:String):Str)=tS [48+i.toNat]/\i.natAbs.log2<1920:=by obtain⟨n,rfl⟩:=Int.eq_ofNat_of_zero_le hi.1;exact key0 ⟨n,Int.ofNat_lt.mp hi.2⟩
   refine⟨i,by rw[show v=V.int i from rv],key.2,?_⟩;rw[key.1];exact q _ F H (Al.refl ..) ⟨rfl,by show 1<=bi; decide⟩
  ·cases e
 ·cases e
end
section
variable{K:aq}{F F':af->Prop}{S S':Nat->af->Prop}{ε ε':aj}{σ:St}{H H':Hp}{i:Nat}{po:PO}
variable{a b:af}{ft:List (List PV)}{as:List af}{j:Nat}{xs:List PV}{vs:List V}
theorem jz.len(h:jz K H F ft as):as.length=ft.length:=by
 unfold jz at h
 induction h with
 | nil=>rfl
 | cons _ _ ih=>simp[ih]
theorem jz.get(h:jz K H F ft as)(e:ft[j]?=aa xs):∃ b vs,as[j]?=aa b/\H b=aa (.lst vs)/\Reps K H F xs vs:=by
 unfold jz at h
 induction h generalizing j with
 | nil=>simp at e
 | cons r _ ih=>
  cases j with
  | zero=>simp at e; subst e; obtain⟨vs,h1,h2⟩:=r; exact⟨_,vs,rfl,h1,h2⟩
  | succ j=>obtain⟨b,vs,q⟩:=ih (j:=j) (by simpa using e); exact⟨b,vs,by simpa using q⟩
theorem jz.set(h:jz K H F ft as)(nd:as.Nodup)(e:as[j]?=aa b){H':Hp}(oA:∀ x v,Reps K H F x v->Reps K H' F x v)(ho:∀ c o,c∈as->c≠b->H c=aa o->H' c=aa o)(hb:∃ vs',H' b=aa (.lst vs')/\Reps K H' F xs vs'):jz K H' F (ft.set j xs) as:=by
 unfold jz at h ⊢
 induction h generalizing j with
 | nil=>exact .nil
 | cons r hr ih=>
  rename_i x c ft as;have nd2:=j8.mp nd;cases j with
  | zero=>simp at e; subst e;refine .cons hb ?_;exact jz.mono (K:=K) oA (λd o hd=>ho d o (by simp[hd]) (by rintro rfl; exact nd2.1 hd)) hr
  | succ j=>
   have e2:as[j]?=aa b:=by simpa using e
   have uU:b∈as:=Bv e2;obtain⟨vs,h1,h2⟩:=r;exact .cons ⟨vs,ho c _ (by simp) (by rintro rfl; exact nd2.1 uU) h1,oA _ _ h2⟩ (ih nd2.2 e2 λd o hd=>ho d o (by simp[hd]))
end
theorem jz.snoc{K:aq}{H:Hp}{F:af->Prop}{ft:List (List PV)}{as:List af}{xs:List PV}{b:af}{vs:List V}(h:jz K H F ft as)(hb:H b=aa (.lst vs))(hr:Reps K H F xs vs):jz K H F (ft++[xs]) (as++[b]):=BD h ⟨vs,hb,hr⟩
def fX(pin:List Nat):Nat->aj->Bool
 | _,[]=>ah
 | i,.own po::ss=>pin.contains i && jo po && fX pin (i+1) ss
 | i,_::ss=>fX pin (i+1) ss
theorem qD{pin:List Nat}:∀ {ss:aj} {k:Nat},fX pin k ss=ah->∀ (i:Nat) po,ss[i]?=aa (.own po)->k+i∈pin/\jo po=ah
 | [],_,_,i,po,e=>by simp at e
 | .own q::ss,k,h,0,po,e=>by simp only[List.getElem?_cons_zero,Option.some.injEq,Slot.own.injEq]at e;subst e;simp only[fX,fc]at h;exact⟨by simpa using h.1.1,h.1.2⟩
 | .own q::ss,k,h,i+1,po,e=>by simp only[fX,fc]at h;have:=qD (k:=k+1) h.2 i po (by simpa using e);rwa[uA,oi]at this
 | .val q::ss,k,h,0,po,e=>by simp at e
 | .none::ss,k,h,0,po,e=>by simp at e
 | .val q::ss,k,h,i+1,po,e=>by have:=qD (k:=k+1) (by simpa[fX]using h) i po (by simpa using e);rwa[uA,oi]at this
 | .none::ss,k,h,i+1,po,e=>by have:=qD (k:=k+1) (by simpa[fX]using h) i po (by simpa using e);rwa[uA,oi]at this
def bM(len:Nat)(pin:List Nat)(g:aj->R Slot):aj->R Slot:=λss=>if ss.length=len/\fX pin 0 ss=ah then g ss else .no
theorem eE{CX:dJ}{P:aM}{w:aG}{K:aq}{mg:Str->Option ai}{base:aA}{x:Str}{st:aY}{N ps:List Str}{k n:Nat}{d:aj->R aT}{pin:List Nat}(D:cP K mg x st)(Sc:bN N ps (aP st))(hn:N.length=ps.length+n)(hb:∀ (kV doc pm:ai) (an:Option af) (aE ct:ai) (us:List ai),us.length=ps.length->eO (fq x x (gn st) (dm st) (aP st) .none kV doc pm an aE ct) ⟨us,[]⟩=pure (ps.zip us))(d4:∀ (f:af) (aE:ai) (A:aR) (outer:List Env) (s:ao) (H:Hp) (E:XK),bZ k (A.deeper (f_ x (aP st) s.heap.objs.size f aE))->fU (fY CX P w K mg base N x (aP st) f aE A outer s H E) E pin (dm st) d) : cF CX P w K mg base x (k+1) ps (br K (bM ps.length pin (bu n d))):=by
 have no:∀ {ss},bM ps.length pin (bu n d) ss≠.no->ss.length=ps.length/\fX pin 0 ss=ah:=λ{ss} h=>by
  unfold bM at h;by_cases z:ss.length=ps.length/\fX pin 0 ss=ah
  ·exact z
  ·rw[if_neg z]at h; exact absurd rfl h
 exact QE D Sc hn hb (λss h=>(no h).1) (λss h i po e=>by have:=qD (no h).2 i po e; rwa[rX]at this) (λss h=>by unfold bM; rw[if_pos (no h)]) d4
theorem Er{f:af}{fd:e_}{CX:dJ}{P:aM}{w:aG}{K:aq}{mg:Str->Option ai}{base:aA}{x qual:Str}{st:aY}{N ps:List Str}{k n:Nat}{d:aj->R aT}{pin:List Nat}(Fn:ko K x qual st f fd)(Sc:bN N ps (aP st))(hn:N.length=ps.length+n)(hb:∀ (kV doc pm:ai) (an:Option af) (aE ct:ai) (us:List ai),us.length=ps.length->eO (fq x qual (gn st) (dm st) (aP st) .none kV doc pm an aE ct) ⟨us,[]⟩=pure (ps.zip us))(d4:∀ (f:af) (aE:ai) (A:aR) (outer:List Env) (s:ao) (H:Hp) (E:XK),bZ k (A.deeper (f_ qual (aP st) s.heap.objs.size f aE))->fU (fY CX P w K mg base N qual (aP st) f aE A outer s H E) E pin (dm st) d) : ez P w K mg base CX (k+1) f fd ps (br K (bM ps.length pin (bu n d))):=by
 have no:∀ {ss},bM ps.length pin (bu n d) ss≠.no->ss.length=ps.length/\fX pin 0 ss=ah:=λ{ss} h=>by
  unfold bM at h;by_cases z:ss.length=ps.length/\fX pin 0 ss=ah
  ·exact z
  ·rw[if_neg z]at h; exact absurd rfl h
 exact E2 Fn Sc hn hb (λss h=>(no h).1) (λss h i po e=>by have:=qD (no h).2 i po e; rwa[rX]at this) (λss h=>by unfold bM; rw[if_pos (no h)]) d4
theorem Ki{P:aM}{w:aG}{K:aq}{mg:Str->Option ai}{base:aA}{x:Str}{st:aY}{N ps:List Str}{k n:Nat}{d:aj->R aT}{pin:List Nat}(D:cP K mg x st)(Sc:bN N ps (aP st))(hn:N.length=ps.length+n)(hb:∀ (kV doc pm:ai) (an:Option af) (aE ct:ai) (us:List ai),us.length=ps.length->eO (fq x x (gn st) (dm st) (aP st) .none kV doc pm an aE ct) ⟨us,[]⟩=pure (ps.zip us))(d4:∀ (f:af) (aE:ai) (A:aR) (outer:List Env) (s:ao) (H:Hp),jr k (A.deeper (f_ x (aP st) s.heap.objs.size f aE))->fU (t_ P w K mg base N x (aP st) f aE A outer s H) E0 pin (dm st) d) : vT P w K mg base x (k+1) ps (br K (bM ps.length pin (bu n d))):=by
 have no:∀ {ss},bM ps.length pin (bu n d) ss≠.no->ss.length=ps.length/\fX pin 0 ss=ah:=λ{ss} h=>by
  unfold bM at h;by_cases z:ss.length=ps.length/\fX pin 0 ss=ah
  ·exact z
  ·rw[if_neg z]at h; exact absurd rfl h
 exact Ii D Sc hn hb (λss h=>(no h).1) (λss h i po e=>by have:=qD (no h).2 i po e; rwa[rX]at this) (λss h=>by unfold bM; rw[if_pos (no h)]) d4
theorem Gy{P:List ai->Prop}(h:∀ a,P [a])(us:List ai)(hl:us.length=1):P us:=by
 cases us with
 | nil=>cases hl
 | cons a r=>cases r with
  | nil=>exact h a
  | cons b r=>cases hl
theorem GQ{P:List ai->Prop}(h:∀ a b,P [a,b])(us:List ai)(hl:us.length=2):P us:=by
 cases us with
 | nil=>cases hl
 | cons a r=>exact Gy (P:=λr=>P (a::r)) (h a) r (ya hl)
theorem DC{P:List ai->Prop}(h:∀ a b c,P [a,b,c])(us:List ai)(hl:us.length=3):P us:=by
 cases us with
 | nil=>cases hl
 | cons a r=>exact GQ (P:=λr=>P (a::r)) (h a) r (ya hl)
theorem PH{P:List ai->Prop}(h:∀ a b c d,P [a,b,c,d])(us:List ai)(hl:us.length=4):P us:=by
 cases us with
 | nil=>cases hl
 | cons a r=>exact DC (P:=λr=>P (a::r)) (h a) r (ya hl)
theorem Rw{fd:e_}{ps:List Str}(h:∀ a,eO fd ⟨[a],[]⟩=pure (ps.zip [a]))(us:List ai)(hl:us.length=1):eO fd ⟨us,[]⟩=pure (ps.zip us):=Gy (P:=λus=>eO fd ⟨us,[]⟩=pure (ps.zip us)) h us hl
theorem Rg{fd:e_}{ps:List Str}(h:∀ a b,eO fd ⟨[a,b],[]⟩=pure (ps.zip [a,b]))(us:List ai)(hl:us.length=2):eO fd ⟨us,[]⟩=pure (ps.zip us):=GQ (P:=λus=>eO fd ⟨us,[]⟩=pure (ps.zip us)) h us hl
theorem Rs{fd:e_}{ps:List Str}(h:∀ a b c,eO fd ⟨[a,b,c],[]⟩=pure (ps.zip [a,b,c]))(us:List ai)(hl:us.length=3):eO fd ⟨us,[]⟩=pure (ps.zip us):=DC (P:=λus=>eO fd ⟨us,[]⟩=pure (ps.zip us)) h us hl
theorem RJ{fd:e_}{ps:List Str}(h:∀ a b c d,eO fd ⟨[a,b,c,d],[]⟩=pure (ps.zip [a,b,c,d]))(us:List ai)(hl:us.length=4):eO fd ⟨us,[]⟩=pure (ps.zip us):=PH (P:=λus=>eO fd ⟨us,[]⟩=pure (ps.zip us)) h us hl
theorem jy{P:aM}{w:aG}{X:Cx}:i9 (b8 P w) X E0:=λ_ _ _ _ _ _ _ h=>by obtain⟨a,T,c,H',_,_,_,_,_,_,_,z⟩:=h;exact z.elim
theorem iG:ef "len" = aa (.builtin "len"):=by decide +kernel
theorem Bc:ef "all" = aa (.builtin "all"):=by decide +kernel
theorem NB:ef "any" = aa (.builtin "any"):=by decide +kernel
theorem zS:ef "sorted" = aa (.builtin "sorted"):=by decide +kernel
theorem gQ:ef "isinstance" = aa (.builtin "isinstance"):=by decide +kernel
theorem NP:ef "int" = aa (.type "int"):=by decide +kernel
theorem NC:ef "bool" = aa (.type "bool"):=by decide +kernel
theorem qK:ef "str" = aa (.type "str"):=by decide +kernel
theorem Du:ef "list" = aa (.type "list"):=by decide +kernel
theorem vY:ef "tuple" = aa (.type "tuple"):=by decide +kernel
theorem L6:ef "set" = aa (.type "set"):=by decide +kernel
theorem OK:ef "ValueError" = aa (.type "ValueError"):=by decide +kernel
def nI:aB->Bool
 | .Starred _ _=>ah
 | _=>ak
theorem lZ{e:aB}{es:List aB}{env:Env}(h:nI e=ak):aC (e::es) env=(ak,aD e env)::aC es env:=by
 cases e <;> first | rfl | cases h
section
variable{X:Cx}{E:XK}{e:aB}{es:List aB}{d:aj->R PV}{ds:aj->R (List PV)}{dg:aj->R (List bA)}
theorem aK(ha:DE X E e d)(hr:DA X E es ds)(h:nI e=ak:=by rfl):DA X E (e::es) (az d ds):=Mu ha hr (lZ h)
theorem ba(ha:DE X E e d)(hr:DG X E es dg)(h:nI e=ak:=by rfl):DG X E (e::es) (gV d dg):=J2 ha hr (lZ h)
end
def tq:List ai:=[.type "ValueError",.type "Exception",.type "BaseException",.type "object"]
theorem AR{K:aq}{h:aA}{C:af}{B:List ai}{nw:String}(X:K.In h)(q:oj K C B nw=ah) : ∃ bm N nm qn bs hd sn sub ab col dd k0 k1 k2 k3 k5 mN,h.get? C=aa (BP nm qn C N bs bm hd sn sub ab col dd k0 k1 k2 k3 k5 nw)/\h.Ns N mN/\mN "__init__" = ae/\OwnTail h B bm:=by
 unfold oj at q;split at q
 case h_2=>cases q
 case h_1 d0 cdata slots look=>
  split at q
  case h_2=>cases q
  case h_1 C2 tl s0 s1 s2 s3 nn s5 em es=>
   rw[fc,fc,fc,fc,fc]at q;obtain⟨⟨⟨⟨⟨q1,q2⟩,q3⟩,q4⟩,q5⟩,q6⟩:=q;have r1:=beq_iff_eq.mp q1;have r2:=beq_iff_eq.mp q2;have r6:=beq_iff_eq.mp q6;subst r1 r2;cases cdata;dsimp only at em q3 q5 r6;subst em;have r3:=HI _ |>.mp q3
   subst r3;have r7:slots = #[s0,s1,s2,s3,aa (.builtin nn),s5]:=by cases slots; exact congrArg Array.mk es
   subst r7;exact⟨tl,_,_,_,_,_,_,_,_,_,d0,s0,s1,s2,s3,s5,_,X _ _ look,Heap.Ns.of_isNs (PySem.W.isNs_of_in X q5),PySem.W.nsMap_none_of_in X q5 r6,PySem.W.tail_of_in X q4⟩
theorem qE{K:aq}{h:aA}{mg:Str->Option ai}{x:Str}{C:af}{B:List ai}{nw:String}(X:K.In h)(e:mg x=aa (.ref C))(q:oj K C B nw=ah):qa x C B nw mg h:=⟨e,AR X q⟩
theorem Pb{K:aq}{h:aA}{C:af}{nw:String}(X:K.In h)(q:oj K C tq nw=ah):rf h C:=by obtain⟨bm,N,nm,qn,bs,hd,sn,sub,ab,col,dd,k0,k1,k2,k3,k5,mN,e,_,_,t⟩:=AR X q;exact⟨bm,N,nm,qn,bs,hd,sn,sub,ab,col,dd,k0,k1,k2,k3,k5,nw,e,t.hasType rfl⟩
def subB(K:aq)(D C:af):Bool:=match K.lookup C with
 | some ⟨_,_,.cls cd,_⟩=>cd.mro.contains (.ref D)
 | _=>ak
theorem KG{K:aq}{h:aA}{C D:af}{B:List ai}{nw:String}(X:K.In h)(q:oj K C B nw=ah)(s:subB K D C=ah):Under h D (.ref C):=by
 obtain⟨bm,N,nm,qn,bs,hd,sn,sub,ab,col,dd,k0,k1,k2,k3,k5,mN,e,_⟩:=AR X q;refine⟨C,bm,N,nm,qn,bs,hd,sn,sub,ab,col,dd,k0,k1,k2,k3,k5,nw,rfl,e,?_⟩;unfold subB at s;split at s
 ·rename_i o1 o2 cd o3 look;have e2:=X _ _ look;rw[e]at e2;unfold BP at e2;cases e2;exact s
 ·cases s
def ww(K:aq)(C:af):Bool :=
 ie K (.ref C) "__getattribute__" == aa (aa (.builtin "BaseException.__getattribute__")) && ie K (.ref C) "__getattr__" == aa ae && ie K (.ref C) "__class__" == aa (aa (.builtin "object.__class__")) &&
 Hh K (.builtin "object.__class__") "__get__" == aa (aa (.builtin "getset_descriptor.__get__")) && PySem.W.takesIn K (.builtin "object.__class__") == aa ah && xH K C (.type "object") == aa ah && xH K C (.type "BaseException") == aa ah && (BQ K C).isSome
theorem DL{K:aq}{C:af}(h:ww K C=ah):nE K C:=by simp only[ww,fc,beq_iff_eq]at h;obtain⟨⟨⟨⟨⟨⟨⟨h1,h2⟩,h3⟩,h4⟩,h5⟩,h6⟩,h7⟩,h8⟩:=h;exact⟨h1,h2,h3,h4,h5,h6,h7,h8⟩
def yv(K:aq):Bool:=K.all λp=>match p.2.cls with
 | .type t=>t != "list"
 | _=>ah
theorem F_{a:af}{o:Obj}:∀ {K:aq},K.lookup a=aa o->(a,o)∈K
 | [],e=>by cases e
 | (b,u)::K,e=>by
  rw[je]at e;cases q:a == b with
  | true=>rw[q]at e; cases e; rw[beq_iff_eq.mp q]; exact mC ..
  | false=>rw[q]at e; exact jA _ (F_ e)
theorem EU{K:aq}{H:Hp}{F:af->Prop}:∀ ns:List Int,Reps K H F (ns.map .int) (ns.map V.int)
 | []=>rfl
 | x::ns=>⟨.int x,ns.map V.int,rfl,rfl,EU ns⟩
theorem OU{K:aq}{H:Hp}{a:af}{xs:List V}(h:yv K=ah)(s:bR K H a xs):Rd H a (.lst xs):=by
 rcases s with s | ⟨o,its,n,lk,hc,_⟩
 ·exact s
 ·have:=lP.mp h _ (F_ lk);rw[hc]at this;simp at this
theorem Pz{K:aq}{g:aj->R Slot}{H:Hp}{a:af}{ns:List Int}{E:XK}(hr:Rd H a (.lst (ns.map V.int)))(h:g [.val (.lst (ns.map .int))] = .ok (.val (.bl ah)) [.val (.lst (ns.map .int))]):br K g [.ref a] H (λv _=>v = .bl ah) E:=by
 refine⟨λb=>b=a,λ_ _=>False,[.val (.lst (ns.map .int))],⟨rfl,λb e=>?_,λi pv e=>?_,λi po e=>?_,λi b z=>z.elim,λi j b z=>z.elim⟩,?_⟩
 ·subst e;rcases hr with hr | ⟨o,hr⟩ <;> exact⟨_,hr⟩
 ·cases i with
  | zero=>cases e; exact⟨_,rfl,a,_,rfl,hr,rfl,EU ns⟩
  | succ i=>simp at e
 ·cases i with
  | zero=>cases e
  | succ i=>simp at e
 ·rw[h];exact λv F' S' H' Sr _ _ rv _ _=>rv.1
theorem RC{K:aq}{x:Str}{i:Int}{t:Tok}(e:cD K bQ x=aa (aa (.int i t))):∃ t,cD K bQ x=aa (aa (.int i t)):=⟨t,e⟩
theorem Rx{K:aq}{x:Str}{l:Tx}{t:Tok}(e:cD K bQ x=aa (aa (.str (tS l) t))):∃ t,cD K bQ x=aa (aa (.str (tS l) t)):=⟨t,e⟩
def dS(K:aq)(x:Str)(st:aY):Prop:=∃ f oc od kV dc pm an cd ct sl,cD K bQ x=aa (aa (.ref f))/\K.lookup f=aa ⟨oc,od,.func (fq x x (gn st) (dm st) (aP st) .none kV dc pm an cd ct),sl⟩/\pX K cd x=ah/\jC K (.ref f)=ah
theorem Re{K:aq}{x:Str}{st:aY}{f:af}{oc kV dc pm cd ct:ai}{od an:Option af}{sl:Array (Option ai)}(a:cD K bQ x=aa (aa (.ref f)))(l:K.lookup f=aa ⟨oc,od,.func (fq x x (gn st) (dm st) (aP st) .none kV dc pm an cd ct),sl⟩)(c:pX K cd x=ah) (k:jC K (.ref f)=ah):dS K x st:=⟨f,oc,od,kV,dc,pm,an,cd,ct,sl,a,l,c,k⟩
theorem dS.at{K:aq}{h:aA}{mg:Str->Option ai}{x:Str}{st:aY}(d:dS K x st)(X:K.In h)(G:h.Ns bQ mg):cP K mg x st:=by obtain⟨f,oc,od,kV,dc,pm,an,cd,ct,sl,a,l,c,k⟩:=d;exact⟨f,_,eQ X G a,wV l c k⟩
def l_(kvs:List (aJ×PV))(k:aJ):Option PV:=(kvs.find? λkv=>decide (kv.1=k)).map (·.2)
def qC(kvs:List (aJ×PV))(k:aJ)(v:PV):List (aJ×PV):=if(kvs.any λkv=>decide (kv.1=k))=ah then kvs.map (λkv=>if kv.1=k then(kv.1,v)else kv)else kvs++[(k,v)]
def kr:PV->Option aJ
 | .int i=>aa (.inl i)
 | .str x=>aa (.inr (tS x))
 | _=>ae
section
variable{K:aq}{F:af->Prop}{S:Nat->af->Prop}{ε:aj}{σ:St}{H:Hp}{i:Nat}{kvs:List (aJ×PV)}{ws:List (aJ×V)}{a:af}
theorem AN{x:PV}{v:V}{k:aJ}(r:aV K H F x v)(e:kr x=aa k):v=kV k:=by
 cases x <;> simp[kr]at e
 ·subst e; exact r
 ·subst e; exact r.1
theorem f7.len(h:f7 K H F kvs ws):ws.length=kvs.length:=by
 unfold f7 at h
 induction h with
 | nil=>rfl
 | cons _ _ ih=>simp[ih]
theorem f7.val(h:f7 K H F kvs ws)(k:aJ):(∃ x v,l_ kvs k=aa x/\i8 ws k=aa v/\aV K H F x v)\/(l_ kvs k=ae/\i8 ws k=ae):=by
 unfold f7 at h
 induction h with
 | nil=>exact .inr ⟨rfl,rfl⟩
 | @cons p q ps qs r _ ih=>
  by_cases e:p.1=k
  ·refine .inl ⟨p.2,q.2,by simp[l_,j_,e],?_,r.2⟩;rw[wR (by rw[← r.1]; exact e)]
  ·have e2:¬ q.1=k:=by rw[← r.1]; exact e
   rw[we e2];have:l_ (p::ps) k=l_ ps k:=by simp[l_,j_,e]
   rw[this]; exact ih
theorem f7.any(h:f7 K H F kvs ws)(k:aJ):(kvs.any λkv=>decide (kv.1=k))=ws.any λkv=>decide (kv.1=k):=by
 unfold f7 at h
 induction h with
 | nil=>rfl
 | cons r _ ih=>rw[p0,p0,ih,r.1]
theorem f7.put(h:f7 K H F kvs ws)(k:aJ){x:PV}{v:V}(r:aV K H F x v):f7 K H F (qC kvs k x) (h_ ws k v):=by
 unfold qC h_;rw[h.any k];split
 ·rename_i hA;clear hA;unfold f7 at h ⊢
  induction h with
  | nil=>exact .nil
  | @cons p q ps qs r1 _ ih=>
   refine .cons ?_ ih;dsimp only;by_cases e:p.1=k
   ·rw[if_pos e,if_pos (by rw[← r1.1]; exact e)]; exact⟨r1.1,r⟩
   ·rw[if_neg e,if_neg (by rw[← r1.1]; exact e)]; exact r1
 ·exact BD h ⟨rfl,r⟩
theorem aH.dkAt(r:aH K F S ε σ H)(e:ε[i]?=aa (.own (.dK kvs))):∃ a ws,σ[i]?=aa (aa (.ref a))/\H a=aa (.dK ws)/\f7 K H F kvs ws/\S i a/\∀ b,S i b->b=a:=by obtain⟨a,e1,⟨vs,h1,h2⟩,h3⟩:=r.own i _ e;exact⟨a,vs,e1,h1,h2,(h3 a).mpr rfl,λb h=>(h3 b).mp h⟩
theorem aH.updO{po po':PO}{o':HO}(r:aH K F S ε σ H)(e:ε[i]?=aa (.own po))(hf:jo po=ah)(ea:σ[i]?=aa (aa (.ref a)))(hn:cR o')(h:∀ H',(∀ x v,aV K H F x v->aV K H' F x v)->(∀ x v,Reps K H F x v->Reps K H' F x v)->H' a=aa o'->∀ Sa:af->Prop,(∀ b,Sa b↔b=a)->dX K H' F po' a Sa) : aH K F S (ε.set i (.own po')) σ (L2.upd H a o')/\a_ (U S) (U S) F F H (L2.upd H a o'):=by
 obtain⟨a',e1,ow⟩:=r.own i po e;rw[ea]at e1;cases e1;have h34:=D7 ow hf;have h3:S i a:=(h34 a).mpr rfl;have h4:∀ b,S i b->b=a:=λb z=>(h34 b).mp z;have hi:i<ε.length:=(cu.mp e).1;have g:a_ (U S) (U S) F F H (L2.upd H a o'):=⟨λ_ z=>z,λb o q n=>by rw[bw (by rintro rfl; exact n ⟨i,h3⟩)]; exact q,λb o q=>by
  by_cases hb:b=a
  ·subst hb; exact⟨_,b_⟩
  ·exact⟨o,by rw[bw hb]; exact q⟩,λ_ z=>.inl z,λ_ z=>.inl z⟩
 refine⟨⟨by rw[fL]; exact r.len,λb z=>let ⟨o,q⟩:=r.ex b z; g.there b o q,λj pv q=>?_,λj po q=>?_,λj b z=>?_,r.dist⟩,g⟩
 ·have hj:i≠j:=by rintro rfl; rw[cA hi]at q; cases q
  rw[cg hj]at q;obtain⟨v,q1,q2⟩:=r.val j pv q;exact⟨v,q1,q2.grow g r.fit⟩
 ·by_cases hj:i=j
  ·subst hj;rw[cA hi]at q;cases q;exact⟨a,ea,h _ (λ_ _ z=>z.grow g r.fit) (λ_ _ z=>z.grow g r.fit) b_ _ h34⟩
  ·rw[cg hj]at q;obtain⟨c,q1,q2⟩:=r.own j po q;refine⟨c,q1,q2.mono (λ_ _ z=>z.grow g r.fit) (λ_ _ z=>z.grow g r.fit) λb o z w=>?_⟩;rw[bw (by rintro rfl; exact hj (r.dist i j b h3 z))]; exact w
 ·obtain⟨⟨po,q1⟩,q2,o,q3,q4⟩:=r.foot j b z;by_cases hj:i=j
  ·subst hj;rw[h4 b z];exact⟨⟨_,cA hi⟩,by rw[← h4 b z]; exact q2,_,b_,hn⟩
  ·exact⟨⟨po,by rw[cg hj]; exact q1⟩,q2,o,by rw[bw (by rintro rfl; exact hj (r.dist i j b h3 z))]; exact q3,q4⟩
end
def fH(ε:aj)(i:Nat):Option (List (aJ×PV)):=match ε[i]? with
 | some (.own (.dK kvs))=>aa kvs
 | _=>ae
theorem nO{ε:aj}{i:Nat}{kvs:List (aJ×PV)}(h:fH ε i=aa kvs):ε[i]?=aa (.own (.dK kvs)):=by
 unfold fH at h;split at h
 ·cases h; assumption
 ·cases h
section
variable{X:Cx}{E:XK}{pin:List Nat}{e b c:aB}{de db dc:aj->R PV}{pos:Pos}
def zB:aj->R PO:=λε=>.ok (.dK []) ε
theorem J8:DN X E (.Dict [] [] pos) zB:=λF S ε σ H Q rl h=>bC KU λp hp=>by
 have al:Al F F H (upd H p (.dK [])):=Al.new0 hp;refine h F S _ (rl.al al) al.grow p (λb=>b=p) ⟨⟨[],b_,.nil⟩,λb=>Iff.rfl⟩ λb z=>?_;subst z;refine⟨hp,λz=>?_,λ⟨j,z⟩=>?_,_,b_,trivial⟩
 ·obtain⟨o,q⟩:=rl.ex b z; rw[hp]at q; cases q
 ·obtain⟨_,_,o,q,_⟩:=rl.foot j b z; rw[hp]at q; cases q
def pJ(i:Nat)(db:aj->R PV):aj->R PV:=λε=>(aO (fH ε i) ε).bind λ_ ε=>(db ε).bind λk ε1=>(aO (fH ε1 i) ε1).bind λkvs ε1=>aO ((kr k).bind λk=>l_ kvs k) ε1
theorem Ev(i:Nat){y:Str}{yp:Pos}(hu:X.A.units+64<cLine)(hb:DE X E b db)(hN:X.N[i]?=aa y:=by rfl)(gJ:c7 X.env.scope y:=by first | exact Or.inl rfl | exact Or.inr (Or.inl rfl) | exact Or.inr (Or.inr rfl))(hd:(y == ("__debug__" : Str))=ak:=by decide) (a7:(y == ("__classdict__" : Str))=ak:=by decide) (hs:zT b:=by exact λ_ _=>rfl):DE X E (.Subscript (.Name y yp) b pos) (pJ i db):=λF S ε σ H Q rl h=>by
 unfold pJ at h;cases e0:fH ε i with
 | none=>rw[e0]at h; exact h.elim
 | some kvs0=>
  rw[e0]at h;simp only[cz,R.bind_ok]at h;obtain⟨a,ws0,ea,_⟩:=rl.dkAt (nO e0);refine bC (Ix ∅ (dP hN gJ hd a7) bD hs) ⟨.ref a,ea,hb F S ε σ H _ rl ((Ok.bind h).imp λk ε1 F1 S1 H1 r1 g1 q u ru=>?_)⟩;cases e1:fH ε1 i with
  | none=>rw[e1]at q; exact q.elim
  | some kvs=>
   rw[e1]at q;simp only[cz,R.bind_ok]at q;obtain⟨a',ws,ea',ha,hk,_⟩:=r1.dkAt (nO e1);rw[ea]at ea';cases ea';cases e2:kr k with
   | none=>rw[e2]at q; exact q.elim
   | some ky=>
    rw[e2,iC]at q;rw[AN ru e2];rcases hk.val ky with⟨x,v,h1,h2,h3⟩ | ⟨h1,h2⟩
    ·rw[h1]at q;exact⟨a,v,rfl,by rw[← h2]; exact oZ.k ha,q F1 S1 H1 r1 (a_.refl ..) v h3⟩
    ·rw[h1]at q; exact q.elim
def mr(i:Nat)(db dc:aj->R PV):aj->R PV:=λε=>(aO (fH ε i) ε).bind λ_ ε=>(db ε).bind λk ε1=>(dc ε1).bind λz ε2=>(aO (fH ε2 i) ε2).bind λkvs ε2=>aO ((kr k).map λk=>(l_ kvs k).getD z) ε2
theorem FT(i:Nat){y:Str}{yp apos:Pos}(hu:X.A.units+64<cLine)(hb:DE X E b db)(hc:DE X E c dc)(hN:X.N[i]?=aa y:=by rfl)(gJ:c7 X.env.scope y:=by first | exact Or.inl rfl | exact Or.inr (Or.inl rfl) | exact Or.inr (Or.inr rfl))(hd:(y == ("__debug__" : Str))=ak:=by decide) (a7:(y == ("__classdict__" : Str))=ak:=by decide)(h1:f9 (.Name y yp) "get" X.env (aD (.Name y yp) X.env)=aD (.Name y yp) X.env:=by rfl) (h3:(apos.endLine == pos.line)=ah:=by rfl) (s1:nI b=ak:=by rfl) (s2:nI c=ak:=by rfl) : DE X E (.Call (.Attribute (.Name y yp) "get" apos) [b,c] [] pos) (mr i db dc):=λF S ε σ H Q rl h=>by
 have st:aC [b,c] X.env=[(ak,aD b X.env),(ak,aD c X.env)]:=by rw[lZ s1,lZ s2]; rfl
 have m:M2 X (.Name y yp) "get" apos b c pos:=⟨h1,by rw[st]; rfl,h3,by rw[st]; rfl⟩
 unfold mr at h;cases e0:fH ε i with
 | none=>rw[e0]at h; exact h.elim
 | some kvs0=>
  rw[e0]at h;simp only[cz,R.bind_ok]at h;obtain⟨a,ws0,ea,ha0,_⟩:=rl.dkAt (nO e0);refine bC (K3 ∅ (dP hN gJ hd a7) bD bD m) ⟨.ref a,ea,a,rfl,.inl ⟨_,.inl ha0⟩,hb F S ε σ H _ rl ((Ok.bind h).imp λk ε1 F1 S1 H1 r1 g1 q u ru=>?_)⟩;refine hc F1 S1 ε1 σ H1 _ r1 ((Ok.bind q).imp λz ε2 F2 S2 H2 r2 g2 q w rw'=>?_);cases e1:fH ε2 i with
  | none=>rw[e1]at q; exact q.elim
  | some kvs=>
   rw[e1]at q;simp only[cz,R.bind_ok]at q;obtain⟨a',ws,ea',ha,hk,_⟩:=r2.dkAt (nO e1);rw[ea]at ea';cases ea';cases e2:kr k with
   | none=>rw[e2]at q; exact q.elim
   | some ky=>
    rw[e2,ux]at q;rw[AN ru e2];rcases hk.val ky with⟨x,v,h1,h2,h3⟩ | ⟨h1,h2⟩
    ·rw[h1]at q;exact⟨aa v,by rw[← h2]; exact oZ.k ha,q F2 S2 H2 r2 (a_.refl ..) v h3⟩
    ·rw[h1]at q;exact⟨ae,by rw[← h2]; exact oZ.k ha,q F2 S2 H2 r2 (a_.refl ..) w rw'⟩
def l0(i:Nat)(db de:aj->R PV):aj->R aT:=λε=>(de ε).bind λy ε1=>(aO (fH ε1 i) ε1).bind λ_ ε1=>(db ε1).bind λk ε2=>(aO (fH ε2 i) ε2).bind λkvs ε2=>(aO (kr k) ε2).bind λk ε2=>if kvs.length<bi then .ok .next (ε2.set i (.own (.dK (qC kvs k y))))else .no
theorem A8(i:Nat){y:Str}{yp tpos:Pos}(hu:X.A.units+64<cLine)(hb:DE X E b db)(he:DE X E e de)(hN:X.N[i]?=aa y:=by rfl)(gJ:c7 X.env.scope y:=by first | exact Or.inl rfl | exact Or.inr (Or.inl rfl) | exact Or.inr (Or.inr rfl))(hd:(y == ("__debug__" : Str))=ak:=by decide) (a7:(y == ("__classdict__" : Str))=ak:=by decide) (hs:j4 e (aa (.Subscript (.Name y yp) b tpos)) pos.line X.env=pure ak:=by rfl) : DS X E pin (.Assign [.Subscript (.Name y yp) b tpos] e pos) (l0 i db de):=λF S ε σ H D rl h=>by
 refine iw (JU ∅ (dP hN gJ hd a7) bD bD hs) (he F S ε σ H _ rl (h.bindE.imp λy ε1 F1 S1 H1 r1 g1 q v rv=>?_));cases e0:fH ε1 i with
 | none=>rw[e0]at q; exact q.elim
 | some kvs0=>
  rw[e0]at q;simp only[cz,R.bind_ok]at q;obtain⟨a,ws0,ea,ha0,_⟩:=r1.dkAt (nO e0);refine⟨.ref a,ea,hb F1 S1 ε1 σ H1 _ r1 (q.bindE.imp λk ε2 F2 S2 H2 r2 g2 q2 u ru=>?_)⟩;cases e1:fH ε2 i with
  | none=>rw[e1]at q2; exact q2.elim
  | some kvs=>
   rw[e1]at q2;simp only[cz,R.bind_ok]at q2;obtain⟨a',ws,ea',ha,hk,_⟩:=r2.dkAt (nO e1);rw[ea]at ea';cases ea';cases e2:kr k with
   | none=>rw[e2]at q2; exact q2.elim
   | some ky=>
    rw[e2]at q2;simp only[cz,R.bind_ok]at q2;split at q2
    ·rename_i hl;rw[AN ru e2];have fe:=hk.put ky (rv.grow g2 r1.fit);obtain⟨r3,g3⟩:=r2.updO (po':=.dK (qC kvs ky y)) (o':=.dK (h_ ws ky v)) (nO e1) rfl ea trivial λH' m1 m2 hH' Sa hSa=>⟨⟨_,hH',fe.mono m1⟩,hSa⟩
     exact⟨a,_,rfl,xC.k ha (by rw[hk.len]; exact gU hl kA),q2 F2 S2 σ _ r3 g3 (im.refl _ _)⟩
    ·exact q2.elim
end
section
variable{X:Cx}
def tD(a d:af):HO:=.ext λh=>h.IsValuesView a d
theorem M3:rF X "dict.values" (λx xs H Q=>∃ d kvs,x = .ref d/\xs=[]/\H d=aa (.dK kvs)/\∀ a,H a=ae->Q (.ref a) (upd H a (tD a d))):=by
 intro ag s σ H x xs v us Q I rx rs h;obtain⟨d,kvs,rfl,rfl,hd,q⟩:=h;cases rx;cases rs.zero;obtain⟨z,hs,vs,rel,dd⟩:=Ah I.hok hd;refine call_meetsIn PySem.F.slot_dict_values dd.typeIs PySem.F.entry_dict_values (PySem.F.args_dict_values_1 _) (meets_dict_values (iu X.prog X.w) d hs) ⟨⟨vs,dd⟩,?_⟩;refine⟨.ref s.heap.objs.size,_,I.laid (a:=s.heap.objs.size) (o:=tD s.heap.objs.size d) (t':=s.toks) (λ_ _ q=>bG _ q) (bp _) ?_,rfl,q _ I.fresh⟩;exact⟨⟨_,cW _ rfl,rfl,rfl⟩,⟨_,cW _ rfl⟩,λh1 h2 ⟨o,q1,q2⟩ k=>⟨o,k o q1,q2⟩⟩
theorem KV.at{kvs:List (aJ×V)}{vs:List (aJ×ai)}(r:KV kvs vs){i:Nat}{k:aJ}{u:ai}(h:vs[i]?=aa (k,u)):∃ v,kvs[i]?=aa (k,v)/\RelV v u:=by
 unfold KV at r
 induction r generalizing i with
 | nil=>simp at h
 | @cons p q ps qs r1 _ ih=>
  cases i with
  | zero=>simp at h;subst h;exact⟨p.2,by simp[show k=p.1 from r1.1.symm],r1.2⟩
  | succ i=>exact ih (by simpa using h)
def j0(kvs:List (aJ×V)):Option Bool:=match kvs with
 | []=>aa ak
 | (_,.int i)::r=>(j0 r).map λb=>(decide (i≠0)) || b
 | _=>ae
theorem EI:∀ {kvs:List (aJ×V)} {b:Bool},j0 kvs=aa b->(∀ (i:Nat) k v,kvs[i]?=aa (k,v)->∃ n,v = .int n)/\b=(bJ kvs.length).any λi=>match kvs[i]? with | aa (_,.int n)=>decide (n≠0) | _=>ak
 | [],b,h=>by simp[j0]at h; subst h; exact⟨by simp,rfl⟩
 | (k,.int n)::r,b,h=>by
  simp only[j0,Hr]at h;obtain⟨b',h1,h2⟩:=h;obtain⟨i1,i2⟩:=EI h1;refine⟨λi k' v e=>?_,?_⟩
  ·cases i with
   | zero=>simp at e; exact⟨n,e.2.symm⟩
   | succ i=>exact i1 i k' v (by simpa using e)
  ·rw[dq,xR,p0,List.any_map,← h2,i2];rfl
 | (_,.non)::_,_,h=>by simp[j0]at h
 | (_,.bl _)::_,_,h=>by simp[j0]at h
 | (_,.str _)::_,_,h=>by simp[j0]at h
 | (_,.ref _)::_,_,h=>by simp[j0]at h
 | (_,.ty _)::_,_,h=>by simp[j0]at h
theorem J7(hc:X.calm=ah):eu X (.builtin "any") (λxs H Q=>∃ (p d:af) (kvs:List (aJ×V)) (b:Bool),xs=[.ref p]/\H p=aa (tD p d)/\H d=aa (.dK kvs)/\j0 kvs=aa b/\Q (.bl b) H):=by
 intro ag s σ H xs us Q I r h;obtain⟨p,d,kvs,b,rfl,hp,hd,ha,q⟩:=h;obtain⟨u,rfl,ru⟩:=vals1 r;cases ru;obtain⟨hv,_,_⟩:=(show dw X.prog X.w H s.heap p (tD p d)from I.hok p _ hp)
 obtain⟨z,hs,vs,rel,dd⟩:=Ah I.hok hd;obtain⟨ep,hat⟩:=dd.dictAt;obtain⟨i1,i2⟩:=EI ha;refine call_any_walk (wpAny_pyIter_values hv hat ?_);refine⟨s.heap.objs.size,_,_,_,_,_,λi=>match kvs[i]? with | aa (_,.int n)=>decide (n≠0) | _=>ak,rfl,Walks.dictValues (yz (I.ok.hd hc)) _ d (dH hat.lt_size) vs ep,⟨⟨_,cW _ rfl,rfl,rfl⟩,hat.push _⟩,λi v s' Q' E' hv hQ=>?_,λh' tk k=>?_⟩
 ·obtain⟨ky,hx⟩:=hv;obtain⟨w,e1,e2⟩:=KV.at rel hx;obtain⟨n,rfl⟩:=i1 i ky w e1;obtain⟨t,rfl⟩:=e2;dsimp only at hQ;rw[e1]at hQ;exact PyProof.Rows.truthy_int (by rw[show(n != 0)=decide (n≠0) by by_cases z:n=0 <;> simp[z]]; exact hQ)
 ·have I1:Inv X ag σ H { s with heap:=s.heap.push { cls:=.type "dict_valueiterator",data:=.fields #[.ref d,.int 0 0,.int vs.length 0,.int ep 0] },toks:=s.toks }:=I.kept (t':=s.toks) λb o e=>bG _ e;have e5:(bJ vs.length).any (λi=>match kvs[i]? with | aa (_,.int n)=>decide (n≠0) | _=>ak)=b:=by rw[← rel.length]; exact i2.symm
  rw[e5];exact⟨.bl _,H,Inv.turned (t':=tk) I1 (it:=s.heap.objs.size) (λb o hb e=>k b o (by simpa using hb) e) I.fresh (rH I.lt) (.inr I.sz) (λx c e z=>by obtain⟨v,qq⟩:=I.cell x c e;exact absurd qq.lt (by rw[z]; exact gW _)) (λpp hp z=>absurd (bP (I.pin pp hp).1) (by rw[z]; exact gW _)),rfl,q⟩
end
section
variable{X:Cx}{E:XK}{pin:List Nat}{e b c:aB}{de db dc:aj->R PV}{pos:Pos}
def pH:List (aJ×PV)->Option Bool
 | []=>aa ak
 | (_,.int i)::r=>(pH r).map λb=>(decide (i≠0)) || b
 | _=>ae
theorem N3{K:aq}{H:Hp}{F:af->Prop}{kvs:List (aJ×PV)}{ws:List (aJ×V)}{k:Bool}(h:f7 K H F kvs ws)(e:pH kvs=aa k):j0 ws=aa k:=by
 unfold f7 at h
 induction h generalizing k with
 | nil=>exact e
 | @cons p q ps qs r _ ih=>
  obtain⟨pk,pv⟩:=p;obtain⟨qk,qv⟩:=q;cases pv <;> simp only[pH,Hr]at e <;> try cases e
  obtain⟨r1,r2⟩:=r;obtain rfl:qv=V.int _:=r2;rename_i h;simp only[j0,ih h.1,ux];rw[← h.2]
def tj(i:Nat):aj->R PV:=λε=>(aO (fH ε i) ε).bind λkvs ε=>aO ((pH kvs).map .bl) ε
theorem M8(i:Nat){y:Str}{yp p apos cpos:Pos}(hc:X.calm=ah)(hm:X.mg "any" = ae)(hN:X.N[i]?=aa y:=by rfl)(gJ:c7 X.env.scope y:=by first | exact Or.inl rfl | exact Or.inr (Or.inl rfl) | exact Or.inr (Or.inr rfl))(hd:(y == ("__debug__" : Str))=ak:=by decide) (a7:(y == ("__classdict__" : Str))=ak:=by decide) (hg:Gl X "any":=by rfl)(qd:f9 (.Name y yp) "values" X.env (aD (.Name y yp) X.env)=aD (.Name y yp) X.env:=by rfl) (qe:(apos.endLine == cpos.line)=ah:=by rfl)(he:aC [.Call (.Attribute (.Name y yp) "values" apos) [] [] cpos] X.env=(ak,aD (.Call (.Attribute (.Name y yp) "values" apos) [] [] cpos) X.env)::aC [] X.env:=by rfl) (cE:(bK pos (aC [] X.env)).any (·.1)=ak:=by rfl) : DE X E (.Call (.Name "any" p) [.Call (.Attribute (.Name y yp) "values" apos) [] [] cpos] [] pos) (tj i):=λF S ε σ H Q rl h=>by
 unfold tj at h;cases e0:fH ε i with
 | none=>rw[e0]at h; exact h.elim
 | some kvs=>
  rw[e0]at h;simp only[cz,R.bind_ok]at h;obtain⟨a,ws,ea,ha,hk,ia,_⟩:=rl.dkAt (nO e0);cases e1:pH kvs with
  | none=>rw[e1]at h; exact h.elim
  | some k=>
   rw[e1,ux]at h;refine bC (pN (J7 hc) hg hm NB (gP (Dx PySem.F.plainAttrs_dict PySem.F.slot_dict_values PySem.F.type_dict_values M3 (dP hN gJ hd a7) qd qe) i7 he) (by decide) (by decide) he cE) ⟨.ref a,ea,.inr (.inr (.inl ⟨rfl,.inl ⟨_,ha⟩⟩)),a,ws,rfl,rfl,ha,λq hq=>?_⟩;have al:Al F F H (L2.upd H q (tD q a)):=Al.new0 hq;have cY:a≠q:=by rintro rfl; rw[ha]at hq; cases hq
   exact⟨q,a,ws,k,rfl,b_,by rw[bw cY]; exact ha,N3 hk e1,h F S _ (rl.al al) al.grow _ rfl⟩
def v8(X:Cx)(E:XK)(es:List aB)(d:aj->R (PO×List bA)):Prop :=
 ∀ F S ε σ H Q,aH X.K F S ε σ H->Ok X.K E σ F S H (d ε) (λp _ F' S' H'=>∀ a Sa vs,dX X.K H' F' p.1 a Sa->(∀ b,Sa b->H b=ae/\¬ F' b/\¬ U S' b/\∃ o,H' b=aa o/\cR o)->eU X.K (σ++[aa (.ref a)]) F' H' p.2 vs->Q vs H')->oK X es σ H Q
theorem eU.app{K:aq}{σ:St}{F:af->Prop}{H:Hp}(τ:St):∀ {as:List bA} {vs:List V},eU K σ F H as vs->eU K (σ++τ) F H as vs
 | [],_,h=>h
 | .inl _::_,_,⟨v,r,e,h1,h2⟩=>⟨v,r,e,h1,h2.app τ⟩
 | .inr i::_,_,⟨v,r,e,h1,h2⟩=>⟨v,r,e,by rw[fJ (cu.mp h1).1]; exact h1,h2.app τ⟩
theorem dX.stay{K:aq}{O O' F F':af->Prop}{H H':Hp}{po:PO}{a:af}{Sa:af->Prop}(ow:dX K H F po a Sa)(g:a_ O O' F F' H H')(fit:kl O F H)(lo:∀ b,Sa b->¬ F b/\¬ O b/\∃ o,H b=aa o/\cR o) : dX K H' F' po a Sa/\∀ b,Sa b->¬ F' b/\¬ O' b/\∃ o,H' b=aa o/\cR o:=by refine⟨ow.mono (λ_ _ z=>z.grow g fit) (λ_ _ z=>z.grow g fit) λb o z w=>(g.stay w (lo b z).2.1 (lo b z).1).1,λb z=>?_⟩;obtain⟨l1,l2,o,l3,l4⟩:=lo b z;obtain⟨s1,s2,s3⟩:=g.stay l3 l2 l1;exact⟨s2,s3,o,s1,l4⟩
variable{es:List aB}{dn:aj->R PO}{dg:aj->R (List bA)}{dh:aj->R (PO×List bA)}
def gN(dn:aj->R PO)(dg:aj->R (List bA)):aj->R (PO×List bA):=λε=>(dn ε).bind λpo ε1=>(dg ε1).bind λas ε2=>.ok (po,.inr ε2.length::as) ε2
theorem K2(ha:DN X E e dn)(hr:DG X E es dg)(hs:nI e=ak:=by rfl):v8 X E (e::es) (gN dn dg):=λF S ε σ H Q rl h=>by refine o7 (gP bD fZ (lZ hs)) (ha F S ε σ H _ rl ((Ok.bind h).imp λpo ε1 F1 S1 H1 r1 g1 h1 a Sa ow lo=>?_));refine hr F1 S1 ε1 σ H1 _ r1 ((Ok.bind h1).imp λas ε2 F2 S2 H2 r2 g2 h2 vs av=>?_);obtain⟨ow2,lo2⟩:=ow.stay g2 r1.fit λb z=>(lo b z).2;refine h2 F2 S2 H2 r2 (a_.refl ..) a Sa (.ref a::vs) ow2 (λb z=>⟨(lo b z).1,lo2 b z⟩) ⟨.ref a,vs,rfl,?_,av.app _⟩;rw[r2.len,jE (bp _),Nat.sub_self];rfl
def qO(d:aj->R PV)(dh:aj->R (PO×List bA)):aj->R (PO×List bA):=λε=>(d ε).bind λx ε1=>(dh ε1).bind λp ε2=>.ok (p.1,.inl x::p.2) ε2
theorem CN(ha:DE X E e de)(hr:v8 X E es dh)(hs:nI e=ak:=by rfl):v8 X E (e::es) (qO de dh):=λF S ε σ H Q rl h=>by refine o7 (gP bD fZ (lZ hs)) (ha F S ε σ H _ rl ((Ok.bind h).imp λx ε1 F1 S1 H1 r1 g1 h1 v rv=>?_));refine hr F1 S1 ε1 σ H1 _ r1 ((Ok.bind h1).imp λp ε2 F2 S2 H2 r2 g2 h2 a Sa vs ow lo av=>?_);exact h2 F2 S2 H2 r2 (a_.refl ..) a Sa _ ow (λb z=>⟨jO g1 (lo b z).1,(lo b z).2⟩) ⟨v,vs,rfl,rv.grow g2 r1.fit,av⟩
theorem aH.push{K:aq}{F:af->Prop}{S:Nat->af->Prop}{ε:aj}{σ:St}{H:Hp}{po:PO}{a:af}{Sa:af->Prop}(r:aH K F S ε σ H)(ow:dX K H F po a Sa)(lo:∀ b,Sa b->¬ F b/\¬ U S b/\∃ o,H b=aa o/\cR o) : aH K F (λj b=>S j b\/(j=ε.length/\Sa b)) (ε++[.own po]) (σ++[aa (.ref a)]) H:=by
 have lt:∀ j b,S j b->j<ε.length:=λj b z=>by obtain⟨⟨p,q⟩,_⟩:=r.foot j b z; exact(cu.mp q).1
 refine⟨by simp[r.len],r.ex,λj pv q=>?_,λj p q=>?_,λj b z=>?_,λj k b z1 z2=>?_⟩
 ·by_cases hj:j<ε.length
  ·rw[fJ hj]at q;obtain⟨v,q1,q2⟩:=r.val j pv q;exact⟨v,by rw[fJ (by rw[← r.len]; exact hj)]; exact q1,q2⟩
  ·rw[jE ∅]at q;cases hk:j-ε.length with
   | zero=>rw[hk]at q; simp at q
   | succ n=>rw[hk]at q; simp at q
 ·by_cases hj:j<ε.length
  ·rw[fJ hj]at q;obtain⟨v,q1,q2⟩:=r.own j p q;refine⟨v,by rw[fJ (by rw[← r.len]; exact hj)]; exact q1,?_⟩;have:(λb=>S j b\/(j=ε.length/\Sa b))=S j:=by funext b;exact propext ⟨λz=>z.elim id λz=>absurd z.1 (dH hj),.inl⟩
   rw[this]; exact q2
  ·rw[jE ∅]at q;cases hk:j-ε.length with
   | zero=>
    rw[hk]at q;simp at q;subst q;have ej:j=ε.length:=∅
    subst ej;refine⟨a,by rw[r.len,jE (bp _),Nat.sub_self]; rfl,?_⟩;have:(λb=>S ε.length b\/(ε.length=ε.length/\Sa b))=Sa:=by funext b;exact propext ⟨λz=>z.elim (λz=>absurd (lt _ _ z) (gW _)) (·.2),λz=>.inr ⟨rfl,z⟩⟩
    rw[this]; exact ow
   | succ n=>rw[hk]at q; simp at q
 ·rcases z with z | ⟨rfl,z⟩
  ·obtain⟨⟨p,q⟩,q2⟩:=r.foot j b z;exact⟨⟨p,by rw[fJ (lt j b z)]; exact q⟩,q2⟩
  ·obtain⟨l1,l2,l3⟩:=lo b z;exact⟨⟨po,by rw[jE (bp _),Nat.sub_self]; rfl⟩,l1,l3⟩
 ·rcases z1 with z1 | ⟨rfl,z1⟩ <;> rcases z2 with z2 | ⟨rfl,z2⟩
  ·exact r.dist j k b z1 z2
  ·exact absurd ⟨j,z1⟩ (lo b z2).2.1
  ·exact absurd ⟨k,z2⟩ (lo b z1).2.1
  ·rfl
theorem aH.pop{K:aq}{F:af->Prop}{S:Nat->af->Prop}{ε:aj}{sl:Slot}{σ:St}{u:Option V}{H:Hp}(r:aH K F S (ε++[sl]) (σ++[u]) H):aH K F (λj b=>S j b/\j<ε.length) ε σ H:=by
 have len:ε.length=σ.length:=by have:=r.len; simpa using this
 refine⟨len,r.ex,λj pv q=>?_,λj p q=>?_,λj b z=>?_,λj k b z1 z2=>r.dist j k b z1.1 z2.1⟩
 ·have hj:=(cu.mp q).1;obtain⟨v,q1,q2⟩:=r.val j pv (by rw[fJ hj]; exact q);exact⟨v,by rw[fJ (by rw[← len]; exact hj)]at q1; exact q1,q2⟩
 ·have hj:=(cu.mp q).1;obtain⟨v,q1,q2⟩:=r.own j p (by rw[fJ hj]; exact q);refine⟨v,by rw[fJ (by rw[← len]; exact hj)]at q1; exact q1,?_⟩;have:(λb=>S j b/\j<ε.length)=S j:=by funext b; simp[hj]
  rw[this]; exact q2
 ·obtain⟨⟨p,q⟩,q2⟩:=r.foot j b z.1;exact⟨⟨p,by rw[fJ z.2]at q; exact q⟩,q2⟩
def Ey{α:Type}:R α->R α
 | .ok s ε=>.ok s ε.dropLast
 | .er c ε=>.er c ε.dropLast
 | .no=>.no
def sG(g:aj->R Slot)(dh:aj->R (PO×List bA)):aj->R Slot:=λε=>(dh ε).bind λp ε1=>(aO (if(bF p.2).Nodup then cJ (ε1++[.own p.1]) p.2 else ae) ε1).bind λss ε1=>Ey (cZ (ε1++[.own p.1]) p.2 (g ss))
theorem CD{ε:aj}{n:Nat}(h:ε.length=n+1):∃ l x,ε=l++[x]/\l.length=n:=by
 refine⟨ε.dropLast,ε.getLast (by intro z; rw[z]at h; cases h),(HJ _).symm,by rw[xO,h]; rfl⟩
theorem a_.pushed{K:aq}{F F':af->Prop}{S S2:Nat->af->Prop}{H0 H H':Hp}{n:Nat}{Sa:af->Prop}(g:a_ (U λj b=>S j b\/(j=n/\Sa b)) (U S2) F F' H H'){F0:af->Prop}{S0:Nat->af->Prop}(g0:a_ (U S0) (U S) F0 F H0 H)(fr:∀ b,Sa b->H0 b=ae) : a_ (U S0) (U λj b=>S2 j b/\j<n) F0 F' H0 H' where
 fro:=λb z=>g.fro b (g0.fro b z)
 keep:=λb o q no=>g.keep b o (g0.keep b o q no) λ⟨j,z⟩=>by
  rcases z with z | ⟨_,z⟩
  ·rcases g0.onew b ⟨j,z⟩with w | w
   ·exact no w
   ·rw[w]at q; cases q
  ·rw[fr b z]at q; cases q
 there:=λb o q=>let ⟨o',q'⟩:=g0.there b o q; g.there b o' q'
 fnew:=λb z=>by
  rcases g.fnew b z with w | w | ⟨j,w | ⟨_,w⟩⟩
  ·exact g0.fnew b w
  ·exact .inr (.inl (jO g0 w))
  ·exact .inr ((g0.onew b ⟨j,w⟩).symm)
  ·exact .inr (.inl (fr b w))
 onew:=λb ⟨j,z,_⟩=>by
  rcases g.onew b ⟨j,z⟩with⟨k,w | ⟨_,w⟩⟩ | w
  ·exact g0.onew b ⟨k,w⟩
  ·exact .inr (fr b w)
  ·exact .inr (jO g0 w)
variable{CX:dJ}{x:Str}{k:Nat}{ps:List Str}{g:aj->R Slot}{p:Pos}
theorem ON(c:cF CX X.prog X.w X.K X.mg X.base x k ps (br X.K g))(hr:bZ k X.A)(hx:i9 CX X E)(ha:v8 X E (e::es) dh)(hg:Gl X x:=by rfl)(hd:(x == ("__debug__" : Str))=ak:=by decide) (h1:aC (e::es) X.env=(ak,aD e X.env)::aC es X.env:=by rfl) (h2:(bK pos (aC es X.env)).any (·.1)=ak:=by rfl) : DR X E (.Call (.Name x p) (e::es) [] pos) (sG g dh):=λF S ε σ H Q rl h=>by
 obtain⟨f,fd,hm,Fn,hb,hk⟩:=c.ex;refine bC (y9 Fn hr hg hm hk hb .nil hx fZ hd h1 h2) (ha F S ε σ H _ rl ?_);unfold sG at h;cases ed:dh ε with
 | no=>rw[ed]at h; exact h.elim
 | er cv ε1=>rw[ed]at h; exact h
 | ok pa ε1=>
  obtain⟨po,as⟩:=pa;rw[ed]at h;simp only[R.bind_ok]at h;intro F1 S1 H1 r1 g1 a Sa vs ow lo av;dsimp only at h av ow;have rp:=r1.push ow λb z=>(lo b z).2;by_cases nd:(bF as).Nodup
  ·rw[if_pos nd]at h;cases es:cJ (ε1++[.own po]) as with
   | none=>rw[es]at h; exact h.elim
   | some ss=>
    rw[es]at h;simp only[cz,R.bind_ok]at h;rw[gD];refine⟨F1,jU as _,ss,rp.cal av es nd,?_⟩;have len:∀ aF,(eD (ε1++[.own po]) as aF).length=ε1.length+1:=λaF=>by rw[vJ]; simp
    cases eg:g ss with
    | no=>rw[eg]at h; exact h.elim
    | er cv aF=>
     rw[eg]at h;intro y F' S' H' r' g';unfold cZ at h;dsimp only at h;by_cases kp:dG as aF=ah
     ·rw[if_pos kp]at h;obtain⟨S2,r2,g2,_⟩:=rp.called av es nd r' g' (λ_ z=>z) (jT kp);obtain⟨l,sl,el,ll⟩:=CD (len aF);rw[el]at r2;have h:Ok X.K E σ F S H (R.er cv (eD (ε1++[.own po]) as aF).dropLast:R Slot) _:=h;rw[el,List.dropLast_concat]at h;have gp:=a_.pushed (K:=X.K) g2 g1 λb z=>(lo b z).1;rw[← ll]at gp;exact h y F' _ H' r2.pop gp
     ·rw[if_neg kp]at h; exact h.elim
    | ok s aF=>
     rw[eg]at h;intro v F' S' H' Sr r' g' rv lo' fr;unfold cZ at h;dsimp only at h;by_cases kp:dG as aF=ah
     ·rw[if_pos kp]at h;obtain⟨S2,r2,g2,u2⟩:=rp.called av es nd r' g' (λ_ z=>.inl z) (jT kp);obtain⟨l,sl,el,ll⟩:=CD (len aF);rw[el]at r2;have h:Ok X.K E σ F S H (R.ok s (eD (ε1++[.own po]) as aF).dropLast:R Slot) _:=h;rw[el,List.dropLast_concat]at h;have gp:=a_.pushed (K:=X.K) g2 g1 λb z=>(lo b z).1;rw[← ll]at gp;refine h F' _ H' r2.pop gp v Sr rv λb z=>⟨jO g1 (fr b z),(lo' b z).1,λ⟨j,w,_⟩=>?_,(lo' b z).2.2⟩
      rcases u2 b ⟨j,w⟩with w | ⟨i,w⟩
      ·exact(lo' b z).2.1 w
      ·obtain⟨_,_,o,y1,_⟩:=rp.foot i b w;rw[fr b z]at y1; cases y1
     ·rw[if_neg kp]at h; exact h.elim
  ·rw[if_neg nd]at h; exact h.elim
end
section
variable{X:Cx}{E:XK}{pin:List Nat}{e b c o:aB}{de db dc d:aj->R PV}{ds:aj->R (List PV)}{pos p q pos':Pos}
def N8(X:Cx)(r:List V->Hp->VK->Prop):List V->Hp->VK->Prop:=λxs H Q=>∃ (p:af) (ls:List Tx),xs=[.ref p]/\bR X.K H p (cI ls)/\(eW ls).length<4000/\∀ a,H a=ae->r [.ref a] (upd H a (oQ X a (eW ls))) Q
theorem JP(i:Nat){y:Str}{yp:Pos}{op:CmpOp}{r:R2}{f:PV->PV->Option PV}(ho:bU X (eN op) r)(hp:P2 X.K r f)(hb:DE X E b db)(hm:xF op b=ak)(hN:X.N[i]?=aa y:=by rfl)(gJ:c7 X.env.scope y:=by first | exact Or.inl rfl | exact Or.inr (Or.inl rfl) | exact Or.inr (Or.inr rfl))(hd:(y == ("__debug__" : Str))=ak:=by decide) (a7:(y == ("__classdict__" : Str))=ak:=by decide):DT X E (.Compare (.Name y yp) [op] [b] pos) (dB (jj f i db)):=λF S ε σ H Q rl h=>by obtain⟨a,ea,hw⟩:=Gh (Q:=λx H'=>∃ k,x = .bl k/\Q k H') hp hb rl (sN h);exact t9 (Eh ho (dP hN gJ hd a7) bD hm) ⟨_,ea,hw⟩
end
section
variable{X:Cx}
theorem f7.keys{K:aq}{H:Hp}{F:af->Prop}{kvs:List (aJ×PV)}{ws:List (aJ×V)}(h:f7 K H F kvs ws):ws.map (·.1)=kvs.map (·.1):=by
 unfold f7 at h
 induction h with
 | nil=>rfl
 | cons r _ ih=>rw[fI,fI,ih,r.1]
end
end Pu
namespace L2
def wx:Bool->Keyed->Array Keyed->Nat->Nat->Nat->StateT bz Sem (Option Nat):=sortPriv% PySem.Builtin.gallop
def FJ:Array Keyed->Array Keyed->StateT bz Sem (Array Keyed):=sortPriv% PySem.Builtin.mergeLo
def FP:Array Keyed->Array Keyed->StateT bz Sem (Array Keyed):=sortPriv% PySem.Builtin.mergeHi
def kO(κ:KeyKind)(p:Keyed):κ.α:=(κ.keyOf p.1).getD κ.dflt
def gL(κ:KeyKind)(p:Keyed):Prop:=∃ a,κ.keyOf p.1=aa a
theorem gL.k{κ:KeyKind}{p:Keyed}(h:gL κ p):κ.keyOf p.1=aa (kO κ p):=by obtain⟨a,e⟩:=h; unfold kO; rw[e]; rfl
structure SB(st:bz):Prop where
 kind:kindOf st=oneType'
 failed:failedOf st=ae
section
variable{prog:aM}{w:aG}{A:aR}{E:ai->ao->Prop}{s:ao}{κ:KeyKind}
theorem ud(hO:κ.OneLt){st:bz}{x y:Keyed}{Q:Option Bool->bz->Prop}(hk:SB st)(hx:gL κ x)(hy:gL κ y)(h:Q (aa (κ.blt (kO κ x) (kO κ y))) st):wpS (au prog w) A E s (lt' x y) Q st:=by rw[lt'_eq];refine aI (kU ?_);rw[hk.kind,keyLt'_oneType];exact aI (rY (wpAny_attempt (hO prog w A _ s x.1 y.1 _ _ hx.k hy.k ⟨rfl,aS h⟩)))
theorem eV{st:bz}{arr:Array Keyed}{i:Nat}(hi:i<arr.size){Q:Keyed->bz->Prop}(h:Q arr[i] st):wpS (au prog w) A E s (elem' arr i) Q st:=by rw[elem'_eq,getElem?_pos arr i hi]; exact aS h
def Cr(left:Bool)(key:Keyed)(arr:Array Keyed)(base i:Nat):StateT bz Sem (Option Bool) :=elem' arr (base+i) >>= λx=>if left=ah then lt' x key else lt' key x >>= λb=>pure (b.map (!·))
def lu(κ:KeyKind)(left:Bool)(key x:Keyed):Bool:=if left=ah then κ.blt (kO κ x) (kO κ key)else !κ.blt (kO κ key) (kO κ x)
theorem LH(hO:κ.OneLt){st:bz}{left:Bool}{key:Keyed}{arr:Array Keyed}{base i:Nat}{Q:Option Bool->bz->Prop}(hk:SB st)(hx:gL κ key)(hi:base+i<arr.size)(hy:gL κ arr[base+i])(h:Q (aa (lu κ left key arr[base+i])) st):wpS (au prog w) A E s (Cr left key arr base i) Q st:=by
 refine aI (eV hi ?_);cases left
 ·rw[if_neg (by simp)];exact aI (ud hO hk hx hy (aS h))
 ·rw[if_pos rfl];exact ud hO hk hy hx h
theorem FW(hO:κ.OneLt){st:bz}(hk:SB st){left:Bool}{key:Keyed}{arr:Array Keyed}{base n hint:Nat}{Q:Option Nat->bz->Prop}(kc:gL κ key)(hn:base+n<=arr.size)(hA:∀ i (hi:i<arr.size),gL κ arr[i]) (B:Nat->Bool) (hB:∀ i (hi:i<n),B i=lu κ left key (arr[base+i]'∅))(mono:∀ i j,i<=j->j<n->B j=ah->B i=ah) (hh:hint<n)(h:∀ r,r<=n->(∀ i,i<r->B i=ah)->(∀ i,r<=i->i<n->B i=ak)->Q (aa r) st) : wpS (au prog w) A E s (wx left key arr base n hint) Q st:=by
 have hb:∀ {i:Nat} {Q:Option Bool->bz->Prop},i<n->Q (aa (B i)) st->wpS (au prog w) A E s (Cr left key arr base i) Q st:=λ{i Q} hi q=>LH hO hk kc ∅ (hA _ _) (by rw[← hB i hi]; exact q);have dn:∀ {i j:Nat},i<=j->j<n->B i=ak->B j=ak:=λ{i j} bB hj hf=>by
  cases e:B j with
  | false=>rfl
  | true=>rw[mono i j bB hj e]at hf; cases hf
 unfold wx;refine aI (hb hh ?_);cases hr:B hint with
 | true=>
  dsimp only;rw[if_pos rfl];refine aI (gH (gI (I:=λx c ay=>ay=st/\∃ l o,c=(ae,l,o)/\l<o/\x<o/\l<n-hint/\B (hint+l)=ah) (Q:=λc ay=>ay=st/\∃ l o,c=(ae,l,o)/\l<o/\l<n-hint/\B (hint+l)=ah/\(n-hint<=o\/(o<n-hint/\B (hint+o)=ak))) ?_ ?_ ?_) ?_)
  ·rintro x c ay _ hx ⟨rfl,l,o,rfl,h1,h2,h3,h4⟩;dsimp only;by_cases iV:o ≥ n-hint
   ·rw[if_pos iV]; exact aS ⟨rfl,l,o,rfl,h1,h3,h4,.inl iV⟩
   ·rw[if_neg iV];refine aI (hb ∅ ?_);cases e:B (hint+o)with
    | true=>exact aS ⟨rfl,o,2 * o+1,rfl,∅,∅,∅,e⟩
    | false=>exact aS ⟨rfl,l,o,rfl,h1,h3,h4,.inr ⟨∅,e⟩⟩
  ·rintro c ay ⟨rfl,l,o,rfl,h1,h2,h3,h4⟩;exact⟨rfl,l,o,rfl,h1,h3,h4,.inl ∅⟩
  ·exact⟨rfl,0,1,rfl,∅,∅,∅,hr⟩
  rintro c ay ⟨rfl,l,o,rfl,h1,h3,h4,h5⟩;dsimp only;have g1:hint+l+1<=hint+min o (n-hint):=∅
  have g2:hint+min o (n-hint)<=n:=∅
  have g3:∀ i,i<hint+l+1->B i=ah:=λi hi=>mono i (hint+l) ∅ ∅ h4;have g4:∀ i,hint+min o (n-hint)<=i->i<n->B i=ak:=by
   intro i hi lf;rcases h5 with h5 | ⟨h5,h6⟩
   ·lia
   ·exact dn (i:=hint+o) ∅ lf h6
  clear h5;generalize hint+l+1=lo at *;generalize hint+min o (n-hint)=hi at *;refine aI (gH (gI (I:=λx c b9=>b9=ay/\∃ l r,c=(ae,l,r)/\l<=r/\r<=n/\r-l<=n-x/\(∀ i,i<l->B i=ah)/\(∀ i,r<=i->i<n->B i=ak)) (Q:=λc b9=>b9=ay/\∃ l r,c=(ae,l,r)/\r<=n/\(∀ i,i<r->B i=ah)/\(∀ i,r<=i->i<n->B i=ak)) ?_ ?_ ?_) ?_)
  ·rintro x c b9 _ hx ⟨rfl,l,r,rfl,a1,a2,a3,a4,a5⟩;dsimp only;by_cases iV:l ≥ r
   ·rw[if_pos iV];have:l=r:=∅
    subst this;exact aS ⟨rfl,l,l,rfl,a2,a4,a5⟩
   ·rw[if_neg iV];refine aI (hb ∅ ?_);cases e:B (l+(r-l) / 2)with
    | true=>exact aS ⟨rfl,_,r,rfl,∅,a2,∅,λi hi=>mono _ _ ∅ ∅ e,a5⟩
    | false=>exact aS ⟨rfl,l,_,rfl,∅,∅,∅,a4,λi hi lf=>dn (i:=l+(r-l) / 2) hi lf e⟩
  ·rintro c b9 ⟨rfl,l,r,rfl,a1,a2,a3,a4,a5⟩;have:l=r:=∅
   subst this;exact⟨rfl,l,l,rfl,a2,a4,a5⟩
  ·exact⟨rfl,lo,hi,rfl,g1,g2,∅,g3,g4⟩
  ·rintro c b9 ⟨rfl,l,r,rfl,a2,a4,a5⟩;exact aS (h r a2 a4 a5)
 | false=>
  dsimp only;rw[if_neg (by simp)];refine aI (gH (gI (I:=λx c ay=>ay=st/\∃ l o,c=(ae,l,o)/\l<o/\x<o/\l<=hint/\B (hint-l)=ak) (Q:=λc ay=>ay=st/\∃ l o,c=(ae,l,o)/\l<o/\l<=hint/\B (hint-l)=ak/\(hint+1<=o\/(o<=hint/\B (hint-o)=ah))) ?_ ?_ ?_) ?_)
  ·rintro x c ay _ hx ⟨rfl,l,o,rfl,h1,h2,h3,h4⟩;dsimp only;by_cases iV:o ≥ hint+1
   ·rw[if_pos iV]; exact aS ⟨rfl,l,o,rfl,h1,h3,h4,.inl iV⟩
   ·rw[if_neg iV];refine aI (hb ∅ ?_);cases e:B (hint-o)with
    | false=>exact aS ⟨rfl,o,2 * o+1,rfl,∅,∅,∅,e⟩
    | true=>exact aS ⟨rfl,l,o,rfl,h1,h3,h4,.inr ⟨∅,e⟩⟩
  ·rintro c ay ⟨rfl,l,o,rfl,h1,h2,h3,h4⟩;exact⟨rfl,l,o,rfl,h1,h3,h4,.inl ∅⟩
  ·exact⟨rfl,0,1,rfl,∅,∅,∅,hr⟩
  rintro c ay ⟨rfl,l,o,rfl,h1,h3,h4,h5⟩;dsimp only;have g1:hint+1-min o (hint+1)<=hint-l:=∅
  have g2:hint-l<=n:=∅
  have g3:∀ i,i<hint+1-min o (hint+1)->B i=ah:=by
   intro i hi;rcases h5 with h5 | ⟨h5,h6⟩
   ·lia
   ·exact mono i (hint-o) ∅ ∅ h6
  have g4:∀ i,hint-l<=i->i<n->B i=ak:=λi hi lf=>dn (i:=hint-l) ∅ lf h4;clear h5 h4;generalize hint+1-min o (hint+1)=lo at *;generalize hint-l=hi at *;refine aI (gH (gI (I:=λx c b9=>b9=ay/\∃ l r,c=(ae,l,r)/\l<=r/\r<=n/\r-l<=n-x/\(∀ i,i<l->B i=ah)/\(∀ i,r<=i->i<n->B i=ak)) (Q:=λc b9=>b9=ay/\∃ l r,c=(ae,l,r)/\r<=n/\(∀ i,i<r->B i=ah)/\(∀ i,r<=i->i<n->B i=ak)) ?_ ?_ ?_) ?_)
  ·rintro x c b9 _ hx ⟨rfl,l,r,rfl,a1,a2,a3,a4,a5⟩;dsimp only;by_cases iV:l ≥ r
   ·rw[if_pos iV];have:l=r:=∅
    subst this;exact aS ⟨rfl,l,l,rfl,a2,a4,a5⟩
   ·rw[if_neg iV];refine aI (hb ∅ ?_);cases e:B (l+(r-l) / 2)with
    | true=>exact aS ⟨rfl,_,r,rfl,∅,a2,∅,λi hi=>mono _ _ ∅ ∅ e,a5⟩
    | false=>exact aS ⟨rfl,l,_,rfl,∅,∅,∅,a4,λi hi lf=>dn (i:=l+(r-l) / 2) hi lf e⟩
  ·rintro c b9 ⟨rfl,l,r,rfl,a1,a2,a3,a4,a5⟩;have:l=r:=∅
   subst this;exact⟨rfl,l,l,rfl,a2,a4,a5⟩
  ·exact⟨rfl,lo,hi,rfl,g1,g2,∅,g3,g4⟩
  ·rintro c b9 ⟨rfl,l,r,rfl,a2,a4,a5⟩;exact aS (h r a2 a4 a5)
end
section
variable{κ:KeyKind}
def bx(κ:KeyKind)(x y:Keyed):Prop:=κ.kle (kO κ x) (kO κ y)
theorem bx.trans{x y z:Keyed}(h1:bx κ x y)(h2:bx κ y z):bx κ x z:=uB h1 h2
structure MS(κ:KeyKind)(T o ra rb:List Keyed):Prop where
 perm:(o++(ra++rb)).Perm T
 so:o.Pairwise (bx κ)
 sa:ra.Pairwise (bx κ)
 sb:rb.Pairwise (bx κ)
 oa:∀ x∈o,∀ y∈ra,bx κ x y
 ob:∀ x∈o,∀ y∈rb,bx κ x y
theorem MS.stepA{T o x ra rb:List Keyed}(h:MS κ T o (x++ra) rb)(hx:∀ u∈x,∀ v∈rb,bx κ u v):MS κ T (o++x) ra rb:=by
 obtain⟨h1,h2,h3,h4,h5,h6⟩:=h;rw[HK]at h3;refine⟨by simpa[gb]using h1,?_,h3.2.1,h4,?_,?_⟩
 ·rw[HK];exact⟨h2,h3.1,λu hu v hv=>h5 u hu v (Bo _ hv)⟩
 ·intro u hu v hv;rcases eM.mp hu with hu | hu
  ·exact h5 u hu v (kM _ hv)
  ·exact h3.2.2 u hu v hv
 ·intro u hu v hv;rcases eM.mp hu with hu | hu
  ·exact h6 u hu v hv
  ·exact hx u hu v hv
theorem MS.swap{T o ra rb:List Keyed}(h:MS κ T o ra rb):MS κ T o rb ra :=⟨(HA _ List.perm_append_comm).trans h.perm,h.so,h.sb,h.sa,h.ob,h.oa⟩
theorem MS.stepB{T o x ra rb:List Keyed}(h:MS κ T o ra (x++rb))(hx:∀ u∈x,∀ v∈ra,bx κ u v):MS κ T (o++x) ra rb :=(h.swap.stepA hx).swap
def gC(κ:KeyKind)(T:List Keyed)(r:Array Keyed):Prop:=r.toList.Perm T/\r.toList.Pairwise (bx κ)
theorem MS.endA{T o ra:List Keyed}{r:Array Keyed}(h:MS κ T o ra [])(e:r.toList=o++ra):gC κ T r:=by obtain⟨h1,h2,h3,h4,h5,h6⟩:=h;refine⟨by rw[e]; simpa using h1,?_⟩;rw[e,HK]; exact⟨h2,h3,h5⟩
theorem MS.last{T o ra rb:List Keyed}{r:Array Keyed}(h:MS κ T o ra rb)(hx:∀ u∈rb,∀ v∈ra,bx κ u v)(e:r.toList=o++(rb++ra)):gC κ T r:=by
 have h':MS κ T o ra (rb++[]):=by simpa using h
 exact(h'.stepB hx).endA (by rw[e]; simp)
theorem kK(a:Array Keyed)(i j:Nat):(a.extract i j).toList=(a.toList.drop i).take (j-i):=by simp[Array.toList_extract,List.extract_eq_take_drop]
theorem qT(a:Array Keyed)(i:Nat):(a.extract i a.size).toList=a.toList.drop i:=by rw[kK,xU]; simp
theorem EM{a:Array Keyed}{i:Nat}(h:i<a.size):a.toList.drop i=a[i]::a.toList.drop (i+1):=by rw[xZ (by simpa using h)]; simp
theorem GW(a:Array Keyed)(i k:Nat):a.toList.drop i=(a.extract i (i+k)).toList++a.toList.drop (i+k):=by rw[kK,show i+k-i=k by lia,← List.drop_drop,ol]
theorem qu{a:Array Keyed}{i:Nat}{x:Keyed}(h:x∈a.toList.drop i):∃ j,∃ hj:j<a.size,i<=j/\a[j]=x:=by
 obtain⟨k,hk,e⟩:=yb h;rw[HL]at e;have u0:i+k<a.size:=by simp at hk; lia
 exact⟨i+k,u0,∅,by simpa using e⟩
theorem EJ{a:Array Keyed}{i k:Nat}{x:Keyed}(h:x∈(a.extract i (i+k)).toList):∃ j,∃ hj:j<a.size,i<=j/\j<i+k/\a[j]=x:=by
 rw[kK]at h;obtain⟨m,hm,e⟩:=yb h;rw[HM,HL]at e;refine⟨i+m,?_,∅,?_,by simpa using e⟩
 all_goals simp at hm; lia
def tm(κ:KeyKind)(a:Array Keyed):Prop:=∀ i j (hj:j<a.size) (bB:i<=j),bx κ (a[i]'∅) a[j]
theorem tm.pw{a:Array Keyed}(h:tm κ a):a.toList.Pairwise (bx κ):=by rw[List.pairwise_iff_getElem];intro i j hi hj bB;have:=h i j (by simpa using hj) ∅;simpa using this
structure fA(κ:KeyKind)(a b out:Array Keyed)(ia ib:Nat):Prop where
 ms:MS κ (a.toList++b.toList) out.toList (a.toList.drop ia) (b.toList.drop ib)
 la:ia<=a.size
 lb:ib<=b.size
variable{a b out:Array Keyed}{ia ib:Nat}
theorem fA.pushA(h:fA κ a b out ia ib)(hi:ia<a.size)(hx:∀ j (hj:j<b.size),ib<=j->bx κ a[ia] b[j]):fA κ a b (out.push a[ia]) (ia+1) ib:=by refine⟨?_,hi,h.lb⟩;rw[uu];refine MS.stepA (by rw[BS,← EM hi]; exact h.ms) λu hu v hv=>?_;obtain⟨j,hj,fP,rfl⟩:=qu hv;rw[gG.mp hu]; exact hx j hj fP
theorem fA.pushB(h:fA κ a b out ia ib)(hi:ib<b.size)(hx:∀ j (hj:j<a.size),ia<=j->bx κ b[ib] a[j]):fA κ a b (out.push b[ib]) ia (ib+1):=by refine⟨?_,h.la,hi⟩;rw[uu];refine MS.stepB (by rw[BS,← EM hi]; exact h.ms) λu hu v hv=>?_;obtain⟨j,hj,fP,rfl⟩:=qu hv;rw[gG.mp hu]; exact hx j hj fP
theorem fA.extA{k:Nat}(h:fA κ a b out ia ib)(hk:ia+k<=a.size)(hx:∀ i (hi:i<a.size),ia<=i->i<ia+k->∀ j (hj:j<b.size),ib<=j->bx κ a[i] b[j]):fA κ a b (out++a.extract ia (ia+k)) (ia+k) ib:=by refine⟨?_,hk,h.lb⟩;rw[iO];refine MS.stepA (by rw[← GW]; exact h.ms) λu hu v hv=>?_;obtain⟨j,hj,fP,rfl⟩:=qu hv;obtain⟨i,hi,h1,h2,rfl⟩:=EJ hu;exact hx i hi h1 h2 j hj fP
theorem fA.extB{k:Nat}(h:fA κ a b out ia ib)(hk:ib+k<=b.size)(hx:∀ i (hi:i<b.size),ib<=i->i<ib+k->∀ j (hj:j<a.size),ia<=j->bx κ b[i] a[j]):fA κ a b (out++b.extract ib (ib+k)) ia (ib+k):=by refine⟨?_,h.la,hk⟩;rw[iO];refine MS.stepB (by rw[← GW]; exact h.ms) λu hu v hv=>?_;obtain⟨j,hj,fP,rfl⟩:=qu hv;obtain⟨i,hi,h1,h2,rfl⟩:=EJ hu;exact hx i hi h1 h2 j hj fP
theorem fA.doneA(h:fA κ a b out ia ib)(e:ib=b.size):gC κ (a.toList++b.toList) (out++a.extract ia a.size++b.extract ib b.size):=by have:=h.ms;rw[show b.toList.drop ib=[] by rw[BU]; simp[e]]at this;refine this.endA ?_;rw[iO,iO,qT,qT,show b.toList.drop ib=[] by rw[BU]; simp[e],gD]
theorem fA.doneB(h:fA κ a b out ia ib)(e:ia=a.size):gC κ (a.toList++b.toList) (out++a.extract ia a.size++b.extract ib b.size):=by have:=h.ms;rw[show a.toList.drop ia=[] by rw[BU]; simp[e]]at this;refine this.swap.endA ?_;rw[iO,iO,qT,qT,show a.toList.drop ia=[] by rw[BU]; simp[e],gD]
theorem fA.last(h:fA κ a b out ia ib)(e:ia+1=a.size)(hl:∀ j (hj:j<b.size),bx κ b[j] (a[ia]'∅)):gC κ (a.toList++b.toList) (out++b.extract ib b.size++a.extract ia a.size):=by
 refine h.ms.last (λu hu v hv=>?_) (by rw[iO,iO,qT,qT,gb]);obtain⟨j,hj,h1,rfl⟩:=qu hu;obtain⟨i,hi,h2,rfl⟩:=qu hv;have:i=ia:=∅
 subst this; exact hl j hj
end
section
variable{prog:aM}{w:aG}{A:aR}{E:ai->ao->Prop}{s:ao}{κ:KeyKind}
theorem Ax(hO:κ.OneLt){st:bz}(hk:SB st){key:Keyed}{arr:Array Keyed}{base n hint:Nat}{Q:Option Nat->bz->Prop}(kc:gL κ key)(hn:base+n<=arr.size)(hA:∀ i (hi:i<arr.size),gL κ arr[i]) (hs:∀ i j (bB:i<=j) (hj:j<base+n),base<=i->bx κ (arr[i]'∅) (arr[j]'∅)) (hh:hint<n)(h:∀ r,r<=n->(∀ i (hi:i<arr.size),base<=i->i<base+r->bx κ arr[i] key)->(∀ i (hi:i<arr.size),base+r<=i->i<base+n->κ.klt (kO κ key) (kO κ arr[i]))->Q (aa r) st) : wpS (au prog w) A E s (wx ak key arr base n hint) Q st:=by
 refine FW hO hk kc hn hA (λi=>if hi:i<n then lu κ ak key (arr[base+i]'∅)else ak) (λi hi=>by rw[dif_pos hi]) ?_ hh ?_
 ·intro i j bB hj e;rw[dif_pos hj]at e; rw[dif_pos ∅];simp only[lu,p_,if_false,HI]at e ⊢;exact uB (hs (base+i) (base+j) ∅ ∅ ∅) e
 ·intro r hr h1 h2;refine h r hr (λi hi hb bS=>?_) (λi hi hb bS=>?_)
  ·have:=h1 (i-base) ∅;rw[dif_pos ∅]at this;simp only[lu,p_,if_false,HI,show base+(i-base)=i by lia]at this;exact this
  ·have:=h2 (i-base) ∅ ∅;rw[dif_pos ∅]at this;simp only[lu,p_,if_false,Bool.not_eq_false',show base+(i-base)=i by lia]at this;exact this
theorem zU(hO:κ.OneLt){st:bz}(hk:SB st){key:Keyed}{arr:Array Keyed}{base n hint:Nat}{Q:Option Nat->bz->Prop}(kc:gL κ key)(hn:base+n<=arr.size)(hA:∀ i (hi:i<arr.size),gL κ arr[i]) (hs:∀ i j (bB:i<=j) (hj:j<base+n),base<=i->bx κ (arr[i]'∅) (arr[j]'∅)) (hh:hint<n)(h:∀ r,r<=n->(∀ i (hi:i<arr.size),base<=i->i<base+r->κ.klt (kO κ arr[i]) (kO κ key))->(∀ i (hi:i<arr.size),base+r<=i->i<base+n->bx κ key arr[i])->Q (aa r) st) : wpS (au prog w) A E s (wx ah key arr base n hint) Q st:=by
 refine FW hO hk kc hn hA (λi=>if hi:i<n then lu κ ah key (arr[base+i]'∅)else ak) (λi hi=>by rw[dif_pos hi]) ?_ hh ?_
 ·intro i j bB hj e;rw[dif_pos hj]at e; rw[dif_pos ∅];simp only[lu,if_true]at e ⊢;exact KeyOrd.klt_of_kle_of_klt (hs (base+i) (base+j) ∅ ∅ ∅) e
 ·intro r hr h1 h2;refine h r hr (λi hi hb bS=>?_) (λi hi hb bS=>?_)
  ·have:=h1 (i-base) ∅;rw[dif_pos ∅]at this;simp only[lu,if_true,show base+(i-base)=i by lia]at this;exact this
  ·have:=h2 (i-base) ∅ ∅;rw[dif_pos ∅]at this;simp only[lu,if_true,show base+(i-base)=i by lia]at this;exact this
end
structure gz(st ay:bz):Prop where
 kind:kindOf ay=kindOf st
 arr:arrOf ay=arrOf st
 pend:bo ay=bo st
 failed:failedOf ay=failedOf st
theorem gz.rfl{st:bz}:gz st st:=⟨_root_.rfl,_root_.rfl,_root_.rfl,_root_.rfl⟩
theorem gz.sb{st ay:bz}(h:gz st ay)(k:SB st):SB ay:=⟨h.kind.trans k.kind,h.failed.trans k.failed⟩
section
variable{prog:aM}{w:aG}{A:aR}{E:ai->ao->Prop}{s:ao}{κ:KeyKind}
theorem cm{σ α:Type}{M:Model}{c:Prop}[Decidable c]{t e:StateT σ Sem α}{Q:α->σ->Prop}{st:σ}(h1:c->wpS M A E s t Q st)(h2:¬ c->wpS M A E s e Q st):wpS M A E s (if c then t else e) Q st:=by
 split
 ·exact h1 ‹_›
 ·exact h2 ‹_›
def Ni:Nat->StateT bz Sem Unit:=sortPriv% PySem.Builtin.setMinGallop
theorem gz.trans{a b c:bz}(h1:gz a b)(h2:gz b c):gz a c:=⟨h2.kind.trans h1.kind,h2.arr.trans h1.arr,h2.pend.trans h1.pend,h2.failed.trans h1.failed⟩
theorem zr{st jh:bz}{g:Nat}{Q:Unit->bz->Prop}(hS:gz jh st)(h:∀ ay,gz jh ay->Q () ay):wpS (au prog w) A E s (Ni g) Q st :=mR (h _ (hS.trans ⟨rfl,rfl,rfl,rfl⟩))
theorem Om(hO:κ.OneLt){st:bz}(hk:SB st){a b:Array Keyed}{Q:Array Keyed->bz->Prop}(ha:0<a.size)(hb:0<b.size)(hA:∀ i (hi:i<a.size),gL κ a[i]) (hB:∀ i (hi:i<b.size),gL κ b[i]) (sa:tm κ a) (sb:tm κ b)(h0:bx κ b[0] a[0]) (hl:∀ j (hj:j<b.size),bx κ b[j] a[a.size-1])(h:∀ r ay,gz st ay->gC κ (a.toList++b.toList) r->Q r ay) : wpS (au prog w) A E s (FJ a b) Q st:=by
 have lW:∀ {i:Nat} (hi:i<a.size),i+1=a.size->∀ j (hj:j<b.size),bx κ b[j] a[i]:=λ{i} hi e j hj=>by
  have:i=a.size-1:=∅
  subst this; exact hl j hj
 have I0:fA κ a b #[b[0]] 0 1:=by
  have h1:fA κ a b #[] 0 0:=⟨⟨by simp,by simp,by simpa using sa.pw,by simpa using sb.pw,by simp,by simp⟩,∅,∅⟩
  exact h1.pushB hb λj hj _=>h0.trans (sa 0 j hj ∅)
 unfold FJ;refine aI (rY (oh ⟨rfl,?_⟩));refine aI (eV hb ?_);by_cases e1:1=b.size
 ·rw[if_pos (by simp[← e1])];exact aS (h _ _ .rfl (I0.doneA e1))
 rw[if_neg (by simpa using e1)];by_cases e2:0+1=a.size
 ·rw[if_pos (by simp[← e2])];exact aS (h _ _ .rfl (I0.last e2 (lW ∅ ∅)))
 rw[if_neg (by simpa using e2)];refine aI (kU ?_);refine aI (gH (gI (I:=λx c ay=>gz st ay/\∃ out ia ib mg,c=(ae,out,ia,ib,mg)/\fA κ a b out ia ib/\ia+1<a.size/\ib<b.size/\x+1<=ia+ib) (Q:=λc ay=>gz st ay/\∃ r,c.1=aa r/\gC κ (a.toList++b.toList) r) ?_ ?_ ?_) ?_);rotate_left
 ·rintro c ay ⟨_,out,ia,ib,mg,rfl,hI,h1,h2,h3⟩;lia
 ·exact⟨.rfl,_,0,1,_,rfl,I0,∅,∅,∅⟩
 ·rintro⟨c1,c⟩ ay ⟨hS,r,rfl,hD⟩;exact aS (h r ay hS hD)
 rintro x c ay _ hx ⟨hS,out,ia,ib,mg,rfl,hI,h1,h2,h3⟩;refine aI (gH (gI (I:=λy c b9=>b9=ay/\∃ out ia ib ac bc,c=(ae,out,ia,ib,ac,bc)/\fA κ a b out ia ib/\ia+1<a.size/\ib<b.size/\x+1+y<=ia+ib) (Q:=λc b9=>b9=ay/\((∃ r c',c=(aa r,c')/\gC κ (a.toList++b.toList) r)\/∃ out ia ib ac bc,c=(ae,out,ia,ib,ac,bc)/\fA κ a b out ia ib/\ia+1<a.size/\ib<b.size/\x+1+1<=ia+ib)) ?_ ?_ ?_) ?_)
 ·rintro y c b9 _ hy ⟨rfl,out,ia,ib,ac,bc,rfl,hI,h1,h2,h3⟩;dsimp only;refine aI (eV h2 (aI (eV ∅ (aI (ud hO (hS.sb hk) (hB ib h2) (hA ia ∅) ?_)))));cases e:κ.blt (kO κ b[ib]) (kO κ (a[ia]'∅))with
  | true=>
   dsimp only;rw[if_pos rfl];refine aI (eV h2 ?_);have lg:=hI.pushB h2 λj hj fP=>bx.trans (kW e) (sa ia j hj fP);by_cases e3:ib+1=b.size
   ·rw[if_pos (by simp[e3])];exact aS ⟨rfl,.inl ⟨_,_,rfl,lg.doneA e3⟩⟩
   rw[if_neg (by simpa using e3)];split
   ·exact aS ⟨rfl,.inr ⟨_,_,_,_,_,rfl,lg,∅,∅,∅⟩⟩
   ·exact aS ⟨rfl,_,_,_,_,_,rfl,lg,∅,∅,∅⟩
  | false=>
   dsimp only;rw[if_neg (by simp)];refine aI (eV ∅ ?_);have lg:=hI.pushA ∅ λj hj fP=>bx.trans (show bx κ (a[ia]'∅) b[ib] from e) (sb ib j hj fP);by_cases e3:ia+1+1=a.size
   ·rw[if_pos (by simp[e3])];exact aS ⟨rfl,.inl ⟨_,_,rfl,lg.last e3 (lW ∅ ∅)⟩⟩
   rw[if_neg (by simpa using e3)];split
   ·exact aS ⟨rfl,.inr ⟨_,_,_,_,_,rfl,lg,∅,∅,∅⟩⟩
   ·exact aS ⟨rfl,_,_,_,_,_,rfl,lg,∅,∅,∅⟩
 ·rintro c b9 ⟨rfl,out,ia,ib,ac,bc,rfl,hI,h1,h2,h3⟩;lia
 ·exact⟨rfl,_,_,_,_,_,rfl,hI,h1,h2,∅⟩
 rintro c b9 ⟨rfl,⟨r,c',rfl,hD⟩ | ⟨out,ia,ib,ac,bc,rfl,hI,h1,h2,h3⟩⟩
 ·exact aS ⟨hS,r,rfl,hD⟩
 refine aI (rY (oh ⟨rfl,?_⟩));refine aI (gH (gI (I:=λy c b9=>gz st b9/\∃ out ia ib mg ac bc,c=(ae,out,ia,ib,mg,ac,bc)/\fA κ a b out ia ib/\ia+1<a.size/\ib<b.size/\x+2+y<=ia+ib) (Q:=λc b9=>gz st b9/\((∃ r c',c=(aa r,c')/\gC κ (a.toList++b.toList) r)\/∃ out ia ib mg ac bc,c=(ae,out,ia,ib,mg,ac,bc)/\fA κ a b out ia ib/\ia+1<a.size/\ib<b.size/\x+1+1<=ia+ib)) ?_ ?_ ?_) ?_);rotate_left
 ·rintro c b9 ⟨_,out,ia,ib,mg,ac,bc,rfl,hI,h1,h2,h3⟩;lia
 ·exact⟨hS,_,_,_,_,_,_,rfl,hI,h1,h2,∅⟩
 ·rintro c b9 ⟨hS,⟨r,c',rfl,hD⟩ | ⟨out,ia,ib,mg,ac,bc,rfl,hI,h1,h2,h3⟩⟩
  ·exact aS ⟨hS,r,rfl,hD⟩
  ·dsimp only;refine aI (mR (aS ⟨⟨hS.kind,hS.arr,hS.pend,hS.failed⟩,_,_,_,_,rfl,hI,h1,h2,∅⟩))
 clear h1 h2 h3 hI hS I0 e1 e2;rintro y c b9 _ hy ⟨hS,out,ia,ib,mg,ac,bc,rfl,hI,h1,h2,h3⟩;clear hx hy;have mY:∀ {i j:Nat} (bB:i<=j) (hj:j<b.size),bx κ (b[i]'∅) b[j]:=λ{i j} bB hj=>sb i j hj bB;have qh:∀ {i j:Nat} (bB:i<=j) (hj:j<a.size),bx κ (a[i]'∅) a[j]:=λ{i j} bB hj=>sa i j hj bB;refine(?_:wpS (au prog w) A E s _ ?Q _);extract_lets -merge x1 x2 x3 x4 x5 x6 x7 x8 x9 xa xb xc jp;have hj:∀ g bv,gz st bv->wpS (au prog w) A E s (jp () g) ?Q bv:=by
  intro g bv fQ;dsimp -zeta only[jp,x1,x2,x3,x4,x5,x6,x7,x8,x9,xa,xb,xc];refine aI (zr fQ λbv fQ=>?_);refine aI (eV h2 ?_);refine aI (Ax hO (fQ.sb hk) (base:=ia) (n:=a.size-ia) (hint:=0) (hB ib h2) ∅ hA (λi j bB hj _=>qh bB ∅) ∅ λk kh fe fR=>?_);dsimp -zeta only;extract_lets -merge y1 jp2;have u7:∀ o n,fA κ a b o n ib->ia+k<=n->n+1<a.size->wpS (au prog w) A E s (jp2 () o n) ?Q bv:=by
   intro o n u8 oG e4;dsimp -zeta only[jp2,y1];refine aI (eV h2 ?_);have hI3:=u8.pushB h2 λj hj g=>kW (fR j hj ∅ ∅);refine cm (λe5=>?_) λe5=>?_
   ·exact aS ⟨fQ,.inl ⟨_,_,rfl,hI3.doneA (by simpa using e5)⟩⟩
   have e5':ib+1≠b.size:=by simpa using e5
   refine aI (eV ∅ ?_);refine aI (zU hO (fQ.sb hk) (base:=ib+1) (n:=b.size-(ib+1)) (hint:=0) (hA _ _) ∅ hB (λi j bB hj _=>mY bB ∅) ∅ λk' m1 m2 m3=>?_);dsimp -zeta only;extract_lets -merge z1 z2 jp3;have u9:∀ o m,fA κ a b o n m->ib+1+k'<=m->m<b.size->wpS (au prog w) A E s (jp3 () o m) ?Q bv:=by
    intro o m u_ e6 e7;dsimp -zeta only[jp3,z1,z2];refine aI (eV ∅ ?_);have va:=u_.pushA ∅ (λj hj g=>m3 j hj ∅ ∅);refine cm (λe7=>?_) λe7=>?_
    ·have e7':n+1+1=a.size:=by simpa using e7
     exact aS ⟨fQ,.inl ⟨_,_,rfl,va.last e7' (lW ∅ e7')⟩⟩
    have e7':n+1+1≠a.size:=by simpa using e7
    refine cm (λe8=>?_) λe8=>?_
    ·exact aS ⟨fQ,.inr ⟨_,_,_,_,_,_,rfl,va,∅,∅,∅⟩⟩
    ·exact aS ⟨fQ,_,_,_,_,_,_,rfl,va,∅,∅,∅⟩
   clear_value jp3;refine cm (λCe=>?_) (λCe=>?_)
   ·have u_:=hI3.extB (k:=k') ∅ (λi hi g1 g2 j hj g3=>bx.trans (kW (m2 i hi g1 g2)) (qh g3 hj));refine cm (λe6=>?_) λe6=>?_
    ·exact aS ⟨fQ,.inl ⟨_,_,rfl,u_.doneA (by simpa using e6)⟩⟩
    have e6':ib+1+k'≠b.size:=by simpa using e6
    exact u9 _ _ u_ ∅ ∅
   ·exact u9 _ _ hI3 ∅ ∅
  clear_value jp2;refine cm (λhk0=>?_) (λhk0=>?_)
  ·have u8:fA κ a b (out++a.extract ia (ia+k)) (ia+k) ib:=hI.extA ∅ λi hi g1 g2 j hj g3=>(fe i hi g1 g2).trans (mY g3 hj);refine cm (λe3=>?_) λe3=>?_
   ·have oG:ia+k+1=a.size:=by simpa using e3
    exact aS ⟨fQ,.inl ⟨_,_,rfl,u8.last oG (lW ∅ oG)⟩⟩
   have oG:ia+k+1≠a.size:=by simpa using e3
   refine cm (λe4=>?_) λe4=>?_
   ·exact aS ⟨fQ,.inl ⟨_,_,rfl,u8.doneB (by simpa using e4)⟩⟩
   have e4':ia+k≠a.size:=by simpa using e4
   exact u7 _ _ u8 ∅ ∅
  ·exact u7 _ _ hI ∅ ∅
 exact cm (λ_=>hj _ _ hS) λ_=>hj _ _ hS
end
def Av(κ:KeyKind):KeyKind where
 α:=κ.α
 blt:=λa b=>κ.blt b a
 irrefl:=κ.irrefl
 trans:=λa b c h1 h2=>κ.trans c b a h2 h1
 negTrans:=λa b c h=>(κ.negTrans c b a h).symm
 total:=λa b h1 h2=>κ.total a b h2 h1
 keyOf:=κ.keyOf
 dflt:=κ.dflt
section
variable{κ:KeyKind}
theorem sH{x y:Keyed}(h:bx κ y x):bx (Av κ) x y:=h
theorem Cv{a:Array Keyed}{n:Nat}(h:0<n)(hn:n<=a.size):(a.toList.take n).reverse=(a[n-1]'∅)::(a.toList.take (n-1)).reverse:=by
 obtain⟨m,rfl⟩:∃ m,n=m+1:=⟨n-1,∅⟩
 rw[List.take_succ_eq_append_getElem (by simp; lia),BV];simp
theorem Gd(a:Array Keyed)(p n:Nat)(hp:p<=n):a.toList.take n=a.toList.take p++(a.extract p n).toList:=by
 rw[kK]
 conv=>lhs; rw[show n=p+(n-p) by lia]
 rw[List.take_add]
theorem qH{a:Array Keyed}{n:Nat}(hn:n<=a.size){x:Keyed}(h:x∈a.toList.take n):∃ j,∃ hj:j<a.size,j<n/\a[j]=x:=by
 obtain⟨m,hm,e⟩:=yb h;rw[HM]at e;have h1:m<n:=by simp at hm; lia
 exact⟨m,∅,h1,by simpa using e⟩
theorem z5{a:Array Keyed}{p n:Nat}(hn:n<=a.size){x:Keyed}(h:x∈(a.extract p n).toList):∃ j,∃ hj:j<a.size,p<=j/\j<n/\a[j]=x:=by
 rw[kK]at h;obtain⟨m,hm,e⟩:=yb h;rw[HM,HL]at e;have h1:p+m<n:=by simp at hm; lia
 exact⟨p+m,∅,∅,h1,by simpa using e⟩
theorem pe(a:Array Keyed)(n:Nat):(a.extract 0 n).toList=a.toList.take n:=by rw[kK]; simp
structure fD(κ:KeyKind)(a b out:Array Keyed)(na nb:Nat):Prop where
 ms:MS (Av κ) (a.toList++b.toList) out.toList (a.toList.take na).reverse (b.toList.take nb).reverse
 la:na<=a.size
 lb:nb<=b.size
variable{a b out:Array Keyed}{na nb:Nat}
theorem fD.pushA(h:fD κ a b out na nb)(hn:0<na)(hla:na-1<a.size)(hx:∀ j (hj:j<b.size),j<nb->bx κ b[j] a[na-1]):fD κ a b (out.push a[na-1]) (na-1) nb:=by refine⟨?_,∅,h.lb⟩;rw[uu];refine MS.stepA (by rw[BS,← Cv hn h.la]; exact h.ms) λu hu v hv=>?_;obtain⟨j,hj,fP,rfl⟩:=qH h.lb (qb.mp hv);rw[gG.mp hu]; exact sH (hx j hj fP)
theorem fD.pushB(h:fD κ a b out na nb)(hn:0<nb)(hlb:nb-1<b.size)(hx:∀ j (hj:j<a.size),j<na->bx κ a[j] b[nb-1]):fD κ a b (out.push b[nb-1]) na (nb-1):=by refine⟨?_,h.la,∅⟩;rw[uu];refine MS.stepB (by rw[BS,← Cv hn h.lb]; exact h.ms) λu hu v hv=>?_;obtain⟨j,hj,fP,rfl⟩:=qH h.la (qb.mp hv);rw[gG.mp hu]; exact sH (hx j hj fP)
theorem fD.extA{p:Nat}(h:fD κ a b out na nb)(hp:p<=na)(hx:∀ i (hi:i<a.size),p<=i->i<na->∀ j (hj:j<b.size),j<nb->bx κ b[j] a[i]):fD κ a b (out++(a.extract p na).reverse) p nb:=by refine⟨?_,cr hp h.la,h.lb⟩;rw[iO,Array.toList_reverse];refine MS.stepA (by rw[← BV,← Gd _ _ _ hp]; exact h.ms) λu hu v hv=>?_;obtain⟨j,hj,fP,rfl⟩:=qH h.lb (qb.mp hv);obtain⟨i,hi,h1,h2,rfl⟩:=z5 h.la (qb.mp hu);exact sH (hx i hi h1 h2 j hj fP)
theorem fD.extB{p:Nat}(h:fD κ a b out na nb)(hp:p<=nb)(hx:∀ i (hi:i<b.size),p<=i->i<nb->∀ j (hj:j<a.size),j<na->bx κ a[j] b[i]):fD κ a b (out++(b.extract p nb).reverse) na p:=by refine⟨?_,h.la,cr hp h.lb⟩;rw[iO,Array.toList_reverse];refine MS.stepB (by rw[← BV,← Gd _ _ _ hp]; exact h.ms) λu hu v hv=>?_;obtain⟨j,hj,fP,rfl⟩:=qH h.la (qb.mp hv);obtain⟨i,hi,h1,h2,rfl⟩:=z5 h.lb (qb.mp hu);exact sH (hx i hi h1 h2 j hj fP)
theorem yH{T:List Keyed}{r q:Array Keyed}(h:gC (Av κ) T q)(e:r.toList=q.toList.reverse):gC κ T r:=by refine⟨by rw[e]; exact(HN _).trans h.1,?_⟩;rw[e,HP];exact h.2
theorem fD.doneA(h:fD κ a b out na nb)(e:na=0):gC κ (a.toList++b.toList) (a.extract 0 na++b.extract 0 nb++out.reverse):=by have:=h.ms;rw[e,BN,List.reverse_nil]at this;refine yH (q:=(out.toList++(b.toList.take nb).reverse).toArray) (this.swap.endA (by simp)) ?_;rw[iO,iO,pe,pe,e]; simp
theorem fD.doneB(h:fD κ a b out na nb)(e:nb=0):gC κ (a.toList++b.toList) (a.extract 0 na++b.extract 0 nb++out.reverse):=by have:=h.ms;rw[e,BN,List.reverse_nil]at this;refine yH (q:=(out.toList++(a.toList.take na).reverse).toArray) (this.endA (by simp)) ?_;rw[iO,iO,pe,pe,e]; simp
theorem fD.first(h:fD κ a b out na nb)(e:nb=1)(hf:∀ j (hj:j<a.size),bx κ (b[0]'(by have:=h.lb; lia)) a[j]):gC κ (a.toList++b.toList) (b.extract 0 nb++a.extract 0 na++out.reverse):=by
 refine yH (q:=(out.toList++((a.toList.take na).reverse++(b.toList.take nb).reverse)).toArray) (h.ms.swap.last (λu hu v hv=>?_) (by simp)) ?_
 ·obtain⟨i,hi,h1,rfl⟩:=qH h.la (qb.mp hu);obtain⟨j,hj,h2,rfl⟩:=qH h.lb (qb.mp hv);have:j=0:=∅
  subst this; exact sH (hf i hi)
 ·rw[iO,iO,pe,pe]; simp
end
section
variable{prog:aM}{w:aG}{A:aR}{E:ai->ao->Prop}{s:ao}{κ:KeyKind}
theorem Lc(hO:κ.OneLt){st:bz}(hk:SB st){a b:Array Keyed}{Q:Array Keyed->bz->Prop}(ha:0<a.size)(hb:0<b.size)(hA:∀ i (hi:i<a.size),gL κ a[i]) (hB:∀ i (hi:i<b.size),gL κ b[i]) (sa:tm κ a) (sb:tm κ b)(h0:bx κ b[0] a[0]) (hl:∀ j (hj:j<b.size),bx κ b[j] a[a.size-1])(h:∀ r ay,gz st ay->gC κ (a.toList++b.toList) r->Q r ay) : wpS (au prog w) A E s (FP a b) Q st:=by
 have mY:∀ {i j:Nat} (bB:i<=j) (hj:j<b.size),bx κ (b[i]'∅) b[j]:=λ{i j} bB hj=>sb i j hj bB;have qh:∀ {i j:Nat} (bB:i<=j) (hj:j<a.size),bx κ (a[i]'∅) a[j]:=λ{i j} bB hj=>sa i j hj bB;have hf:∀ j (hj:j<a.size),bx κ b[0] a[j]:=λj hj=>h0.trans (qh ∅ hj);have I0:fD κ a b #[a[a.size-1]] (a.size-1) b.size:=by
  have h1:fD κ a b #[] a.size b.size:=by
   refine⟨⟨?_,by simp,?_,?_,by simp,by simp⟩,∅,∅⟩
   ·simp only[← mF,BW,mS];exact List.Perm.append (HN _) (HN _)
   ·simp only[← mF,BW,HP];exact sa.pw
   ·simp only[← mF,BW,HP];exact sb.pw
  exact h1.pushA ha ∅ λj hj _=>hl j hj
 unfold FP;refine aI (rY (oh ⟨rfl,?_⟩));refine aI (eV ∅ ?_);refine cm (λe1=>aS (h _ _ .rfl (I0.doneA (by simpa using e1)))) λe1=>?_;have lX:a.size-1≠0:=by simpa using e1
 refine cm (λe2=>?_) λe2=>?_
 ·have jI:b.size=1:=by simpa using e2
  exact aS (h _ _ .rfl (I0.first jI hf))
 have jI:b.size≠1:=by simpa using e2
 refine aI (kU ?_);refine aI (gH (gI (I:=λx c ay=>gz st ay/\∃ out na nb mg,c=(ae,na,nb,out,mg)/\fD κ a b out na nb/\0<na/\na<=a.size/\1<nb/\nb<=b.size/\x+1+na+nb<=a.size+b.size) (Q:=λc ay=>gz st ay/\∃ r,c.1=aa r/\gC κ (a.toList++b.toList) r) ?_ ?_ ?_) ?_);rotate_left
 ·rintro c ay ⟨_,out,na,nb,mg,rfl,hI,h1,iR,h2,iS,h3⟩;lia
 ·exact⟨.rfl,_,_,_,_,rfl,I0,∅,∅,∅,∅,∅⟩
 ·rintro⟨c1,c⟩ ay ⟨hS,r,rfl,hD⟩;exact aS (h r ay hS hD)
 rintro x c ay _ hx ⟨hS,out,na,nb,mg,rfl,hI,h1,iR,h2,iS,h3⟩;refine aI (gH (gI (I:=λy c b9=>b9=ay/\∃ out na nb ac bc,c=(ae,na,nb,out,ac,bc)/\fD κ a b out na nb/\0<na/\na<=a.size/\1<nb/\nb<=b.size/\x+1+y+na+nb<=a.size+b.size) (Q:=λc b9=>b9=ay/\((∃ r c',c=(aa r,c')/\gC κ (a.toList++b.toList) r)\/∃ out na nb ac bc,c=(ae,na,nb,out,ac,bc)/\fD κ a b out na nb/\0<na/\na<=a.size/\1<nb/\nb<=b.size/\x+1+1+na+nb<=a.size+b.size)) ?_ ?_ ?_) ?_)
 ·rintro y c b9 _ hy ⟨rfl,out,na,nb,ac,bc,rfl,hI,h1,iR,h2,iS,h3⟩;dsimp only;refine aI (eV ∅ (aI (eV ∅ (aI (ud hO (hS.sb hk) (hB (nb-1) ∅) (hA (na-1) ∅) ?_)))));cases e:κ.blt (kO κ (b[nb-1]'∅)) (kO κ (a[na-1]'∅))with
  | true=>
   dsimp only;rw[if_pos rfl];refine aI (eV ∅ ?_);have lg:=hI.pushA h1 ∅ λj hj fP=>bx.trans (mY (show j<=nb-1 by lia) ∅) (kW e);refine cm (λe3=>?_) λe3=>?_
   ·exact aS ⟨rfl,.inl ⟨_,_,rfl,lg.doneA (by simpa using e3)⟩⟩
   have oG:na-1≠0:=by simpa using e3
   refine cm (λe4=>?_) λe4=>?_
   ·exact aS ⟨rfl,.inr ⟨_,_,_,_,_,rfl,lg,∅,∅,∅,∅,∅⟩⟩
   ·exact aS ⟨rfl,_,_,_,_,_,rfl,lg,∅,∅,∅,∅,∅⟩
  | false=>
   dsimp only;rw[if_neg (by simp)];refine aI (eV ∅ ?_);have lg:=hI.pushB ∅ ∅ λj hj fP=>bx.trans (qh (show j<=na-1 by lia) ∅) (show bx κ (a[na-1]'∅) (b[nb-1]'∅)from e);refine cm (λe3=>?_) λe3=>?_
   ·exact aS ⟨rfl,.inl ⟨_,_,rfl,lg.first (by simpa using e3) hf⟩⟩
   have oG:nb-1≠1:=by simpa using e3
   refine cm (λe4=>?_) λe4=>?_
   ·exact aS ⟨rfl,.inr ⟨_,_,_,_,_,rfl,lg,∅,∅,∅,∅,∅⟩⟩
   ·exact aS ⟨rfl,_,_,_,_,_,rfl,lg,∅,∅,∅,∅,∅⟩
 ·rintro c b9 ⟨rfl,out,na,nb,ac,bc,rfl,hI,h1,iR,h2,iS,h3⟩;lia
 ·exact⟨rfl,_,_,_,_,_,rfl,hI,h1,iR,h2,iS,∅⟩
 rintro c b9 ⟨rfl,⟨r,c',rfl,hD⟩ | ⟨out,na,nb,ac,bc,rfl,hI,h1,iR,h2,iS,h3⟩⟩
 ·exact aS ⟨hS,r,rfl,hD⟩
 refine aI (rY (oh ⟨rfl,?_⟩));refine aI (gH (gI (I:=λy c b9=>gz st b9/\∃ out na nb mg ac bc,c=(ae,na,nb,out,mg,ac,bc)/\fD κ a b out na nb/\0<na/\na<=a.size/\1<nb/\nb<=b.size/\x+2+y+na+nb<=a.size+b.size) (Q:=λc b9=>gz st b9/\((∃ r c',c=(aa r,c')/\gC κ (a.toList++b.toList) r)\/∃ out na nb mg ac bc,c=(ae,na,nb,out,mg,ac,bc)/\fD κ a b out na nb/\0<na/\na<=a.size/\1<nb/\nb<=b.size/\x+1+1+na+nb<=a.size+b.size)) ?_ ?_ ?_) ?_);rotate_left
 ·rintro c b9 ⟨_,out,na,nb,mg,ac,bc,rfl,hI,h1,iR,h2,iS,h3⟩;lia
 ·exact⟨hS,_,_,_,_,_,_,rfl,hI,h1,iR,h2,iS,∅⟩
 ·rintro c b9 ⟨hS,⟨r,c',rfl,hD⟩ | ⟨out,na,nb,mg,ac,bc,rfl,hI,h1,iR,h2,iS,h3⟩⟩
  ·exact aS ⟨hS,r,rfl,hD⟩
  ·dsimp only;exact aI (zr hS λbv fQ=>aS ⟨fQ,_,_,_,_,rfl,hI,h1,iR,h2,iS,∅⟩)
 clear h1 iR h2 iS h3 hI hS I0 e1 e2;rintro y c b9 _ hy ⟨hS,out,na,nb,mg,ac,bc,rfl,hI,h1,iR,h2,iS,h3⟩;clear hx hy;refine(?_:wpS (au prog w) A E s _ ?Q _);extract_lets -merge x1 x2 x3 x4 x5 x6 x7 x8 x9 xa xb xc jp;have hj:∀ g bv,gz st bv->wpS (au prog w) A E s (jp () g) ?Q bv:=by
  intro g bv fQ;dsimp -zeta only[jp,x1,x2,x3,x4,x5,x6,x7,x8,x9,xa,xb,xc];refine aI (zr fQ λbv fQ=>?_);refine aI (eV ∅ ?_);refine aI (Ax hO (fQ.sb hk) (base:=0) (n:=na) (hint:=na-1) (hB (nb-1) ∅) ∅ hA (λi j bB hj _=>qh bB ∅) ∅ λp kh fe fR=>?_);dsimp -zeta only;extract_lets -merge y1 y2 jp2;have u7:∀ n o,fD κ a b o n nb->0<n->n<=p->wpS (au prog w) A E s (jp2 () n o) ?Q bv:=by
   intro n o u8 oG e4;dsimp -zeta only[jp2,y1,y2];refine aI (eV ∅ ?_);have hI3:=u8.pushB ∅ ∅ λj hj g=>fe j hj ∅ ∅;refine cm (λe5=>?_) λe5=>?_
   ·exact aS ⟨fQ,.inl ⟨_,_,rfl,hI3.first (by simpa using e5) hf⟩⟩
   have e5':nb-1≠1:=by simpa using e5
   refine aI (eV ∅ ?_);refine aI (zU hO (fQ.sb hk) (base:=0) (n:=nb-1) (hint:=nb-1-1) (hA _ _) ∅ hB (λi j bB hj _=>mY bB ∅) ∅ λp' m1 m2 m3=>?_);dsimp -zeta only;extract_lets -merge z1 z2 z3 jp3;have u9:∀ m o,fD κ a b o n m->1<m->m<=p'->wpS (au prog w) A E s (jp3 () m o) ?Q bv:=by
    intro m o u_ e6 e7;dsimp -zeta only[jp3,z1,z2,z3];refine aI (eV ∅ ?_);have va:=u_.pushA ∅ ∅ (λj hj g=>kW (m2 j hj ∅ ∅));refine cm (λe7=>?_) λe7=>?_
    ·exact aS ⟨fQ,.inl ⟨_,_,rfl,va.doneA (by simpa using e7)⟩⟩
    have e7':n-1≠0:=by simpa using e7
    refine cm (λe8=>?_) λe8=>?_
    ·exact aS ⟨fQ,.inr ⟨_,_,_,_,_,_,rfl,va,∅,∅,∅,∅,∅⟩⟩
    ·exact aS ⟨fQ,_,_,_,_,_,_,rfl,va,∅,∅,∅,∅,∅⟩
   clear_value jp3;refine cm (λCe=>?_) (λCe=>?_)
   ·have u_:=hI3.extB (p:=p') ∅ (λi hi g1 g2 j hj g3=>bx.trans (qh (show j<=n-1 by lia) ∅) (m3 i hi ∅ ∅));refine cm (λe6=>?_) λe6=>?_
    ·exact aS ⟨fQ,.inl ⟨_,_,rfl,u_.first (by simpa using e6) hf⟩⟩
    refine cm (λe9=>?_) λe9=>?_
    ·exact aS ⟨fQ,.inl ⟨_,_,rfl,u_.doneB (by simpa using e9)⟩⟩
    have e6':p'≠1:=by simpa using e6
    have e9':p'≠0:=by simpa using e9
    exact u9 _ _ u_ ∅ ∅
   ·exact u9 _ _ hI3 ∅ ∅
  clear_value jp2;refine cm (λhk0=>?_) (λhk0=>?_)
  ·have u8:fD κ a b (out++(a.extract p na).reverse) p nb:=hI.extA ∅ λi hi g1 g2 j hj g3=>bx.trans (mY (show j<=nb-1 by lia) ∅) (kW (fR i hi ∅ ∅));refine cm (λe3=>?_) λe3=>?_
   ·exact aS ⟨fQ,.inl ⟨_,_,rfl,u8.doneA (by simpa using e3)⟩⟩
   have oG:p≠0:=by simpa using e3
   exact u7 _ _ u8 ∅ ∅
  ·exact u7 _ _ hI ∅ ∅
 exact cm (λ_=>hj _ _ hS) λ_=>hj _ _ hS
end
def putL(a:Array Keyed)(lo:Nat)(l:List Keyed):Array Keyed:=l.zipIdx.foldl (λa (pj:Keyed×Nat)=>a.setIfInBounds (lo+pj.2) pj.1) a
theorem yU:∀ (l:List Keyed) (n lo:Nat) (a:Array Keyed),lo+n+l.length<=a.size -> ((l.zipIdx n).foldl (λa (pj:Keyed×Nat)=>a.setIfInBounds (lo+pj.2) pj.1) a).size=a.size /\ ∀ k,((l.zipIdx n).foldl (λa (pj:Keyed×Nat)=>a.setIfInBounds (lo+pj.2) pj.1) a)[k]?=if lo+n<=k/\k<lo+n+l.length then l[k-(lo+n)]? else a[k]?
 | [],n,lo,a,_=>⟨rfl,λk=>by rw[if_neg (by simp)]; rfl⟩
 | x::l,n,lo,a,h=>by
  have h':lo+(n+1)+l.length<=(a.setIfInBounds (lo+n) x).size:=by simp at h ⊢; lia
  obtain⟨e1,e2⟩:=yU l (n+1) lo (a.setIfInBounds (lo+n) x) h';rw[List.zipIdx_cons,og];refine⟨by rw[e1]; simp,λk=>?_⟩;rw[e2];by_cases h1:lo+n=k
  ·subst h1;rw[if_neg ∅,if_pos (by simp)];rw[Array.getElem?_setIfInBounds_self_of_lt (by simp at h; lia)];simp
  ·by_cases h2:lo+(n+1)<=k/\k<lo+(n+1)+l.length
   ·rw[if_pos h2,if_pos (by simp; lia)];rw[show k-(lo+n)=k-(lo+(n+1))+1 by lia,List.getElem?_cons_succ]
   ·rw[if_neg h2,if_neg (by simp; lia),Array.getElem?_setIfInBounds_ne h1]
theorem Kh{a:Array Keyed}{lo:Nat}{l:List Keyed}(h:lo+l.length<=a.size):(putL a lo l).size=a.size:=(yU l 0 lo a ∅).1
theorem Ab{a:Array Keyed}{lo:Nat}{l:List Keyed}(h:lo+l.length<=a.size)(k:Nat):(putL a lo l)[k]?=if lo<=k/\k<lo+l.length then l[k-lo]? else a[k]? :=(yU l 0 lo a ∅).2 k
theorem On{a:Array Keyed}{lo n:Nat}{l:List Keyed}(h:lo+n<=a.size)(hp:l.Perm ((a.toList.drop lo).take n)):(putL a lo l).toList.Perm a.toList:=by
 have hl:l.length=n:=by rw[hp.length_eq,jD,jF]; simp; lia
 have e:(putL a lo l).toList=a.toList.take lo++(l++a.toList.drop (lo+n)):=by
  apply ka;intro k;rw[xN,Ab ∅,List.getElem?_append,List.getElem?_append,jD,om,mP,hl];simp only[mF,xN];rw[show min lo a.size=lo by lia];by_cases h1:k<lo
  ·rw[if_neg ∅,if_pos h1,if_pos h1]
  ·rw[if_neg h1];by_cases h2:k<lo+n
   ·rw[if_pos ∅,if_pos ∅]
   ·rw[if_neg ∅,if_neg ∅]; congr 1; lia
 rw[e];have e2:a.toList=a.toList.take lo++((a.toList.drop lo).take n++a.toList.drop (lo+n)):=by rw[← List.drop_drop,ol,ol]
 conv=>rhs; rw[e2]
 exact HA _ (List.Perm.append_right _ hp)
section
variable{κ:KeyKind}
def Run(κ:KeyKind)(a:Array Keyed)(lo n:Nat):Prop:=∀ i j x y,lo<=i->i<=j->j<lo+n->a[i]?=aa x->a[j]?=aa y->bx κ x y
theorem bx.refl(x:Keyed):bx κ x x:=mT _
structure Wr(a a':Array Keyed)(lo n:Nat):Prop where
 perm:a'.toList.Perm a.toList
 size:a'.size=a.size
 out:∀ k,k<lo\/lo+n<=k->a'[k]?=a[k]?
theorem Run.keep{a a':Array Keyed}{lo n lo' n':Nat}(h:Run κ a lo n)(w:Wr a a' lo' n')(d:lo+n<=lo'\/lo'+n'<=lo):Run κ a' lo n:=by intro i j x y h1 h2 h3 hx hy;rw[w.out i ∅]at hx;rw[w.out j ∅]at hy;exact h i j x y h1 h2 h3 hx hy
end
section
variable{prog:aM}{w:aG}{A:aR}{E:ai->ao->Prop}{s:ao}{κ:KeyKind}
theorem O8{σ:Type}{M:Model}{Q:PUnit->σ->Prop}{st ay:σ}(h:Q ⟨⟩ ay):wpS M A E s (set ay:StateT σ Sem PUnit) Q st:=by unfold wpS; rw[StateT.run_set]; exact aQ ⟨rfl,h⟩
theorem QS(a:Array Keyed){p q t:Nat}(h1:p<=q)(h2:q<=t):(a.extract p q).toList++(a.extract q t).toList=(a.extract p t).toList:=by rw[kK,kK,kK,show t-p=(q-p)+(t-q) by lia,List.take_add,List.drop_drop,show p+(q-p)=q by lia]
theorem P_{arr:Array Keyed}{sa na nb k nb':Nat}(hsz:sa+na+nb<=arr.size)(hk:k<na)(h0:0<nb')(hnb:nb'<=nb)(r1:Run κ arr sa na)(r2:Run κ arr (sa+na) nb)(a1:∀ i (hi:i<arr.size),sa<=i->i<sa+k->bx κ arr[i] (arr[sa+na]'∅)) (b2:∀ i (hi:i<arr.size),sa+na+nb'<=i->i<sa+na+nb->bx κ (arr[sa+na-1]'∅) arr[i]){r:Array Keyed} (hD:gC κ ((arr.extract (sa+k) (sa+na)).toList++(arr.extract (sa+na) (sa+na+nb')).toList) r) : Wr arr (putL arr (sa+k) r.toList) sa (na+nb)/\Run κ (putL arr (sa+k) r.toList) sa (na+nb):=by
 rw[QS _ ∅ ∅]at hD;have a8:r.toList.length=na-k+nb':=by rw[hD.1.length_eq,kK,jD,jF,mF]; lia
 have hb:sa+k+r.toList.length<=arr.size:=∅
 have hm:∀ m∈r.toList,∃ t,∃ ht:t<arr.size,sa+k<=t/\t<sa+na+nb'/\arr[t]=m:=λm hm=>z5 ∅ (hD.1.mem_iff.mp hm);have g1:∀ {i j:Nat} (bB:i<=j) (hj:j<sa+na),sa<=i->bx κ (arr[i]'∅) (arr[j]'∅):=λ{i j} bB hj hi=>r1 i j _ _ hi bB hj (getElem?_pos _ _ _) (getElem?_pos _ _ _);have g2:∀ {i j:Nat} (bB:i<=j) (hj:j<sa+na+nb),sa+na<=i->bx κ (arr[i]'∅) (arr[j]'∅):=λ{i j} bB hj hi=>r2 i j _ _ hi bB hj (getElem?_pos _ _ _) (getElem?_pos _ _ _);have pS:∀ i (hi:i<arr.size) j (hj:j<arr.size),sa<=i->i<sa+k->sa+na<=j->j<sa+na+nb->bx κ arr[i] arr[j]:=λi hi j hj c1 c2 c3 c4=>(a1 i hi c1 c2).trans (g2 c3 c4 (bp _));refine⟨⟨?_,Kh hb,λq hq=>?_⟩,?_⟩
 ·refine On (n:=na-k+nb') ∅ ?_;have:=hD.1;rwa[kK,show sa+na+nb'-(sa+k)=na-k+nb' by lia]at this
 ·rw[Ab hb,if_neg ∅]
 ·intro i j x y h1 h2 h3 hx hy;rw[Ab hb]at hx hy;by_cases ci:sa+k<=i/\i<sa+k+r.toList.length
  ·rw[if_pos ci]at hx;obtain⟨t,ht,t1,t2,rfl⟩:=hm x (Bv hx);by_cases cj:sa+k<=j/\j<sa+k+r.toList.length
   ·rw[if_pos cj]at hy;by_cases eij:i=j
    ·subst eij; rw[hx]at hy; cases hy; exact bx.refl _
    ·obtain⟨u1,u2⟩:=cu.mp hx;obtain⟨v1,v2⟩:=cu.mp hy;have:=List.pairwise_iff_getElem.mp hD.2 (i-(sa+k)) (j-(sa+k)) u1 v1 ∅;rw[u2,v2]at this;exact this
   ·rw[if_neg cj]at hy;obtain⟨hj,rfl⟩:=p8.mp hy;by_cases ct:t<sa+na
    ·exact(g1 (show t<=sa+na-1 by lia) ∅ ∅).trans (b2 j hj ∅ ∅)
    ·exact g2 ∅ ∅ ∅
  ·rw[if_neg ci]at hx;obtain⟨hi,rfl⟩:=p8.mp hx;by_cases cj:sa+k<=j/\j<sa+k+r.toList.length
   ·rw[if_pos cj]at hy;obtain⟨t,ht,t1,t2,rfl⟩:=hm y (Bv hy);by_cases ct:t<sa+na
    ·exact g1 ∅ ct ∅
    ·exact pS i hi t ht ∅ ∅ ∅ ∅
   ·rw[if_neg cj]at hy;obtain⟨hj,rfl⟩:=p8.mp hy;by_cases c2:i<sa+k
    ·by_cases c3:j<sa+k
     ·exact g1 h2 ∅ h1
     ·exact pS i hi j hj ∅ c2 ∅ ∅
    ·exact g2 h2 ∅ ∅
theorem CL{arr:Array Keyed}{sa na nb:Nat}(hsz:sa+na+nb<=arr.size)(hna:0<na)(hnb:0<nb)(r1:Run κ arr sa na)(r2:Run κ arr (sa+na) nb)(hj:bx κ (arr[sa+na-1]'∅) (arr[sa+na]'∅)):Run κ arr sa (na+nb):=by
 intro i j x y h1 h2 h3 hx hy;by_cases c1:j<sa+na
 ·exact r1 i j x y h1 h2 c1 hx hy
 ·by_cases c2:i<sa+na
  ·exact((r1 i (sa+na-1) x _ h1 ∅ ∅ hx (getElem?_pos _ _ _)).trans hj).trans (r2 (sa+na) j _ y ∅ ∅ ∅ (getElem?_pos _ _ _) hy)
  ·exact r2 i j x y ∅ h2 ∅ hx hy
theorem Wr.same{a:Array Keyed}{lo n:Nat}:Wr a a lo n:=⟨rQ _,rfl,λ_ _=>rfl⟩
theorem Oj(hO:κ.OneLt){st:bz}(hk:SB st)(hA:∀ i (hi:i<(arrOf st).size),gL κ (arrOf st)[i]){i sa na pw nb pw':Nat}(p1:(bo st)[i]?=aa (sa,na,pw)) (p2:(bo st)[i+1]?=aa (sa+na,nb,pw')) (hna:0<na) (hnb:0<nb) (hsz:sa+na+nb<=(arrOf st).size)(r1:Run κ (arrOf st) sa na) (r2:Run κ (arrOf st) (sa+na) nb) {Q:Bool->bz->Prop}(h:∀ ay,SB ay->bo ay=((bo st).setIfInBounds i (sa,na+nb,pw)).eraseIdxIfInBounds (i+1)->Wr (arrOf st) (arrOf ay) sa (na+nb)->Run κ (arrOf ay) sa (na+nb)->Q ah ay) : wpS (au prog w) A E s (mergeAt' i) Q st:=by
 obtain⟨kd,arr,pd,mg,fl⟩:=st;have hkd:kd=oneType':=hk.kind;have oC:fl=ae:=hk.failed;subst hkd oC;replace hA:∀ i (hi:i<arr.size),gL κ arr[i]:=hA;replace hsz:sa+na+nb<=arr.size:=hsz;replace r1:Run κ arr sa na:=r1;replace r2:Run κ arr (sa+na) nb:=r2;replace p1:pd[i]?=aa (sa,na,pw):=p1;replace p2:pd[i+1]?=aa (sa+na,nb,pw'):=p2;replace h:∀ ay,SB ay->bo ay=(pd.setIfInBounds i (sa,na+nb,pw)).eraseIdxIfInBounds (i+1)->Wr arr (arrOf ay) sa (na+nb)->Run κ (arrOf ay) sa (na+nb)->Q ah ay:=h;have g1:∀ {i j:Nat} (bB:i<=j) (hj:j<sa+na),sa<=i->bx κ (arr[i]'∅) (arr[j]'∅):=λ{i j} bB hj hi=>r1 i j _ _ hi bB hj (getElem?_pos _ _ _) (getElem?_pos _ _ _);have g2:∀ {i j:Nat} (bB:i<=j) (hj:j<sa+na+nb),sa+na<=i->bx κ (arr[i]'∅) (arr[j]'∅):=λ{i j} bB hj hi=>r2 i j _ _ hi bB hj (getElem?_pos _ _ _) (getElem?_pos _ _ _);unfold mergeAt';refine aI (kU ?_);dsimp only;rw[p1,p2];dsimp only;refine aI (O8 ?_);generalize (pd.setIfInBounds i (sa,na+nb,pw)).eraseIdxIfInBounds (i+1)=pend at *;refine aI (eV ∅ ?_);refine aI (Ax hO ⟨rfl,rfl⟩ (base:=sa) (n:=na) (hint:=0) (hA _ _) ∅ hA (λi j bB hj hi=>g1 bB hj hi) hna λk m1 m2 m3=>?_);dsimp only;refine cm (λe1=>?_) λe1=>?_
 ·have lX:na<=k:=by have:na-k=0:=(by simpa using e1); lia
  refine aS (h _ ⟨rfl,rfl⟩ rfl Wr.same (CL hsz hna hnb r1 r2 (m2 _ _ ∅ ∅)))
 have lX:k<na:=by have:na-k≠0:=(by simpa using e1); lia
 refine aI (eV ∅ ?_);refine aI (zU hO ⟨rfl,rfl⟩ (base:=sa+na) (n:=nb) (hint:=nb-1) (hA _ _) ∅ hA (λi j bB hj hi=>g2 bB hj hi) ∅ λnb' n1 n2 n3=>?_);dsimp only;have hidx:sa+k+(na-k)-1=sa+na-1:=∅
 simp only[hidx]at n2 n3;refine cm (λe2=>?_) λe2=>?_
 ·have jI:nb'=0:=by simpa using e2
  refine aS (h _ ⟨rfl,rfl⟩ rfl Wr.same (CL hsz hna hnb r1 r2 (n3 _ _ ∅ ∅)))
 have jI:nb'≠0:=by simpa using e2
 have xs:(arr.extract (sa+k) (sa+na)).size=na-k:=by simp; lia
 have ys:(arr.extract (sa+na) (sa+na+nb')).size=nb':=by simp; lia
 refine cm (λ_=>?_) λ_=>?_
 all_goals
  first
   | refine aI (Om hO ⟨rfl,rfl⟩ ∅ ∅ ?_ ?_ ?_ ?_ ?_ ?_ ?_)
   | refine aI (Lc hO ⟨rfl,rfl⟩ ∅ ∅ ?_ ?_ ?_ ?_ ?_ ?_ ?_)
  ·intro j hj; rw[mU]; exact hA _ _
  ·intro j hj; rw[mU]; exact hA _ _
  ·intro i j hj bB;rw[mU,mU];exact g1 ∅ ∅ ∅
  ·intro i j hj bB;rw[mU,mU];exact g2 ∅ ∅ ∅
  ·rw[mU,mU];exact kW (m3 _ _ ∅ ∅)
  ·intro j hj;rw[mU,mU];have:=n2 (sa+na+j) ∅ ∅ ∅;have e:sa+k+((arr.extract (sa+k) (sa+na)).size-1)=sa+na-1:=∅
   simp only[e];exact kW this
  ·rintro r ⟨kd',arr',pd',mg',fl'⟩ ⟨c1,c2,c3,c4⟩ hD;change kd'=oneType' at c1;change arr'=arr at c2;change pd'=pend at c3;change fl'=ae at c4;subst c1 c2 c3 c4;refine aI (mR ?_);refine aI (kU ?_);obtain⟨w1,w2⟩:=P_ hsz lX ∅ n1 r1 r2 (λi hi c1 c2=>m2 i hi c1 c2) (λi hi c1 c2=>n3 i hi c1 c2) hD;exact aS (h _ ⟨rfl,rfl⟩ rfl w1 w2)
end
section
variable{κ:KeyKind}
theorem ze{a:Array Keyed}{i:Nat}{x:Keyed}(h:a[i]?=aa x):KK κ a i=kO κ x:=by unfold KK kO; rw[h]
theorem wS{a:Array Keyed}{i:Nat}(h:i<a.size):KK κ a i=kO κ a[i]:=ze (getElem?_pos _ _ _)
def gZ(κ:KeyKind)(a:Array Keyed)(lo n:Nat):Prop:=∀ i j,lo<=i->i<=j->j<lo+n->κ.kle (KK κ a i) (KK κ a j)
def ng(κ:KeyKind)(a:Array Keyed)(lo n:Nat):Prop:=∀ i j,lo<=i->i<=j->j<lo+n->κ.kle (KK κ a j) (KK κ a i)
theorem gZ.run{a:Array Keyed}{lo n:Nat}(h:gZ κ a lo n):Run κ a lo n:=by intro i j x y h1 h2 h3 hx hy;have:=h i j h1 h2 h3;rw[ze hx,ze hy]at this;exact this
theorem Wr.trans{a b c:Array Keyed}{lo n:Nat}(h1:Wr a b lo n)(h2:Wr b c lo n):Wr a c lo n :=⟨h2.perm.trans h1.perm,h2.size.trans h1.size,λk hk=>(h2.out k hk).trans (h1.out k hk)⟩
theorem Wr.mono{a b:Array Keyed}{lo n lo' n':Nat}(h:Wr a b lo n)(h1:lo'<=lo)(h2:lo+n<=lo'+n'):Wr a b lo' n' :=⟨h.perm,h.size,λk hk=>h.out k ∅⟩
theorem IC{a:Array Keyed}{i j:Nat}(hj:j<=a.size)(bB:i<=j):Wr a (mirror a i j ((j-i) / 2)) i (j-i) :=⟨HQ.mp (mirror_perm _ _ _ _),mirror_size _ _ _ _,λk hk=>by rw[getElem?_mirror_all hj,if_neg ∅]⟩
theorem MB{a:Array Keyed}{src d:Nat}(hs:src<a.size)(hd:d<=src):Wr a (bubble a src d) (src-d) (d+1) :=⟨HQ.mp (bubble_perm _ _ _),bubble_size _ _ _,λk hk=>by rw[getElem?_bubble hs d hd,if_neg ∅,if_neg ∅]⟩
def AllK(κ:KeyKind)(a:Array Keyed):Prop:=∀ i (hi:i<a.size),gL κ a[i]
theorem AllK.of{a b:Array Keyed}(h:AllK κ a)(p:b.toList.Perm a.toList):AllK κ b:=by intro i hi;have hm:b[i]∈a.toList:=p.mem_iff.mp (by simp);obtain⟨j,hj,e⟩:=yb hm;rw[← e];simpa using h j (by simpa using hj)
end
section
variable{prog:aM}{w:aG}{A:aR}{E:ai->ao->Prop}{s:ao}{κ:KeyKind}
theorem oY(hO:κ.OneLt){st:bz}(hk:SB st)(hA:AllK κ (arrOf st)){i j:Nat}{Q:Option Bool->bz->Prop}(hi:i<(arrOf st).size)(hj:j<(arrOf st).size)(h:Q (aa (κ.blt (KK κ (arrOf st) i) (KK κ (arrOf st) j))) st):wpS (au prog w) A E s (ltAt' i j) Q st:=by rw[wS hi,wS hj]at h;rw[ltAt'_eq];refine aI (kU ?_);exact aI (eV hi (aI (eV hj (ud hO hk (hA i hi) (hA j hj) h))))
theorem tu{jh st:bz}{lo n i j:Nat}{Q:Unit->bz->Prop}(hk:SB st)(hp:bo st=bo jh)(hw:Wr (arrOf jh) (arrOf st) lo n)(bB:i<=j)(hj:j<=(arrOf jh).size)(c1:lo<=i)(c2:j<=lo+n)(h:∀ a6,SB a6->bo a6=bo jh->Wr (arrOf jh) (arrOf a6) lo n->(∀ k,KK κ (arrOf a6) k=if i<=k/\k<j then KK κ (arrOf st) (i+j-1-k)else KK κ (arrOf st) k)->Q () a6) : wpS (au prog w) A E s (reverseSlice' i j) Q st:=by
 have lh:j<=(arrOf st).size:=by rw[hw.size]; exact hj
 exact wpS_reverse (h _ ⟨hk.kind,hk.failed⟩ hp (hw.trans ((IC lh bB).mono c1 ∅)) λk=>KK_mirror lh k)
theorem QJ{α:Type}{c:Prop}[Decidable c]{p1 p2:StateT bz Sem α}{Q:α->bz->Prop}{st:bz}{J:bz->Prop}(h2:¬ c->J st)(key:∀ a6,J a6->wpS (au prog w) A E s p2 Q a6)(h1:c->(∀ a6,J a6->wpS (au prog w) A E s p2 Q a6)->wpS (au prog w) A E s p1 Q st):wpS (au prog w) A E s (if c then p1 else p2) Q st :=cm (λe=>h1 e key) λe=>key st (h2 e)
theorem zV{a:Array Keyed}{lo x:Nat}(hr:gZ κ a lo x)(h:1<=x)(e:κ.kle (KK κ a (lo+x-1)) (KK κ a (lo+x))):gZ κ a lo (x+1):=λi j a1 a2 a3=>by
 by_cases hj:j<lo+x
 ·exact hr i j a1 a2 hj
 ·have lh:j=lo+x:=∅
  subst lh;by_cases hi:i=lo+x
  ·subst hi; exact mT _
  ·exact uB (hr i (lo+x-1) a1 ∅ ∅) e
theorem CC{a:Array Keyed}{lo x:Nat}(hr:ng κ a lo x)(h:1<=x)(e:κ.kle (KK κ a (lo+x)) (KK κ a (lo+x-1))):ng κ a lo (x+1):=λi j a1 a2 a3=>by
 by_cases hj:j<lo+x
 ·exact hr i j a1 a2 hj
 ·have lh:j=lo+x:=∅
  subst lh;by_cases hi:i=lo+x
  ·subst hi; exact mT _
  ·exact uB e (hr i (lo+x-1) a1 ∅ ∅)
theorem LN{a:Array Keyed}{lo x neq:Nat}(he:∀ i,lo+x-(neq+1)<=i->i<lo+x->KK κ a i=KK κ a (lo+x-1))(ex:KK κ a (lo+x)=KK κ a (lo+x-1)):∀ i,lo+(x+1)-(neq+1+1)<=i->i<lo+(x+1)->KK κ a i=KK κ a (lo+(x+1)-1):=λi a1 a2=>by
 rw[show lo+(x+1)-1=lo+x by lia];by_cases hi:i=lo+x
 ·rw[hi]
 ·rw[he i ∅ ∅,ex]
theorem Dg{a b:Array Keyed}{i j n:Nat}(lY:∀ k,KK κ b k=if i<=k/\k<j then KK κ a (i+j-1-k)else KK κ a k)(he:∀ k,i<=k->k<j->KK κ a k=KK κ a n):∀ k,KK κ b k=KK κ a k:=λk=>by
 rw[lY];split
 ·rw[he _ ∅ ∅,he k ∅ ∅]
 ·rfl
theorem Jy(hO:κ.OneLt){st:bz}(hk:SB st)(hA:AllK κ (arrOf st)){lo cK:Nat}(h1:1<=cK)(hsz:lo+cK<=(arrOf st).size){Q:Option Nat->bz->Prop}(h:∀ n ay,SB ay->bo ay=bo st->Wr (arrOf st) (arrOf ay) lo cK->1<=n->n<=cK->gZ κ (arrOf ay) lo n->Q (aa n) ay) : wpS (au prog w) A E s (countRun' lo cK) Q st:=by
 have one:gZ κ (arrOf st) lo 1:=λi j a1 a2 a3=>by
  have:i=j:=∅
  subst this; exact mT _
 have go:∀ {bY:bz},Wr (arrOf st) (arrOf bY) lo cK->(arrOf bY).size=(arrOf st).size:=λw=>w.size;unfold countRun';refine aI (gH (gI (I:=λx c d7=>d7=st/\c=(ae,x)/\gZ κ (arrOf st) lo x) (Q:=λc d7=>d7=st/\∃ n,c=(ae,n)/\1<=n/\n<=cK/\gZ κ (arrOf st) lo n/\(n=cK\/κ.klt (KK κ (arrOf st) (lo+n)) (KK κ (arrOf st) (lo+n-1)))) ?_ ?_ ?_) ?_)
 ·rintro x c d7 oF lV ⟨rfl,rfl,hr⟩;dsimp only;refine aI (oY hO hk hA ∅ ∅ ?_);cases e:κ.blt (KK κ (arrOf d7) (lo+x)) (KK κ (arrOf d7) (lo+x-1))with
  | true=>exact aS ⟨rfl,x,rfl,∅,∅,hr,.inr e⟩
  | false=>exact aS ⟨rfl,rfl,zV hr ∅ e⟩
 ·rintro c d7 ⟨rfl,rfl,hr⟩;rw[show max 1 cK=cK by lia]at hr ⊢;exact⟨rfl,cK,rfl,∅,∅,hr,.inl rfl⟩
 ·exact⟨rfl,rfl,one⟩
 rintro c ay ⟨rfl,n,rfl,n1,n2,hr,hn⟩;dsimp only;refine cm (λe1=>aS (h n ay hk rfl Wr.same n1 n2 hr)) λe1=>?_;have lX:n≠cK:=by simpa using e1
 replace hn:κ.klt (KK κ (arrOf ay) (lo+n)) (KK κ (arrOf ay) (lo+n-1)):=hn.resolve_left lX;refine QJ (J:=λa6=>SB a6/\bo a6=bo ay/\Wr (arrOf ay) (arrOf a6) lo cK/\ng κ (arrOf a6) lo (n+1)) (λen=>⟨hk,rfl,Wr.same,λi j a1 a2 a3=>?_⟩) (λa6 ⟨fe,fN,sr,hD⟩=>?_) λen key=>?_
 ·have en':n=1:=∅
  by_cases hi:i=j
  ·subst hi; exact mT _
  ·have e1:i=lo+n-1:=∅
   have e2:j=lo+n:=∅
   rw[e1,e2]; exact kW hn
 ·refine aI (rY (oh ⟨rfl,?_⟩));refine aI (gH (gI (I:=λx c bv=>∃ neq,c=(ae,x,neq)/\SB bv/\bo bv=bo ay/\Wr (arrOf ay) (arrOf bv) lo cK/\ng κ (arrOf bv) lo x/\neq+1<=x/\(∀ i,lo+x-(neq+1)<=i->i<lo+x->KK κ (arrOf bv) i=KK κ (arrOf bv) (lo+x-1))) (Q:=λc bv=>∃ m neq,c=(ae,m,neq)/\SB bv/\bo bv=bo ay/\Wr (arrOf ay) (arrOf bv) lo cK/\1<=m/\m<=cK/\ng κ (arrOf bv) lo m/\neq+1<=m/\(∀ i,lo+m-(neq+1)<=i->i<lo+m->KK κ (arrOf bv) i=KK κ (arrOf bv) (lo+m-1))) ?_ ?_ ?_) ?_)
  ·rintro x c bv oF lV ⟨neq,rfl,fR,fO,ji,hd,hq,he⟩;have sz3:=ji.size;dsimp only;refine aI (oY hO fR (hA.of ji.perm) ∅ ∅ ?_);cases e3:κ.blt (KK κ (arrOf bv) (lo+x)) (KK κ (arrOf bv) (lo+x-1))with
   | true=>
    have sj:ng κ (arrOf bv) lo (x+1):=CC hd ∅ (kW e3);dsimp only;rw[if_pos rfl];refine cm (λCf=>?_) λCf=>?_
    ·refine aI (tu (κ:=κ) (lo:=lo) (n:=cK) fR fO ji ∅ ∅ ∅ ∅ λbH jK ij su Cg=>?_);have uL:=Dg Cg he;exact aS ⟨0,rfl,jK,ij,su,λi j a1 a2 a3=>by rw[uL,uL]; exact sj i j a1 a2 a3,∅,λi a1 a2=>by congr 1; lia⟩
    ·exact aS ⟨0,rfl,fR,fO,ji,sj,∅,λi a1 a2=>by congr 1; lia⟩
   | false=>
    dsimp only;rw[if_neg (by simp)];refine aI (oY hO fR (hA.of ji.perm) ∅ ∅ ?_);cases e4:κ.blt (KK κ (arrOf bv) (lo+x-1)) (KK κ (arrOf bv) (lo+x))with
    | true=>exact aS ⟨x,neq,rfl,fR,fO,ji,∅,∅,hd,hq,he⟩
    | false=>have ex:KK κ (arrOf bv) (lo+x)=KK κ (arrOf bv) (lo+x-1):=KeyOrd.kle_antisymm e4 e3;exact aS ⟨neq+1,rfl,fR,fO,ji,CC hd ∅ (by rw[ex]; exact mT _),∅,LN he ex⟩
  ·rintro c bv ⟨neq,rfl,fR,fO,ji,hd,hq,he⟩;rw[show max (n+1) cK=cK by lia]at hd hq he ⊢;exact⟨cK,neq,rfl,fR,fO,ji,∅,∅,hd,hq,he⟩
  ·exact⟨0,rfl,fe,fN,sr,hD,∅,λi a1 a2=>by congr 1; lia⟩
  rintro c bv ⟨m,neq,rfl,fR,fO,ji,m1,m2,hd,hq,he⟩;dsimp only;refine cm (λCf=>?_) λCf=>?_
  ·refine aI (tu (κ:=κ) (lo:=lo) (n:=cK) fR fO ji ∅ ∅ ∅ ∅ λbH jK ij su Cg=>?_);have uL:=Dg Cg he;have hd4:ng κ (arrOf bH) lo m:=λi j a1 a2 a3=>by rw[uL,uL]; exact hd i j a1 a2 a3
   refine aI (tu (κ:=κ) (lo:=lo) (n:=cK) jK ij su ∅ ∅ ∅ ∅ λbY m8 hp5 qi uN=>?_);have hr5:gZ κ (arrOf bY) lo m:=λi j a1 a2 a3=>by rw[uN,uN,if_pos ⟨a1,∅⟩,if_pos ⟨∅,a3⟩];exact hd4 _ _ ∅ ∅ ∅
   have sz5:=qi.size;refine aI (gH (gI (I:=λx c d7=>d7=bY/\c=(ae,x)/\gZ κ (arrOf bY) lo x) (Q:=λc d7=>d7=bY/\∃ n,c=(ae,n)/\1<=n/\n<=cK/\gZ κ (arrOf bY) lo n/\(n=cK\/κ.klt (KK κ (arrOf bY) (lo+n)) (KK κ (arrOf bY) (lo+n-1)))) ?_ ?_ ?_) ?_)
   ·rintro x c d7 oF lV ⟨rfl,rfl,hr⟩;dsimp only;refine aI (oY hO m8 (hA.of qi.perm) ∅ ∅ ?_);cases e:κ.blt (KK κ (arrOf d7) (lo+x)) (KK κ (arrOf d7) (lo+x-1))with
    | true=>exact aS ⟨rfl,x,rfl,∅,∅,hr,.inr e⟩
    | false=>exact aS ⟨rfl,rfl,zV hr ∅ e⟩
   ·rintro c d7 ⟨rfl,rfl,hr⟩;rw[show max m cK=cK by lia]at hr ⊢;exact⟨rfl,cK,rfl,∅,∅,hr,.inl rfl⟩
   ·exact⟨rfl,rfl,hr5⟩
   rintro c d7 ⟨rfl,q,rfl,q1,q2,hrq,_⟩;exact aS (h q d7 m8 hp5 qi q1 q2 hrq)
  ·have jK:=fR;have ij:=fO;have su:=ji;have hd4:=hd;refine aI (tu (κ:=κ) (lo:=lo) (n:=cK) jK ij su ∅ ∅ ∅ ∅ λbY m8 hp5 qi uN=>?_);have hr5:gZ κ (arrOf bY) lo m:=λi j a1 a2 a3=>by rw[uN,uN,if_pos ⟨a1,∅⟩,if_pos ⟨∅,a3⟩];exact hd4 _ _ ∅ ∅ ∅
   have sz5:=qi.size;refine aI (gH (gI (I:=λx c d7=>d7=bY/\c=(ae,x)/\gZ κ (arrOf bY) lo x) (Q:=λc d7=>d7=bY/\∃ n,c=(ae,n)/\1<=n/\n<=cK/\gZ κ (arrOf bY) lo n/\(n=cK\/κ.klt (KK κ (arrOf bY) (lo+n)) (KK κ (arrOf bY) (lo+n-1)))) ?_ ?_ ?_) ?_)
   ·rintro x c d7 oF lV ⟨rfl,rfl,hr⟩;dsimp only;refine aI (oY hO m8 (hA.of qi.perm) ∅ ∅ ?_);cases e:κ.blt (KK κ (arrOf d7) (lo+x)) (KK κ (arrOf d7) (lo+x-1))with
    | true=>exact aS ⟨rfl,x,rfl,∅,∅,hr,.inr e⟩
    | false=>exact aS ⟨rfl,rfl,zV hr ∅ e⟩
   ·rintro c d7 ⟨rfl,rfl,hr⟩;rw[show max m cK=cK by lia]at hr ⊢;exact⟨rfl,cK,rfl,∅,∅,hr,.inl rfl⟩
   ·exact⟨rfl,rfl,hr5⟩
   rintro c d7 ⟨rfl,q,rfl,q1,q2,hrq,_⟩;exact aS (h q d7 m8 hp5 qi q1 q2 hrq)
 ·refine aI (oY hO hk hA ∅ ∅ ?_);cases e2:κ.blt (KK κ (arrOf ay) lo) (KK κ (arrOf ay) (lo+n-1))with
  | true=>exact aS (h n ay hk rfl Wr.same n1 n2 hr)
  | false=>
   dsimp only;rw[if_neg (by simp)];have yr:∀ i,lo<=i->i<lo+n->KK κ (arrOf ay) i=KK κ (arrOf ay) lo:=λi a1 a2=>KeyOrd.kle_antisymm (uB (hr i (lo+n-1) a1 ∅ ∅) e2) (hr lo i (bp _) a1 a2);refine aI (tu (κ:=κ) (lo:=lo) (n:=cK) hk rfl Wr.same ∅ ∅ ∅ ∅ λa6 fe fN sr lY=>?_);have hD:ng κ (arrOf a6) lo (n+1):=by
    have hv:∀ i,lo<=i->i<lo+n->KK κ (arrOf a6) i=KK κ (arrOf ay) lo:=λi a1 a2=>by rw[lY,if_pos ⟨a1,a2⟩]; exact yr _ ∅ ∅
    have hl:κ.klt (KK κ (arrOf a6) (lo+n)) (KK κ (arrOf ay) lo):=by rw[lY,if_neg ∅,← yr (lo+n-1) ∅ ∅]; exact hn
    intro i j a1 a2 a3;by_cases hj:j<lo+n
    ·rw[hv i a1 ∅,hv j ∅ hj]; exact mT _
    ·have lh:j=lo+n:=∅
     subst lh;by_cases hi:i=lo+n
     ·subst hi; exact mT _
     ·rw[hv i a1 ∅]; exact kW hl
   exact key a6 ⟨fe,fN,sr,hD⟩
theorem NS{jh st:bz}{lo n src dst:Nat}{Q:Unit->bz->Prop}(hk:SB st)(hp:bo st=bo jh)(hw:Wr (arrOf jh) (arrOf st) lo n)(bB:dst<=src)(hj:src<(arrOf jh).size)(c1:lo<=dst)(c2:src<lo+n)(h:∀ a6,SB a6->bo a6=bo jh->Wr (arrOf jh) (arrOf a6) lo n->(∀ k,KK κ (arrOf a6) k=if k=dst then KK κ (arrOf st) src else if dst<k/\k<=src then KK κ (arrOf st) (k-1)else KK κ (arrOf st) k)->Q () a6) : wpS (au prog w) A E s (moveDown' src dst) Q st:=by
 have lh:src<(arrOf st).size:=by rw[hw.size]; exact hj
 rw[moveDown'_eq];refine mR (h _ ⟨hk.kind,hk.failed⟩ hp (hw.trans ((MB lh (show src-dst<=src by lia)).mono ∅ ∅)) λk=>?_);have:=KK_bubble (κ:=κ) lh (show src-dst<=src by lia) k;rw[show src-(src-dst)=dst by lia]at this;exact this
theorem IL(hO:κ.OneLt){st:bz}(hk:SB st)(hA:AllK κ (arrOf st)){lo n ok:Nat}(hok:ok<=n)(hsz:lo+n<=(arrOf st).size)(hr:gZ κ (arrOf st) lo ok){Q:Bool->bz->Prop}(h:∀ ay,SB ay->bo ay=bo st->Wr (arrOf st) (arrOf ay) lo n->gZ κ (arrOf ay) lo n->Q ah ay) : wpS (au prog w) A E s (binarySort' lo n ok) Q st:=by
 unfold binarySort';refine aI (gH (gI (I:=λk c b7=>c=(ae,())/\SB b7/\bo b7=bo st/\Wr (arrOf st) (arrOf b7) lo n/\gZ κ (arrOf b7) lo (min k n)) (Q:=λc b7=>c=(ae,())/\SB b7/\bo b7=bo st/\Wr (arrOf st) (arrOf b7) lo n/\gZ κ (arrOf b7) lo n) ?_ ?_ ?_) ?_)
 ·rintro k c b7 kh fe ⟨rfl,sv,gK,vb,jL⟩;have sz:=vb.size;rw[show min k n=k by lia]at jL;refine aI (gH (gI (I:=λx c a6=>a6=b7/\∃ l r,c=(ae,l,r)/\l<=r/\r<=k/\r-l<=k-x /\ (∀ i,i<l->κ.kle (KK κ (arrOf b7) (lo+i)) (KK κ (arrOf b7) (lo+k)))/\(∀ i,r<=i->i<k->κ.klt (KK κ (arrOf b7) (lo+k)) (KK κ (arrOf b7) (lo+i)))) (Q:=λc a6=>a6=b7/\∃ l r,c=(ae,l,r)/\l<=k /\ (∀ i,i<l->κ.kle (KK κ (arrOf b7) (lo+i)) (KK κ (arrOf b7) (lo+k)))/\(∀ i,l<=i->i<k->κ.klt (KK κ (arrOf b7) (lo+k)) (KK κ (arrOf b7) (lo+i)))) ?_ ?_ ?_) ?_)
  ·rintro x c a6 _ hx ⟨rfl,l,r,rfl,a1,a2,a3,a4,a5⟩;dsimp only;refine cm (λiV=>?_) λiV=>?_
   ·have:l=r:=∅
    subst this;exact aS ⟨rfl,l,l,rfl,a2,a4,a5⟩
   ·refine aI (oY hO sv (hA.of vb.perm) ∅ ∅ ?_);cases e:κ.blt (KK κ (arrOf a6) (lo+k)) (KK κ (arrOf a6) (lo+(l+r) / 2))with
    | true=>exact aS ⟨rfl,l,(l+r) / 2,rfl,∅,∅,∅,a4,λi h1 h2=>KeyOrd.klt_of_klt_of_kle e (jL _ _ ∅ ∅ ∅)⟩
    | false=>exact aS ⟨rfl,(l+r) / 2+1,r,rfl,∅,∅,∅,λi h1=>uB (jL (lo+i) (lo+(l+r) / 2) ∅ ∅ ∅) e,a5⟩
  ·rintro c a6 ⟨rfl,l,r,rfl,a1,a2,a3,a4,a5⟩;have:l=r:=∅
   subst this;exact⟨rfl,l,l,rfl,a2,a4,a5⟩
  ·exact⟨rfl,0,k,rfl,∅,∅,∅,λi hi=>∅,λi h1 h2=>∅⟩
  ·rintro c a6 ⟨rfl,l,r,rfl,a2,a4,a5⟩;dsimp only;refine aI (NS (κ:=κ) (lo:=lo) (n:=n) sv gK vb ∅ ∅ ∅ ∅ λbv hb3 fO ji lY=>aS ⟨rfl,hb3,fO,ji,?_⟩);rw[show min (k+1) n=k+1 by lia];intro i j c1 c2 c3;rw[lY,lY]
   repeat' split
   all_goals first
    | (exfalso; lia)
    | exact mT _
    | (have:=a4 (i-lo) ∅; rw[show lo+(i-lo)=i by lia]at this; exact this)
    | (have:=a5 (j-1-lo) ∅ ∅; rw[show lo+(j-1-lo)=j-1 by lia]at this; exact kW this)
    | exact jL _ _ ∅ ∅ ∅
 ·rintro c b7 ⟨rfl,sv,gK,vb,jL⟩;rw[show min (max (max ok 1) n) n=n by lia]at jL;exact⟨rfl,sv,gK,vb,jL⟩
 ·refine⟨rfl,hk,rfl,Wr.same,λi j c1 c2 c3=>?_⟩;by_cases h1:ok=0
  ·have:i=j:=∅
   subst this; exact mT _
  ·exact hr i j c1 c2 ∅
 ·rintro c b7 ⟨rfl,sv,gK,vb,jL⟩;exact aS (h b7 sv gK vb jL)
end
theorem NK{c:Prop}[Decidable c]{a b n:Nat}(h1:a+1<n)(h2:b+1<n):(if c then a else b)+1<n:=by split <;> assumption
def j1:Nat->List (Nat×Nat)->Nat->Prop
 | f,[],t=>f=t
 | f,(a,n)::l,t=>a=f/\0<n/\j1 (f+n) l t
theorem j1.app:∀ {l1:List (Nat×Nat)} {f t:Nat} {l2:List (Nat×Nat)},j1 f (l1++l2) t↔∃ m,j1 f l1 m/\j1 m l2 t
 | [],f,t,l2=>by simp[j1]
 | (a,n)::l1,f,t,l2=>by
  simp only[HR,j1,j1.app (l1:=l1)];constructor
  ·rintro⟨h1,h2,m,h3,h4⟩; exact⟨m,⟨h1,h2,h3⟩,h4⟩
  ·rintro⟨m,⟨h1,h2,h3⟩,h4⟩; exact⟨h1,h2,m,h3,h4⟩
theorem j1.le:∀ {l:List (Nat×Nat)} {f t:Nat},j1 f l t->f+l.length<=t/\∀ e∈l,f<=e.1/\e.1+e.2<=t
 | [],f,t,h=>⟨by cases h; simp,by simp⟩
 | (a,n)::l,f,t,⟨h1,h2,h3⟩=>by
  obtain⟨i1,i2⟩:=j1.le h3;refine⟨by simp; lia,λe he=>?_⟩;rcases bV.mp he with rfl | he
  ·subst h1; exact⟨bp _,by simp; lia⟩
  ·have:=i2 e he; exact⟨∅,this.2⟩
def PL(pd:Array (Nat×Nat×Nat)):List (Nat×Nat):=pd.toList.map λe=>(e.1,e.2.1)
structure ix(κ:KeyKind)(arr:Array Keyed)(pd:Array (Nat×Nat×Nat))(lo:Nat):Prop where
 ch:j1 0 (PL pd) lo
 run:∀ e∈PL pd,Run κ arr e.1 e.2
theorem wI(pd:Array (Nat×Nat×Nat)):(PL pd).length=pd.size:=by simp[PL]
theorem ni(pd:Array (Nat×Nat×Nat))(e:Nat×Nat×Nat):PL (pd.push e)=PL pd++[(e.1,e.2.1)]:=by simp[PL]
theorem wc(pd:Array (Nat×Nat×Nat))(k pw:Nat):PL (pd.modify k λx=>(x.1,x.2.1,pw))=PL pd:=by
 apply ka;intro i;simp only[PL,j9,xN,Array.getElem?_modify];split
 ·cases pd[i]? <;> rfl
 ·rfl
theorem MF{pd:Array (Nat×Nat×Nat)}{i:Nat}(h:i+1<pd.size):∃ l1 l2 sa na pa sb nb pb,pd[i]?=aa (sa,na,pa)/\pd[i+1]?=aa (sb,nb,pb)/\PL pd=l1++(sa,na)::(sb,nb)::l2 /\ PL ((pd.setIfInBounds i (sa,na+nb,pa)).eraseIdxIfInBounds (i+1))=l1++(sa,na+nb)::l2:=by
 obtain⟨l⟩:=pd;simp only[cC]at h;have e:l=l.take i++l[i]::l[i+1]::l.drop (i+2):=by rw[← xZ,← xZ,ol]
 obtain⟨l1,x,y,l2,hl,e2⟩:∃ l1 x y l2,l1.length=i/\l=l1++x::y::l2:=⟨l.take i,l[i],l[i+1],l.drop (i+2),by simp; lia,e⟩
 subst hl e2;obtain⟨sa,na,pa⟩:=x;obtain⟨sb,nb,pb⟩:=y;refine⟨l1.map λe=>(e.1,e.2.1),l2.map λe=>(e.1,e.2.1),sa,na,pa,sb,nb,pb,by simp,by simp[jE],by simp[PL],?_⟩;have e3:((l1++(sa,na,pa)::(sb,nb,pb)::l2).toArray.setIfInBounds l1.length (sa,na+nb,pa)).eraseIdxIfInBounds (l1.length+1)=(l1++(sa,na+nb,pa)::l2).toArray:=by rw[List.setIfInBounds_toArray,List.set_append_right _ _ (bp _),QW];congr 1;rw[List.eraseIdx_append_of_length_le ∅];simp
 rw[e3];simp[PL]
section
variable{prog:aM}{w:aG}{A:aR}{E:ai->ao->Prop}{s:ao}{κ:KeyKind}
theorem ix.keep{a a':Array Keyed}{pd:Array (Nat×Nat×Nat)}{lo n:Nat}(h:ix κ a pd lo)(w:Wr a a' lo n):ix κ a' pd lo :=⟨h.ch,λe he=>(h.run e he).keep w (.inl (h.ch.le.2 e he).2)⟩
theorem Ag(hO:κ.OneLt){st:bz}(hk:SB st)(hA:AllK κ (arrOf st)){i lo:Nat}(hP:ix κ (arrOf st) (bo st) lo)(hlo:lo<=(arrOf st).size)(hi:i+1<(bo st).size){Q:Bool->bz->Prop}(h:∀ ay,SB ay->Wr (arrOf st) (arrOf ay) 0 lo->ix κ (arrOf ay) (bo ay) lo->(bo ay).size+1=(bo st).size->Q ah ay) : wpS (au prog w) A E s (mergeAt' i) Q st:=by
 obtain⟨l1,l2,sa,na,pa,sb,nb,pb,e1,e2,e3,e4⟩:=MF hi;have hc:=hP.ch;rw[e3]at hc;obtain⟨m,c1,c2,c3,c4,c5,c6⟩:=j1.app.mp hc;subst c2 c4;have b1:=c1.le;have b2:=c6.le;have r1:Run κ (arrOf st) sa na:=hP.run (sa,na) (by rw[e3]; simp);have r2:Run κ (arrOf st) (sa+na) nb:=hP.run (sa+na,nb) (by rw[e3]; simp);refine Oj hO hk hA e1 e2 c3 c5 ∅ r1 r2 λay u0 ig hw hr=>h ay u0 (hw.mono ∅ ∅) ⟨?_,?_⟩ ?_
 ·rw[ig,e4];exact j1.app.mpr ⟨sa,c1,rfl,∅,by rw[← oi]; exact c6⟩
 ·rw[ig,e4];intro e he;rcases eM.mp he with he | he
  ·exact(hP.run e (by rw[e3]; exact Bo _ he)).keep hw (.inl (b1.2 e he).2)
  ·rcases bV.mp he with rfl | he
   ·exact hr
   ·exact(hP.run e (by rw[e3]; simp[he])).keep hw (.inr (by have:=(b2.2 e he).1; lia))
 ·have q1:=wI (bo ay);have q2:=wI (bo st);rw[ig,e4]at q1;rw[e3]at q2;rw[ig,← q1,← q2]; simp; lia
theorem JR(hO:κ.OneLt){st:bz}(hk:SB st)(hA:AllK κ (arrOf st))(hp:bo st = #[]){Q:Unit->bz->Prop}(h:∀ ay,SB ay->(arrOf ay).toList.Perm (arrOf st).toList->Run κ (arrOf ay) 0 (arrOf st).size->Q () ay) : wpS (au prog w) A E s sortRuns' Q st:=by
 unfold sortRuns';refine aI (kU ?_);dsimp only;obtain⟨size,Ra⟩:∃ size,size=(arrOf st).size:=⟨_,rfl⟩
 have Q3:((sortPriv% PySem.Builtin.SortState.a) st).size=size:=Ra.symm;simp only[Q3];refine aI (gH (gI (I:=λx c b7=>∃ lo,c=(ae,lo)/\x<=lo/\lo<=size/\SB b7/\(arrOf b7).toList.Perm (arrOf st).toList/\(arrOf b7).size=size/\ix κ (arrOf b7) (bo b7) lo) (Q:=λc b7=>c=(ae,size)/\SB b7/\(arrOf b7).toList.Perm (arrOf st).toList/\(arrOf b7).size=size/\ix κ (arrOf b7) (bo b7) size) ?_ ?_ ?_) ?_);rotate_left
 ·rintro c b7 ⟨lo,rfl,b1,b2,kh,gK,qj,hP⟩;have:lo=size:=∅
  subst this;exact⟨rfl,kh,gK,qj,hP⟩
 ·exact⟨0,rfl,∅,∅,hk,rQ _,Ra.symm,by rw[hp]; exact⟨rfl,by simp[PL]⟩⟩
 ·rintro c b7 ⟨rfl,kh,gK,qj,hP⟩;dsimp only;refine aI (gH (gI (I:=λx c a6=>c=(ae,())/\SB a6/\(arrOf a6).toList.Perm (arrOf st).toList/\(arrOf a6).size=size/\ix κ (arrOf a6) (bo a6) size/\(bo a6).size+x<=size+1) (Q:=λc a6=>c=(ae,())/\SB a6/\(arrOf a6).toList.Perm (arrOf st).toList/\(arrOf a6).size=size/\ix κ (arrOf a6) (bo a6) size/\(bo a6).size<=1) ?_ ?_ ?_) ?_)
  ·rintro x c a6 _ hx ⟨rfl,fe,fN,jH,vc,hb⟩;refine aI (kU ?_);refine cm (λe1=>aS ⟨rfl,fe,fN,jH,vc,e1⟩) λe1=>?_;have lX:1<(bo a6).size:=Nat.lt_of_not_le e1;refine aI (Ag hO fe (hA.of fN) vc ∅ ?_ λbv fR ji vd hq=>?_)
   ·exact NK (show(bo a6).size-2-1+1<(bo a6).size by lia) (show(bo a6).size-2+1<(bo a6).size by lia)
   ·exact aS ⟨rfl,fR,ji.perm.trans fN,ji.size.trans jH,vd,∅⟩
  ·rintro c a6 ⟨rfl,fe,fN,jH,vc,hb⟩;exact⟨rfl,fe,fN,jH,vc,∅⟩
  ·have:=hP.ch.le.1;rw[wI]at this;exact⟨rfl,kh,gK,qj,hP,∅⟩
  ·rintro c a6 ⟨rfl,fe,fN,jH,vc,hb⟩;refine aS (h a6 fe fN ?_);rw[← Ra];have hc:=vc.ch;have hr:=vc.run;have hl:=wI (bo a6)
   match hq:PL (bo a6),hc,hr,hl with
   | [],hc,hr,hl=>
    cases hc;intro i j x y a1 a2 a3; lia
   | [(a,n)],hc,hr,hl=>
    obtain⟨d1,d2,d3⟩:=hc;cases d1;have d3':0+n=size:=d3;have:=hr (0,n) (by simp);rw[show size=n by lia]; exact this
   | _::_::_,hc,hr,hl=>simp at hl; lia
 rintro x c b7 _ hx ⟨lo,rfl,b1,b2,kh,gK,qj,hP⟩;dsimp only;refine cm (λe1=>?_) λe1=>?_
 ·have:lo=size:=∅
  subst this;exact aS ⟨rfl,kh,gK,qj,hP⟩
 refine aI (Jy hO kh (hA.of gK) ∅ ∅ λcO a6 fe sw sr f1 f2 sq=>?_);dsimp only;refine cm (λe2=>?_) λe2=>?_
 ·refine aI (rY (oh ⟨rfl,?_⟩));refine aI (IL hO fe ((hA.of gK).of sr.perm) ∅ (by rw[sr.size]; lia) sq λbv fR hq3 ji hr3=>?_);rw[if_neg (by simp)];have hw:Wr (arrOf b7) (arrOf bv) lo (size-lo):=sr.trans (ji.mono ∅ ∅);have ve:bo bv=bo b7:=hq3.trans sw;generalize hn:min (size-lo) _=n at *;have n1:0<n:=∅
  have n2:lo+n<=size:=∅
  clear fe sr sq sw ji hq3;have vd:ix κ (arrOf bv) (bo bv) lo:=by rw[ve]; exact hP.keep hw
  have fO:(arrOf bv).toList.Perm (arrOf st).toList:=hw.perm.trans gK;have oy:(arrOf bv).size=size:=hw.size.trans qj;have hR:Run κ (arrOf bv) lo n:=hr3.run;clear hw ve;refine aI (kU ?_);obtain⟨kd,arr,pd,mg,fl⟩:=bv;dsimp only;cases hbk:pd.back? with
  | none=>
   dsimp only;refine aI (mR (aS ⟨lo+n,rfl,∅,n2,⟨fR.kind,fR.failed⟩,fO,oy,?_⟩));refine⟨?_,?_⟩
   ·show j1 0 (PL (pd.push (lo,n,0))) _;rw[ni]; exact j1.app.mpr ⟨lo,vd.ch,rfl,n1,rfl⟩
   ·show ∀ e∈PL (pd.push (lo,n,0)),_;rw[ni];intro e he;rcases eM.mp he with he | he
    ·exact vd.run e he
    ·rw[gG.mp he]; exact hR
  | some bk=>
   obtain⟨s1,m1,q1⟩:=bk;dsimp only;refine aI (gH (gI (I:=λx c bH=>c=(ae,())/\SB bH/\(arrOf bH).toList.Perm (arrOf st).toList/\(arrOf bH).size=size/\ix κ (arrOf bH) (bo bH) lo/\Run κ (arrOf bH) lo n) (Q:=λc bH=>c=(ae,())/\SB bH/\(arrOf bH).toList.Perm (arrOf st).toList/\(arrOf bH).size=size/\ix κ (arrOf bH) (bo bH) lo/\Run κ (arrOf bH) lo n) ?_ (λ_ _ hh=>hh) ?_) ?_)
   ·rintro y c bH _ hy ⟨rfl,jK,ij,m9,ql,qm⟩;refine aI (kU ?_);have uI:∀ {bY:bz},bY=bH->((ae,()):Option Unit×Unit)=(ae,())/\SB bY/\(arrOf bY).toList.Perm (arrOf st).toList/\(arrOf bY).size=size/\ix κ (arrOf bY) (bo bY) lo/\Run κ (arrOf bY) lo n:=λe=>by subst e; exact⟨rfl,jK,ij,m9,ql,qm⟩
    by_cases hg:1<(bo bH).size
    ·obtain⟨kd4,arr4,pd4,mg4,fl4⟩:=bH;have jJ:pd4.size > 1:=hg;dsimp only;rw[if_pos jJ,getElem?_pos pd4 (pd4.size-2) ∅];obtain⟨u1,u2,u3⟩:=pd4[pd4.size-2];dsimp only;refine cm (λ_=>aS (uI rfl)) λ_=>?_;refine aI (Ag hO jK (hA.of ij) ql ∅ (show pd4.size-2+1<pd4.size by lia) λbY m8 qi hP5 _=>?_);exact aS ⟨rfl,m8,qi.perm.trans ij,qi.size.trans m9,hP5,qm.keep qi (.inr ∅)⟩
    ·obtain⟨kd4,arr4,pd4,mg4,fl4⟩:=bH;have jJ:¬ pd4.size > 1:=hg;dsimp only;rw[if_neg jJ];exact aS (uI rfl)
   ·exact⟨rfl,fR,fO,oy,vd,hR⟩
   rintro c bH ⟨rfl,jK,ij,m9,ql,qm⟩;obtain⟨kd4,arr4,pd4,mg4,fl4⟩:=bH;dsimp only;refine aI (mR (aI (mR (aS ⟨lo+n,rfl,∅,n2,⟨jK.kind,jK.failed⟩,ij,m9,?_⟩))));refine⟨?_,?_⟩
   ·show j1 0 (PL ((pd4.modify (pd4.size-1) λx=>(x.1,x.2.1,_)).push (lo,n,0))) _;rw[ni,wc]; exact j1.app.mpr ⟨lo,ql.ch,rfl,n1,rfl⟩
   ·show ∀ e∈PL ((pd4.modify (pd4.size-1) λx=>(x.1,x.2.1,_)).push (lo,n,0)),_;rw[ni,wc];intro e he;rcases eM.mp he with he | he
    ·exact ql.run e he
    ·rw[gG.mp he]; exact qm
 ·have fR:=fe;have hr3:=sq;have hw:Wr (arrOf b7) (arrOf a6) lo (size-lo):=sr;have ve:bo a6=bo b7:=sw;have n1:0<cO:=∅
  have n2:lo+cO<=size:=∅
  have vd:ix κ (arrOf a6) (bo a6) lo:=by rw[ve]; exact hP.keep hw
  have fO:(arrOf a6).toList.Perm (arrOf st).toList:=hw.perm.trans gK;have oy:(arrOf a6).size=size:=hw.size.trans qj;have hR:Run κ (arrOf a6) lo cO:=hr3.run;clear hw ve;refine aI (kU ?_);obtain⟨kd,arr,pd,mg,fl⟩:=a6;dsimp only;cases hbk:pd.back? with
  | none=>
   dsimp only;refine aI (mR (aS ⟨lo+cO,rfl,∅,n2,⟨fR.kind,fR.failed⟩,fO,oy,?_⟩));refine⟨?_,?_⟩
   ·show j1 0 (PL (pd.push (lo,cO,0))) _;rw[ni]; exact j1.app.mpr ⟨lo,vd.ch,rfl,n1,rfl⟩
   ·show ∀ e∈PL (pd.push (lo,cO,0)),_;rw[ni];intro e he;rcases eM.mp he with he | he
    ·exact vd.run e he
    ·rw[gG.mp he]; exact hR
  | some bk=>
   obtain⟨s1,m1,q1⟩:=bk;dsimp only;refine aI (gH (gI (I:=λx c bH=>c=(ae,())/\SB bH/\(arrOf bH).toList.Perm (arrOf st).toList/\(arrOf bH).size=size/\ix κ (arrOf bH) (bo bH) lo/\Run κ (arrOf bH) lo cO) (Q:=λc bH=>c=(ae,())/\SB bH/\(arrOf bH).toList.Perm (arrOf st).toList/\(arrOf bH).size=size/\ix κ (arrOf bH) (bo bH) lo/\Run κ (arrOf bH) lo cO) ?_ (λ_ _ hh=>hh) ?_) ?_)
   ·rintro y c bH _ hy ⟨rfl,jK,ij,m9,ql,qm⟩;refine aI (kU ?_);have uI:∀ {bY:bz},bY=bH->((ae,()):Option Unit×Unit)=(ae,())/\SB bY/\(arrOf bY).toList.Perm (arrOf st).toList/\(arrOf bY).size=size/\ix κ (arrOf bY) (bo bY) lo/\Run κ (arrOf bY) lo cO:=λe=>by subst e; exact⟨rfl,jK,ij,m9,ql,qm⟩
    by_cases hg:1<(bo bH).size
    ·obtain⟨kd4,arr4,pd4,mg4,fl4⟩:=bH;have jJ:pd4.size > 1:=hg;dsimp only;rw[if_pos jJ,getElem?_pos pd4 (pd4.size-2) ∅];obtain⟨u1,u2,u3⟩:=pd4[pd4.size-2];dsimp only;refine cm (λ_=>aS (uI rfl)) λ_=>?_;refine aI (Ag hO jK (hA.of ij) ql ∅ (show pd4.size-2+1<pd4.size by lia) λbY m8 qi hP5 _=>?_);exact aS ⟨rfl,m8,qi.perm.trans ij,qi.size.trans m9,hP5,qm.keep qi (.inr ∅)⟩
    ·obtain⟨kd4,arr4,pd4,mg4,fl4⟩:=bH;have jJ:¬ pd4.size > 1:=hg;dsimp only;rw[if_neg jJ];exact aS (uI rfl)
   ·exact⟨rfl,fR,fO,oy,vd,hR⟩
   rintro c bH ⟨rfl,jK,ij,m9,ql,qm⟩;obtain⟨kd4,arr4,pd4,mg4,fl4⟩:=bH;dsimp only;refine aI (mR (aI (mR (aS ⟨lo+cO,rfl,∅,n2,⟨jK.kind,jK.failed⟩,ij,m9,?_⟩))));refine⟨?_,?_⟩
   ·show j1 0 (PL ((pd4.modify (pd4.size-1) λx=>(x.1,x.2.1,_)).push (lo,cO,0))) _;rw[ni,wc]; exact j1.app.mpr ⟨lo,ql.ch,rfl,n1,rfl⟩
   ·show ∀ e∈PL ((pd4.modify (pd4.size-1) λx=>(x.1,x.2.1,_)).push (lo,cO,0)),_;rw[ni,wc];intro e he;rcases eM.mp he with he | he
    ·exact ql.run e he
    ·rw[gG.mp he]; exact qm
end
theorem zG{n:Nat}(h:n<=1000000):n<a9:=xQ h (by decide)
theorem Run.sortedTo{κ:KeyKind}{a:Array Keyed}{n:Nat}(h:Run κ a 0 n)(hn:n<=a.size):SortedToK κ a n:=by intro i j bB hj;have:=h i j _ _ (mG _) bB ∅ (getElem?_pos a i ∅) (getElem?_pos a j ∅);rw[wS (show i<a.size by lia),wS (show j<a.size by lia)];exact this
theorem KeysOf.all{κ:KeyKind}{a:Array Keyed}(h:KeysOf κ a):AllK κ a:=λi hi=>h _ (by simp)
section
variable{P:aM}{w:aG}{A:aR}{E:ai->ao->Prop}{s:ao}
theorem Pq{κ:KeyKind}(hO:κ.OneLt){a:af}{vs:List ai}{n:Nat}{F:Fin->ao->Prop}(ho:s.heap.get? a=aa (kS "list" vs.toArray n))(h0:KeysOf κ (pairsOf vs)) (lY:∀ v₁ v₂ rest,vs=v₁::v₂::rest->keyKind' (v₁::v₂::rest).toArray=pure oneType') (hz:vs.length<=1000000)(h:∀ ay:bz,(arrOf ay).Perm (pairsOf vs)->SortedToK κ (arrOf ay) (pairsOf vs).size->F (.done (.ret .none)) { s with heap:=sortedHeap s.heap a vs ((arrOf ay).map (·.2)) }) : aw (au P w) A (Builtin.«list.sort» ⟨[.ref a],[]⟩) F E s:=by
 by_cases ii:vs.length<64
 ·exact list_sort_treeK hO ho h0 lY ii h
 obtain⟨v₁,v₂,rest,rfl⟩:∃ v₁ v₂ rest,vs=v₁::v₂::rest:=by
  match vs,ii with
  | [],ii=>simp at ii
  | [_],ii=>simp at ii
  | v₁::v₂::rest,_=>exact⟨v₁,v₂,rest,rfl⟩
 rw[list_sort_plain];have ha:a<s.heap.objs.size:=bP ho;have hl:(v₁::v₂::rest).length<=a9:=mB (zG hz);refine ar (listItems_at ho rfl ?_);refine ar (BX ho rfl ?_);obtain⟨e1,vf⟩:∃ e1,(s.heap.update a (n_ λ_=>#[])).get? a=aa (kS "list" #[] e1):=⟨_,get?_update_seq ho (λ_=>#[])⟩
 refine ar (seqEpoch_at vf rfl ?_);refine ar (wpAny_newTuple ?_ (hsz:=by rw[Hv]; exact hl));refine ar (wpAny_newList ?_);refine n6 ?_;have ho6:(((s.heap.update a (n_ λ_=>#[])).push (kS "tuple" (v₁::v₂::rest).toArray 0)).push (kS "list" #[] 0)).get? a=aa (kS "list" #[] e1):=by rw[Heap.get?_push_ne _ _ _ (by rw[jG,HD]; exact dH (lQ ha)),Heap.get?_push_ne _ _ _ (by rw[HD]; exact dH ha)];exact vf
 show aw (au P w) A _ F E { s with heap:=((s.heap.update a (n_ λ_=>#[])).push (kS "tuple" (v₁::v₂::rest).toArray 0)).push (kS "list" #[] 0) };dsimp only;have h2:¬ (v₁::v₂::rest).toArray.size<2:=by simp
 rw[if_neg h2,if_neg h2,lY _ _ _ rfl];refine ar (aQ ?_);refine ar (dZ (JR (κ:=κ) hO (st:=SortSt.mk' oneType' ((v₁::v₂::rest).toArray.zip (v₁::v₂::rest).toArray) #[] 7 ae) (Q:=λ_ ay=>SB ay/\(arrOf ay).toList.Perm (pairsOf (v₁::v₂::rest)).toList/\Run κ (arrOf ay) 0 (pairsOf (v₁::v₂::rest)).size) ⟨rfl,rfl⟩ (KeysOf.all h0) rfl λay a1 a2 a3=>⟨a1,a2,a3⟩) ?_ λ_ _ e=>e);rintro⟨⟨⟩,ay⟩ s' ⟨rfl,hb,hp,hs⟩;have ig:(arrOf ay).Perm (pairsOf (v₁::v₂::rest)):=HQ.mpr hp;dsimp only;refine ar (seqEpoch_at ho6 rfl ?_);refine ar (BX ho6 rfl ?_ (hsz2:=by refine cr (lN ((Array.size_map ..).trans (ig.size_eq.trans (pairsOf_size _)))) (Nat.le_succ_of_le hl)));rw[show failedOf ay=ae from hb.failed];simp only[bne_self_eq_false,p_,if_false];exact aQ (h ay ig (hs.sortedTo (by rw[ig.size_eq]; exact bp _)))
theorem ER{v:ai}{Q:ai->ao->Prop}(hc:aw (au P w) A.in1 (collect v) (λvs s1=>∃ ss:List Str,eB vs ss/\vs.length<=1000000/\∀ (h':aA) (out:Array ai) (aF:List Str) (e:Nat),(∀ b o,s1.heap.get? b=aa o->h'.get? b=aa o) -> h'.get? s1.heap.objs.size=aa (kS "list" out e)->eB out.toList aF->aF.Perm ss->sortedS aF=ah->Q (.ref s1.heap.objs.size) { s1 with heap:=h' }) E s) : aw (au P w) A (call (.builtin "sorted") [v]) Q E s:=by refine Calls.call_function_entry kind_sorted plain_sorted entry_sorted (args_sorted1 _) ?_;unfold Builtin.«sorted»;refine ar (m:=checkCount "sorted" 1 1 _) (aQ ?_);refine ar (aX hc λvs s1 ⟨ss,hS,ii,fin⟩=>?_);refine ar (wpAny_newList ?_);have sk:(s1.heap.push (kS "list" vs.toArray 0)).get? s1.heap.objs.size=aa (kS "list" vs.toArray 0):=cW _ rfl;refine ar (n6 (xL slot_list_sort ⟨_,sk,rfl⟩ entry_list_sort (Pq strKind_oneLt sk hS.keysOf (λa b c e=>keyKind_strs (by rw[← e]; exact hS)) ii λay hp hs=>⟨_,rfl,?_⟩) (args_list_sort _)));obtain⟨aF,a1,a2,a3⟩:=sorted_out_str hS hp hs;obtain⟨e,he⟩:=sortedHeap_at (out:=(arrOf ay).map (·.2)) sk;refine aQ ⟨_,rfl,fin _ _ aF e (λb o hb=>?_) he a1 a2 a3⟩;have bS:b<s1.heap.objs.size:=bP hb;rw[sortedHeap_old (dH bS) (by rw[jG]; exact lQ bS)];exact bG _ hb
end
section
variable{X:Cx}
theorem Inv.sorted2{ag:List (af×Obj)}{σ:St}{H:Hp}{s1:ao}{ls:List Tx}{ss aF:List Str}{h':aA}{out:Array ai}{e:Nat}(I:Inv X ag σ H s1)(hl:ss=ls.map tS)(ii:ls.length<=1000000)(k:∀ b o,s1.heap.get? b=aa o->h'.get? b=aa o) (ho:h'.get? s1.heap.objs.size=aa (kS "list" out e)) (a1:eB out.toList aF) (a2:aF.Perm ss) (a3:sortedS aF=ah) : Inv X ag σ (upd H s1.heap.objs.size (.lst (cI (bO ls)))) { s1 with heap:=h' }:=by
 have e1:aF.map (λz=>z.cps.toList)=bO ls:=by
  refine re ?_ (GL a3);have:=a2.map λz=>z.cps.toList;rw[hl,eP]at this;have e2:(ls.map ((λz:Str=>z.cps.toList) ∘ tS))=ls:=by simp[Hx,nM]
  rw[e2]at this;exact this
 have hv:bd (cI (bO ls)) out.toList:=by rw[← e1]; exact wF a1
 refine I.laid (t':=s1.toks) k (bp _) ⟨?_,out.toList,e,hv,?_⟩
 ·rw[tR,FK];exact mB (zG ∅)
 ·rw[Array.toArray_toList]; exact ho
theorem C9:eu X (.builtin "sorted") (λxs H Q=>∃ (p:af) (ls:List Tx),xs=[.ref p]/\(bR X.K H p (cI ls)\/cq X.K H p (cI ls))/\ls.length<=1000000/\∀ l,H l=ae->Q (.ref l) (upd H l (.lst (cI (bO ls))))):=by
 intro ag s σ H xs us Q I r h;obtain⟨p,ls,rfl,hq,ii,q⟩:=h;obtain⟨u,rfl,ru⟩:=vals1 r;cases ru;have core:∀ (T:String) (o:Obj) (its:List ai) (n:Nat),(T = "list"\/T = "tuple")->s.heap.get? p=aa o->o.cls = .type T->o.data = .seq its.toArray n->bd (cI ls) its ->
   aw (au X.prog X.w) X.A (call (.builtin "sorted") [Value.ref p]) (EP X ag σ Q) X.xe s:=λT o its n hT ho hc hd rv=>by
  have hl:=rv.length;rw[tR]at hl;have h1000:=zG (n:=its.length) ∅;refine ER (wpAny_collect_seq p hT ho hc hd (λh1 k1=>?_) (by rw[cC]; lia));have I1:=I.kept (t':=s.toks) k1;refine⟨_,yy rv,by rw[Hv]; lia,λh' out aF e k ho a1 a2 a3=>?_⟩;exact⟨.ref _,_,Inv.sorted2 I1 rfl ii k ho a1 a2 a3,rfl,q _ I1.fresh⟩
 rcases hq with hq | hq
 ·obtain⟨its,rv,pl,hz⟩:=I.list hq;obtain⟨o,e,hc,n,hd⟩:=pl.isList;exact core "list" o its n (.inl rfl) e hc hd rv
 ·obtain⟨its,rv,⟨o,e,hc,n,hd⟩,hz⟩:=I.tuple hq;exact core "tuple" o its n (.inr rfl) e hc hd rv
end
end L2
namespace Pu
open L2
section
variable{X:Cx}{K:aq}
def qV:List PV->Option PO
 | [.lst xs]=>(gx xs).bind λls=>if ls.length<=1000000 then aa (.lst (am (bO ls)))else ae
 | [.tup xs]=>(gx xs).bind λls=>if ls.length<=1000000 then aa (.lst (am (bO ls)))else ae
 | _=>ae
theorem GF:kj K (λxs H Q=>∃ (p:af) (ls:List Tx),xs=[.ref p]/\(bR K H p (cI ls)\/cq K H p (cI ls))/\ls.length<=1000000/\∀ l,H l=ae->Q (.ref l) (upd H l (.lst (cI (bO ls))))) qV:=λF H xs vs Q po hF rs e q=>by
 have fin:∀ {ys:List PV} {us:List V} {a:af},((gx ys).bind λls=>if ls.length<=1000000 then aa (PO.lst (am (bO ls)))else ae)=aa po->Reps K H F ys us->(bR K H a us\/cq K H a us) ->
   ∃ (p:af) (ls:List Tx),[V.ref a]=[.ref p]/\(bR K H p (cI ls)\/cq K H p (cI ls))/\ls.length<=1000000/\∀ l,H l=ae->Q (.ref l) (upd H l (.lst (cI (bO ls)))):=λ{ys us a} e ra hs=>by
  cases q1:gx ys with
  | none=>rw[q1]at e; cases e
  | some ls=>
   rw[q1]at e;simp only[iC]at e;split at e
   ·rename_i ii;cases e;rw[vq q1]at ra;obtain⟨rfl,hm⟩:=Rj.mp ra;refine⟨a,ls,rfl,hs,ii,λl hl=>q l F _ _ (Al.new0 hl) (v5 hl (Rj.mpr ⟨rfl,λx hx=>hm x ((jN ls).mem_iff.mp hx)⟩)) (wu hl hF trivial)⟩
   ·cases e
 unfold qV at e;split at e
 ·obtain⟨v,rfl,a,us,rfl,ha,_,ra⟩:=gf rs;exact fin e ra (.inl (.inl ha))
 ·obtain⟨v,rfl,a,us,rfl,ha,ra⟩:=gf rs;exact fin e ra (.inr (cq.of ha))
 ·cases e
end
end Pu
namespace L2
theorem N2(n:Nat):sliceRange ((n:Int)-1) (-1) (-1)=(bJ n).map λk=>n-1-k:=by
 unfold sliceRange;have e:(if(-1:Int) > 0 then if(n:Int)-1 < -1 then(-1-((n:Int)-1) + -1-1) / -1 else 0 else if(n:Int)-1 > -1 then((n:Int)-1 - -1 - -1-1) / - -1 else 0).toNat=n:=by
  rw[if_neg (by decide)];split
  ·rw[show(- -1:Int)=1 from rfl,Int.ediv_one]; lia
  ·lia
 show(bJ (if(-1:Int) > 0 then if(n:Int)-1 < -1 then(-1-((n:Int)-1) + -1-1) / -1 else 0 else if(n:Int)-1 > -1 then((n:Int)-1 - -1 - -1-1) / - -1 else 0).toNat).map _=_;rw[e];refine iB λk _=>?_;lia
theorem DM{α β:Type}{f g:α->Option β}:∀ {l:List α},(∀ k∈l,f k=g k)->l.filterMap f=l.filterMap g
 | [],_=>rfl
 | x::l,h=>by rw[pV,pV,h x (by simp),DM λk hk=>h k (by simp[hk])]
theorem QM{α:Type}(l:List α):((bJ l.length).map λk=>l.length-1-k).filterMap (λi=>l[i]?)=l.reverse:=by
 have h:∀ k,k<l.length->l[l.length-1-k]?=l.reverse[k]?:=λk hk=>by rw[List.getElem?_reverse hk]
 have e:((bJ l.length).map λk=>l.length-1-k).filterMap (λi=>l[i]?)=(bJ l.length).filterMap λk=>l.reverse[k]?:=by rw[List.filterMap_map];exact DM λk hk=>h k (uh.mp hk)
 rw[e];have:=D5 l.reverse 0 l.length;simp only[rX,List.map_id',xT]at this;rw[this,xU (by simp)]
section
variable{P:aM}{w:aG}{A:aR}{E:ai->ao->Prop}{s:ao}
theorem Kb{I a:af}{es:Array (Int×ai)}{ep:Nat}{t:jf}(cY:a≠I)(hf:t.fits es.size=ah)(hb:d9 w=ak)(h1:es.size=0)(hh:A.handled=ae) : Walks P w A I [I,a] [I] 0 (λi v=>(es.toList.map (·.2))[i]?=aa v) (λi h=>h.get? I=aa (iD (et 0) 0 a es.size ep)/\h.get? a=aa (pG es ep t)):=by
 have he:es = #[]:=Array.eq_empty_of_size_eq_zero h1;have body:∀ (s:ao) (slot:Nat) (i:Nat) (Q:Option (ai×Nat)->ao->Prop) (E:ai->ao->Prop),s.heap.get? a=aa (pG es ep t) ->
   Q ae s->aw (au P w) A.in1 (mM a slot i ep) Q E s:=λs slot i Q E ha hq=>by
  unfold mM;refine ar (rS ha rfl hf ?_);unfold xX;refine ar (ar (rV (aQ ?_)));show aw _ _ (if d9 w=ah then _ else _) _ _ s;rw[if_neg (by rw[hb]; decide)];refine xY (λhc=>absurd (show(!t.plain && decide (es.size > 1))=ah from hc) (by rw[h1]; simp)) (λ_=>?_);refine ar ?_;refine dZ (Q:=λ_ s'=>s'=s) (E:=E) ?_ (λ_ s' hs'=>?_) (λ_ _ x=>x)
  ·refine xY (λhc=>absurd (show(!t.led && !es.isEmpty)=ah from hc) (by rw[he]; simp)) (λ_=>aQ rfl)
  ·subst hs';rw[he];have e2:∀ k:Nat,(#[]:Array (Int×ai))[k]?=ae:=λk=>by simp
   dsimp only;rw[e2];exact aQ hq
 refine⟨λb hb=>by simp at hb; simp[hb],λi h h' st k=>⟨k I (by simp) _ st.1,k a (by simp) _ st.2⟩,λi s Q E hi st hQ=>absurd hi (Nat.not_lt_zero i),λs Q E st hQ=>?_,λi s Q E st hQ=>vh st.1 hQ⟩;refine o_ st.2 hf st.1 ?_;show aw _ _ (mM a (0:Int).toNat ((0:Nat):Int).toNat (ep:Int).toNat >>= _) _ _ s;simp only[kQ,Int.toNat_zero];refine ar (body s 0 0 _ _ st.2 ?_);dsimp only;refine ar (v9 st.1 λh1 iT _=>?_);exact vt (s:={ s with heap:=h1 }) hh λh2 k2=>hQ h2 s.toks λb o hb e=>k2 b o ((iT.2 b (by simpa using hb)).trans e)
theorem P9{a:af}{ks:List Str}{Q:ai->ao->Prop}(S:f6 P w s.heap a ks)(h:∀ s' I fp n Pv St,Fl P w s s' a I ks fp n Pv St->Q (.ref I) s'):aw (au P w) A (nY (.ref a)) Q E s:=by
 obtain⟨es,ep,t,ss,ho,hS,hp,hel,hsz,hf,uJ,cE⟩:=S.ex;have hT:s.TypeIs (.ref a) "set":=⟨_,ho,rfl⟩
 have iF:=bP ho;have ordP:∀ l:List (Int×ai),l.Perm es.toList->∃ aF,eB (l.map (·.2)) aF/\aF.Perm ks:=λl pl=>by obtain⟨aF,q1,q2⟩:=vV (pl.map (λe:Int×ai=>e.2)) hS;exact⟨aF,q1,q2.trans hp⟩
 refine wpAny_pyIter_slot hT F.slot_set_iter (xL F.slot_set_iter hT IG ?_ (F.args_set_iter_1 _));unfold Builtin.«frozenset.__iter__» Builtin.Frozenset.slot0 slotArgs Builtin.Frozenset.addrOf Builtin.Frozenset.sizeOf;refine ar (aQ ?_);refine ar (ar (wpAny_setEntries_of ho rfl hf (aQ ?_)));unfold setDrawn;refine ar (ar (rS ho rfl hf ?_));unfold xX;refine ar (ar (rV (aQ ?_)));refine aQ ?_;have fin:∀ (first:ai) (s1:ao) (fp:List af) (n:Nat) (Pv:Nat->ai->Prop) (St:Nat->aA->Prop),s1.heap.get? a=aa { cls:=.type "set",dict:=ae,data:=.set es ep t } ->
   Fl P w s { s1 with heap:=s1.heap.push (iD first 0 a es.size ep) } a s1.heap.objs.size ks fp n Pv St ->
   aw (au P w) A.in1 (do
    let e ← setEpoch a
    let f ← newFields "set_iterator" [first,et 0,Value.ref a,et (es.size:Nat),et (e:Nat)]
    ret f) (λfin s'=>∃ v,fin=Fin.done (Flow.ret v)/\∃ T' r,s'.TypeIs v T'/\typeLookup (Value.type T') (b0 "__next__")=pure (aa r)/\Q v s') E s1:=λfirst s1 fp n Pv St ha W=>by
  refine ar (wpAny_setEpoch_of ha rfl hf ?_);refine ar (mK ?_);exact aQ ⟨_,rfl,"set_iterator",_,⟨_,cW _ rfl,rfl⟩,DK.lookup,h _ _ fp n Pv St W⟩
 refine xY (λhc=>?_) (λhc=>?_)
 ·have iQ:(!d9 w && (!t.plain && decide (es.size > 1)))=ah:=hc;refine ar (Ec es.size (bJ es.size) s _ (by simp) λys d hy=>?_);refine ar (wpAny_newTuple ?_ (hsz:=by rw[cX,hy.length_eq,List.length_range]; exact mB (Gs ∅)));refine fin _ _ _ _ _ _ (bG _ ho) ⟨λA' hA=>QH (T:=s.heap.objs.size) (dH (by rw[jG]; exact lQ iF)) (dH (by rw[jG]; exact lO _)) hf hy hA,⟨cW _ rfl,?_,?_⟩,?_,?_,?_,rfl,?_,hsz,?_⟩
  ·exact bG _ (bG _ ho)
  ·exact bG _ (cW _ rfl)
  ·exact λb o e=>bG _ (bG _ e)
  ·rw[jG]; exact um _
  ·intro b hb;simp only[bV,kT,or_false]at hb;rw[jG,jG];rcases hb with rfl | rfl | rfl
   ·rw[jG]; exact lO _
   ·exact lQ (lQ iF)
   ·exact lQ (lO _)
  ·intro bg kY;have e0:(ys.filterMap λj=>(es[j]?).map (·.2))=(ys.filterMap λj=>es[j]?).map (·.2):=by rw[List.map_filterMap]
   have pl:(ys.filterMap λj=>es[j]?).Perm es.toList:=by have:=hy.filterMap λj=>es[j]?;rwa[filterMap_getElem?_range]at this
   rw[e0]at kY;rw[wC (by rw[cX,pl.length_eq]; simp) kY];exact ordP _ pl
  ·intro b hb;simp only[bV,kT,or_false]at hb;rcases hb with rfl | rfl | rfl
   ·rw[jG]; exact .inr (um _)
   ·exact .inl rfl
   ·exact .inr (bp _)
 ·have iQ:¬ (!d9 w && (!t.plain && decide (es.size > 1)))=ah:=hc;refine ar (aQ ?_);cases hb:d9 w with
  | true=>
   refine fin _ _ _ _ _ _ ho ⟨λA' hA=>NI (dH iF) hf hb hA,⟨cW _ rfl,bG _ ho⟩,λb o e=>bG _ e,bp _,?_,rfl,?_,hsz,λb hb=>?_⟩
   ·intro b hb;simp only[bV,kT,or_false]at hb;rw[jG];rcases hb with rfl | rfl
    ·exact lO _
    ·exact lQ iF
   ·intro bg kY;have pl:=D9 (w.params.setOrder a ep) es;rw[wC (by rw[cX,pl.length_eq]; simp) kY];exact ordP _ pl
   ·simp only[bV,kT,or_false]at hb;exact hb.elim (λz=>.inr (lN z.symm)) .inl
  | false=>
   have h01:es.size=1\/es.size=0:=by
    by_cases hk:ks=[]
    ·right;have e1:=hp.length_eq;have e2:ss.length=es.size:=by rw[← hS.strs]; simp
     rw[hk,kR]at e1;lia
    ·rw[hb,cE hk]at iQ;simp at iQ;lia
   rcases h01 with h1 | h1
   ·refine fin _ _ _ _ _ _ ho ⟨λA' hA=>JL (dH iF) hf hb (by rw[uJ,hb]; rfl) h1 hA,⟨cW _ rfl,bG _ ho⟩,λb o e=>bG _ e,bp _,?_,rfl,?_,by decide,λb hb=>?_⟩
    ·intro b hb;simp only[bV,kT,or_false]at hb;rw[jG];rcases hb with rfl | rfl
     ·exact lO _
     ·exact lQ iF
    ·intro bg kY;rw[wC (by simp[h1]) kY];exact ordP _ (rQ _)
    ·simp only[bV,kT,or_false]at hb;exact hb.elim (λz=>.inr (lN z.symm)) .inl
   ·refine fin _ _ _ _ _ _ ho ⟨λA' hA=>Kb (dH iF) hf hb h1 hA,⟨cW _ rfl,bG _ ho⟩,λb o e=>bG _ e,bp _,?_,rfl,?_,by decide,λb hb=>?_⟩
    ·intro b hb;simp only[bV,kT,or_false]at hb;rw[jG];rcases hb with rfl | rfl
     ·exact lO _
     ·exact lQ iF
    ·intro bg kY;rw[wC (by simp[h1]) kY];exact ordP _ (rQ _)
    ·simp only[bV,kT,or_false]at hb;exact hb.elim (λz=>.inr (lN z.symm)) .inl
theorem My{a:af}{ks:List Str}{Q:List ai->ao->Prop}(hh:A.handled=ae)(S:f6 P w s.heap a ks)(h:∀ (s':ao) (vs:List ai) (ss:List Str),eB vs ss->ss.Perm ks->vs.length<4090->(∀ b o,s.heap.get? b=aa o->s'.heap.get? b=aa o)->s'.gens=s.gens->s'.os=s.os->Q vs s'):aw (au P w) A (collect (.ref a)) Q E s:=by
 obtain⟨es,ep,t,_,ho,_⟩:=S.ex;have iF:=bP ho;unfold collect;refine ar (wpAny_runValue (uv F.entry_proto_collect ?_));rw[xW F.plain_proto_collect _];show aw _ A.in1 (newList [] >>= λl=>again (.builtin "list.__iadd__" ⟨[l,.ref a],[]⟩)) _ _ s;refine ar (mK ?_);refine aQ ⟨BL F.plain_list_iadd _,uv F.entry_list_iadd ?_⟩;rw[xW F.plain_list_iadd _];show aw _ A.in1 (Builtin.List.listExtendWith (.ref s.heap.objs.size) (.ref a) (.ref s.heap.objs.size)) _ _ _;unfold Builtin.List.listExtendWith;have hT:∀ s1:ao,s1.heap.get? a=aa { cls:=.type "set",dict:=ae,data:=.set es ep t }->s1.TypeIs (.ref a) "set":=λs1 e=>⟨_,e,rfl⟩
 have vf:(s.heap.push { cls:=.type "list",data:=.seq ([]:List ai).toArray }).get? a=aa { cls:=.type "set",dict:=ae,data:=.set es ep t }:=bG _ ho;refine ar (wpAny_typeOf (hT _ vf) ?_);have h1:Builtin.List.listSameRef (.ref s.heap.objs.size) (.ref a)=ak:=by have:¬ (s.heap.objs.size=a):=rH iF;simp[Builtin.List.listSameRef,this]
 rw[if_neg (by rw[h1]; decide)];refine ar (P9 (S.at λo e=>bG _ e) λs2 I fp n Pv St W=>?_);have oq:=W.old a _ vf;refine ar (n6 ?_);unfold Builtin.List.listLengthHint;refine ar (wpAny_specialOf (hT _ oq) Oq ?_)
 wp_delta
 refine ar (wpAny_isInstance (T:="set") (b:=ah) (hT _ oq) (by rw[isSubtype_type]; kernel_rfl) ?_);show aw _ A.in1 (typeOf (Value.ref a) >>= _) _ _ _;refine ar (wpAny_typeOf (T:="set") (hT _ oq) ?_);refine aQ ?_;rw[if_pos (by decide)];refine ar (oh ?_);have hL:(s.heap.push { cls:=.type "list",data:=.seq ([]:List ai).toArray }).get? s.heap.objs.size=aa { cls:=.type "list",data:=.seq ([]:List ai).toArray }:=cW _ rfl;have hL2:=W.old _ _ hL;unfold Builtin.List.listTouch;refine ar (ar (BX hL2 rfl ?_ (by decide) (by show 1<=a9+1; decide)));have hL3:=get?_update_seq hL2 (λa:Array ai=>a.push Value.none);refine BX hL3 rfl ?_ (by show 1<=a9; decide) (by show 0<=a9+1; decide);have hL4:=get?_update_seq hL3 (λa:Array ai=>a.pop);have Ig:s.heap.objs.size∉fp:=λz=>by
  rcases W.fps _ z with q | q
  ·exact absurd iF (by rw[← q]; exact gW _)
  ·rw[jG]at q;exact absurd (lO _) (uC.mpr q)
 have k4:∀ b o,b≠s.heap.objs.size->s2.heap.get? b=aa o->(((s2.heap.update s.heap.objs.size (n_ λa=>a.push Value.none)).update s.heap.objs.size (n_ λa=>a.pop))).get? b=aa o:=λb o hb e=>by rw[Heap.get?_update_ne _ _ _ _ hb,Heap.get?_update_ne _ _ _ _ hb]; exact e
 have bH:St 0 (((s2.heap.update s.heap.objs.size (n_ λa=>a.push Value.none)).update s.heap.objs.size (n_ λa=>a.pop))):=(W.wk A.in1 hh).frame 0 _ _ W.st λb hb o e=>k4 b o (λz=>Ig (z ▸ hb)) e;refine aQ ⟨BL F.plain_extend_loop _,codeAny_extend_loopS (W.wk A.in1 hh).toS (mB (Gs (by have:=W.len; lia))) _ Ig _ n 0 _ _ _ rfl (mG _) bH hL4 (ItemsOf.nil _) λs' acc' c' hm uZ kY=>?_⟩;show aw _ A (load s.heap.objs.size >>= _) _ _ s';refine ar (wpAny_load uZ ?_);obtain⟨ss,q1,q2⟩:=W.ord acc' kY;refine aQ (h s' acc'.toList ss q1 q2 (by rw[mF,kY.1]; exact W.len) (λb o e=>?_) ?_ ?_)
 ·have bS:=bP e;refine hm.heap b o (λhb=>?_) (k4 b o (dH bS) (W.old b o (bG _ e)));rcases bV.mp hb with z | z
  ·exact absurd bS (by rw[z]; exact gW _)
  ·rw[gG.mp z]at bS;have:=W.new;rw[jG]at this;exact absurd bS (uC.mpr (Nat.le_of_succ_le this))
 ·rw[hm.gens,W.rest]
 ·rw[hm.os,W.rest]
end
section
variable{X:Cx}
theorem Mv(hc:X.calm=ah):eu X (.builtin "sorted") (λxs H Q=>∃ (p:af) (ls:List Tx),xs=[.ref p]/\H p=aa (oQ X p ls)/\ls.length<4000/\∀ l,H l=ae->Q (.ref l) (upd H l (.lst (cI (bO ls))))):=by
 intro ag s σ H xs us Q I r h;obtain⟨p,ls,rfl,hq,ii,q⟩:=h;obtain⟨u,rfl,ru⟩:=vals1 r;cases ru;obtain⟨S,_,_⟩:=(show dw X.prog X.w H s.heap p (oQ X p ls)from I.hok p _ hq)
 refine ER (My (yz (I.ok.hd hc)) S λs' vs ss a1 a2 a3 k eg eo=>?_);obtain⟨h',g',d',t',o'⟩:=s';obtain rfl:g'=s.gens:=eg;obtain rfl:o'=s.os:=eo;have I1:Inv X ag σ H { s with heap:=h',drawn:=d',toks:=t' }:=by have:=Inv.call (ch:=[]) I (g':=s.gens) (d':=d') (t':=t') (Un.kept (fs:=fg X.stack) (ex:=[]) k) (I.hok.kept k) I.bare (λb hb=>absurd hb (by simp));exact this
 refine⟨ss,a1,∅,λh2 out aF e k2 ho b1 b2 b3=>?_⟩;exact⟨.ref _,_,Inv.sorted2 (s1:={ s with heap:=h',drawn:=d',toks:=t' }) (ss:=ls.map tS) I1 rfl ∅ k2 ho b1 (b2.trans a2) b3,rfl,q _ I1.fresh⟩
end
theorem f6.perm{P:aM}{w:aG}{h:aA}{a:af}{ks ls:List Str}(S:f6 P w h a ks)(p:ks.Perm ls):f6 P w h a ls:=by obtain⟨es,ep,t,ss,e,h1,h2,h3,h4,h5,h6,h7⟩:=S.ex;exact⟨es,ep,t,ss,e,h1,h2.trans p,h3,h4,h5,h6,λz=>h7 λq=>z (by subst q; exact p.symm.eq_nil)⟩
section
variable{P:aM}{w:aG}{A:aR}{E:ai->ao->Prop}{s:ao}
theorem Qk(x y:Str)(t':Tok):(gF P w).is x (.str y t')=decide (y=x):=by
 show pR x (.str y t')=_;rw[rJ];simp[pR]
 try exact eq_comm
structure Io(P:aM)(w:aG)(ks:List Str)(arr:Array (Int×ai)):Prop where
 ex:∃ ss:List Str,arr.toList.map (λe=>e.1)=ss.map (gF P w).hash/\eB (arr.toList.map (·.2)) ss/\ss.Perm ks
theorem De:∀ {l:List (Int×ai)} {ss:List Str},ElemsOf (gF P w) l->eB (l.map (·.2)) ss->l.map (λe=>e.1)=ss.map (gF P w).hash
 | [],[],_,_=>rfl
 | [],_::_,_,h=>by cases h
 | e::l,[],_,h=>absurd h.length (by simp)
 | e::l,x::ss,he,h=>by
  obtain⟨h1,v⟩:=e;cases h with
  | cons _ t hr=>obtain⟨⟨k,q1,q2⟩,_⟩:=he.head;rw[Qk]at q1;have:x=k:=of_decide_eq_true q1;subst this;rw[fI,fI,De he.tail hr,q2]
theorem Io.of{es arr:Array (Int×ai)}{ss ks:List Str}(hS:eB (es.toList.map (·.2)) ss)(hp:ss.Perm ks)(hel:ElemsOf (gF P w) es.toList)(p:arr.toList.Perm es.toList):Io P w ks arr:=by obtain⟨aF,q1,q2⟩:=vV (p.map (λe:Int×ai=>e.2)) hS;exact⟨aF,De (hel.perm p) q1,q1,q2.trans hp⟩
theorem f6.ty{a:af}{ks:List Str}(S:f6 P w s.heap a ks):s.TypeIs (.ref a) "set":=by obtain⟨es,ep,t,ss,ho,_⟩:=S.ex;exact⟨_,ho,rfl⟩
end
end L2
namespace Pu
open L2
section
variable{X:Cx}{E:XK}{pin:List Nat}{e e2:aB}{ds ds2:aj->R (List PV)}{pos p q pos' p4 q2 pos2:Pos}
def tX:List PV->Option PO
 | [.lst xs]=>(gx xs).bind λls=>if(eW ls).length<4000 then aa (.lst (am (bO (eW ls))))else ae
 | _=>ae
def J6(X:Cx):List V->Hp->VK->Prop:=λxs H Q=>∃ (p:af) (ls:List Tx),xs=[.ref p]/\H p=aa (oQ X p ls)/\ls.length<4000/\∀ l,H l=ae->Q (.ref l) (upd H l (.lst (cI (bO ls))))
theorem J0:kj X.K (N8 X (J6 X)) tX:=λF H xs vs Q po hF rs e q=>by
 unfold tX at e;split at e
 ·obtain⟨v,rfl,a,us,rfl,ha,_,ru⟩:=gf rs;obtain⟨ls,e1,e2⟩:=Option.bind_eq_some_iff.mp e;rw[vq e1]at ru;obtain⟨rfl,hl⟩:=Rj.mp ru;split at e2
  ·rename_i hh;cases e2;refine⟨a,ls,rfl,.inl ha,hh,λb hb=>⟨b,eW ls,rfl,b_,hh,λl lW=>?_⟩⟩;have hlb:l≠b:=by rintro rfl; rw[b_]at lW; cases lW
   have hl0:H l=ae:=by rw[bw hlb]at lW; exact lW
   have al:Al F F H (upd (upd H b (oQ X b (eW ls))) l (.lst (cI (bO (eW ls))))):=(Al.new0 hb).trans (Al.new0 lW);refine q l F _ (λc=>c=l) al ⟨⟨_,b_,Rj.mpr ⟨rfl,λx hx=>hl x ((nv _ _).mp ((jN _).mem_iff.mp hx))⟩⟩,λc=>Iff.rfl⟩ λc z=>?_;subst z;exact⟨hl0,λz=>Exists.elim (hF _ z) (λo w=>by rw[hl0]at w; cases w),_,b_,trivial⟩
  ·cases e2
 ·cases e
theorem K6(hc:X.calm=ah)(ha:DA X E [e] ds)(hm:X.mg "sorted" = ae)(hm2:X.mg "set" = ae)(hg:Gl X "sorted":=by rfl)(hg2:Gl X "set":=by rfl)(h:nI e=ak:=by rfl) : DN X E (.Call (.Name "sorted" p) [.Call (.Name "set" q) [e] [] pos'] [] pos) (dL tX ds):=λF S ε σ H Q rl h'=>bC (pN (Mv hc) hg hm zS (gP (wW (Lp hc) hg2 hm2 L6 fZ (by decide) (by decide) (lZ h) rfl) i7 (lZ rfl)) (by decide) (by decide) (lZ rfl) rfl) (wv J0 ha rl h')
end
theorem N4(its:List ai):slicePick its.toArray ae ae (aa (-1))=its.reverse.toArray:=by
 have hb:n8 ae ae (aa (-1)) its.toArray.size=((its.length:Int)-1,-1,-1):=by simp[n8]
 unfold slicePick;rw[hb,N2];congr 1;have:=QM its;simpa using this
section
variable{X:Cx}{E:XK}{e es:aB}{te:TE}{ts:TO}{pos p2:Pos}{d:aj->R PV}
def Ov(K:aq)(te:TE)(ts:TO):TE:=λσ H Q=>te σ H λx H1=>ts σ H1 λst H2=>∃ a xs,x = .ref a/\st=aa (-1)/\bR K H2 a xs/\∀ p,H2 p=ae->Q (.ref p) (upd H2 p (.lst xs.reverse))
theorem Qt(he:PE X e te)(hs:L2.PO X (aa es) ts):PE X (.Subscript e (.Slice ae ae (aa es) p2) pos) (Ov X.K te ts):=by
 intro ag s σ H Q I h;refine Subscript_ (aX (he ag s σ H _ I h) λv s1 ⟨x,H1,I1,r1,q1⟩=>?_);refine wpAny_Slice ?_;rw[evalPart_none];refine aQ (aQ ?_);refine aX (hs ag s1 σ H1 _ I1 q1) λvs s3 ⟨st,H3,I3,ps,a,xs,hz,k7,hl,q3⟩=>?_;subst hz k7;cases r1;have I4:Inv X ag σ H3 { s3 with heap:=s3.heap.push { cls:=.type "slice",data:=.fields #[.none,.none,vs] } }:=I3.kept (t':=s3.toks) λb ob q=>bG _ q;have sy:Heap.IsSliceOf (s3.heap.push { cls:=.type "slice",data:=.fields #[.none,.none,vs] }) s3.heap.objs.size .none .none vs:=Heap.IsSliceOf.new ..;obtain⟨its,r,ht,hz⟩:=I4.list hl;have a8:=r.length;show aw (au X.prog X.w) X.A (Bz e (.Slice ae ae (aa es) p2) (.ref a) (.ref s3.heap.objs.size)) (EP X ag σ Q) X.xe { s3 with heap:=s3.heap.push { cls:=.type "slice",data:=.fields #[.none,.none,vs] } };refine tail_any (ops:=[.ref a,.ref s3.heap.objs.size]) ht.isList.typeIs slot_list_getitem.lookup ?_ (by with_unfolding_all rfl);refine wpAny_getItem_list_slice ht.isList sy .none .none ps (by simp) ?_ (by rw[cC]; lia);rw[N4];refine⟨.ref _,_,I4.laid (t':=s3.toks) (o:=.lst xs.reverse) (λb ob q=>bG _ q) (bp _) ?_,rfl,q3 _ (I4.hok.fresh (bp _))⟩;exact⟨by rw[List.length_reverse]; exact hz,_,0,r.reverse,cW _ rfl⟩
theorem _root_.Pu.Reps.rev{K:aq}{H:Hp}{F:af->Prop}:∀ {xs:List PV} {vs:List V},Reps K H F xs vs->Reps K H F xs.reverse vs.reverse
 | [],_,h=>by rw[show _=[] from h]; rfl
 | x::xs,_,⟨v,r,e,h1,h2⟩=>by subst e;rw[BB,BB];exact h2.rev.app (Reps.one h1)
def tO(d:aj->R PV)(dk:aj->R (Option Int)):aj->R PV:=λε=>(d ε).bind λx ε1=>(dk ε1).bind λk ε2=>match x,k with
 | .lst xs,aa (-1)=>.ok (.lst xs.reverse) ε2
 | _,_=>.no
theorem KN{dk:aj->R (Option Int)}(he:DE X E e d)(hk:DO X E (aa es) dk):DE X E (.Subscript e (.Slice ae ae (aa es) p2) pos) (tO d dk):=λF S ε σ H Q rl h=>by
 refine bC (Qt bD yE) (he F S ε σ H _ rl ((Ok.bind h).imp λx ε1 F1 S1 H1 r1 g1 h1 v rv=>?_));refine hk F1 S1 ε1 σ H1 _ r1 ((Ok.bind h1).imp λk ε2 F2 S2 H2 r2 g2 h2=>?_);have rv':=rv.grow g2 r1.fit;split at h2
 ·obtain⟨a,us,rfl,ha,_,ra⟩:=rv';refine⟨a,us,rfl,rfl,.inl ha,λp hp=>?_⟩;exact h2 (λb=>F2 b\/b=p) S2 _ (r2.al (Al.new hp)) (Al.new hp).grow _ ⟨p,_,rfl,.inl b_,.inr rfl,(Al.new hp).reps ra.rev⟩
 ·exact h2.elim
end
def ri(f:Str)(v:PV):List (Str×PV)->List (Str×PV)
 | []=>[(f,v)]
 | (g,x)::r=>if g=f then(g,v)::r else(g,x)::ri f v r
section
variable{K:aq}{H:Hp}{F:af->Prop}
theorem g9.look{f:Str}{pv:PV}{fs:List (Str×PV)}{ws:List (Str×V)}(h:g9 K H F fs ws)(e:fs.lookup f=aa pv):∃ v,ws.lookup f=aa v/\aV K H F pv v:=by
 unfold g9 at h
 induction h with
 | nil=>cases e
 | @cons p q ps qs r _ ih=>
  obtain⟨pn,pv'⟩:=p;obtain⟨qn,qv⟩:=q;obtain⟨r1,r2⟩:=r;simp only at r1 r2;subst r1;rw[je]at e ⊢;cases hb:f == pn with
  | true=>rw[hb]at e; cases e; exact⟨qv,rfl,r2⟩
  | false=>rw[hb]at e; exact ih e
theorem g9.miss{f:Str}{fs:List (Str×PV)}{ws:List (Str×V)}(h:g9 K H F fs ws)(e:fs.lookup f=ae):ws.lookup f=ae:=by
 unfold g9 at h
 induction h with
 | nil=>rfl
 | @cons p q ps qs r _ ih=>
  obtain⟨pn,pv'⟩:=p;obtain⟨qn,qv⟩:=q;obtain⟨r1,r2⟩:=r;simp only at r1 r2;subst r1;rw[je]at e ⊢;cases hb:f == pn with
  | true=>rw[hb]at e; cases e
  | false=>rw[hb]at e; exact ih e
theorem g9.len{fs:List (Str×PV)}{ws:List (Str×V)}(h:g9 K H F fs ws):ws.length=fs.length:=by
 unfold g9 at h
 induction h with
 | nil=>rfl
 | cons _ _ ih=>simp[ih]
theorem g9.put{f:Str}{y:PV}{v:V}{fs:List (Str×PV)}{ws:List (Str×V)}(h:g9 K H F fs ws)(r:aV K H F y v):g9 K H F (ri f y fs) (eA f v ws):=by
 unfold g9 at h ⊢
 induction h with
 | nil=>exact .cons ⟨rfl,r⟩ .nil
 | @cons p q ps qs r' t ih=>
  obtain⟨pn,pv'⟩:=p;obtain⟨qn,qv⟩:=q;obtain⟨r1,r2⟩:=r';simp only at r1 r2;subst r1;unfold ri eA;split
  ·exact .cons ⟨rfl,r⟩ t
  ·exact .cons ⟨rfl,r2⟩ ih
end
def o9(ε:aj)(C:af)(i:Nat):Option (List (Str×PV)):=match ε[i]? with
 | some (.own (.ins D fs))=>if D=C then aa fs else ae
 | _=>ae
theorem vy{ε:aj}{C:af}{i:Nat}{fs:List (Str×PV)}(h:o9 ε C i=aa fs):ε[i]?=aa (.own (.ins C fs)):=by
 unfold o9 at h;split at h
 ·rename_i D fs' e;split at h
  ·rename_i hD; subst hD; cases h; exact e
  ·cases h
 ·cases h
section
variable{X:Cx}{E:XK}{pin:List Nat}{e value:aB}{f x:Str}{C:af}{p pos pos':Pos}{dv:aj->R PV}
def y8(C:af)(i:Nat)(f:Str)(dv:aj->R PV):aj->R aT:=λε=>(dv ε).bind λy ε1=>(aO (o9 ε1 C i) ε1).bind λfs ε1=>if fs.length<1000 then .ok .next (ε1.set i (.own (.ins C (ri f y fs))))else .no
theorem MO(i:Nat)(c:Cls X.K C)(n:gR X.K C f)(uK:DE X E value dv)(hN:X.N[i]?=aa x:=by rfl)(hv:c7 X.env.scope x:=by first | exact Or.inl rfl | exact Or.inr (Or.inl rfl) | exact Or.inr (Or.inr rfl))(hd:(x == ("__debug__" : Str))=ak:=by decide)(a7:(x == ("__classdict__" : Str))=ak:=by decide) (hs:j4 value (aa (.Attribute (.Name x p) f pos')) pos.line X.env=pure ak:=by rfl):DS X E pin (.Assign [.Attribute (.Name x p) f pos'] value pos) (y8 C i f dv):=λF S ε σ H D rl h=>by
 refine iw (CZ (dP hN hv hd a7) bD hs) (uK F S ε σ H _ rl (h.bindE.imp λy ε1 F1 S1 H1 r1 g1 q v rv=>?_));cases e0:o9 ε1 C i with
 | none=>rw[e0]at q; exact q.elim
 | some fs=>
  rw[e0]at q;simp only[cz,R.bind_ok]at q;obtain⟨a,ea,⟨dx,ws,ha,hf⟩,_⟩:=r1.own i _ (vy e0);split at q
  ·rename_i hl;have hf2:=hf.put (f:=f) rv;obtain⟨r3,g3⟩:=r1.updO (po':=.ins C (ri f y fs)) (o':=.ins C dx (eA f v ws)) (vy e0) rfl ea trivial λH' m1 m2 hH' Sa hSa=>⟨⟨_,_,hH',hf2.mono m1⟩,hSa⟩
   exact⟨.ref a,ea,a,C,dx,ws,rfl,ha,c,n,by rw[hf.len]; exact hl,q F1 S1 σ _ r3 g3 (im.refl _ _)⟩
  ·exact q.elim
end
section
variable{X:Cx}{CX:dJ}{k:Nat}{f C:af}{fd:e_}{ps:List Str}{sp:Sp}{E:XK}{ag:List (af×Obj)}{σ:St}{H:Hp}{s:ao}{Q:VK}{us:List ai}{vs:List V}
theorem QI(F:ez X.prog X.w X.K X.mg X.base CX k f fd ps sp)(hr:bZ k X.A)(hb:Binds X.K fd ps [])(I:Inv X ag σ H s)(r:bd vs us)(h:sp vs H Q E) : aw (au X.prog X.w) X.A (call (.ref f) us) (EP X ag σ Q) (λe s'=>∃ s1 H1,Inv X ag σ H1 s1/\CX X.stack H1 s1 E e s') s:=by
 have hl:us.length=ps.length:=by rw[← r.length]; exact F.len _ _ _ _ h
 refine rL (mH (F.run X.A X.stack s H ⟨us,[]⟩ us vs Q E hr I.env0 (by have:=hb s us I.kIn (by rw[gD]; exact hl); rwa[gD]at this) r h) λrr s' hq=>?_);cases rr with
 | error er=>exact⟨s,H,I,hq⟩
 | ok fl=>
  cases fl with
  | ret u=>exact I.after hq
  | next=>exact dU hq
  | brk=>exact dU hq
  | cont=>exact dU hq
end
def kz(ε:aj)(as:List bA)(g:aj->R Slot):R Slot:=(aO (if(bF as).Nodup then cJ ε as else ae) ε).bind λss ε=>cZ ε as (g ss)
section
variable{K:aq}{E:XK}{F:af->Prop}{S:Nat->af->Prop}{ε:aj}{σ:St}{H:Hp}{as:List bA}{vs:List V}{g:aj->R Slot}
theorem wf{D:Slot->aj->(af->Prop)->(Nat->af->Prop)->Hp->Prop}(r:aH K F S ε σ H)(av:eU K σ F H as vs)(h:Ok K E σ F S H (kz ε as g) D) : br K g vs H (λv H'=>∃ sl ε' F' S' Sr,aH K F' S' ε' σ H'/\a_ (U S) (U S') F F' H H'/\kF K H' F' sl v Sr/\(∀ b,Sr b->H b=ae/\¬ F' b/\¬ U S' b/\∃ o,H' b=aa o/\cR o)/\D sl ε' F' S' H') E:=by
 unfold kz at h;have q:=Ok.bind h;by_cases nd:(bF as).Nodup
 ·rw[if_pos nd]at q;cases es:cJ ε as with
  | none=>rw[es]at q; exact q.elim
  | some ss=>
   rw[es]at q;have q:=q F S H r (a_.refl ..);dsimp only at q;refine⟨F,jU as S,ss,r.cal av es nd,?_⟩;cases eg:g ss with
   | no=>rw[eg]at q; exact q.elim
   | er cv aF=>
    rw[eg]at q;intro y F' S' H' r' g';unfold cZ at q;dsimp only at q;by_cases kp:dG as aF=ah
    ·rw[if_pos kp]at q;obtain⟨S2,r2,g2,_⟩:=r.called av es nd r' g' (λ_ z=>z) (jT kp);exact q y F' S2 H' r2 g2
    ·rw[if_neg kp]at q; exact q.elim
   | ok sl aF=>
    rw[eg]at q;intro v F' S' H' Sr r' g' rv lo fr;unfold cZ at q;dsimp only at q;by_cases kp:dG as aF=ah
    ·rw[if_pos kp]at q;obtain⟨S2,r2,g2,u2⟩:=r.called av es nd r' g' (λ_ z=>.inl z) (jT kp);refine⟨sl,_,F',S2,Sr,r2,g2,rv,λb z=>⟨fr b z,(lo b z).1,λw=>?_,(lo b z).2.2⟩,q F' S2 H' r2 g2⟩;rcases u2 b w with w | ⟨i,w⟩
     ·exact(lo b z).2.1 w
     ·obtain⟨_,_,o,y1,_⟩:=r.foot i b w;rw[fr b z]at y1; cases y1
    ·rw[if_neg kp]at q; exact q.elim
 ·rw[if_neg nd]at q; exact q.elim
theorem wN{Q Q':VK}(h:br K g vs H Q E)(hq:∀ v H',Q v H'->Q' v H'):br K g vs H Q' E:=by
 obtain⟨F,S,ss,rl,ok⟩:=h;refine⟨F,S,ss,rl,?_⟩;cases eg:g ss with
 | no=>rw[eg]at ok; exact ok
 | er c aF=>rw[eg]at ok; exact ok
 | ok sl aF=>rw[eg]at ok; exact λv F' S' H' Sr r' g' rv lo fr=>hq v H' (ok v F' S' H' Sr r' g' rv lo fr)
theorem eU.al{F':af->Prop}{H':Hp}(al:Al F F' H H'):∀ {as:List bA} {vs:List V},eU K σ F H as vs->eU K σ F' H' as vs
 | [],_,h=>h
 | .inl _::_,_,⟨v,r,e,h1,h2⟩=>⟨v,r,e,al.rep h1,eU.al al h2⟩
 | .inr _::_,_,⟨v,r,e,h1,h2⟩=>⟨v,r,e,h1,eU.al al h2⟩
end
structure Bg(CX:dJ)(P:aM)(w:aG)(K:aq)(mg:Str->Option ai)(base:aA)(C:af)(k:Nat)(ps:List Str)(sp:Sp):Prop where
 ex:∃ f fd,Mk K C f/\ez P w K mg base CX k f fd ps sp/\Binds K fd ps []
structure nz(CX:dJ)(P:aM)(w:aG)(K:aq)(mg:Str->Option ai)(base:aA)(C:af)(m:Str)(k:Nat)(ps:List Str)(sp:Sp):Prop where
 ex:∃ f fd,sJ K C m f/\ez P w K mg base CX k f fd ps sp/\Binds K fd ps []
def v4(K:aq)(C:af)(qual:Str)(st:aY):Prop:=∃ f fd,Mk K C f/\ko K "__init__" qual st f fd
def ly(K:aq)(C:af)(m qual:Str)(st:aY):Prop:=∃ f fd,sJ K C m f/\ko K m qual st f fd
theorem Rp{K:aq}{C:af}{qual:Str}{st:aY}{f:af}{oc kV dc pm cd ct:ai}{od an:Option af}{sl:Array (Option ai)}(m:PySem.W.makesIn K C=ah)(i:ie K (.ref C) "__init__" = aa (aa (.ref f)))(n:xG K (.ref f)=ah)(p:jC K (.ref C)=ah)(l:K.lookup f=aa ⟨oc,od,.func (fq "__init__" qual (gn st) (dm st) (aP st) .none kV dc pm an cd ct),sl⟩) (c:pX K cd qual=ah) (k:jC K (.ref f)=ah):v4 K C qual st:=⟨f,_,⟨m,i,n,p⟩,wV l c k⟩
theorem RI{K:aq}{C:af}{m qual:Str}{st:aY}{f:af}{oc kV dc pm cd ct:ai}{od an:Option af}{sl:Array (Option ai)}(i:ie K (.ref C) m=aa (aa (.ref f)))(n:xG K (.ref f)=ah)(l:K.lookup f=aa ⟨oc,od,.func (fq m qual (gn st) (dm st) (aP st) .none kV dc pm an cd ct),sl⟩) (c:pX K cd qual=ah) (k:jC K (.ref f)=ah):ly K C m qual st:=⟨f,_,⟨i,n,k⟩,wV l c k⟩
section
variable{CX:dJ}{P:aM}{w:aG}{K:aq}{mg:Str->Option ai}{base:aA}{C:af}{m qual:Str}{st:aY}{N ps:List Str}{k n:Nat}{d:aj->R aT}{pin:List Nat}
theorem Lh(D:v4 K C qual st)(Sc:bN N ps (aP st))(hn:N.length=ps.length+n)(hb:∀ (kV doc pm:ai) (an:Option af) (aE ct:ai) (us:List ai),us.length=ps.length->eO (fq "__init__" qual (gn st) (dm st) (aP st) .none kV doc pm an aE ct) ⟨us,[]⟩=pure (ps.zip us))(d4:∀ (f:af) (aE:ai) (A:aR) (outer:List Env) (s:ao) (H:Hp) (E:XK),bZ k (A.deeper (f_ qual (aP st) s.heap.objs.size f aE))->fU (fY CX P w K mg base N qual (aP st) f aE A outer s H E) E pin (dm st) d) : Bg CX P w K mg base C (k+1) ps (br K (bM ps.length pin (bu n d))):=by obtain⟨f,fd,M,Fn⟩:=D;exact⟨f,fd,M,Er Fn Sc hn hb d4,Fn.binds hb⟩
end
end Pu
namespace Mx
def F5:Nat->Nat->Nat
 | 0,x=>x
 | n+1,x=>F5 n (5 * x+1)
end Mx
namespace L2
open Mx
section
variable{P:aM}{w:aG}{A:aR}{E:ai->ao->Prop}{s:ao}
structure Nw(P:aM)(w:aG)(h:aA)(a:af)(ks:List Str)(es:Array (Int×ai))(ep:Nat)(t:jf)(ss:List Str):Prop where
 at_:h.get? a=aa { cls:=.type "set",dict:=ae,data:=.set es ep t }
 texts:eB (es.toList.map (·.2)) ss
 perm:ss.Perm ks
 el:ElemsOf (gF P w) es.toList
 sz:es.size<4090
 fits:t.fits es.size=ah
 led:t.led=(!d9 w)
 plain:t.plain=ak
 dum:t.dummies = #[]
 mask:7<=t.mask
theorem Nw.toS{h:aA}{a:af}{ks:List Str}{es:Array (Int×ai)}{ep:Nat}{t:jf}{ss:List Str}(x:Nw P w h a ks es ep t ss):f6 P w h a ks :=⟨es,ep,t,ss,x.at_,x.texts,x.perm,x.el,x.sz,x.fits,x.led,λ_=>x.plain⟩
theorem f6.len{h:aA}{a:af}{ks:List Str}{es:Array (Int×ai)}{ss:List Str}(hS:eB (es.toList.map (·.2)) ss)(hp:ss.Perm ks):ks.length=es.size:=by
 have e1:=hp.length_eq;have e2:ss.length=es.size:=by rw[← hS.strs]; simp
 lia
end
section
variable{X:Cx}
def wL(ls:List Tx)(x:Tx):List Tx:=ls.filter λz=>decide (z≠x)
end
theorem KV.at{kvs:List (aJ×V)}{vs:List (aJ×ai)}(h:KV kvs vs){i:Nat}{p:aJ×V}(e:kvs[i]?=aa p):∃ q,vs[i]?=aa q/\p.1=q.1/\RelV p.2 q.2:=by
 unfold KV at h
 induction h generalizing i with
 | nil=>simp at e
 | cons r _ ih=>
  cases i with
  | zero=>simp at e; subst e; exact⟨_,rfl,r⟩
  | succ i=>exact ih (by simpa using e)
theorem KV.len{kvs:List (aJ×V)}{vs:List (aJ×ai)}(h:KV kvs vs):kvs.length=vs.length:=by
 unfold KV at h
 induction h with
 | nil=>rfl
 | cons _ _ ih=>simp[ih]
end L2
namespace Pu
open L2
section
variable{X:Cx}{E:XK}{pin:List Nat}{e b c:aB}{de db dc:aj->R PV}{pos:Pos}
theorem f7.vals{K:aq}{H:Hp}{F:af->Prop}{kvs:List (aJ×PV)}{ws:List (aJ×V)}(h:f7 K H F kvs ws):Reps K H F (kvs.map (·.2)) (ws.map (·.2)):=by
 unfold f7 at h
 induction h with
 | nil=>rfl
 | cons r _ ih=>exact⟨_,_,rfl,r.2,ih⟩
end
end Pu
namespace L2
section
variable{X:Cx}{ag:List (af×Obj)}{σ:St}{H:Hp}{s:ao}
structure LamAt(X:Cx)(x:Str)(c P:af):Prop where
 mem:x∈xq
 tab:nW X.K x=aa (c,P)
 hd:PySem.W.codeHdIn X.K c P=ah
 code:X.env.code = .ref c
end
end L2
theorem L2.LamAt.nox{X:L2.Cx}{x:PySem.Str}{c T:PySem.Addr}(h:L2.LamAt X x c T):L2.LamAt X.nox x c T:=⟨h.mem,h.tab,h.hd,h.code⟩
namespace Sh
open L2 Pu
set_option genInjectivity false in
structure Ad where
 SlitError:af
 NoText:af
 NoWidth:af
 NoView:af
 NoWindow:af
 Never:af
 Full:af
 Nothing:af
 Unlike:af
 NoPlace:af
 NoLetters:af
 BadText:af
 Seeker:af
 Slit:af
def fF(a:Ad):List af:=[a.NoText,a.NoWidth,a.NoView,a.NoWindow,a.Never,a.Full,a.Nothing,a.Unlike,a.NoPlace,a.NoLetters,a.BadText]
def qw(a:Ad)(c:ai):Bool:=match c with
 | .ref x=>(fF a).contains x
 | _=>ak
def iI(a:Ad)(c:ai)(D:V):Option Bool:=match c,D with
 | .ref x,.ref d=>if(fF a).contains x && (fF a).contains d then aa (x == d)else ae
 | .ref x,.ty T=>if(fF a).contains x && T == "ValueError" then aa ah else ae
 | _,_=>ae
def yat(a:Ad):aj->R aT:=cy (dL pD (az (dF (fG [1] (dO (dV 0)) (dR) (d2 (qB ak) (dV 0) (dV 1)))) (aL)))
def xm(a:Ad):aj->R Slot:=bM 2 [] (bu 0 (yat a))
def yaw(a:Ad):aj->R aT:=cy (ki (dL gA (az (dV 0) (az (dC (.raw (.ty "int"))) (aL)))) (xg (dL gA (az (dV 0) (az (dC (.raw (.ty "bool"))) (aL))))))
def vv(a:Ad):aj->R Slot:=bM 1 [] (bu 0 (yaw a))
def yax(a:Ad):aj->R aT:=cy (ki (bf (bh (vv a) (gV (dV 0) (bT)))) (pf (ge λi j=>decide (i<=j)) (ge λi j=>decide (i<=j)) (dC (.int 1)) (dV 0) (dC (.int 4))))
def pO(a:Ad):aj->R Slot:=bM 1 [] (bu 0 (yax a))
def yay(a:Ad):aj->R aT:=cy (ki (dL gA (az (dV 0) (az (dC (.raw (.ty "str"))) (aL)))) (ki (d2 (eqT ak) (dL cb (az (dV 0) (aL))) (dV 1)) (bf (bh (xm a) (gV (dV 0) (gV (dV 2) (bT)))))))
def jY(a:Ad):aj->R Slot:=bM 3 [] (bu 0 (yay a))
def yao(a:Ad):aj->R aT:=aN (bX (fS (iW (dB (dL gA (az (dV 0) (az (dC (.raw (.ty "tuple"))) (aL)))))) (iW (dB (pf (ge λi j=>decide (i<=j)) (ge λi j=>decide (i<=j)) (dC (.int 1)) (dL cb (az (dV 0) (aL))) (dC (.int 9)))))) (cy (dC (.bl ak))) (dy))
 (aN (bX (iW (dB (dL pD (az (dF (fG [1,2] (dO (dV 0)) (dR) (bf (bh (jY a) (gV (dV 0) (gV (dV 1) (gV (dV 2) (bT)))))))) (aL))))) (cy (dC (.bl ak))) (dy))
 (cy (d2 (eqT ak) (dF (dL qU (az (dV 0) (aL)))) (dF (dL qV (az (dV 0) (aL)))))))
def nD(a:Ad):aj->R Slot:=bM 3 [] (bu 0 (yao a))
def yav(a:Ad):aj->R aT:=aN (bX (fS (iW (dB (dL gA (az (dV 0) (az (dC (.raw (.ty "tuple"))) (aL)))))) (dB (d2 (eqT ah) (dL cb (az (dV 0) (aL))) (dC (.int 2))))) (cy (dC (.bl ak))) (dy))
 (cy (ki (bf (bh (pO a) (gV (d2 bL (dV 0) (dC (.int 0))) (bT)))) (bf (bh (nD a) (gV (d2 bL (dV 0) (dC (.int 1))) (gV (d2 bL (dV 0) (dC (.int 0))) (gV (dV 1) (bT))))))))
def qS(a:Ad):aj->R Slot:=bM 2 [] (bu 0 (yav a))
def yau(a:Ad):aj->R aT:=l8 (bh (qS a) (gV (dV 0) (gV (dC (.str [97,98,99])) (bT))))
def wG(a:Ad):aj->R Slot:=bM 1 [] (bu 0 (yau a))
def yap(a:Ad):aj->R aT:=bX (iW (dB (bf (bh (wG a) (gV (dV 0) (bT)))))) (ma (.ref a.NoView) (λε=>ce ((dC (.str [97,32,118,105,101,119,32,105,115,32,97,32,116,117,112,108,101,32,111,102,32,97,32,119,105,100,116,104,32,97,110,100,32,97,32,114,105,115,105,110,103,32,116,117,112,108,101,32,111,102,32,49,32,116,111,32,57,32,119,105,110,100,111,119,115])) ε))) (dy)
def vZ(a:Ad):aj->R Slot:=bM 1 [] (bu 0 (yap a))
def yas(a:Ad):aj->R aT:=aN (fi 1 (zB))
 (aN (λε=>gk (gM 2 (dO (dV 0)) (l0 1 (dV 2) (d2 aW (mr 1 (dV 2) (dC (.int 0))) (dC (.int 1)))) ε))
 (pE 1))
def uc(a:Ad):aj->R Slot:=bM 1 [] (bu 2 (yas a))
def yan(a:Ad)(rc:aj->R Slot):aj->R aT:=aN (bX (iW (dB (tj 2))) (aN (kB 3 (dV 0)) (xu (.ret (.val .non)))) (dy))
 (aN (cM 4 (jM i5 (dV 0) (iq (d2 aW (d2 mw (dL cb (az (dV 0) (aL))) (dV 1)) (dC (.int 1)))) (jP)))
 (λε=>gk (gM 5 (dO (dC (.str [97,98,99]))) (aN (cM 6 (d2 aW (dV 4) (dV 5)))
 (bX (dB (d2 (ge λi j=>decide (j<i)) (mr 2 (dV 6) (dC (.int 0))) (dC (.int 0)))) (aN (l0 2 (dV 6) (d2 mw (pJ 2 (dV 6)) (dC (.int 1))))
 (aN (eJ (bh (rc) (gV (d2 aW (dV 0) (dV 5)) (gV (dV 1) (gO 2 (gO 3 (bT)))))))
 (l0 2 (dV 6) (d2 aW (pJ 2 (dV 6)) (dC (.int 1)))))) (dy))) ε)))
def nQ(a:Ad):Nat->aj->R Slot
 | 0=>bM 4 [2,3] (bu 3 EC)
 | k+1=>bM 4 [2,3] (bu 3 (yan a (nQ a k)))
def yaK(a:Ad):aj->R aT:=aN (eJ (bh (vZ a) (gV (dV 0) (bT))))
 (aN (cM 1 (d2 bL (dV 0) (dC (.int 0))))
 (aN (fi 2 (dL c8 (aL)))
 (aN (λε=>gk (gM 3 (dO (dF (dL tX (az (dF (fG [] (dO (d2 bL (dV 0) (dC (.int 1)))) (dR) (jM i5 (dV 0) (jP) (iq (d1 gh (dC (.int 1))))))) (aL))))) (eJ (sG (nQ a 12) (qO (dV 3) (qO (dV 1) (gN (lE (bh (uc a) (gV (d2 bL (dV 0) (dC (.int 1))) (bT)))) (gO 2 (bT))))))) ε))
 (pE 2))))
def tT(a:Ad):aj->R Slot:=bM 1 [] (bu 3 (yaK a))
def yaB(a:Ad):aj->R aT:=aN (bX (dB (d2 (ge λi j=>decide (i<j)) (dV 1) (dL cb (az (dV 0) (aL))))) (cy (d2 bL (dV 0) (dV 1))) (dy))
 (aN (bX (dB (d2 (eqT ak) (dV 0) (dF (dL c8 (aL))))) (cy (dC (.int 0))) (dy))
 (cy (d2 aW (d2 cG (d2 bL (dV 0) (d2 fV (dV 1) (dL cb (az (dV 0) (aL))))) (dC (.int 31))) (dV 1))))
def qN(a:Ad):aj->R Slot:=bM 2 [] (bu 0 (yaB a))
def yaD(a:Ad):aj->R aT:=aN (cM 3 (d2 fV (d2 aW (d2 aW (d2 cG (bf (bh (qN a) (gV (dV 0) (gV (dV 1) (bT))))) (dC (.int 1103515245))) (d2 cG (dC (.int 7919)) (dV 1))) (dC (.int 12345))) (dC (.int 2147483647))))
 (cy (d2 fV (d2 fV (d2 fV (d2 tf (dV 3) (dC (.int 5))) (dC (.int 2147483647))) (dC (.int 999983))) (dV 2)))
def xk(a:Ad):aj->R Slot:=bM 3 [] (bu 1 (yaD a))
def yaC(a:Ad):aj->R aT:=aN (kB 1 (dC (.int 0)))
 (l8 (bh (xk a) (gV (dV 0) (gV (kG (λxs=>g7 (cb xs)) 1) (gV (dV 2) (bT))))))
def iz(a:Ad):aj->R Slot:=bM 3 [1] (bu 0 (yaC a))
def yaE(a:Ad):aj->R aT:=cy (d2 bL (dV 2) (bf (bh (iz a) (gV (dV 0) (gO 1 (gV (dL cb (az (dV 2) (aL))) (bT)))))))
def wj(a:Ad):aj->R Slot:=bM 3 [1] (bu 0 (yaE a))
def yaF(a:Ad):aj->R aT:=aN (cM 4 (bf (bh (wj a) (gV (dV 0) (gO 1 (gV (dF (dL c8 (az (dC (.int 1)) (az (dC (.int 2)) (az (dC (.int 2)) (az (dC (.int 3)) (az (dC (.int 3)) (az (dC (.int 3)) (aL))))))))) (bT)))))))
 (aN (cM 5 (dC (.str [])))
 (aN (λε=>gk (gM 6 (dL nH (az (d2 aW (dV 2) (bf (bh (iz a) (gV (dV 0) (gO 1 (gV (d2 aW (d2 mw (dV 3) (dV 2)) (dC (.int 1))) (bT))))))) (aL))) (cM 5 (d2 aW (dV 5) (d2 bL (dC (.str [97,98,99])) (bf (bh (iz a) (gV (dV 0) (gO 1 (gV (dV 4) (bT))))))))) ε))
 (cy (dV 5))))
def oV(a:Ad):aj->R Slot:=bM 4 [1] (bu 3 (yaF a))
def yaG(a:Ad):aj->R aT:=aN (fi 1 (dL c8 (az (dL (iX (iI a)) (az (dV 0) (az (dC (.raw (.ref a.NoText))) (aL)))) (az (dL (iX (iI a)) (az (dV 0) (az (dC (.raw (.ref a.NoWidth))) (aL)))) (az (dL (iX (iI a)) (az (dV 0) (az (dC (.raw (.ref a.NoView))) (aL)))) (az (dL (iX (iI a)) (az (dV 0) (az (dC (.raw (.ref a.NoWindow))) (aL)))) (aL)))))))
 (aN (wH 1 (dF (dL c8 (az (dL (iX (iI a)) (az (dV 0) (az (dC (.raw (.ref a.Never))) (aL)))) (az (dL (iX (iI a)) (az (dV 0) (az (dC (.raw (.ref a.Full))) (aL)))) (az (dL (iX (iI a)) (az (dV 0) (az (dC (.raw (.ref a.Nothing))) (aL)))) (az (dL (iX (iI a)) (az (dV 0) (az (dC (.raw (.ref a.Unlike))) (aL)))) (aL))))))))
 (aN (wH 1 (dF (dL c8 (az (dL (iX (iI a)) (az (dV 0) (az (dC (.raw (.ref a.NoPlace))) (aL)))) (az (dL (iX (iI a)) (az (dV 0) (az (dC (.raw (.ref a.NoLetters))) (aL)))) (az (dL (iX (iI a)) (az (dV 0) (az (dC (.raw (.ref a.BadText))) (aL)))) (aL)))))))
 (aN (bX (fS (dB (d2 (eqT ah) (qP zy 1 (dC (.bl ah))) (dC (.int 1)))) (iW (dB (dL (iX (iI a)) (az (dV 0) (az (dC (.raw (.ty "ValueError"))) (aL))))))) (cy (dL jb (az (dC (.str [114,101,102,117,115,101,100])) (az (d1 gh (dC (.int 1))) (aL))))) (dy))
 (cy (dL jb (az (dC (.str [114,101,102,117,115,101,100])) (az (qP Au 1 (dC (.bl ah))) (aL))))))))
def tN(a:Ad):aj->R Slot:=bM 1 [] (bu 1 (yaG a))
def yaq(a:Ad):aj->R aT:=bX (iW (dB (bf (bh (pO a) (gV (dV 0) (bT)))))) (ma (.ref a.NoWidth) (λε=>ce ((dC (.str [97,32,119,105,100,116,104,32,105,115,32,97,32,119,104,111,108,101,32,110,117,109,98,101,114,32,102,114,111,109,32,49,32,116,111,32,52])) ε))) (dy)
def wO(a:Ad):aj->R Slot:=bM 1 [] (bu 0 (yaq a))
def yaH(a:Ad):aj->R aT:=cy (d2 aW (d2 aW (dL jZ (az (dV 0) (aL))) (dV 1)) (lC oW (dC (.str [])) (az (dF (fG [] (dO (dV 2)) (dR) (d2 aW (dC (.str [32])) (dV 0)))) (aL))))
def qy(a:Ad):aj->R Slot:=bM 3 [] (bu 0 (yaH a))
def yaM(a:Ad):aj->R aT:=aN (cM 2 (bX (dB (dL gA (az (dV 0) (az (dC (.raw (.ty "str"))) (aL))))) (lC qz (dV 0) (az (dC (.str [32])) (aL))) (dF (dL c8 (az (dC (.str [])) (aL))))))
 (aN (λε=>gk (gM 3 (dL wd (az (dC (.int 1)) (az (d2 aW (dC (.int 4)) (dC (.int 1))) (aL)))) (bX (dB (d2 (eqT ak) (d2 bL (dV 2) (dC (.int 0))) (bf (bh (qy a) (gV (dV 3) (gV (dV 1) (gV (dF (dL c8 (aL))) (bT)))))))) (cy (dL jb (az (dV 3) (az (dL qQ (az (jM i5 (dV 2) (iq (dC (.int 1))) (jP)) (aL))) (aL))))) (dy)) ε))
 (ma (.ref a.BadText) (λε=>ce ((dC (.str [97,32,118,105,101,119,32,111,114,32,97,32,115,108,105,116,32,105,115,32,119,114,105,116,116,101,110,32,97,115,32,105,116,115,32,119,105,100,116,104,44,32,105,116,115,32,115,105,103,110,44,32,97,110,100,32,105,116,115,32,119,105,110,100,111,119,115,44,32,97,32,98,108,97,110,107,32,97,104,101,97,100,32,111,102,32,101,97,99,104])) ε))))
def ku(a:Ad):aj->R Slot:=bM 2 [] (bu 2 (yaM a))
end Sh
namespace Pu
open L2
section
variable{X:Cx}
theorem wF{vs:List ai}{ls:List Tx}(h:eB vs (ls.map tS)):bd (cI ls) vs:=by
 induction ls generalizing vs with
 | nil=>cases h; exact .nil
 | cons x ls ih=>
  cases h with
  | cons _ t h=>exact .cons ⟨_,rfl⟩ (ih h)
end
def i4(ε:aj)(C:af)(y:Str)(i:Nat):Option (List (Str×PV)×List PV):=match ε[i]? with
 | some (.own (.inl D fs z xs))=>if D=C/\z=y then aa (fs,xs)else ae
 | _=>ae
theorem qR{ε:aj}{C:af}{y:Str}{i:Nat}{p:List (Str×PV)×List PV}(h:i4 ε C y i=aa p):ε[i]?=aa (.own (.inl C p.1 y p.2)):=by
 unfold i4 at h;split at h
 ·rename_i D fs z xs e;split at h
  ·rename_i hD; obtain⟨rfl,rfl⟩:=hD; cases h; exact e
  ·cases h
 ·cases h
theorem Gu{ws:List (Str×V)}{f:Str}{v:V}{r:List (Str×V)}(h:ws.lookup f=aa v):(ws++r).lookup f=aa v:=by rw[uq,h]; rfl
theorem vH{ws:List (Str×V)}{y:Str}{v:V}(h:ws.lookup y=ae):(ws++[(y,v)]).lookup y=aa v:=by rw[uq,h];simp[jd]
section
variable{K:aq}{F F':af->Prop}{S S':Nat->af->Prop}{ε:aj}{σ:St}{H H':Hp}{i:Nat}{C a b dx:af}{fs:List (Str×PV)}{ws:List (Str×V)}{y:Str}{xs ys:List PV}{vs:List V}
theorem aH.updI(r:aH K F S ε σ H)(e:ε[i]?=aa (.own (.inl C fs y xs)))(ea:σ[i]?=aa (aa (.ref a)))(ha:H a=aa (.ins C dx (ws++[(y,.ref b)])))(fr:g9 K H F fs ws)(hy:fs.lookup y=ae)(gc:a≠b)(hS:∀ c,S i c↔c=a\/c=b)(h:Reps K H F ys vs) : aH K F S (ε.set i (.own (.inl C fs y ys))) σ (L2.upd H b (.lst vs))/\a_ (U S) (U S) F F H (L2.upd H b (.lst vs)):=by
 have m_:S i b:=(hS b).mpr (.inr rfl);have hi:i<ε.length:=(cu.mp e).1;have g:a_ (U S) (U S) F F H (L2.upd H b (.lst vs)):=⟨λ_ z=>z,λc o q n=>by rw[bw (by rintro rfl; exact n ⟨i,m_⟩)]; exact q,λc o q=>by
  by_cases hc:c=b
  ·subst hc; exact⟨_,b_⟩
  ·exact⟨o,by rw[bw hc]; exact q⟩,λ_ z=>.inl z,λ_ z=>.inl z⟩
 refine⟨⟨by rw[fL]; exact r.len,λb z=>let ⟨o,q⟩:=r.ex b z; g.there b o q,λk pv q=>?_,λk po q=>?_,λk c z=>?_,r.dist⟩,g⟩
 ·have hk:i≠k:=by rintro rfl; rw[cA hi]at q; cases q
  rw[cg hk]at q;obtain⟨v,q1,q2⟩:=r.val k pv q;exact⟨v,q1,q2.grow g r.fit⟩
 ·by_cases hk:i=k
  ·subst hk;rw[cA hi]at q;cases q;exact⟨a,ea,dx,ws,b,vs,by rw[bw gc]; exact ha,fr.mono (λ_ _ z=>z.grow g r.fit),hy,b_,h.grow g r.fit,gc,hS⟩
  ·rw[cg hk]at q;obtain⟨c,q1,q2⟩:=r.own k po q;refine⟨c,q1,q2.mono (λ_ _ z=>z.grow g r.fit) (λ_ _ z=>z.grow g r.fit) λd o z w=>?_⟩;rw[bw (by rintro rfl; exact hk (r.dist i k d m_ z))]; exact w
 ·obtain⟨⟨po,q1⟩,q2,o,q3,q4⟩:=r.foot k c z;have z3:∃ o',(L2.upd H b (.lst vs)) c=aa o'/\cR o':=by
   by_cases hc:c=b
   ·subst hc; exact⟨_,b_,trivial⟩
   ·exact⟨o,by rw[bw hc]; exact q3,q4⟩
  by_cases hk:i=k
  ·subst hk;exact⟨⟨_,cA hi⟩,q2,z3⟩
  ·exact⟨⟨po,by rw[cg hk]; exact q1⟩,q2,z3⟩
theorem aH.lookI(r:aH K F S ε σ H)(e:ε[i]?=aa (.own (.inl C fs y xs))):∃ a b dx ws,σ[i]?=aa (aa (.ref a))/\H a=aa (.ins C dx ws)/\ws.lookup y=aa (.ref b)/\aV K H (λc=>F c\/c=b) (.lst xs) (.ref b)/\(∀ c,F c\/c=b->∃ o,H c=aa o) /\ (∀ {F' H'},Al (λc=>F c\/c=b) F' H H'->Al F (λc=>F' c/\c≠b) H H'):=by
 obtain⟨a,ea,dx,ws,b,vs,ha,fr,hy,hb,hx,gc,hS⟩:=r.own i _ e;have nF:¬ F b:=(r.foot i b ((hS b).mpr (.inr rfl))).2.1;refine⟨a,b,dx,_,ea,ha,vH (fr.miss hy),⟨b,vs,rfl,.inl hb,.inr rfl,Reps.mono (λ_ z=>.inl z) (λ_ _ _ z=>z) (λ_ _ z _=>z) _ _ hx⟩,λc z=>z.elim (r.ex c) λz=>by rw[z]; exact⟨_,hb⟩,λ{F' H'} al=>⟨λc z=>⟨al.fro c (.inl z),λw=>nF (w ▸ z)⟩,al.same,λc z=>?_⟩⟩;rcases al.fnew c z.1 with(w | w) | w
 ·exact .inl w
 ·exact absurd w z.2
 ·exact .inr w
end
section
variable{X:Cx}{E:XK}{pin:List Nat}{e value:aB}{f x y fn:Str}{C:af}{p pos pos':Pos}{dv de:aj->R PV}{id T:String}{r:List V->Hp->VK->Prop}{fp:List PV->Option PV}{fo:List PV->Option PO}
def qt(C:af)(y:Str)(i:Nat)(f:Str):aj->R PV:=λε=>(aO (i4 ε C y i) ε).bind λq ε=>aO (q.1.lookup f) ε
theorem Dd(i:Nat)(y:Str)(c:Cls X.K C)(n:gR X.K C f)(hN:X.N[i]?=aa x:=by rfl)(hv:c7 X.env.scope x:=by first | exact Or.inl rfl | exact Or.inr (Or.inl rfl) | exact Or.inr (Or.inr rfl))(hd:(x == ("__debug__" : Str))=ak:=by decide)(a7:(x == ("__classdict__" : Str))=ak:=by decide) (hb:f9 (.Name x p) f X.env (aD (.Name x p) X.env)=aD (.Name x p) X.env:=by rfl):DE X E (.Attribute (.Name x p) f pos) (qt C y i f):=λF S ε σ H Q rl h=>by
 unfold qt at h;cases e0:i4 ε C y i with
 | none=>rw[e0]at h; exact h.elim
 | some q=>
  rw[e0]at h;simp only[cz,R.bind_ok]at h;obtain⟨a,ea,dx,ws,b,vs,ha,fr,hy,lc,hx,gc,hS⟩:=rl.own i _ (qR e0);cases e1:q.1.lookup f with
  | none=>rw[e1]at h; exact h.elim
  | some pv=>rw[e1]at h;obtain⟨v,l,rv⟩:=fr.look e1;exact bC (pC (dP hN hv hd a7) hb) ⟨.ref a,ea,a,C,dx,_,v,rfl,ha,c,n,Gu l,h F S H rl (a_.refl ..) v rv⟩
def jQ{α:Type}(f:List PV->Option α)(C:af)(y:Str)(i:Nat):aj->R α:=λε=>(aO (i4 ε C y i) ε).bind λq ε=>aO (f [.lst q.2]) ε
theorem Na{F:af->Prop}{S:Nat->af->Prop}{ε:aj}{σ:St}{H:Hp}{Q:VK}{i:Nat}(hp:PL X.K r fp)(rl:aH X.K F S ε σ H)(h:Ok X.K E σ F S H (jQ (λxs=>g7 (fp xs)) C y i ε) (λpv _ F' _ H'=>∀ v,aV X.K H' F' pv v->Q v H')) : ∃ a b dx ws,σ[i]?=aa (aa (.ref a))/\H a=aa (.ins C dx ws)/\ws.lookup y=aa (.ref b)/\r [.ref b] H Q:=by
 unfold jQ at h;cases e0:i4 ε C y i with
 | none=>rw[e0]at h; exact h.elim
 | some q=>
  rw[e0]at h;simp only[cz,R.bind_ok]at h;obtain⟨a,b,dx,ws,ea,ha,hl,ra,_,eT⟩:=rl.lookI (qR e0);refine⟨a,b,dx,ws,ea,ha,hl,?_⟩;cases e1:g7 (fp [.lst q.2])with
  | none=>rw[e1]at h; exact h.elim
  | some pv=>rw[e1]at h;obtain⟨e2,e3⟩:=yA e1;exact hp _ H [.lst q.2] [.ref b] Q pv (.one ra) e2 λw F' H' al rw'=>h _ S H' (rl.al (eT al)) (eT al).grow w (aV.imm pv e3 rw')
theorem E7(i:Nat)(c:Cls X.K C)(n:gR X.K C y)(hc:eu X (.builtin id) r)(hp:PL X.K r fp)(hm:X.mg fn=ae)(hv:ef fn=aa (.builtin id))(hN:X.N[i]?=aa x:=by rfl)(gJ:c7 X.env.scope x:=by first | exact Or.inl rfl | exact Or.inr (Or.inl rfl) | exact Or.inr (Or.inr rfl))(hd:(x == ("__debug__" : Str))=ak:=by decide) (a7:(x == ("__classdict__" : Str))=ak:=by decide) (hg:Gl X fn:=by rfl) (hn:fn≠"__name__":=by decide) (eC:(fn == ("__debug__" : Str))=ak:=by decide) {yp ap:Pos}(hb:f9 (.Name x yp) y X.env (aD (.Name x yp) X.env)=aD (.Name x yp) X.env:=by rfl)(he:aC [.Attribute (.Name x yp) y ap] X.env=(ak,aD (.Attribute (.Name x yp) y ap) X.env)::aC [] X.env:=by rfl) (cE:(bK pos (aC [] X.env)).any (·.1)=ak:=by rfl):DE X E (.Call (.Name fn p) [.Attribute (.Name x yp) y ap] [] pos) (jQ (λxs=>g7 (fp xs)) C y i):=λF S ε σ H Q rl q=>by obtain⟨a,b,dx,ws,ea,ha,hl,hr⟩:=Na hp rl q;exact bC (pN hc hg hm hv (gP (pC (dP hN gJ hd a7) hb) i7 he) hn eC he cE) ⟨.ref a,ea,a,C,dx,ws,.ref b,rfl,ha,c,n,hl,hr⟩
end
theorem Ee{f:Str}{v:V}:∀ {ws:List (Str×V)},ws.lookup f=ae->eA f v ws=ws++[(f,v)]
 | [],_=>rfl
 | (g,x)::r,h=>by
  by_cases q:g=f
  ·subst q; simp[jd]at h
  ·have h2:r.lookup f=ae:=by
    have:(f == g)=ak:=by simpa using λe=>q e.symm
    simpa[jd,this]using h
   rw[eA,if_neg q,Ee h2]; rfl
section
variable{K:aq}{F F1:af->Prop}{S S1:Nat->af->Prop}{ε ε1:aj}{σ:St}{H H1:Hp}{i:Nat}{C a b dx:af}{po:PO}{fs:List (Str×PV)}{y:Str}{xs ys:List PV}{vs:List V}
theorem aH.away(r:aH K F S ε σ H)(e:ε[i]?=aa (.own po))(r1:aH K F1 S1 ε1 σ H1)(g1:a_ (U λj b=>S j b/\j≠i) (U S1) F F1 H H1) : ∃ S2,aH K F1 S2 (ε1.set i (.own po)) σ H1/\a_ (U S) (U S2) F F1 H H1/\∀ c o,S i c->H c=aa o->H1 c=aa o:=by
 obtain⟨a,ea,ow⟩:=r.own i po e;have nU:∀ c,S i c->¬ U (λj b=>S j b/\j≠i) c:=λc z ⟨j,w,hj⟩=>hj (r.dist j i c w z);have ke:∀ c o,S i c->H c=aa o->H1 c=aa o:=λc o z q=>g1.keep c o q (nU c z);have fit:kl (U λj b=>S j b/\j≠i) F H:=λc ⟨j,z,_⟩=>(r.foot j c z).2;have hi:i<ε1.length:=by rw[r1.len]; exact(cu.mp ea).1
 have ow1:dX K H1 F1 po a (S i):=ow.mono (λ_ _ z=>z.grow g1 fit) (λ_ _ z=>z.grow g1 fit) ke;have lo:pL F1 S1 H1 (S i):=λc z=>by
  obtain⟨_,q1,o,q2,q3⟩:=r.foot i c z;refine⟨λw=>?_,λw=>?_,o,ke c o z q2,q3⟩
  ·rcases g1.fnew c w with w | w | w
   ·exact q1 w
   ·rw[q2]at w; cases w
   ·exact nU c z w
  ·rcases g1.onew c w with w | w
   ·exact nU c z w
   ·rw[q2]at w; cases w
 have r2:=r1.setOwn hi ow1 lo;have es:σ.set i (aa (.ref a))=σ:=by
  apply ka ; intro j;by_cases hj:i=j
  ·subst hj; rw[cA (cu.mp ea).1,ea]
  ·rw[cg hj]
 rw[es]at r2;refine⟨_,r2,⟨g1.fro,λc o q n=>g1.keep c o q λ⟨j,w,_⟩=>n ⟨j,w⟩,g1.there,λc w=>(g1.fnew c w).imp id λw=>w.imp id λ⟨j,w,_⟩=>⟨j,w⟩,λc ⟨j,w⟩=>?_⟩,ke⟩;rcases w with⟨w,_⟩ | ⟨_,w⟩
 ·exact(g1.onew c ⟨j,w⟩).imp (λ⟨j,w,_⟩=>⟨j,w⟩) id
 ·exact .inl ⟨i,w⟩
theorem aH.giveI{ws:List (Str×V)}{Sb:af->Prop}(r:aH K F S ε σ H)(e:ε[i]?=aa (.own (.ins C fs)))(ea:σ[i]?=aa (aa (.ref a)))(ha:H a=aa (.ins C dx ws))(fr:g9 K H F fs ws)(hS:∀ c,S i c↔c=a)(hy:fs.lookup y=ae)(ow:dX K H F (.lst xs) b Sb) (lo:pL F S H Sb) : aH K F (λj c=>S j c\/(j=i/\Sb c)) (ε.set i (.own (.inl C fs y xs))) σ (L2.upd H a (.ins C dx (eA y (.ref b) ws)))/\a_ (U S) (U S) F F H (L2.upd H a (.ins C dx (eA y (.ref b) ws))):=by
 obtain⟨⟨vs,hb,hx⟩,hSb⟩:=ow;have haS:S i a:=(hS a).mpr rfl;have hi:i<ε.length:=(cu.mp e).1;have hbL:=lo b ((hSb b).mpr rfl);have gc:a≠b:=by rintro rfl; exact hbL.2.1 ⟨i,haS⟩
 have g:a_ (U S) (U S) F F H (L2.upd H a (.ins C dx (eA y (.ref b) ws))):=⟨λ_ z=>z,λc o q n=>by rw[bw (by rintro rfl; exact n ⟨i,haS⟩)]; exact q,λc o q=>by
  by_cases hc:c=a
  ·subst hc; exact⟨_,b_⟩
  ·exact⟨o,by rw[bw hc]; exact q⟩,λ_ z=>.inl z,λ_ z=>.inl z⟩
 refine⟨⟨by rw[fL]; exact r.len,λb z=>let ⟨o,q⟩:=r.ex b z; g.there b o q,λk pv q=>?_,λk po q=>?_,λk c z=>?_,λj k c z1 z2=>?_⟩,g⟩
 ·have hk:i≠k:=by rintro rfl; rw[cA hi]at q; cases q
  rw[cg hk]at q;obtain⟨v,q1,q2⟩:=r.val k pv q;exact⟨v,q1,q2.grow g r.fit⟩
 ·by_cases hk:i=k
  ·subst hk;rw[cA hi]at q;cases q;refine⟨a,ea,dx,ws,b,vs,?_,fr.mono (λ_ _ z=>z.grow g r.fit),hy,by rw[bw gc.symm]; exact hb,hx.grow g r.fit,gc,λc=>?_⟩
   ·rw[b_,Ee (fr.miss hy)]
   ·show(S i c\/i=i/\Sb c)↔_;rw[hS,hSb]; simp
  ·rw[cg hk]at q;obtain⟨c,q1,q2⟩:=r.own k po q;have:(λc=>S k c\/(k=i/\Sb c))=S k:=by funext c; exact propext ⟨λz=>z.elim id λz=>absurd z.1.symm hk,.inl⟩
   refine⟨c,q1,?_⟩;rw[this];refine q2.mono (λ_ _ z=>z.grow g r.fit) (λ_ _ z=>z.grow g r.fit) λd o z w=>?_;rw[bw (by rintro rfl; exact hk (r.dist i k d haS z))]; exact w
 ·have up:∀ {c:af} {o:HO},H c=aa o->cR o->∃ o',(L2.upd H a (.ins C dx (eA y (.ref b) ws))) c=aa o'/\cR o':=λ{c o} h1 h2=>by
   by_cases hc:c=a
   ·subst hc; exact⟨_,b_,trivial⟩
   ·exact⟨o,by rw[bw hc]; exact h1,h2⟩
  have at_:∀ {k:Nat} {po:PO},ε[k]?=aa (.own po)->∃ po',(ε.set i (.own (.inl C fs y xs)))[k]?=aa (.own po'):=λ{k po} q=>by
   by_cases hk:i=k
   ·subst hk; exact⟨_,cA hi⟩
   ·exact⟨po,by rw[cg hk]; exact q⟩
  rcases z with z | ⟨rfl,z⟩
  ·obtain⟨⟨po,q1⟩,q2,o,q3,q4⟩:=r.foot k c z;exact⟨at_ q1,q2,up q3 q4⟩
  ·obtain⟨q2,_,o,q3,q4⟩:=lo c z;exact⟨at_ e,q2,up q3 q4⟩
 ·rcases z1 with z1 | ⟨rfl,z1⟩
  ·rcases z2 with z2 | ⟨rfl,z2⟩
   ·exact r.dist j k c z1 z2
   ·exact absurd ⟨j,z1⟩ (lo c z2).2.1
  ·rcases z2 with z2 | ⟨rfl,z2⟩
   ·exact absurd ⟨k,z2⟩ (lo c z1).2.1
   ·rfl
theorem aH.lent{ws:List (Str×V)}{O':af->Prop}{S':Nat->af->Prop}{ε':aj}{σ':St}(r:aH K F S ε σ H)(e:ε[i]?=aa (.own (.inl C fs y xs)))(ea:σ[i]?=aa (aa (.ref a)))(ha:H a=aa (.ins C dx (ws++[(y,.ref b)])))(fr:g9 K H F fs ws)(hy:fs.lookup y=ae)(gc:a≠b)(hS:∀ c,S i c↔c=a\/c=b)(g:a_ (λc=>c=b) O' F F1 H H1) (r':aH K F1 S' ε' σ' H1) (e':ε'[0]?=aa (.own (.lst ys))) (eb:σ'[0]?=aa (aa (.ref b))) : aH K F1 S (ε.set i (.own (.inl C fs y ys))) σ H1/\a_ (U S) (U S) F F1 H H1:=by
 have m_:S i b:=(hS b).mpr (.inr rfl);have hi:i<ε.length:=(cu.mp e).1;have fit:kl (λc=>c=b) F H:=λc z=>by subst z; exact(r.foot i c m_).2
 obtain⟨b',eb',⟨vs,hb,hx⟩,hSb⟩:=r'.own 0 _ e';rw[eb]at eb';cases eb';have gS:a_ (U S) (U S) F F1 H H1:=⟨g.fro,λc o q n=>g.keep c o q λz=>n ⟨i,z ▸ m_⟩,g.there,λc z=>(g.fnew c z).imp id λw=>w.imp id λ(w:c=b)=>⟨i,by rw[w]; exact m_⟩,λc z=>.inl z⟩
 refine⟨⟨by rw[fL]; exact r.len,r'.ex,λk pv q=>?_,λk po q=>?_,λk c z=>?_,r.dist⟩,gS⟩
 ·have hk:i≠k:=by rintro rfl; rw[cA hi]at q; cases q
  rw[cg hk]at q;obtain⟨v,q1,q2⟩:=r.val k pv q;exact⟨v,q1,q2.grow g fit⟩
 ·by_cases hk:i=k
  ·subst hk;rw[cA hi]at q;cases q;exact⟨a,ea,dx,ws,b,vs,g.keep a _ ha gc,fr.mono (λ_ _ z=>z.grow g fit),hy,hb,hx,gc,hS⟩
  ·rw[cg hk]at q;obtain⟨c,q1,q2⟩:=r.own k po q;exact⟨c,q1,q2.mono (λ_ _ z=>z.grow g fit) (λ_ _ z=>z.grow g fit) λd o z w=>g.keep d o w (by rintro rfl; exact hk (r.dist i k d m_ z))⟩
 ·obtain⟨⟨po,q1⟩,q2,o,q3,q4⟩:=r.foot k c z;have z1:∃ po',(ε.set i (.own (.inl C fs y ys)))[k]?=aa (.own po'):=by
   by_cases hk:i=k
   ·subst hk; exact⟨_,cA hi⟩
   ·exact⟨po,by rw[cg hk]; exact q1⟩
  by_cases hc:c=b
  ·subst hc;have:=r'.foot 0 c ((hSb c).mpr rfl);exact⟨z1,this.2⟩
  ·refine⟨z1,λw=>?_,o,g.keep c o q3 hc,q4⟩;rcases g.fnew c w with w | w | w
   ·exact q2 w
   ·rw[q3]at w; cases w
   ·exact hc w
theorem aH.aside{O O':af->Prop}(r:aH K F S ε σ H)(g:a_ O O' F F1 H H1)(hO:∀ c,O c->H c=ae)(ex:∀ c,F1 c->∃ o,H1 c=aa o):aH K F1 S ε σ H1/\a_ (U S) (U S) F F1 H H1:=by
 have no:∀ c o,H c=aa o->¬ O c:=λc o q z=>by rw[hO c z]at q; cases q
 have al:Al F F1 H H1:=⟨g.fro,λc o q=>g.keep c o q (no c o q),λc z=>by
  rcases g.fnew c z with w | w | w
  ·exact .inl w
  ·exact .inr ⟨w,ex c z⟩
  ·exact .inr ⟨hO c w,ex c z⟩⟩
 exact⟨r.al al,al.grow⟩
end
section
variable{X:Cx}{E:XK}{pin:List Nat}{e value:aB}{f x y fn:Str}{C:af}{p pos pos':Pos}{dv de:aj->R PV}{id T:String}{r:List V->Hp->VK->Prop}{fp:List PV->Option PV}{fo:List PV->Option PO}
theorem Pp{F:af->Prop}{S:Nat->af->Prop}{ε:aj}{σ:St}{H:Hp}{Q:VK}{i:Nat}(hp:kj X.K r fo)(rl:aH X.K F S ε σ H)(h:Ok X.K E σ F S H (jQ (λxs=>nN (fo xs)) C y i ε) (λpo _ F' S' H'=>∀ a Sa,dX X.K H' F' po a Sa->(∀ b,Sa b->H b=ae/\¬ F' b/\¬ U S' b/\∃ o,H' b=aa o/\cR o)->Q (.ref a) H')) : ∃ a b dx ws,σ[i]?=aa (aa (.ref a))/\H a=aa (.ins C dx ws)/\ws.lookup y=aa (.ref b)/\r [.ref b] H Q:=by
 unfold jQ at h;cases e0:i4 ε C y i with
 | none=>rw[e0]at h; exact h.elim
 | some q=>
  rw[e0]at h;simp only[cz,R.bind_ok]at h;obtain⟨a,b,dx,ws,ea,ha,hl,ra,u5,eT⟩:=rl.lookI (qR e0);refine⟨a,b,dx,ws,ea,ha,hl,?_⟩;cases e1:fo [.lst q.2]with
  | none=>rw[e1]at h; exact h.elim
  | some po=>
   rw[e1]at h;cases po with
   | lst ys=>
    have h:Ok X.K E σ F S H (aO (if lB ys then aa (PO.lst ys)else ae) ε) _:=h;split at h
    ·rename_i hi;refine hp _ H [.lst q.2] [.ref b] Q _ u5 (.one ra) e1 λc F' H' Sa al ow fr=>h _ S H' (rl.al (eT al)) (eT al).grow c Sa ?_ λb z=>?_
     ·obtain⟨⟨vs,o1,o2⟩,o3⟩:=ow;exact⟨⟨vs,o1,Reps.imm ys hi o2⟩,o3⟩
     ·obtain⟨z1,z2,o,z3,z4⟩:=fr b z;refine⟨z1,λw=>z2 w.1,λ⟨j,w⟩=>?_,o,z3,z4⟩;obtain⟨_,_,o',w1,_⟩:=rl.foot j b w;rw[z1]at w1; cases w1
    ·exact h.elim
   | _=>exact h.elim
theorem OO(i:Nat)(c:Cls X.K C)(n:gR X.K C y)(hc:eu X (.type T) r)(hp:kj X.K r fo)(hm:X.mg fn=ae)(hv:ef fn=aa (.type T))(hN:X.N[i]?=aa x:=by rfl)(gJ:c7 X.env.scope x:=by first | exact Or.inl rfl | exact Or.inr (Or.inl rfl) | exact Or.inr (Or.inr rfl))(hd:(x == ("__debug__" : Str))=ak:=by decide) (a7:(x == ("__classdict__" : Str))=ak:=by decide) (hg:Gl X fn:=by rfl) (hn:fn≠"__name__":=by decide) (eC:(fn == ("__debug__" : Str))=ak:=by decide) {yp ap:Pos}(hb:f9 (.Name x yp) y X.env (aD (.Name x yp) X.env)=aD (.Name x yp) X.env:=by rfl)(he:aC [.Attribute (.Name x yp) y ap] X.env=(ak,aD (.Attribute (.Name x yp) y ap) X.env)::aC [] X.env:=by rfl) (cE:(bK pos (aC [] X.env)).any (·.1)=ak:=by rfl):DN X E (.Call (.Name fn p) [.Attribute (.Name x yp) y ap] [] pos) (jQ (λxs=>nN (fo xs)) C y i):=λF S ε σ H Q rl q=>by obtain⟨a,b,dx,ws,ea,ha,hl,hr⟩:=Pp hp rl q;exact bC (wW hc hg hm hv (gP (pC (dP hN gJ hd a7) hb) i7 he) hn eC he cE) ⟨.ref a,ea,a,C,dx,ws,.ref b,rfl,ha,c,n,hl,hr⟩
def xt(C:af)(y:Str)(i:Nat)(de:aj->R PV):aj->R aT:=λε=>(aO (i4 ε C y i) ε).bind λq ε=>match de (ε.set i .none)with
 | .ok v ε1=>if q.2.length<bi then .ok .next (ε1.set i (.own (.inl C q.1 y (q.2++[v]))))else .no
 | _=>.no
theorem MJ(i:Nat)(c:Cls X.K C)(n:gR X.K C y)(he:DE X E e de){x:Str}{p ap apos cpos:Pos}(hN:X.N[i]?=aa x:=by rfl)(hv:c7 X.env.scope x:=by first | exact Or.inl rfl | exact Or.inr (Or.inl rfl) | exact Or.inr (Or.inr rfl))(hd:(x == ("__debug__" : Str))=ak:=by decide)(a7:(x == ("__classdict__" : Str))=ak:=by decide) (hb:f9 (.Name x p) y X.env (aD (.Name x p) X.env)=aD (.Name x p) X.env:=by rfl)(h1:f9 (.Attribute (.Name x p) y ap) "append" X.env (aD (.Attribute (.Name x p) y ap) X.env)=aD (.Attribute (.Name x p) y ap) X.env:=by rfl)(h2:((bK cpos (aC [e] X.env)).all (λx=>!x.1) && (j6 cpos (j7 [] X.env)).all (λx=>x.1.isSome) && decide ([e].length+([]:List iN).length+(if([]:List iN).isEmpty then 0 else 1)<30))=ah:=by rfl)(h3:(apos.endLine == cpos.line)=ah:=by rfl) (h4:aC [e] X.env=(ak,aD e X.env)::aC [] X.env:=by rfl) (h5:(bK cpos (aC [] X.env)).any (·.1)=ak:=by rfl)(hs:j4 (.Call (.Attribute (.Attribute (.Name x p) y ap) "append" apos) [e] [] cpos) ae pos.line X.env=pure ak:=by rfl) : DS X E pin (.Expr (.Call (.Attribute (.Attribute (.Name x p) y ap) "append" apos) [e] [] cpos) pos) (xt C y i de):=λF S ε σ H D rl h=>by
 unfold xt at h;cases e0:i4 ε C y i with
 | none=>rw[e0]at h; exact h.elim
 | some q=>
  rw[e0]at h;simp only[cz,R.bind_ok]at h;have eq0:=qR e0;obtain⟨a,ea,dx,ws,b,vs,ha,fr,hy,lc,hx,gc,hS⟩:=rl.own i _ eq0;refine iw (wB (rg uy PySem.F.slot_list_append PySem.F.type_list_append z6 (pC (dP hN hv hd a7) hb) (gP bD i7 h4) h1 h2 h3 h4 h5) hs) ⟨.ref a,ea,a,C,dx,_,.ref b,rfl,ha,c,n,vH (fr.miss hy),.inl ⟨rfl,_,bR.of lc⟩,?_⟩;refine he F _ _ σ H _ (rl.drop i) ?_;cases e1:de (ε.set i .none)with
  | no=>rw[e1]at h; exact h.elim
  | er c' ε'=>rw[e1]at h; exact h.elim
  | ok v ε1=>
   rw[e1]at h;dsimp only at h;split at h
   ·rename_i hl;intro F1 S1 H1 r1 g1 v' rv;obtain⟨S2,r2,g2,ke⟩:=rl.away eq0 r1 g1;have hi:i<ε1.length:=by rw[r1.len]; exact(cu.mp ea).1
    obtain⟨a2,ea2,dx2,ws2,b2,vs2,sA,fr2,hy2,hb2,lV,hab2,oz⟩:=r2.own i _ (cA hi);rw[ea]at ea2;cases ea2;have kh:=ke a _ ((hS a).mpr (.inl rfl)) ha;have fe:=ke b _ ((hS b).mpr (.inr rfl)) lc;rw[kh]at sA;injection sA with sA;injection sA with _ edx ews;obtain⟨ews1,ews2⟩:=List.append_inj' ews rfl;injection ews2 with ews2 _;injection ews2 with _ ews2;injection ews2 with ews2;subst ews1 ews2 edx;rw[fe]at hb2;cases hb2;obtain⟨r3,g3⟩:=r2.updI (cA hi) ea kh fr2 hy2 hab2 oz (lV.app (.one rv));rw[List.set_set]at r3;exact⟨b,vs,v',rfl,rfl,fe,by rw[hx.len]; exact gU hl kA,h F1 S2 σ _ r3 (g2.trans g3) (im.refl _ _)⟩
   ·exact h.elim
def vL(C:af)(y:Str)(i:Nat):aj->R PV:=λε=>(aO (i4 ε C y i) ε).bind λq ε=>(aO q.2.getLast? ε).bind λv ε=>.ok v (ε.set i (.own (.inl C q.1 y q.2.dropLast)))
theorem Reps.dropL{K:aq}{H:Hp}{F:af->Prop}:∀ {xs:List PV} {vs:List V},Reps K H F xs vs->Reps K H F xs.dropLast vs.dropLast
 | [],_,h=>by cases h; exact rfl
 | [x],vs,h=>by
  obtain⟨v,r,rfl,h1,h2⟩:=h;cases h2;exact rfl
 | x::x2::xs,vs,h=>by obtain⟨v,r,rfl,h1,h2⟩:=h;obtain⟨v2,r2,rfl,h3,h4⟩:=h2;exact⟨v,(v2::r2).dropLast,rfl,h1,Reps.dropL (xs:=x2::xs) ⟨v2,r2,rfl,h3,h4⟩⟩
theorem IP(i:Nat)(c:Cls X.K C)(n:gR X.K C y){x:Str}{p ap apos cpos:Pos}(hN:X.N[i]?=aa x:=by rfl)(hv:c7 X.env.scope x:=by first | exact Or.inl rfl | exact Or.inr (Or.inl rfl) | exact Or.inr (Or.inr rfl))(hd:(x == ("__debug__" : Str))=ak:=by decide)(a7:(x == ("__classdict__" : Str))=ak:=by decide) (hb:f9 (.Name x p) y X.env (aD (.Name x p) X.env)=aD (.Name x p) X.env:=by rfl)(h1:f9 (.Attribute (.Name x p) y ap) "pop" X.env (aD (.Attribute (.Name x p) y ap) X.env)=aD (.Attribute (.Name x p) y ap) X.env:=by rfl) (h3:(apos.endLine == cpos.line)=ah:=by rfl) : DE X E (.Call (.Attribute (.Attribute (.Name x p) y ap) "pop" apos) [] [] cpos) (vL C y i):=λF S ε σ H Q rl h=>by
 unfold vL at h;cases e0:i4 ε C y i with
 | none=>rw[e0]at h; exact h.elim
 | some q=>
  rw[e0]at h;simp only[cz,R.bind_ok]at h;have eq0:=qR e0;obtain⟨a,ea,dx,ws,b,vs,ha,fr,hy,lc,hx,gc,hS⟩:=rl.own i _ eq0;cases e1:q.2.getLast? with
  | none=>rw[e1]at h; exact h.elim
  | some v=>
   rw[e1]at h;obtain⟨r3,g3⟩:=rl.updI eq0 ea ha fr hy gc hS hx.dropL;have e2:q.2[q.2.length-1]?=aa v:=by rw[← List.getLast?_eq_getElem?]; exact e1
   obtain⟨u,hu,ru⟩:=hx.get e2;refine bC (Dx uy PySem.F.slot_list_pop PySem.F.type_list_pop LI (pC (dP hN hv hd a7) hb) h1 h3) ⟨.ref a,ea,a,C,dx,_,.ref b,rfl,ha,c,n,vH (fr.miss hy),.inl ⟨rfl,_,bR.of lc⟩,b,vs,u,rfl,rfl,lc,by rw[hx.len]; exact hu,?_⟩;exact h F S _ r3 g3 u (ru.grow g3 rl.fit)
def vS(C:af)(i:Nat)(y:Str)(dn:aj->R PO):aj->R aT:=λε=>(dn ε).bind λpo ε1=>match po with
 | .lst xs=>(aO (o9 ε1 C i) ε1).bind λfs ε1=>if fs.length<1000/\fs.lookup y=ae then .ok .next (ε1.set i (.own (.inl C fs y xs)))else .no
 | _=>.no
theorem Ow(i:Nat)(c:Cls X.K C)(n:gR X.K C y){dn:aj->R PO}(uK:DN X E value dn)(hN:X.N[i]?=aa x:=by rfl)(hv:c7 X.env.scope x:=by first | exact Or.inl rfl | exact Or.inr (Or.inl rfl) | exact Or.inr (Or.inr rfl))(hd:(x == ("__debug__" : Str))=ak:=by decide)(a7:(x == ("__classdict__" : Str))=ak:=by decide) (hs:j4 value (aa (.Attribute (.Name x p) y pos')) pos.line X.env=pure ak:=by rfl):DS X E pin (.Assign [.Attribute (.Name x p) y pos'] value pos) (vS C i y dn):=λF S ε σ H D rl h=>by
 refine iw (CZ (dP hN hv hd a7) bD hs) (uK F S ε σ H _ rl ?_);unfold vS at h;cases e0:dn ε with
 | no=>rw[e0]at h; exact h.elim
 | er c ε'=>rw[e0]at h; exact λx F' S' H' r' g'=>h x F' S' σ H' r' g' (im.refl _ _)
 | ok po ε1=>
  rw[e0]at h;simp only[R.bind_ok]at h;intro F1 S1 H1 r1 g1 b Sb ow fr;cases po with
  | lst xs=>
   dsimp only at h;cases e2:o9 ε1 C i with
   | none=>rw[e2]at h; exact h.elim
   | some fs=>
    rw[e2]at h;simp only[cz,R.bind_ok]at h;obtain⟨a,ea,⟨dx,ws,ha,hf⟩,hS⟩:=r1.own i _ (vy e2);split at h
    ·rename_i hl;obtain⟨r2,g2⟩:=r1.giveI (vy e2) ea ha hf hS hl.2 ow λb z=>(fr b z).2;refine⟨.ref a,ea,a,C,dx,ws,rfl,ha,c,n,by rw[hf.len]; exact hl.1,h F1 _ σ _ r2 ?_ (im.refl _ _)⟩;have g3:=g1.trans g2;refine⟨g3.fro,g3.keep,g3.there,g3.fnew,λb ⟨j,z⟩=>?_⟩;rcases z with z | ⟨_,z⟩
     ·exact g1.onew b ⟨j,z⟩
     ·exact .inr (fr b z).1
    ·exact h.elim
  | _=>exact h.elim
end
section
variable{K:aq}{F:af->Prop}{S:Nat->af->Prop}{ε:aj}{σ σ':St}{H:Hp}{i:Nat}{C:af}{m:Str}
def jn(ε:aj)(C:af)(m:Str)(i:Nat):Bool:=match ε[i]? with
 | some (.own (.ins D fs))=>decide (D=C) && (fs.lookup m).isNone
 | some (.own (.inl D fs y _))=>decide (D=C) && (fs.lookup m).isNone && decide (m≠y)
 | _=>ak
theorem AW(r:aH K F S ε σ H)(h:jn ε C m i=ah):∃ a dx ws,σ[i]?=aa (aa (.ref a))/\H a=aa (.ins C dx ws)/\ws.lookup m=ae:=by
 unfold jn at h;split at h
 ·rename_i D fs e;simp only[fc,decide_eq_true_eq,Option.isNone_iff_eq_none]at h;obtain⟨rfl,hl⟩:=h;obtain⟨a,ea,⟨dx,ws,ha,hf⟩,_⟩:=r.own i _ e;exact⟨a,dx,ws,ea,ha,hf.miss hl⟩
 ·rename_i D fs y xs e;simp only[fc,decide_eq_true_eq,Option.isNone_iff_eq_none]at h;obtain⟨⟨rfl,hl⟩,hy⟩:=h;obtain⟨a,ea,dx,ws,b,vs,ha,hf,_⟩:=r.own i _ e;refine⟨a,dx,_,ea,ha,?_⟩;have:(m == y)=ak:=by simpa using hy
  rw[uq,hf.miss hl];simp[jd,this]
 ·cases h
theorem eU.bare:∀ {as:List bA} {vs:List V},bF as=[]->eU K σ F H as vs->eU K σ' F H as vs
 | [],_,_,h=>h
 | .inl _::_,_,ho,⟨v,r,e,h1,h2⟩=>⟨v,r,e,h1,eU.bare ho h2⟩
 | .inr _::_,_,ho,_=>by cases ho
theorem aH.only{po:PO}{a:af}{Sa:af->Prop}(ex:∀ b,F b->∃ o,H b=aa o)(ow:dX K H F po a Sa)(lo:∀ b,Sa b->¬ F b/\∃ o,H b=aa o/\cR o):aH K F (λj b=>j=0/\Sa b) [.own po] [aa (.ref a)] H:=by
 refine⟨rfl,ex,λj pv q=>?_,λj p q=>?_,λj b z=>?_,λj k b z1 z2=>z1.1.trans z2.1.symm⟩
 ·match j,q with
  | 0,q=>cases q
 ·match j,q with
  | 0,q=>
   cases q;refine⟨a,rfl,?_⟩;have:(λb=>0=0/\Sa b)=Sa:=by funext b; exact propext ⟨λz=>z.2,λz=>⟨rfl,z⟩⟩
   rw[this]; exact ow
 ·obtain⟨rfl,z⟩:=z;exact⟨⟨po,rfl⟩,lo b z⟩
end
section
variable{CX:dJ}{X:Cx}{E:XK}{pin:List Nat}{e:aB}{es:List aB}{dg:aj->R (List bA)}{p pos apos:Pos}{x m:Str}{C:af}{k:Nat}{ps:List Str}{g gi gm:aj->R Slot}
def iZ(C:af)(m:Str)(i:Nat)(g:aj->R Slot)(dg:aj->R (List bA)):aj->R Slot:=λε=>if jn ε C m i then(dg ε).bind λas ε1=>kz ε1 (.inr i::as) g else .no
theorem vI{pl:Sem Bool}(i:Nat)(c:Cls X.K C)(mt:nz CX X.prog X.w X.K X.mg X.base C m k ps (br X.K g))(hr:bZ k X.A)(hx:i9 CX X E)(ha:DG X E (e::es) dg)(hN:X.N[i]?=aa x:=by rfl) (hv:c7 X.env.scope x:=by first | exact Or.inl rfl | exact Or.inr (Or.inl rfl) | exact Or.inr (Or.inr rfl)) (hd:(x == ("__debug__" : Str))=ak:=by decide) (a7:(x == ("__classdict__" : Str))=ak:=by decide)(h1:aC (e::es) X.env=(ak,aD e X.env)::aC es X.env:=by rfl) (h2:(bK pos (aC es X.env)).any (·.1)=ak:=by rfl)(ht:aD (.Call (.Attribute (.Name x p) m apos) (e::es) [] pos) X.env=(do
   let ov ← aD (.Name x p) X.env
   rG apos.atName
   let (f,first) ← nX [ov] (rK ov m pl)
   callWith pos f first (bK pos (aC (e::es) X.env)) (j6 pos (j7 [] X.env))):=by rfl) :
  DR X E (.Call (.Attribute (.Name x p) m apos) (e::es) [] pos) (iZ C m i g dg):=λF S ε σ H Q rl h=>by
 unfold iZ at h;by_cases mo:jn ε C m i=ah
 ·rw[if_pos mo]at h;obtain⟨f,fd,hm,Fn,hb⟩:=mt.ex;obtain⟨a,dx,ws,ea,hH,hl⟩:=AW rl mo;refine bC (KF (pl:=pl) (dP hN hv hd a7) c hm Fn hr hb .nil hx fZ h1 h2 ht) ⟨.ref a,ea,a,dx,ws,rfl,hH,hl,ha F S ε σ H _ rl ((Ok.bind h).imp λas ε1 F1 S1 H1 r1 g1 q vs av=>?_)⟩;rw[gD];have av2:eU X.K σ F1 H1 (.inr i::as) (.ref a::vs):=⟨.ref a,vs,rfl,ea,av⟩
  exact wN (wf r1 av2 q) λv H' ⟨sl,ε',F',S',Sr,r',g',rs,fr,hq⟩=>hq v Sr rs λb z=>⟨jO g1 (fr b z).1,(fr b z).2⟩
 ·rw[if_neg mo]at h; exact h.elim
def dI(C:af)(m:Str)(i:Nat)(g:aj->R Slot):aj->R Slot:=λε=>if jn ε C m i then kz ε [.inr i] g else .no
theorem nV{pl:Sem Bool}(i:Nat)(c:Cls X.K C)(mt:nz CX X.prog X.w X.K X.mg X.base C m k ps (br X.K g))(hr:bZ k X.A)(hx:i9 CX X E)(hN:X.N[i]?=aa x:=by rfl) (hv:c7 X.env.scope x:=by first | exact Or.inl rfl | exact Or.inr (Or.inl rfl) | exact Or.inr (Or.inr rfl)) (hd:(x == ("__debug__" : Str))=ak:=by decide) (a7:(x == ("__classdict__" : Str))=ak:=by decide)(ht:aD (.Call (.Attribute (.Name x p) m apos) [] [] pos) X.env=(do
   let ov ← aD (.Name x p) X.env
   rG apos.atName
   let (f,first) ← nX [ov] (rK ov m pl)
   callWith pos f first (bK pos (aC [] X.env)) (j6 pos (j7 [] X.env))):=by rfl) :
  DR X E (.Call (.Attribute (.Name x p) m apos) [] [] pos) (dI C m i g):=λF S ε σ H Q rl h=>by
 unfold dI at h;by_cases mo:jn ε C m i=ah
 ·rw[if_pos mo]at h;obtain⟨f,fd,hm,Fn,hb⟩:=mt.ex;obtain⟨a,dx,ws,ea,hH,hl⟩:=AW rl mo;refine bC (JI (pl:=pl) (dP hN hv hd a7) c hm Fn hr hb .nil hx ht) ⟨.ref a,ea,a,dx,ws,rfl,hH,hl,?_⟩;have av2:eU X.K σ F H [.inr i] [.ref a]:=⟨.ref a,[],rfl,ea,rfl⟩
  exact wN (wf rl av2 h) λv H' ⟨sl,ε',F',S',Sr,r',g',rs,fr,hq⟩=>hq v Sr rs fr
 ·rw[if_neg mo]at h; exact h.elim
def ph(C:af)(gi:aj->R Slot)(dg:aj->R (List bA)):aj->R PO:=λε=>(dg ε).bind λas ε1=>if bF as=[] then(match kz [.own (.ins C [])] (.inr 0::as) gi with
 | .ok (.val .non) [.own po]=>.ok po ε1
 | .er c _=>.er c ε1
 | _=>.no)else .no
theorem Dk(mk:Bg CX X.prog X.w X.K X.mg X.base C k ps (br X.K gi))(hr:bZ (k+1) X.A)(hx:i9 CX X E)(hm:X.mg x=aa (.ref C))(ha:DG X E (e::es) dg)(hg:Gl X x:=by rfl)(hd:(x == ("__debug__" : Str))=ak:=by decide) (h1:aC (e::es) X.env=(ak,aD e X.env)::aC es X.env:=by rfl) (h2:(bK pos (aC es X.env)).any (·.1)=ak:=by rfl) : DN X E (.Call (.Name x p) (e::es) [] pos) (ph C gi dg):=λF S ε σ H Q rl h=>by
 obtain⟨f,fd,M,Fn,hb⟩:=mk.ex;refine bC (Mo M Fn hr hg hm hb .nil hx fZ hd h1 h2) (ha F S ε σ H _ rl ((Ok.bind h).imp λas ε1 F1 S1 H1 r1 g1 q vs av xx dx hxn hdx cY=>?_));rw[gD];by_cases ho:bF as=[]
 ·rw[if_pos ho]at q;have al:Al F1 F1 H1 (L2.upd (L2.upd H1 dx (.own xx)) xx (.ins C dx [])):=(Al.new0 hdx).trans (Al.new0 (by rw[bw (eh cY)]; exact hxn));have nF:¬ F1 xx:=λz=>by obtain⟨o,q⟩:=r1.ex xx z; rw[hxn]at q; cases q
  have ow:dX X.K (L2.upd (L2.upd H1 dx (.own xx)) xx (.ins C dx [])) F1 (.ins C []) xx (λb=>b=xx):=⟨⟨dx,[],b_,.nil⟩,λb=>Iff.rfl⟩
  have rp:=aH.only (r1.al al).ex ow λb z=>by subst z; exact⟨nF,_,b_,trivial⟩
  have av2:eU X.K [aa (.ref xx)] F1 (L2.upd (L2.upd H1 dx (.own xx)) xx (.ins C dx [])) (.inr 0::as) (.ref xx::vs):=⟨.ref xx,vs,rfl,rfl,eU.bare ho (av.al al)⟩
  have hU:∀ c,U (λj b=>j=0/\b=xx) c->H1 c=ae:=λc ⟨j,_,z⟩=>by rw[z]; exact hxn
  refine wN (wf (D:=λsl ε' F' S' H'=>sl = .val .non/\Q (.ref xx) H') rp av2 ?_) λv H' ⟨sl,ε',F',S',Sr,r',g',rs,fr,hs,hq⟩=>⟨by subst hs; exact rs.1,hq⟩
  split at q
  ·rename_i po e0;rw[e0];intro F' S' H' r' g';obtain⟨a',ea',ow'⟩:=r'.own 0 _ rfl;cases ea';obtain⟨r2,g2⟩:=r1.aside (al.grow.trans g') hU r'.ex;refine⟨rfl,q F' S1 H' r2 g2 xx (S' 0) ow' λb z=>?_⟩;have hn:H1 b=ae:=by
    rcases g'.onew b ⟨0,z⟩with w | w
    ·exact hU b w
    ·exact al.same.free w
   exact⟨jO g1 hn,(r'.foot 0 b z).2.1,(λ⟨j,w⟩=>by obtain⟨_,_,o,w1,_⟩:=r1.foot j b w; rw[hn]at w1; cases w1),(r'.foot 0 b z).2.2⟩
  ·rename_i c ε' e0;rw[e0];intro y F' S' H' r' g';obtain⟨r2,g2⟩:=r1.aside (al.grow.trans g') hU r'.ex;exact q y F' S1 H' r2 g2
  ·exact q.elim
 ·rw[if_neg ho]at q; exact q.elim
def nK(C:af)(y w:Str)(i:Nat)(g:aj->R Slot):aj->R Slot:=λε=>(aO (i4 ε C y i) ε).bind λq ε=>(aO (q.1.lookup w) ε).bind λv ε=>match g [.own (.lst q.2),.val v]with
 | .ok s (.own (.lst ys)::_)=>.ok s (ε.set i (.own (.inl C q.1 y ys)))
 | _=>.no
theorem Gi(i:Nat){f y w:Str}{p1 p2 a1 a2:Pos}(c:Cls X.K C)(ny:gR X.K C y)(nw:gR X.K C w)(cal:cF CX X.prog X.w X.K X.mg X.base f k ps (br X.K g))(hr:bZ k X.A)(hx:i9 CX X E)(hN:X.N[i]?=aa x:=by rfl) (hv:c7 X.env.scope x:=by first | exact Or.inl rfl | exact Or.inr (Or.inl rfl) | exact Or.inr (Or.inr rfl)) (hd:(x == ("__debug__" : Str))=ak:=by decide) (a7:(x == ("__classdict__" : Str))=ak:=by decide) (hg:Gl X f:=by rfl) (eC:(f == ("__debug__" : Str))=ak:=by decide)(b1:f9 (.Name x p1) y X.env (aD (.Name x p1) X.env)=aD (.Name x p1) X.env:=by rfl) (b2:f9 (.Name x p2) w X.env (aD (.Name x p2) X.env)=aD (.Name x p2) X.env:=by rfl)(h1:aC [.Attribute (.Name x p1) y a1,.Attribute (.Name x p2) w a2] X.env=(ak,aD (.Attribute (.Name x p1) y a1) X.env)::aC [.Attribute (.Name x p2) w a2] X.env:=by rfl)(h3:aC [.Attribute (.Name x p2) w a2] X.env=(ak,aD (.Attribute (.Name x p2) w a2) X.env)::aC [] X.env:=by rfl) (h2:(bK pos (aC [.Attribute (.Name x p2) w a2] X.env)).any (·.1)=ak:=by rfl) : DR X E (.Call (.Name f p) [.Attribute (.Name x p1) y a1,.Attribute (.Name x p2) w a2] [] pos) (nK C y w i g):=λF S ε σ H Q rl h=>by
 unfold nK at h;cases e0:i4 ε C y i with
 | none=>rw[e0]at h; exact h.elim
 | some q=>
  rw[e0]at h;simp only[cz,R.bind_ok]at h;have eq0:=qR e0;obtain⟨a,ea,dx,ws,b,vs,ha,fr,hy,lc,hxs,gc,hS⟩:=rl.own i _ eq0;cases e1:q.1.lookup w with
  | none=>rw[e1]at h; exact h.elim
  | some pv=>
   rw[e1]at h;simp only[cz,R.bind_ok]at h;obtain⟨v,l,rv⟩:=fr.look e1;obtain⟨fa,fd,hm,Fn,hb,hk⟩:=cal.ex;have m_:S i b:=(hS b).mpr (.inr rfl);refine bC (y9 Fn hr hg hm hk hb .nil hx (gP (pC (dP hN hv hd a7) b1) (gP (pC (dP hN hv hd a7) b2) i7 h3) h1) eC h1 h2) ⟨.ref a,ea,a,C,dx,_,.ref b,rfl,ha,c,ny,vH (fr.miss hy),.ref a,ea,a,C,dx,_,v,rfl,ha,c,nw,Gu l,?_⟩;have rp:aH X.K F (λj d=>j=0/\d=b) [.own (.lst q.2),.val pv] [aa (.ref b),aa v] H:=by
    refine⟨rfl,rl.ex,λj pv' q=>?_,λj po q=>?_,λj d z=>?_,λj k d z1 z2=>z1.1.trans z2.1.symm⟩
    ·match j,q with
     | 0,q=>cases q
     | 1,q=>cases q; exact⟨v,rfl,rv⟩
    ·match j,q with
     | 0,q=>cases q; exact⟨b,rfl,⟨vs,lc,hxs⟩,λd=>⟨λz=>z.2,λz=>⟨rfl,z⟩⟩⟩
     | 1,q=>cases q
    ·obtain⟨rfl,rfl⟩:=z;exact⟨⟨_,rfl⟩,(rl.foot i d m_).2⟩
   refine⟨F,_,[.own (.lst q.2),.val pv],rp,?_⟩;have hU:(U λj d=>j=0/\d=b)=λd=>d=b:=by funext d; exact propext ⟨λ⟨_,_,z⟩=>z,λz=>⟨0,rfl,z⟩⟩
   split at h
   ·rename_i s ys rest eg;rw[eg];intro v2 F' S' H' Sr r' g' rs lo fr';rw[hU]at g';obtain⟨r2,g2⟩:=rl.lent eq0 ea ha fr hy gc hS g' r' rfl rfl;exact h F' S H' r2 g2 v2 Sr rs λd z=>⟨fr' d z,(lo d z).1,(λ⟨j,z2⟩=>by obtain⟨_,_,o,z3,_⟩:=rl.foot j d z2; rw[fr' d z]at z3; cases z3),(lo d z).2.2⟩
   ·exact h.elim
end
def hV(pin:List Nat):Nat->aj->Bool
 | _,[]=>ah
 | i,.own _::ss=>pin.contains i && hV pin (i+1) ss
 | i,_::ss=>hV pin (i+1) ss
theorem v7{pin:List Nat}:∀ {ss:aj} {k:Nat},hV pin k ss=ah->∀ (i:Nat) po,ss[i]?=aa (.own po)->k+i∈pin
 | [],_,_,i,po,e=>by simp at e
 | .own q::ss,k,h,0,po,e=>by simp only[hV,fc]at h;simpa using h.1
 | .own q::ss,k,h,i+1,po,e=>by simp only[hV,fc]at h;have:=v7 (k:=k+1) h.2 i po (by simpa using e);rwa[uA,oi]at this
 | .val q::ss,k,h,0,po,e=>by simp at e
 | .none::ss,k,h,0,po,e=>by simp at e
 | .val q::ss,k,h,i+1,po,e=>by have:=v7 (k:=k+1) (by simpa[hV]using h) i po (by simpa using e);rwa[uA,oi]at this
 | .none::ss,k,h,i+1,po,e=>by have:=v7 (k:=k+1) (by simpa[hV]using h) i po (by simpa using e);rwa[uA,oi]at this
def jV:R Slot->R Slot
 | .ok (.val v) ss=>.ok (.val v) ss
 | .er c ss=>.er c ss
 | _=>.no
theorem JB{r:R Slot}(h:jV r≠.no):jV r=r:=by unfold jV at h ⊢;split <;> simp_all
def gq(len:Nat)(pin:List Nat)(g:aj->R Slot):aj->R Slot:=λss=>if ss.length=len/\hV pin 0 ss=ah then jV (g ss)else .no
section
variable{CX:dJ}{P:aM}{w:aG}{K:aq}{mg:Str->Option ai}{base:aA}{C:af}{m x qual:Str}{st:aY}{N ps:List Str}{k n:Nat}{d:aj->R aT}{pin:List Nat}
theorem Gw{f:af}{fd:e_}(Fn:ko K x qual st f fd)(Sc:bN N ps (aP st))(hn:N.length=ps.length+n)(hb:∀ (kV doc pm:ai) (an:Option af) (aE ct:ai) (us:List ai),us.length=ps.length->eO (fq x qual (gn st) (dm st) (aP st) .none kV doc pm an aE ct) ⟨us,[]⟩=pure (ps.zip us))(d4:∀ (f:af) (aE:ai) (A:aR) (outer:List Env) (s:ao) (H:Hp) (E:XK),bZ k (A.deeper (f_ qual (aP st) s.heap.objs.size f aE))->fU (fY CX P w K mg base N qual (aP st) f aE A outer s H E) E pin (dm st) d) : ez P w K mg base CX (k+1) f fd ps (br K (gq ps.length pin (bu n d))):=by
 have no:∀ {ss},gq ps.length pin (bu n d) ss≠.no->ss.length=ps.length/\hV pin 0 ss=ah:=λ{ss} h=>by
  unfold gq at h;by_cases z:ss.length=ps.length/\hV pin 0 ss=ah
  ·exact z
  ·rw[if_neg z]at h; exact absurd rfl h
 refine CM Fn Sc hn hb (λss h=>(no h).1) (λss h i po e=>by have:=v7 (no h).2 i po e; rwa[rX]at this) (λss rs aF h=>.inl ?_) (λss h=>?_) λA outer s H E=>d4 f fd.code A outer s H E
 ·unfold gq at h;split at h
  ·unfold jV at h;split at h
   ·cases h; exact⟨_,rfl⟩
   ·cases h
   ·cases h
  ·cases h
 ·have z:=no h;unfold gq at h ⊢;rw[if_pos z]at h ⊢;exact(JB h).symm
theorem wl(D:ly K C m qual st)(Sc:bN N ps (aP st))(hn:N.length=ps.length+n)(hb:∀ (kV doc pm:ai) (an:Option af) (aE ct:ai) (us:List ai),us.length=ps.length->eO (fq m qual (gn st) (dm st) (aP st) .none kV doc pm an aE ct) ⟨us,[]⟩=pure (ps.zip us))(d4:∀ (f:af) (aE:ai) (A:aR) (outer:List Env) (s:ao) (H:Hp) (E:XK),bZ k (A.deeper (f_ qual (aP st) s.heap.objs.size f aE))->fU (fY CX P w K mg base N qual (aP st) f aE A outer s H E) E pin (dm st) d) : nz CX P w K mg base C m (k+1) ps (br K (gq ps.length pin (bu n d))):=by obtain⟨f,fd,M,Fn⟩:=D;exact⟨f,fd,M,Gw Fn Sc hn hb d4,Fn.binds hb⟩
theorem MM(D:cP K mg x st)(Sc:bN N ps (aP st))(hn:N.length=ps.length+n)(hb:∀ (kV doc pm:ai) (an:Option af) (aE ct:ai) (us:List ai),us.length=ps.length->eO (fq x x (gn st) (dm st) (aP st) .none kV doc pm an aE ct) ⟨us,[]⟩=pure (ps.zip us))(d4:∀ (f:af) (aE:ai) (A:aR) (outer:List Env) (s:ao) (H:Hp) (E:XK),bZ k (A.deeper (f_ x (aP st) s.heap.objs.size f aE))->fU (fY CX P w K mg base N x (aP st) f aE A outer s H E) E pin (dm st) d) : cF CX P w K mg base x (k+1) ps (br K (gq ps.length pin (bu n d))):=by obtain⟨f,fd,hm,Fn⟩:=D.ex;exact⟨f,fd,hm,Gw Fn Sc hn hb d4,Fn.binds hb,Fn.kp⟩
end
section
variable{X:Cx}{e:aB}{es:List aB}{dg:aj->R (List bA)}{x m:Str}{C:af}{kf km:Nat}{psf psm:List Str}{g gm:aj->R Slot}{p pos pos2 apos:Pos}
def vi(C:af)(m:Str)(g gm:aj->R Slot)(dg:aj->R (List bA)):aj->R Slot:=λε=>(qW g dg ε).bind λs ε2=>match s with
 | .own po=>if jn [.own po] C m 0 then(match kz [.own po] [.inr 0] gm with
  | .ok s _=>.ok s ε2
  | .er c _=>.er c ε2
  | .no=>.no)else .no
 | _=>.no
theorem Pg{pl:Sem Bool}(c:Cls X.K C)(cf:cF (b8 X.prog X.w) X.prog X.w X.K X.mg X.base x kf psf (br X.K g))(hrf:bZ kf X.A)(mt:nz (b8 X.prog X.w) X.prog X.w X.K X.mg X.base C m km psm (br X.K gm)) (hrm:bZ km X.A) (ha:DG X.nox E0 (e::es) dg) (hg:Gl X x:=by rfl)(hd:(x == ("__debug__" : Str))=ak:=by decide) (h1:aC (e::es) X.env=(ak,aD e X.env)::aC es X.env:=by rfl) (h2:(bK pos (aC es X.env)).any (·.1)=ak:=by rfl)(ht:aD (.Call (.Attribute (.Call (.Name x p) (e::es) [] pos) m apos) [] [] pos2) X.env=(do
   let ov ← aD (.Call (.Name x p) (e::es) [] pos) X.env
   rG apos.atName
   let (f,first) ← nX [ov] (rK ov m pl)
   callWith pos2 f first (bK pos2 (aC [] X.env)) (j6 pos2 (j7 [] X.env))):=by rfl) :
  DX X (.Call (.Attribute (.Call (.Name x p) (e::es) [] pos) m apos) [] [] pos2) (vi C m g gm dg):=λF S ε σ H Q XE rl h ag s I=>by
 obtain⟨fm,fdm,Mm,Fm,uU⟩:=mt.ex;unfold vi at h;refine Hj (pl:=pl) (aX (Q:=EP X ag σ λv H2=>∃ F2 S2 ε2 po xx Sr,qW g dg ε = .ok (.own po) ε2/\v = .ref xx/\aH X.K F2 S2 ε2 σ H2/\a_ (U S) (U S2) F F2 H H2/\dX X.K H2 F2 po xx Sr/\∀ b,Sr b->H b=ae/\¬ F2 b/\¬ U S2 b/\∃ o,H2 b=aa o/\cR o) ?_ λu s1 ⟨v,H2,I2,rv,F2,S2,ε2,po,xx,Sr,e0,ev,r2,g2,ow,lo⟩=>?_) ht
 ·refine(J4 cf hrf ha hg hd h1 h2) F S ε σ H _ XE rl ?_ ag s I;cases e0:qW g dg ε with
  | no=>rw[e0]at h; exact h.elim
  | er c' ε'=>rw[e0]at h; exact h
  | ok sl ε2=>
   rw[e0]at h;intro F2 S2 H2 r2 g2 v Sr rs fr;cases sl with
   | none=>exact h.elim
   | val pv=>exact h.elim
   | own po=>obtain⟨xx,ev,ow⟩:=rs;exact⟨F2,S2,ε2,po,xx,Sr,rfl,ev,r2,g2,ow,fr⟩
 ·subst ev;obtain rfl:u=Value.ref xx:=rv;rw[e0]at h;simp only[R.bind_ok]at h;by_cases mo:jn [.own po] C m 0=ah
  ·rw[if_pos mo]at h;have rp:=aH.only r2.ex ow λb z=>⟨(lo b z).2.1,(lo b z).2.2.2⟩
   obtain⟨a,dx,ws,ea,hH,hl⟩:=AW rp mo;cases ea;refine yM I2 hH c Mm hl ?_;have av:eU X.K [aa (.ref xx)] F2 H2 [.inr 0] [.ref xx]:=⟨.ref xx,[],rfl,rfl,rfl⟩
   have fit:kl (U λj b=>j=0/\Sr b) F2 H2:=rp.fit;have fb:∀ b,H2 b=ae->H b=ae:=λb z=>jO g2 z;have back:∀ {ε' F' S' H'},aH X.K F' S' ε' [aa (.ref xx)] H'->a_ (U λj b=>j=0/\Sr b) (U S') F2 F' H2 H'->aH X.K F' S2 ε2 σ H'/\a_ (U S) (U S2) F F' H H':=λ{ε' F' S' H'} r' g'=>by
    have nS:∀ j b,S2 j b->¬ U (λj b=>j=0/\Sr b) b:=λj b z ⟨_,_,y⟩=>(lo b y).2.2.1 ⟨j,z⟩;refine⟨⟨r2.len,r'.ex,λj pv q=>?_,λj po q=>?_,λj b z=>?_,r2.dist⟩,⟨λb z=>g'.fro b (g2.fro b z),λb o q n=>g'.keep b o (g2.keep b o q n) (λ⟨_,_,y⟩=>by rw[(lo b y).1]at q; cases q),λb o q=>?_,λb z=>?_,λb z=>g2.onew b z⟩⟩
    ·obtain⟨v,q1,q2⟩:=r2.val j pv q;exact⟨v,q1,q2.grow g' fit⟩
    ·obtain⟨d,q1,q2⟩:=r2.own j po q;exact⟨d,q1,q2.mono (λ_ _ z=>z.grow g' fit) (λ_ _ z=>z.grow g' fit) λb o z w=>g'.keep b o w (nS j b z)⟩
    ·obtain⟨q1,q2,o,q3,q4⟩:=r2.foot j b z;refine⟨q1,λw=>?_,o,g'.keep b o q3 (nS j b z),q4⟩;rcases g'.fnew b w with w | w | w
     ·exact q2 w
     ·rw[q3]at w; cases w
     ·exact nS j b z w
    ·obtain⟨o1,q1⟩:=g2.there b o q;exact g'.there b o1 q1
    ·rcases g'.fnew b z with w | w | ⟨_,_,w⟩
     ·exact g2.fnew b w
     ·exact .inr (.inl (fb b w))
     ·exact .inr (.inl (lo b w).1)
   have sp:=wf (E:=λc _ H'=>XE c H') (D:=λsl ε' F' S' H'=>∀ v Sr',kF X.K H' F' sl v Sr'->(∀ b,Sr' b->H2 b=ae/\¬ F' b/\¬ U S' b/\∃ o,H' b=aa o/\cR o)->Q v H') (g:=gm) rp av (by
    cases eg:kz [.own po] [.inr 0] gm with
    | no=>rw[eg]at h; exact h.elim
    | er c' ε'=>rw[eg]at h;intro y F' S' H' r' g';obtain⟨r3,g3⟩:=back r' g';exact h y F' S2 H' r3 g3
    | ok sl ε'=>
     rw[eg]at h;intro F' S' H' r' g' v Sr' rs fr;obtain⟨r3,g3⟩:=back r' g';refine h F' S2 H' r3 g3 v Sr' rs λb z=>⟨fb b (fr b z).1,(fr b z).2.1,λ⟨j,w⟩=>?_,(fr b z).2.2.2⟩
     obtain⟨_,_,o,w1,_⟩:=r2.foot j b w;rw[(fr b z).1]at w1; cases w1)
   exact PySem.W.callWith_K0 (first:=[.ref xx]) I2.kIn Mm.kp (QI (us:=[.ref xx]) (vs:=[.ref xx]) Fm hrm uU I2 (.cons rfl .nil) (wN sp λv H' ⟨sl,ε',F',S',Sr',r',g',rs,fr,hq⟩=>hq v Sr' rs fr))
  ·rw[if_neg mo]at h; exact h.elim
end
section
variable{X:Cx}{E:XK}
def eZ(i:Nat):aj->R PV:=λε=>match ε[i]? with
 | some (.val v)=>.ok v ε
 | some (.own (.lst xs))=>.ok (.lst xs) (ε.set i (.val (.lst xs)))
 | _=>.no
theorem qr(i:Nat){x:Str}{pos:Pos}(hN:X.N[i]?=aa x:=by rfl)(hv:c7 X.env.scope x:=by first | exact Or.inl rfl | exact Or.inr (Or.inl rfl) | exact Or.inr (Or.inr rfl))(hd:(x == ("__debug__" : Str))=ak:=by decide)(a7:(x == ("__classdict__" : Str))=ak:=by decide):DE X E (.Name x pos) (eZ i):=λF S ε σ H Q r h=>by
 unfold eZ at h;split at h
 ·rename_i v e;refine ax (E:=E) i hN hv hd a7 F S ε σ H Q r ?_;unfold dV;rw[e]; exact h
 ·rename_i xs e;refine GS (E:=E) i hN hv hd a7 F S ε σ H Q r ?_;unfold dM;rw[e]; exact h
 ·exact h.elim
end
end Pu
local macro_rules | `(tactic| simp! [$xs,*]) => `(tactic| simp [Pu.aN, Pu.bX, Pu.dB, Pu.d2, Pu.d1, Pu.dV, Pu.dC, Pu.dL, Pu.dF, Pu.az, Pu.aL, Pu.cy, Pu.l8, Pu.cM, Pu.fi, Pu.bh, Pu.gV, Pu.gO, Pu.bT, Pu.cZ, Pu.dG, Pu.bF, Pu.cJ, Pu.eD, Pu.R.bind, Pu.aO, Pu.bM, Pu.fX, Pu.bu, Pu.back, Pu.jo, Pu.nc, Pu.w6, Pu.vK, Pu.AQ, Pu.Ao, Pu.bf, Pu.lE, Pu.c8, Pu.jb, Pu.dy, Pu.xu, Pu.eJ, Pu.Gx, Pu.iW, Pu.xg, Pu.oP, Pu.fS, Pu.ki, Pu.Fp, Pu.pf, Pu.ge, Pu.dA, Pu.kB, Pu.kG, Pu.g7, Pu.imm, Pu.nN, Pu.lB, aU, mI, $xs,*])
local macro_rules | `(tactic| and_intros) => `(tactic| (refine' Pu.Re ?a ?l ?c ?k; (case a => k_is); (case l => k_is); (case c => k_is); (case k => k_is)))
namespace K39
open L2 Pu Sh
def dj(i:Nat):aY:=PySem.Challenge.pw_slitview_k39_whole_slits_written.main.body.getD i (.Pass ⟨0,0,0,0⟩)
def tP(s:aY)(j:Nat):aY:=match s with
 | .ClassDef _ _ _ b _ _ _ _ _ _ _=>b.getD j (.Pass ⟨0,0,0,0⟩)
 | _=>.Pass ⟨0,0,0,0⟩
abbrev yK:aY:=dj 42
abbrev yB:aY:=dj 43
abbrev zQ:aY:=dj 44
abbrev wb:aY:=dj 37
abbrev AU:aY:=dj 38
abbrev vQ:aY:=dj 18
abbrev AH:aY:=dj 21
abbrev zd:aY:=dj 19
abbrev Be:aY:=dj 20
abbrev Bk:aY:=dj 25
abbrev yW:aY:=tP (dj 34) 0
abbrev zO:aY:=dj 26
abbrev vU:aY:=dj 22
abbrev Ay:aY:=dj 23
abbrev Aa:aY:=dj 24
abbrev Bf:aY:=dj 27
abbrev zu:aY:=dj 30
abbrev yV:aY:=dj 29
abbrev xw:aY:=dj 31
abbrev yN:aY:=dj 33
abbrev A_:aY:=tP (dj 34) 2
abbrev vX:aY:=dj 40
abbrev A5:aY:=dj 45
abbrev zD:aY:=dj 46
abbrev zh:aY:=tP (dj 34) 1
abbrev yO:aY:=dj 39
abbrev zw:aY:=dj 47
abbrev y_:aY:=dj 48
abbrev zA:aY:=tP (dj 34) 5
abbrev z7:aY:=tP (dj 34) 3
abbrev qp:aY:=dj 49
structure cU(K:aq)(mg:Str->Option ai)(base:aA)(a:Ad):Prop where
 yaB:cP K mg "_law_cell_at" yK
 yaD:cP K mg "_law_mixed" yB
 yaC:cP K mg "_law_draw" zQ
 yaH:cP K mg "line" wb
 yaM:cP K mg "width_and_windows" AU
 yat:cP K mg "has_only" vQ
 yay:cP K mg "is_window" AH
 yaw:cP K mg "is_whole_number" zd
 yax:cP K mg "is_width" Be
 yaq:cP K mg "check_width" Bk
 yaN:v4 K a.Slit "Slit.__init__" yW
 yar:cP K mg "check_window" zO
 yao:cP K mg "are_windows" vU
 yav:cP K mg "is_view_with" Ay
 yau:cP K mg "is_view" Aa
 yap:cP K mg "check_view" Bf
 yan:cP K mg "add_endings" zu
 yas:cP K mg "counted" yV
 yaK:cP K mg "texts" xw
 yaL:cP K mg "texts_with" yN
 ya9:ly K a.Slit "come" "Slit.come" A_
 yaI:cP K mg "slit_of" vX
 yaE:cP K mg "_law_pick" A5
 yaF:cP K mg "_law_text" zD
 ybc:ly K a.Slit "windows" "Slit.windows" zh
 yaJ:cP K mg "slit_text" yO
 yaG:cP K mg "_law_which" zw
 yaA:cP K mg "_law_ask" y_
 ybb:ly K a.Slit "undo" "Slit.undo" zA
 yba:ly K a.Slit "told" "Slit.told" z7
 yaz:cP K mg "law" qp
 k_Slit:Cls K a.Slit
 ya2:gR K a.Slit "width"
 ya1:gR K a.Slit "came"
 yaO:mg "ValueError" = ae
 yaP:mg "all" = ae
 yaQ:mg "any" = ae
 yaR:mg "bool" = ae
 yaS:mg "int" = ae
 yaT:mg "isinstance" = ae
 yaU:mg "len" = ae
 yaV:mg "list" = ae
 yaW:mg "range" = ae
 yaX:mg "set" = ae
 yaY:mg "sorted" = ae
 yaZ:mg "str" = ae
 ya0:mg "tuple" = ae
 ybd:∃ t,mg "LETTERS" = aa (.str (tS [97,98,99]) t)
 ybe:∃ t,mg "MOST_WINDOWS" = aa (.int 9 t)
 ybf:∃ t,mg "SLIT_MARK" = aa (.str (tS [59]) t)
 ybg:∃ t,mg "WIDEST" = aa (.int 4 t)
 yal:mg "SlitError" = aa (.ref a.SlitError)
 yaf:mg "NoText" = aa (.ref a.NoText)
 yah:mg "NoWidth" = aa (.ref a.NoWidth)
 yag:mg "NoView" = aa (.ref a.NoView)
 yai:mg "NoWindow" = aa (.ref a.NoWindow)
 yac:mg "Never" = aa (.ref a.Never)
 yab:mg "Full" = aa (.ref a.Full)
 yaj:mg "Nothing" = aa (.ref a.Nothing)
 yam:mg "Unlike" = aa (.ref a.Unlike)
 yae:mg "NoPlace" = aa (.ref a.NoPlace)
 yad:mg "NoLetters" = aa (.ref a.NoLetters)
 yaa:mg "BadText" = aa (.ref a.BadText)
 yak:mg "Slit" = aa (.ref a.Slit)
 ya3:qa "BadText" a.BadText [.type "ValueError",.type "Exception",.type "BaseException",.type "object"] "ValueError.__new__" mg base
 ya6:qa "NoWidth" a.NoWidth [.type "ValueError",.type "Exception",.type "BaseException",.type "object"] "ValueError.__new__" mg base
 ya7:qa "NoWindow" a.NoWindow [.type "ValueError",.type "Exception",.type "BaseException",.type "object"] "ValueError.__new__" mg base
 ya5:qa "NoView" a.NoView [.type "ValueError",.type "Exception",.type "BaseException",.type "object"] "ValueError.__new__" mg base
 ya4:qa "Full" a.Full [.type "ValueError",.type "Exception",.type "BaseException",.type "object"] "ValueError.__new__" mg base
 ya8:qa "Nothing" a.Nothing [.type "ValueError",.type "Exception",.type "BaseException",.type "object"] "ValueError.__new__" mg base
 err_SlitError:rf base a.SlitError
 und:∀ c,qw a c=ah->Under base a.SlitError c
 tab:zq K (iI a)
section
variable{P:aM}{w:aG}{K:aq}{mg:Str->Option ai}{base:aA}{a:Ad}
theorem Oe:bN ["_law_script","_law_k"] ["_law_script","_law_k"] (aP yK):=by ac_nf
theorem Oo(G:cU K mg base a):cF (b8 P w) P w K mg base "_law_cell_at" 1 ["_law_script","_law_k"] (br K (qN a)) :=
 eE (k:=0) (pin:=[]) G.yaB Oe rfl (λ_ _ _ _ _ _ us hl=>Pu.Rg (λ_ _=>rfl) us hl) (λf aE A outer s H E hr=>by exact
  (bt (fE (fu AL ml (ax 1) (cT iJ iL G.yaU iG (aK (ax 0) bb)) rfl) (bq (dY (il hZ ic (ax 0) (ax 1)))) fz)
  (bt (fE (fu (kJ hr.units) kq (ax 0) (mn bb) rfl) (bq (dY bn)) fz)
  (bq (dY (bE dE dz (bE lD lz (il hZ ic (ax 0) (bE qA rE (ax 1) (cT iJ iL G.yaU iG (aK (ax 0) bb)))) bn) (ax 1)))))))
theorem Nn:bN ["_law_script","_law_k","_law_many","_law_drawn"] ["_law_script","_law_k","_law_many"] (aP yB):=by ac_nf
theorem Im(G:cU K mg base a):cF (b8 P w) P w K mg base "_law_mixed" 2 ["_law_script","_law_k","_law_many"] (br K (xk a)) :=
 eE (k:=1) (pin:=[]) G.yaD Nn rfl (λ_ _ _ _ _ _ us hl=>Pu.Rs (λ_ _ _=>rfl) us hl) (λf aE A outer s H E hr=>by exact
  (bt (g6 3 Nn.nd (bE qA rE (bE dE dz (bE dE dz (bE lD lz ((cH (Oo G) (hr.mono (by decide)) cc (ba (ax 0) (ba (ax 1) bW)))).de bn) (bE lD lz bn (ax 1))) bn) bn))
  (bq (dY (bE qA rE (bE qA rE (bE qA rE (bE OW QL (ax 3) bn) bn) bn) (ax 2))))))
theorem P4:bN ["_law_script","_law_town","_law_many"] ["_law_script","_law_town","_law_many"] (aP zQ):=by ac_nf
theorem qx(G:cU K mg base a):cF (b8 P w) P w K mg base "_law_draw" 3 ["_law_script","_law_town","_law_many"] (br K (iz a)) :=
 eE (k:=2) (pin:=[1]) G.yaC P4 rfl (λ_ _ _ _ _ _ us hl=>Pu.Rs (λ_ _ _=>rfl) us hl) (λf aE A outer s H E hr=>by exact
  (bt (zY 1 bn)
  (bq (sI (cH (Im G) (hr.mono (by decide)) cc (ba (ax 0) (ba (FG 1 iJ iL G.yaU iG) (ba (ax 2) bW))))))))
theorem NW:bN ["width","mark","windows"] ["width","mark","windows"] (aP wb):=by ac_nf
theorem DB(G:cU K mg base a):cF (b8 P w) P w K mg base "line" 1 ["width","mark","windows"] (br K (qy a)) :=
 eE (k:=0) (pin:=[]) G.yaH NW rfl (λ_ _ _ _ _ _ us hl=>Pu.Rs (λ_ _ _=>rfl) us hl) (λf aE A outer s H E hr=>by exact
  (bq (dY (bE dE dz (bE dE dz (rC wX w_ G.yaZ qK (aK (ax 0) bb)) (ax 1)) (zF PySem.F.slot_str_join PySem.F.type_str_join Dm E_ (cN []) (aK (oJ (cap:=[]) (N':=["window"]) (nu.of ["width","mark","windows"] (aP wb) rfl rfl (by decide +kernel)) rfl (kL (ax 2)) (λC s₀ H₀ ex pn=>by exact oU) (λC s₀ H₀ ex pn=>by exact(bE dE dz (cN [32]) (ax 0)))).de bb))))))
theorem Lw:bN ["thing","mark","words","width"] ["thing","mark"] (aP AU):=by ac_nf
theorem IS(G:cU K mg base a):cF (b8 P w) P w K mg base "width_and_windows" 2 ["thing","mark"] (br K (ku a)) :=
 eE (k:=1) (pin:=[]) G.yaM Lw rfl (λ_ _ _ _ _ _ us hl=>Pu.Rg (λ_ _=>rfl) us hl) (λf aE A outer s H E hr=>by exact
  (bt (g6 2 Lw.nd (Fk (lL (cT oM pq G.yaT gQ (aK (ax 0) (aK (oS G.yaZ qK) bb)))) (zF PySem.F.slot_str_split PySem.F.type_str_split PY Kj (ax 0) (aK (cN [32]) bb)) (mn (aK (cN []) bb))))
  (bt (o5 (o8 3 rZ rfl Lw.nd (Mq G.yaW (aK bn (aK (bE dE dz (t0 G.ybg) bn) bb))) (bq (fE (fu (kJ hr.units) kq (il hZ ic (ax 2) bn) ((cH (DB G) (hr.mono (by decide)) jy (ba (ax 3) (ba (ax 1) (ba (mn bb) bW))))).de rfl) (bq (dY (qG (aK (ax 3) (aK (rC Ga Ge G.ya0 vY (aK (w8 xv xj (ax 2) (sL bn) wp) bb)) bb))))) fz))))
  (bq (pA oN rfl G.ya3 r8 (cN [97,32,118,105,101,119,32,111,114,32,97,32,115,108,105,116,32,105,115,32,119,114,105,116,116,101,110,32,97,115,32,105,116,115,32,119,105,100,116,104,44,32,105,116,115,32,115,105,103,110,44,32,97,110,100,32,105,116,115,32,119,105,110,100,111,119,115,44,32,97,32,98,108,97,110,107,32,97,104,101,97,100,32,111,102,32,101,97,99,104]))))))
theorem JV:bN ["text","signs"] ["text","signs"] (aP vQ):=by ac_nf
theorem Nx(G:cU K mg base a):cF (b8 P w) P w K mg base "has_only" 1 ["text","signs"] (br K (xm a)) :=
 eE (k:=0) (pin:=[]) G.yat JV rfl (λ_ _ _ _ _ _ us hl=>Pu.Rg (λ_ _=>rfl) us hl) (λf aE A outer s H E hr=>by exact
  (bq (dY (cT (AO rfl) Bi G.yaP Bc (aK (oJ (cap:=[1]) (N':=["sign","signs"]) (nu.of ["text","signs"] (aP vQ) rfl rfl (by decide +kernel)) rfl (kL (ax 0)) (λC s₀ H₀ ex pn=>by exact oU) (λC s₀ H₀ ex pn=>by exact(t4 O6 II (ax 0) (ax 1) rfl))).de bb)))))
theorem J3:bN ["thing","width","signs"] ["thing","width","signs"] (aP AH):=by ac_nf
theorem zo(G:cU K mg base a):cF (b8 P w) P w K mg base "is_window" 2 ["thing","width","signs"] (br K (jY a)) :=
 eE (k:=1) (pin:=[]) G.yay J3 rfl (λ_ _ _ _ _ _ us hl=>Pu.Rs (λ_ _ _=>rfl) us hl) (λf aE A outer s H E hr=>by exact
  (bq (dY (q8 (cT oM pq G.yaT gQ (aK (ax 0) (aK (oS G.yaZ qK) bb))) (q8 (t4 (kJ hr.units) kq (cT iJ iL G.yaU iG (aK (ax 0) bb)) (ax 1) rfl) (sF ((cH (Nx G) (hr.mono (by decide)) cc (ba (ax 0) (ba (ax 2) bW)))).de))))))
theorem LD:bN ["thing"] ["thing"] (aP zd):=by ac_nf
theorem JF(G:cU K mg base a):cF (b8 P w) P w K mg base "is_whole_number" 1 ["thing"] (br K (vv a)) :=
 eE (k:=0) (pin:=[]) G.yaw LD rfl (λ_ _ _ _ _ _ us hl=>Pu.Rw (λ_=>rfl) us hl) (λf aE A outer s H E hr=>by exact
  (bq (dY (q8 (cT oM pq G.yaT gQ (aK (ax 0) (aK (oS G.yaS NP) bb))) (sF (OF (cT oM pq G.yaT gQ (aK (ax 0) (aK (oS G.yaR NC) bb)))))))))
theorem Px:bN ["thing"] ["thing"] (aP Be):=by ac_nf
theorem Ek(G:cU K mg base a):cF (b8 P w) P w K mg base "is_width" 2 ["thing"] (br K (pO a)) :=
 eE (k:=1) (pin:=[]) G.yax Px rfl (λ_ _ _ _ _ _ us hl=>Pu.Rw (λ_=>rfl) us hl) (λf aE A outer s H E hr=>by exact
  (bq (dY (q8 ((cH (JF G) (hr.mono (by decide)) cc (ba (ax 0) bW))).de (sF (Qf vj vj ml ml bn (ax 0) (t0 G.ybg)))))))
theorem Is:bN ["thing"] ["thing"] (aP Bk):=by ac_nf
theorem PU(G:cU K mg base a):cF (b8 P w) P w K mg base "check_width" 3 ["thing"] (br K (wO a)) :=
 eE (k:=2) (pin:=[]) G.yaq Is rfl (λ_ _ _ _ _ _ us hl=>Pu.Rw (λ_=>rfl) us hl) (λf aE A outer s H E hr=>by exact
  (bq (fE (lq (lL ((cH (Ek G) (hr.mono (by decide)) cc (ba (ax 0) bW))).de)) (bq (pA oN rfl G.ya6 r8 (cN [97,32,119,105,100,116,104,32,105,115,32,97,32,119,104,111,108,101,32,110,117,109,98,101,114,32,102,114,111,109,32,49,32,116,111,32,52]))) fz)))
def E9(a:Ad):aj->R aT:=aN (eJ (bh (wO a) (gV (dV 1) (bT))))
 (aN (y8 a.Slit 0 "width" (dV 1))
 (vS a.Slit 0 "came" (dL c8 (aL))))
def nP(a:Ad):aj->R Slot:=bM 2 [0] (bu 0 (E9 a))
theorem Os:bN ["self","width"] ["self","width"] (aP yW):=by ac_nf
theorem Fv(G:cU K mg base a):Bg (b8 P w) P w K mg base a.Slit 4 ["self","width"] (br K (nP a)) :=
 Lh (k:=3) (pin:=[0]) G.yaN Os rfl (λ_ _ _ _ _ _ us hl=>Pu.Rg (λ_ _=>rfl) us hl) (λf aE A outer s H E hr=>by exact
  (bt (l7 (cH (PU G) (hr.mono (by decide)) cc (ba (ax 1) bW)))
  (bt (MO 0 G.k_Slit G.ya2 (ax 1))
  (bq (Ow 0 G.k_Slit G.ya1 (o0 bb))))))
def yar(a:Ad):aj->R aT:=bX (iW (dB (bf (bh (jY a) (gV (dV 0) (gV (dV 1) (gV (dC (.str [97,98,99])) (bT)))))))) (ma (.ref a.NoWindow) (λε=>ce ((dC (.str [97,32,119,105,110,100,111,119,32,104,97,115,32,97,115,32,109,97,110,121,32,108,101,116,116,101,114,115,32,97,44,32,98,44,32,99,32,97,115,32,116,104,101,32,115,108,105,116,32,105,115,32,119,105,100,101])) ε))) (dy)
def wm(a:Ad):aj->R Slot:=bM 2 [] (bu 0 (yar a))
theorem Me:bN ["thing","width"] ["thing","width"] (aP zO):=by ac_nf
theorem MW(G:cU K mg base a):cF (b8 P w) P w K mg base "check_window" 3 ["thing","width"] (br K (wm a)) :=
 eE (k:=2) (pin:=[]) G.yar Me rfl (λ_ _ _ _ _ _ us hl=>Pu.Rg (λ_ _=>rfl) us hl) (λf aE A outer s H E hr=>by exact
  (bq (fE (lq (lL ((cH (zo G) (hr.mono (by decide)) cc (ba (ax 0) (ba (ax 1) (ba (rn G.ybd) bW))))).de)) (bq (pA oN rfl G.ya7 r8 (cN [97,32,119,105,110,100,111,119,32,104,97,115,32,97,115,32,109,97,110,121,32,108,101,116,116,101,114,115,32,97,44,32,98,44,32,99,32,97,115,32,116,104,101,32,115,108,105,116,32,105,115,32,119,105,100,101]))) fz)))
theorem OJ:bN ["thing","width","signs"] ["thing","width","signs"] (aP vU):=by ac_nf
theorem L8(G:cU K mg base a):cF (b8 P w) P w K mg base "are_windows" 3 ["thing","width","signs"] (br K (nD a)) :=
 eE (k:=2) (pin:=[]) G.yao OJ rfl (λ_ _ _ _ _ _ us hl=>Pu.Rs (λ_ _ _=>rfl) us hl) (λf aE A outer s H E hr=>by exact
  (bt (fE ((l9 (lq (lL (cT oM pq G.yaT gQ (aK (ax 0) (aK (oS G.ya0 vY) bb))))) (oO (lq (J1 vj vj ml ml bn (cT iJ iL G.yaU iG (aK (ax 0) bb)) (t0 G.ybe)))))).dt (bq (dY nB)) fz)
  (bt (fE (lq (lL (cT (AO rfl) Bi G.yaP Bc (aK (oJ (cap:=[1,2]) (N':=["window","width","signs"]) (nu.of ["thing","width","signs"] (aP vU) rfl rfl (by decide +kernel)) rfl (kL (ax 0)) (λC s₀ H₀ ex pn=>by exact oU) (λC s₀ H₀ ex pn=>by exact((cH (zo G) (hr.mono (by decide)) jy (ba (ax 0) (ba (ax 1) (ba (ax 2) bW))))).de)).de bb)))) (bq (dY nB)) fz)
  (bq (dY (t4 (kJ hr.units) kq (Md GX Ff G.yaV Du (aK (ax 0) bb)).de (JZ C9 GF G.yaY zS (aK (ax 0) bb)).de rfl))))))
theorem IB:bN ["thing","signs"] ["thing","signs"] (aP Ay):=by ac_nf
theorem J5(G:cU K mg base a):cF (b8 P w) P w K mg base "is_view_with" 4 ["thing","signs"] (br K (qS a)) :=
 eE (k:=3) (pin:=[]) G.yav IB rfl (λ_ _ _ _ _ _ us hl=>Pu.Rg (λ_ _=>rfl) us hl) (λf aE A outer s H E hr=>by exact
  (bt (fE ((l9 (lq (lL (cT oM pq G.yaT gQ (aK (ax 0) (aK (oS G.ya0 vY) bb))))) (oO (fu (ln hr.units) lG (cT iJ iL G.yaU iG (aK (ax 0) bb)) bn rfl)))).dt (bq (dY nB)) fz)
  (bq (dY (q8 ((cH (Ek G) (hr.mono (by decide)) cc (ba (il hZ ic (ax 0) bn) bW))).de (sF ((cH (L8 G) (hr.mono (by decide)) cc (ba (il hZ ic (ax 0) bn) (ba (il hZ ic (ax 0) bn) (ba (ax 1) bW))))).de))))))
theorem Jq:bN ["thing"] ["thing"] (aP Aa):=by ac_nf
theorem OG(G:cU K mg base a):cF (b8 P w) P w K mg base "is_view" 5 ["thing"] (br K (wG a)) :=
 eE (k:=4) (pin:=[]) G.yau Jq rfl (λ_ _ _ _ _ _ us hl=>Pu.Rw (λ_=>rfl) us hl) (λf aE A outer s H E hr=>by exact
  (bq (sI (cH (J5 G) (hr.mono (by decide)) cc (ba (ax 0) (ba (rn G.ybd) bW))))))
theorem QA:bN ["thing"] ["thing"] (aP Bf):=by ac_nf
theorem O0(G:cU K mg base a):cF (b8 P w) P w K mg base "check_view" 6 ["thing"] (br K (vZ a)) :=
 eE (k:=5) (pin:=[]) G.yap QA rfl (λ_ _ _ _ _ _ us hl=>Pu.Rw (λ_=>rfl) us hl) (λf aE A outer s H E hr=>by exact
  (bq (fE (lq (lL ((cH (OG G) (hr.mono (by decide)) cc (ba (ax 0) bW))).de)) (bq (pA oN rfl G.ya5 r8 (cN [97,32,118,105,101,119,32,105,115,32,97,32,116,117,112,108,101,32,111,102,32,97,32,119,105,100,116,104,32,97,110,100,32,97,32,114,105,115,105,110,103,32,116,117,112,108,101,32,111,102,32,49,32,116,111,32,57,32,119,105,110,100,111,119,115]))) fz)))
theorem C3:bN ["text","width","left","found","head","letter","window"] ["text","width","left","found"] (aP zu):=by ac_nf
theorem Mp(G:cU K mg base a)(m:Nat):cF (b8 P w) P w K mg base "add_endings" (1+m) ["text","width","left","found"] (br K (nQ a m)):=by
 induction m with
 | zero=>exact eE (k:=0) (pin:=[2,3]) G.yan C3 rfl (λ_ _ _ _ _ _ us hl=>Pu.RJ (λ_ _ _ _=>rfl) us hl) (λf aE A outer s H E hr=>P5)
 | succ m ih=>exact eE (k:=1+m) (pin:=[2,3]) G.yan C3 rfl (λ_ _ _ _ _ _ us hl=>Pu.RJ (λ_ _ _ _=>rfl) us hl) (λf aE A outer s H E hr=>by exact
  (bt (fE (lq (lL (M8 2 rfl G.yaQ))) (bt (zY 3 (ax 0))
  (bq P0)) fz)
  (bt (g6 4 C3.nd (w8 xv xj (ax 0) (sL (bE dE dz (bE yD yI (cT iJ iL G.yaU iG (aK (ax 0) bb)) (ax 1)) bn)) wp))
  (bq (o5 (o8 5 rZ rfl C3.nd (kL (rn G.ybd)) (bt (g6 6 C3.nd (bE dE dz (ax 4) (ax 5)))
  (bq (fE (fu Et ml (FT 2 hr.units (ax 6) bn) bn rfl) (bt (A8 2 hr.units (ax 6) (bE yD yI (Ev 2 hr.units (ax 6)) bn))
  (bt (l7 (cH ih (hr.mono ∅) jy (ba (bE dE dz (ax 0) (ax 5)) (ba (ax 1) (jm 2 (jm 3 bW))))))
  (bq (A8 2 hr.units (ax 6) (bE dE dz (Ev 2 hr.units (ax 6)) bn))))) fz)))))))))
theorem Je:bN ["windows","counts","window"] ["windows"] (aP yV):=by ac_nf
theorem KA(G:cU K mg base a):cF (b8 P w) P w K mg base "counted" 1 ["windows"] (br K (uc a)) :=
 eE (k:=0) (pin:=[]) G.yas Je rfl (λ_ _ _ _ _ _ us hl=>Pu.Rw (λ_=>rfl) us hl) (λf aE A outer s H E hr=>by exact
  (bt (nL 1 Je.nd (J8))
  (bt (o5 (o8 2 rZ rfl Je.nd (kL (ax 0)) (bq (A8 1 hr.units (ax 2) (bE dE dz (FT 1 hr.units (ax 2) bn) bn)))))
  (bq (Ae 1)))))
theorem QD:bN ["view","width","found","head"] ["view"] (aP xw):=by ac_nf
theorem Jg(G:cU K mg base a):cF (b8 P w) P w K mg base "texts" 14 ["view"] (br K (tT a)) :=
 eE (k:=13) (pin:=[]) G.yaK QD rfl (λ_ _ _ _ _ _ us hl=>Pu.Rw (λ_=>rfl) us hl) (λf aE A outer s H E hr=>by exact
  (bt (l7 (cH (O0 G) (hr.mono (by decide)) cc (ba (ax 0) bW)))
  (bt (g6 1 QD.nd (il hZ ic (ax 0) bn))
  (bt (nL 2 QD.nd (o0 bb))
  (bt (o5 (o8 3 rZ rfl QD.nd (kL (K6 rfl (aK (oJ (cap:=[]) (N':=["window"]) (nu.of ["view","width","found","head"] (aP xw) rfl rfl (by decide +kernel)) rfl (kL (il hZ ic (ax 0) bn)) (λC s₀ H₀ ex pn=>by exact oU) (λC s₀ H₀ ex pn=>by exact(w8 xv xj (ax 0) wp (sL (tw sU t8 bn))))).de bb) G.yaY G.yaX).de) (bq (l7 (ON (Mp G 12) (hr.mono (by decide)) jy (CN (ax 3) (CN (ax 1) (K2 (((cH (KA G) (hr.mono (by decide)) jy (ba (il hZ ic (ax 0) bn) bW))).dn) (jm 2 bW)))))))))
  (bq (Ae 2)))))))
def yaL(a:Ad):aj->R aT:=aN (bX (dB (d2 (eqT ak) (kG (λxs=>g7 (cb xs)) 0) (dC (.int 0)))) (vn (dL c8 (aL))) (dy))
 (l8 (bh (tT a) (gV (dL jb (az (dV 1) (az (dL qQ (az (dF (kG (λxs=>nN (qV xs)) 0)) (aL))) (aL)))) (bT))))
def qY(a:Ad):aj->R Slot:=bM 2 [0] (bu 0 (yaL a))
theorem JY:bN ["windows","width"] ["windows","width"] (aP yN):=by ac_nf
theorem FH(G:cU K mg base a):cF (b8 P w) P w K mg base "texts_with" 15 ["windows","width"] (br K (qY a)) :=
 eE (k:=14) (pin:=[0]) G.yaL JY rfl (λ_ _ _ _ _ _ us hl=>Pu.Rg (λ_ _=>rfl) us hl) (λf aE A outer s H E hr=>by exact
  (bt (fE (fu (kJ hr.units) kq (FG 0 iJ iL G.yaU iG) bn rfl) (bq (Mb (o0 bb))) fz)
  (bq (sI (cH (Jg G) (hr.mono (by decide)) cc (ba (qG (aK (ax 1) (aK (rC Ga Ge G.ya0 vY (aK (NY 0 C9 GF G.yaY zS).de bb)) bb))) bW))))))
def G9(a:Ad):aj->R aT:=aN (eJ (bh (wm a) (gV (dV 1) (gV (qt a.Slit "came" 0 "width") (bT)))))
 (aN (bX (dB (d2 (eqT ak) (jQ (λxs=>g7 (cb xs)) a.Slit "came" 0) (dC (.int 9)))) (ma (.ref a.Full) (λε=>ce ((dC (.str [97,32,115,108,105,116,32,116,97,107,101,115,32,117,112,32,116,111,32,57,32,119,105,110,100,111,119,115])) ε))) (dy))
 (aN (xt a.Slit "came" 0 (dV 1))
 (cy (dL cb (az (bf (nK a.Slit "came" "width" 0 (qY a))) (aL))))))
def jx(a:Ad):aj->R Slot:=gq 2 [0] (bu 0 (G9 a))
theorem Ip:bN ["self","window"] ["self","window"] (aP A_):=by ac_nf
theorem wM(G:cU K mg base a):nz (b8 P w) P w K mg base a.Slit "come" 16 ["self","window"] (br K (jx a)) :=
 wl (k:=15) (pin:=[0]) G.ya9 Ip rfl (λ_ _ _ _ _ _ us hl=>Pu.Rg (λ_ _=>rfl) us hl) (λf aE A outer s H E hr=>by exact
  (bt (l7 (cH (MW G) (hr.mono (by decide)) cc (ba (ax 1) (ba (Dd 0 "came" G.k_Slit G.ya2) bW))))
  (bt (fE (fu (kJ hr.units) kq (E7 0 G.k_Slit G.ya1 iJ iL G.yaU iG) (t0 G.ybe) rfl) (bq (pA oN rfl G.ya4 r8 (cN [97,32,115,108,105,116,32,116,97,107,101,115,32,117,112,32,116,111,32,57,32,119,105,110,100,111,119,115]))) fz)
  (bt (MJ 0 G.k_Slit G.ya1 (ax 1))
  (bq (dY (cT iJ iL G.yaU iG (aK ((Gi 0 G.k_Slit G.ya1 G.ya2 (FH G) (hr.mono (by decide)) cc)).de bb))))))))
def yaI(a:Ad):aj->R aT:=aN (cM 1 (bf (bh (ku a) (gV (dV 0) (gV (dC (.str [59])) (bT))))))
 (aN (cM 2 (d2 bL (dV 1) (dC (.int 1))))
 (aN (bX (fS (dB (d2 (ge λi j=>decide (j<i)) (dL cb (az (dV 2) (aL))) (dC (.int 9)))) (iW (dB (dL pD (az (dF (fG [1] (dO (dV 2)) (dR) (bf (bh (jY a) (gV (dV 0) (gV (d2 bL (dV 1) (dC (.int 0))) (gV (dC (.str [97,98,99])) (bT)))))))) (aL)))))) (ma (.ref a.BadText) (λε=>ce ((dC (.str [116,104,101,32,116,101,120,116,32,119,114,105,116,101,115,32,110,111,32,115,108,105,116])) ε))) (dy))
 (aN (fi 3 (ph a.Slit (nP a) (gV (d2 bL (dV 1) (dC (.int 0))) (bT))))
 (aN (λε=>gk (gM 4 (dO (dV 2)) (eJ (iZ a.Slit "come" 3 (jx a) (gV (dV 4) (bT)))) ε))
 (pE 3)))))
def j2(a:Ad):aj->R Slot:=bM 1 [] (bu 4 (yaI a))
theorem Iu:bN ["text","found","windows","slit","window"] ["text"] (aP vX):=by ac_nf
theorem EX(G:cU K mg base a):cF (b8 P w) P w K mg base "slit_of" 17 ["text"] (br K (j2 a)) :=
 eE (k:=16) (pin:=[]) G.yaI Iu rfl (λ_ _ _ _ _ _ us hl=>Pu.Rw (λ_=>rfl) us hl) (λf aE A outer s H E hr=>by exact
  (bt (g6 1 Iu.nd ((cH (IS G) (hr.mono (by decide)) cc (ba (ax 0) (ba (rn G.ybf) bW)))).de)
  (bt (g6 2 Iu.nd (il hZ ic (ax 1) bn))
  (bt (fE ((l9 (fu Et ml (cT iJ iL G.yaU iG (aK (ax 2) bb)) (t0 G.ybe) rfl) (oO (lq (lL (cT (AO rfl) Bi G.yaP Bc (aK (oJ (cap:=[1]) (N':=["window","found"]) (nu.of ["text","found","windows","slit","window"] (aP vX) rfl rfl (by decide +kernel)) rfl (kL (ax 2)) (λC s₀ H₀ ex pn=>by exact oU) (λC s₀ H₀ ex pn=>by exact((cH (zo G) (hr.mono (by decide)) jy (ba (ax 0) (ba (il hZ ic (ax 1) bn) (ba (rn G.ybd) bW))))).de)).de bb))))))).dt (bq (pA oN rfl G.ya3 r8 (cN [116,104,101,32,116,101,120,116,32,119,114,105,116,101,115,32,110,111,32,115,108,105,116]))) fz)
  (bt (nL 3 Iu.nd (Dk (Fv G) (hr.mono (by decide)) cc G.yak (ba (il hZ ic (ax 1) bn) bW)))
  (bt (o5 (o8 4 rZ rfl Iu.nd (kL (ax 2)) (bq (l7 (vI 3 G.k_Slit (wM G) (hr.mono (by decide)) jy (ba (ax 4) bW))))))
  (bq (Ae 3))))))))
theorem Nr:bN ["_law_script","_law_town","_law_some"] ["_law_script","_law_town","_law_some"] (aP A5):=by ac_nf
theorem Qq(G:cU K mg base a):cF (b8 P w) P w K mg base "_law_pick" 4 ["_law_script","_law_town","_law_some"] (br K (wj a)) :=
 eE (k:=3) (pin:=[1]) G.yaE Nr rfl (λ_ _ _ _ _ _ us hl=>Pu.Rs (λ_ _ _=>rfl) us hl) (λf aE A outer s H E hr=>by exact
  (bq (dY (il hZ ic (ax 2) ((cH (qx G) (hr.mono (by decide)) cc (ba (ax 0) (jm 1 (ba (cT iJ iL G.yaU iG (aK (ax 2) bb)) bW))))).de))))
theorem Qw:bN ["_law_script","_law_town","_law_low","_law_most","_law_few","_law_made","_law_k"] ["_law_script","_law_town","_law_low","_law_most"] (aP zD):=by ac_nf
theorem JK(G:cU K mg base a):cF (b8 P w) P w K mg base "_law_text" 5 ["_law_script","_law_town","_law_low","_law_most"] (br K (oV a)) :=
 eE (k:=4) (pin:=[1]) G.yaF Qw rfl (λ_ _ _ _ _ _ us hl=>Pu.RJ (λ_ _ _ _=>rfl) us hl) (λf aE A outer s H E hr=>by exact
  (bt (g6 4 Qw.nd ((cH (Qq G) (hr.mono (by decide)) cc (ba (ax 0) (jm 1 (ba (mn (aK bn (aK bn (aK bn (aK bn (aK bn (aK bn bb))))))) bW))))).de)
  (bt (g6 5 Qw.nd (cN []))
  (bt (o5 (o8 6 rZ rfl Qw.nd (C7 G.yaW (aK (bE dE dz (ax 2) ((cH (qx G) (hr.mono (by decide)) jy (ba (ax 0) (jm 1 (ba (bE dE dz (bE yD yI (ax 3) (ax 2)) bn) bW))))).de) bb)) (bq (g6 5 Qw.nd (bE dE dz (ax 5) (il hZ ic (cN [97,98,99]) ((cH (qx G) (hr.mono (by decide)) jy (ba (ax 0) (jm 1 (ba (ax 4) bW))))).de))))))
  (bq (dY (ax 5)))))))
def C6(a:Ad):aj->R aT:=cy (dF (jQ (λxs=>nN (qU xs)) a.Slit "came" 0))
def lj(a:Ad):aj->R Slot:=gq 1 [0] (bu 0 (C6 a))
theorem Pt:bN ["self"] ["self"] (aP zh):=by ac_nf
theorem wg(G:cU K mg base a):nz (b8 P w) P w K mg base a.Slit "windows" 1 ["self"] (br K (lj a)) :=
 wl (k:=0) (pin:=[0]) G.ybc Pt rfl (λ_ _ _ _ _ _ us hl=>Pu.Rw (λ_=>rfl) us hl) (λf aE A outer s H E hr=>by exact
  (bq (dY (OO 0 G.k_Slit G.ya1 GX Ff G.yaV Du).de)))
def yaJ(a:Ad):aj->R aT:=l8 (bh (qy a) (gV (qt a.Slit "came" 0 "width") (gV (dC (.str [59])) (gV (bf (dI a.Slit "windows" 0 (lj a))) (bT)))))
def nt(a:Ad):aj->R Slot:=gq 1 [0] (bu 0 (yaJ a))
theorem Kx:bN ["slit"] ["slit"] (aP yO):=by ac_nf
theorem EL(G:cU K mg base a):cF (b8 P w) P w K mg base "slit_text" 2 ["slit"] (br K (nt a)) :=
 MM (k:=1) (pin:=[0]) G.yaJ Kx rfl (λ_ _ _ _ _ _ us hl=>Pu.Rw (λ_=>rfl) us hl) (λf aE A outer s H E hr=>by exact
  (bq (sI (cH (DB G) (hr.mono (by decide)) cc (ba (Dd 0 "came" G.k_Slit G.ya2) (ba (rn G.ybf) (ba ((nV 0 G.k_Slit (wg G) (hr.mono (by decide)) cc)).de bW)))))))
theorem J_:bN ["_law_e","_law_own"] ["_law_e"] (aP zw):=by ac_nf
theorem LF(G:cU K mg base a):vT P w K mg base "_law_which" 1 ["_law_e"] (br K (tN a)) :=
 Ki (k:=0) (pin:=[]) G.yaG J_ rfl (λ_ _ _ _ _ _ us hl=>Pu.Rw (λ_=>rfl) us hl) (λf aE A outer s H hr=>by exact
  (bt (nL 1 J_.nd (o0 (aK (cT jX (jS G.tab) G.yaT gQ (aK (ax 0) (aK (kD G.yaf) bb))) (aK (cT jX (jS G.tab) G.yaT gQ (aK (ax 0) (aK (kD G.yah) bb))) (aK (cT jX (jS G.tab) G.yaT gQ (aK (ax 0) (aK (kD G.yag) bb))) (aK (cT jX (jS G.tab) G.yaT gQ (aK (ax 0) (aK (kD G.yai) bb))) bb))))))
  (bt (ED 1 (mn (aK (cT jX (jS G.tab) G.yaT gQ (aK (ax 0) (aK (kD G.yac) bb))) (aK (cT jX (jS G.tab) G.yaT gQ (aK (ax 0) (aK (kD G.yab) bb))) (aK (cT jX (jS G.tab) G.yaT gQ (aK (ax 0) (aK (kD G.yaj) bb))) (aK (cT jX (jS G.tab) G.yaT gQ (aK (ax 0) (aK (kD G.yam) bb))) bb))))))
  (bt (ED 1 (mn (aK (cT jX (jS G.tab) G.yaT gQ (aK (ax 0) (aK (kD G.yae) bb))) (aK (cT jX (jS G.tab) G.yaT gQ (aK (ax 0) (aK (kD G.yad) bb))) (aK (cT jX (jS G.tab) G.yaT gQ (aK (ax 0) (aK (kD G.yaa) bb))) bb)))))
  (bt (fE ((l9 (fu (ln hr.units) lG (KJ 1 nB) bn rfl) (oO (lq (lL (cT jX (jS G.tab) G.yaT gQ (aK (ax 0) (aK (oS G.yaO OK) bb)))))))).dt (bq (dY (qG (aK (cN [114,101,102,117,115,101,100]) (aK (tw sU t8 bn) bb))))) fz)
  (bq (dY (qG (aK (cN [114,101,102,117,115,101,100]) (aK (Jm 1 nB) bb))))))))))
def yaA(a:Ad):aj->R aT:=wE 1 (qw a) (vi a.Slit "windows" (j2 a) (lj a) (gV (dV 0) (bT))) (l8 (λε=>ce (bh (tN a) (gV (dV 1) (bT)) ε)))
def mq(a:Ad):aj->R Slot:=bM 1 [] (bu 1 (yaA a))
theorem PB:bN ["_law_thing","_law_e"] ["_law_thing"] (aP y_):=by ac_nf
theorem Dv(G:cU K mg base a):cF (b8 P w) P w K mg base "_law_ask" 18 ["_law_thing"] (br K (mq a)) :=
 eE (k:=17) (pin:=[]) G.yaA PB rfl (λ_ _ _ _ _ _ us hl=>Pu.Rw (λ_=>rfl) us hl) (λf aE A outer s H E hr=>by
  have hrh:=λad=>bZ.hand (v:=aa (.ref ad)) hr;exact
  (bq (Lo 1 PB.nd (Pg G.k_Slit (EX G) (hr.mono (by decide)) (wg G) (hr.mono (by decide)) (ba (ax 0) bW)) G.yal G.err_SlitError G.und (λad=>by exact(bq (sI (M4 (LF G) ((hrh ad).mono (by decide)) (ba (ax 1) bW))))))))
def Fb(a:Ad):aj->R aT:=aN (bX (dB (d2 (eqT ak) (jQ (λxs=>g7 (cb xs)) a.Slit "came" 0) (dC (.int 0)))) (ma (.ref a.Nothing) (λε=>ce ((dC (.str [116,104,101,114,101,32,105,115,32,110,111,32,119,105,110,100,111,119,32,116,111,32,116,97,107,101,32,98,97,99,107])) ε))) (dy))
 (cy (vL a.Slit "came" 0))
def iK(a:Ad):aj->R Slot:=gq 1 [0] (bu 0 (Fb a))
theorem JA:bN ["self"] ["self"] (aP zA):=by ac_nf
theorem y6(G:cU K mg base a):nz (b8 P w) P w K mg base a.Slit "undo" 1 ["self"] (br K (iK a)) :=
 wl (k:=0) (pin:=[0]) G.ybb JA rfl (λ_ _ _ _ _ _ us hl=>Pu.Rw (λ_=>rfl) us hl) (λf aE A outer s H E hr=>by exact
  (bt (fE (fu (kJ hr.units) kq (E7 0 G.k_Slit G.ya1 iJ iL G.yaU iG) bn rfl) (bq (pA oN rfl G.ya8 r8 (cN [116,104,101,114,101,32,105,115,32,110,111,32,119,105,110,100,111,119,32,116,111,32,116,97,107,101,32,98,97,99,107]))) fz)
  (bq (dY (IP 0 G.k_Slit G.ya1)))))
def vN(a:Ad):aj->R aT:=aN (cM 1 (bf (nK a.Slit "came" "width" 0 (qY a))))
 (cy (bX (dB (d2 (eqT ak) (dL cb (az (dV 1) (aL))) (dC (.int 1)))) (d2 bL (dV 1) (dC (.int 0))) (dC .non)))
def lI(a:Ad):aj->R Slot:=gq 1 [0] (bu 1 (vN a))
theorem P3:bN ["self","having"] ["self"] (aP z7):=by ac_nf
theorem CH(G:cU K mg base a):nz (b8 P w) P w K mg base a.Slit "told" 16 ["self"] (br K (lI a)) :=
 wl (k:=15) (pin:=[0]) G.yba P3 rfl (λ_ _ _ _ _ _ us hl=>Pu.Rw (λ_=>rfl) us hl) (λf aE A outer s H E hr=>by exact
  (bt (g6 1 P3.nd ((Gi 0 G.k_Slit G.ya1 G.ya2 (FH G) (hr.mono (by decide)) cc)).de)
  (bq (dY (Fk (fu (kJ hr.units) kq (cT iJ iL G.yaU iG (aK (ax 1) bb)) bn rfl) (il hZ ic (ax 1) bn) CA)))))
def yaz(a:Ad):aj->R aT:=aN (fi 1 (dL c8 (aL)))
 (aN (cM 2 (bf (bh (iz a) (gV (dV 0) (gO 1 (gV (dC (.int 7)) (bT)))))))
 (aN (cM 3 (d2 aW (dC (.int 1)) (bf (bh (iz a) (gV (dV 0) (gO 1 (gV (dC (.int 4)) (bT))))))))
 (aN (fi 4 (ph a.Slit (nP a) (gV (dV 3) (bT))))
 (aN (fi 5 (dL c8 (aL)))
 (aN (λε=>gk (gM 6 (dL nH (az (bf (bh (iz a) (gV (dV 0) (gO 1 (gV (dC (.int 10)) (bT)))))) (aL))) (aN (kB 5 (bf (bh (oV a) (gV (dV 0) (gO 1 (gV (dV 3) (gV (dV 3) (bT))))))))
 (eJ (iZ a.Slit "come" 4 (jx a) (gV (jj bL 5 (d1 gh (dC (.int 1)))) (bT))))) ε))
 (aN (bX (oP (dB (jj (eqT ah) 5 (dF (dL c8 (aL))))) (dB (d2 (eqT ak) (d2 fV (dV 2) (dC (.int 2))) (dC (.int 0))))) (aN (eJ (dI a.Slit "undo" 4 (iK a)))
 (cM 5 (jM i5 (dM 5) (jP) (iq (d1 gh (dC (.int 1))))))) (dy))
 (aN (cM 7 (d2 aW (d2 aW (dL jZ (az (dV 3) (aL))) (dC (.str [59]))) (lC oW (dC (.str [])) (az (dF (fG [] (dO (eZ 5)) (dR) (d2 aW (dC (.str [32])) (dV 0)))) (aL)))))
 (aN (fi 8 (lE (bh (j2 a) (gV (dV 7) (bT)))))
 (aN (bX (fS (dB (d2 (eqT ah) (bf (bh (nt a) (gO 4 (bT)))) (dV 7))) (fS (dB (d2 (eqT ah) (bf (dI a.Slit "windows" 8 (lj a))) (eZ 5))) (dB (d2 (eqT ah) (bf (dI a.Slit "told" 8 (lI a))) (bf (dI a.Slit "told" 4 (lI a))))))) (cy (dC (.bl ak))) (dy))
 (aN (bX (dB (d2 (ge λi j=>decide (i<j)) (dL cb (az (eZ 5) (aL))) (dC (.int 9)))) (aN (eJ (iZ a.Slit "come" 4 (jx a) (gV (d2 cG (dC (.str [97])) (dV 3)) (bT))))
 (bX (fS (dB (d2 (eqT ah) (bf (dI a.Slit "windows" 8 (lj a))) (eZ 5))) (fS (dB (d2 (ge λi j=>decide (i<j)) (bf (iZ a.Slit "come" 8 (jx a) (gV (d2 cG (dC (.str [97])) (dV 3)) (bT)))) (dC (.int 0)))) (dB (d2 (eqT ah) (bf (dI a.Slit "undo" 8 (iK a))) (d2 cG (dC (.str [97])) (dV 3)))))) (cy (dC (.bl ak))) (dy))) (dy))
 (aN (bX (fS (dB (d2 (eqT ah) (dF (fG [8] (dO (eZ 5)) (dR) (bf (dI a.Slit "undo" 1 (iK a))))) (tO (eZ 5) (iq (d1 gh (dC (.int 1))))))) (dB (d2 (eqT ah) (bf (bh (nt a) (gO 8 (bT)))) (d2 aW (dL jZ (az (dV 3) (aL))) (dC (.str [59])))))) (cy (dC (.bl ak))) (dy))
 (aN (cM 9 (dF (dL c8 (az (d2 aW (dV 7) (dC (.str [32]))) (az (d2 aW (dV 7) (d2 cG (dC (.str [32,100])) (dV 3))) (az (d2 aW (dC (.str [32])) (dV 7)) (az (dC (.str [53,59])) (az (d2 aW (d2 aW (dV 7) (dC (.str [32]))) (d2 cG (dC (.str [97])) (d2 aW (dV 3) (dC (.int 1))))) (aL)))))))))
 (aN (cM 9 (d2 bL (d2 aW (dV 9) (dF (dL c8 (az (d2 aW (dL jZ (az (dV 3) (aL))) (d2 cG (dC (.str [59,32])) (dC (.int 2)))) (az (dC .non) (aL)))))) (dV 2)))
 (cy (ki (d2 (eqT ak) (bf (bh (mq a) (gV (dV 9) (bT)))) (dL jb (az (dC (.str [114,101,102,117,115,101,100])) (az (dC (.int 10)) (aL))))) (d2 (eqT ak) (bf (bh (mq a) (gV (d2 aW (dC (.str [49,59])) (d2 cG (dC (.str [32,97])) (dC (.int 10)))) (bT)))) (dL jb (az (dC (.str [114,101,102,117,115,101,100])) (az (dC (.int 10)) (aL))))))))))))))))))))
def sR(a:Ad):aj->R Slot:=bM 1 [] (bu 9 (yaz a))
theorem M7:bN ["_law_script","_law_town","_law_way","_law_width","_law_slit","_law_row","_law_k","_law_text_here","_law_other","_law_bad"] ["_law_script"] (aP qp):=by ac_nf
theorem MP(G:cU K mg base a){f:af}{fd:e_}(Fn:ko K "law" "law" qp f fd):ez P w K mg base (b8 P w) 19 f fd ["_law_script"] (br K (sR a)) :=
 Er (k:=18) (pin:=[]) Fn M7 rfl (λ_ _ _ _ _ _ us hl=>Pu.Rw (λ_=>rfl) us hl) (λf aE A outer s H E hr=>by exact
  (bt (nL 1 M7.nd (o0 bb))
  (bt (g6 2 M7.nd ((cH (qx G) (hr.mono (by decide)) cc (ba (ax 0) (jm 1 (ba bn bW))))).de)
  (bt (g6 3 M7.nd (bE dE dz bn ((cH (qx G) (hr.mono (by decide)) cc (ba (ax 0) (jm 1 (ba bn bW))))).de))
  (bt (nL 4 M7.nd (Dk (Fv G) (hr.mono (by decide)) cc G.yak (ba (ax 3) bW)))
  (bt (nL 5 M7.nd (o0 bb))
  (bt (o5 (o8 6 rZ rfl M7.nd (C7 G.yaW (aK ((cH (qx G) (hr.mono (by decide)) jy (ba (ax 0) (jm 1 (ba bn bW))))).de bb)) (bt (zY 5 ((cH (JK G) (hr.mono (by decide)) jy (ba (ax 0) (jm 1 (ba (ax 3) (ba (ax 3) bW)))))).de)
  (bq (l7 (vI 4 G.k_Slit (wM G) (hr.mono (by decide)) jy (ba (Pj 5 hZ ic (tw sU t8 bn)) bW)))))))
  (bt (fE ((LL (JP 5 (ln hr.units) lG (mn bb) rfl) (IQ (fu (kJ hr.units) kq (bE qA rE (ax 2) bn) bn rfl)))).dt (bt (l7 (nV 4 G.k_Slit (y6 G) (hr.mono (by decide)) cc))
  (bq (g6 5 M7.nd (w8 xv xj (GS 5) wp (sL (tw sU t8 bn)))))) fz)
  (bt (g6 7 M7.nd (bE dE dz (bE dE dz (rC wX w_ G.yaZ qK (aK (ax 3) bb)) (cN [59])) (zF PySem.F.slot_str_join PySem.F.type_str_join Dm E_ (cN []) (aK (oJ (cap:=[]) (N':=["_law_window"]) (nu.of ["_law_script","_law_town","_law_way","_law_width","_law_slit","_law_row","_law_k","_law_text_here","_law_other","_law_bad"] (aP qp) rfl rfl (by decide +kernel)) rfl (kL (qr 5)) (λC s₀ H₀ ex pn=>by exact oU) (λC s₀ H₀ ex pn=>by exact(bE dE dz (cN [32]) (ax 0)))).de bb))))
  (bt (nL 8 M7.nd (((cH (EX G) (hr.mono (by decide)) cc (ba (ax 7) bW))).dn))
  (bt (fE ((l9 (fu (ln hr.units) lG ((cH (EL G) (hr.mono (by decide)) cc (jm 4 bW))).de (ax 7) rfl) (l9 (fu (ln hr.units) lG ((nV 8 G.k_Slit (wg G) (hr.mono (by decide)) cc)).de (qr 5) rfl) (oO (fu (ln hr.units) lG ((nV 8 G.k_Slit (CH G) (hr.mono (by decide)) cc)).de ((nV 4 G.k_Slit (CH G) (hr.mono (by decide)) cc)).de rfl))))).dt (bq (dY nB)) fz)
  (bt (fE (fu AL ml (cT iJ iL G.yaU iG (aK (qr 5) bb)) bn rfl) (bt (l7 (vI 4 G.k_Slit (wM G) (hr.mono (by decide)) cc (ba (bE lD lz (cN [97]) (ax 3)) bW)))
  (bq (fE ((l9 (fu (ln hr.units) lG ((nV 8 G.k_Slit (wg G) (hr.mono (by decide)) cc)).de (qr 5) rfl) (l9 (fu AL ml ((vI 8 G.k_Slit (wM G) (hr.mono (by decide)) cc (ba (bE lD lz (cN [97]) (ax 3)) bW))).de bn rfl) (oO (fu (ln hr.units) lG ((nV 8 G.k_Slit (y6 G) (hr.mono (by decide)) cc)).de (bE lD lz (cN [97]) (ax 3)) rfl))))).dt (bq (dY nB)) fz))) fz)
  (bt (fE ((l9 (fu (ln hr.units) lG (oJ (cap:=[8]) (N':=["_law_window","_law_other"]) (nu.of ["_law_script","_law_town","_law_way","_law_width","_law_slit","_law_row","_law_k","_law_text_here","_law_other","_law_bad"] (aP qp) rfl rfl (by decide +kernel)) rfl (kL (qr 5)) (λC s₀ H₀ ex pn=>by exact oU) (λC s₀ H₀ ex pn=>by exact((nV 1 G.k_Slit (y6 G) (hr.mono (by decide)) jy)).de)).de (KN (qr 5) (sL (tw sU t8 bn))) rfl) (oO (fu (ln hr.units) lG ((cH (EL G) (hr.mono (by decide)) cc (jm 8 bW))).de (bE dE dz (rC wX w_ G.yaZ qK (aK (ax 3) bb)) (cN [59])) rfl)))).dt (bq (dY nB)) fz)
  (bt (g6 9 M7.nd (mn (aK (bE dE dz (ax 7) (cN [32])) (aK (bE dE dz (ax 7) (bE lD lz (cN [32,100]) (ax 3))) (aK (bE dE dz (cN [32]) (ax 7)) (aK (cN [53,59]) (aK (bE dE dz (bE dE dz (ax 7) (cN [32])) (bE lD lz (cN [97]) (bE dE dz (ax 3) bn))) bb)))))))
  (bt (g6 9 M7.nd (il hZ ic (bE dE dz (ax 9) (mn (aK (bE dE dz (rC wX w_ G.yaZ qK (aK (ax 3) bb)) (bE lD lz (cN [59,32]) bn)) (aK CA bb)))) (ax 2)))
  (bq (dY (q8 (t4 (kJ hr.units) kq ((cH (Dv G) (hr.mono (by decide)) cc (ba (ax 9) bW))).de (qG (aK (cN [114,101,102,117,115,101,100]) (aK bn bb))) rfl) (sF (t4 (kJ hr.units) kq ((cH (Dv G) (hr.mono (by decide)) cc (ba (bE dE dz (cN [49,59]) (bE lD lz (cN [32,97]) bn)) bW))).de (qG (aK (cN [114,101,102,117,115,101,100]) (aK bn bb))) rfl))))))))))))))))))))
end
end K39
namespace Mx
open L2 Pu
def bj:Tx:=[97,98,99]
def dQ:Nat->List Tx
 | 0=>[[]]
 | k+1=>bj.flatMap λc=>(dQ k).map (c::·)
theorem mj:∀ (k:Nat) (x:Tx),x∈dQ k↔x.length=k/\∀ c∈x,c∈bj
 | 0,x=>by
  simp only[dQ,gG];constructor
  ·rintro rfl; simp
  ·rintro⟨h,_⟩; exact BY.mp h
 | k+1,x=>by
  simp only[dQ,uD,dW];constructor
  ·rintro⟨c,hc,y,hy,rfl⟩;obtain⟨h1,h2⟩:=(mj k y).mp hy;refine⟨by simp[h1],λd hd=>?_⟩;rcases bV.mp hd with rfl | hd
   ·exact hc
   ·exact h2 d hd
  ·rintro⟨h1,h2⟩;cases x with
   | nil=>cases h1
   | cons c y=>exact⟨c,h2 c (by simp),y,(mj k y).mpr ⟨ya h1,λd hd=>h2 d (by simp[hd])⟩,rfl⟩
theorem AY:∀ k:Nat,(dQ k).length=3 ^ k
 | 0=>rfl
 | k+1=>by simp only[dQ,bj,r9,HS,dr,cX,AY k,kR,Nat.pow_succ];lia
theorem MN(i j:Nat):dQ (i+j)=(dQ i).flatMap λh=>(dQ j).map (h++·):=by
 induction i with
 | zero=>simp[dQ]
 | succ i ih=>rw[show i+1+j=(i+j)+1 by lia];simp only[dQ,ih,List.flatMap_assoc,List.map_flatMap,List.flatMap_map,eP,Hx,HR]
theorem AJ:∀ k:Nat,(dQ k).Pairwise (λa b=>a<b)
 | 0=>by simp[dQ]
 | k+1=>by
  simp only[dQ];rw[List.pairwise_flatMap];refine⟨λc _=>?_,?_⟩
  ·rw[Hw];exact(AJ k).imp λh=>List.cons_lt_cons_iff.mpr (.inr ⟨rfl,h⟩)
  ·have:bj.Pairwise (λa b=>a<b):=by decide
   refine this.imp λh=>?_;intro x hx y hy;obtain⟨x',_,rfl⟩:=dW.mp hx;obtain⟨y',_,rfl⟩:=dW.mp hy;exact List.cons_lt_cons_iff.mpr (.inl h)
theorem Iz{a b:Tx}(h:a<b):d_ a b=ah:=by simp only[d_,decide_eq_true_eq];exact List.le_of_lt h
theorem Jc(k:Nat):(dQ k).Pairwise (λa b=>d_ a b=ah):=(AJ k).imp Iz
theorem EV(k:Nat):(dQ k).Nodup:=(AJ k).imp λh z=>by subst z; exact List.lt_irrefl _ h
def cp(z:Tx)(w:Nat):List Tx:=((bJ z.length).filter λi=>decide (i+w<=z.length)).map λi=>(z.drop i).take w
theorem Fd(w L:Nat):∀ m:Nat,(bJ m).filter (λi=>decide (i+w<=L))=bJ (min m (L+1-w))
 | 0=>by simp
 | m+1=>by
  rw[ur,List.filter_append,Fd w L m];by_cases h:m+w<=L
  ·rw[show min m (L+1-w)=m by lia,show min (m+1) (L+1-w)=m+1 by lia,ur];simp[h]
  ·rw[show min (m+1) (L+1-w)=min m (L+1-w) by lia];simp[h]
theorem q_(z:Tx)(w:Nat)(hw:1<=w):cp z w=(bJ (z.length+1-w)).map λi=>(z.drop i).take w:=by unfold cp;rw[Fd,show min z.length (z.length+1-w)=z.length+1-w by lia]
def nw(w:Nat)(t:Tx):Tx->List Tx
 | []=>[]
 | c::s=>(t.drop (t.length+1-w)++[c])::nw w (t++[c]) s
theorem Gp(w:Nat)(hw:1<=w):∀ (s t:Tx),w<=t.length+1->nw w t s=(bJ s.length).map λi=>((t++s).drop (t.length+1-w+i)).take w
 | [],t,_=>by simp[nw]
 | c::s,t,h=>by
  rw[nw,Gp w hw s (t++[c]) (by simp; lia),dq,xR,fI,eP];congr 1
  ·show _=((t++c::s).drop (t.length+1-w)).take w;rw[HU ∅,List.take_append];have e1:(t.drop (t.length+1-w)).length=w-1:=by rw[jF]; lia
   rw[e1,xU (by rw[e1]; lia),show w-(w-1)=1 by lia];rfl
  ·refine iB λi _=>?_;simp only[yd];rw[dr,p7,show t.length+1+1-w+i=t.length+1-w+Nat.succ i by lia];simp
theorem Db{w:Nat}(hw:1<=w){h s:Tx}(hh:h.length=w-1):cp (h++s) w=nw w h s:=by rw[q_ _ _ hw,Gp w hw s h ∅,dr,show h.length+s.length+1-w=s.length by lia];refine iB λi _=>?_;rw[show h.length+1-w+i=i by lia]
def g_(w:Nat):Nat->Tx->List Tx->List Tx
 | 0,t,_=>[t]
 | r+1,t,q=>bj.flatMap λc=>if t.drop (t.length+1-w)++[c]∈q then g_ w r (t++[c]) (q.erase (t.drop (t.length+1-w)++[c]))else []
theorem CF(w:Nat):∀ (r:Nat) (t:Tx) (q:List Tx),q.length=r->g_ w r t q=((dQ r).filter λs=>(nw w t s).isPerm q).map (t++·)
 | 0,t,q,hq=>by have:q=[]:=BY.mp hq;subst this;simp[g_,dQ,nw,List.isPerm]
 | r+1,t,q,hq=>by
  simp only[g_,dQ,List.filter_flatMap,List.map_flatMap];congr 1;funext c;rw[List.filter_map,eP];by_cases h:t.drop (t.length+1-w)++[c]∈q
  ·rw[if_pos h,CF w r (t++[c]) _ (by rw[HV h,hq]; rfl)];have e:((λs=>(nw w t s).isPerm q) ∘ λx=>c::x)=λs=>(nw w (t++[c]) s).isPerm (q.erase (t.drop (t.length+1-w)++[c])):=by funext s;show(q.contains (t.drop (t.length+1-w)++[c]) && (nw w (t++[c]) s).isPerm (q.erase (t.drop (t.length+1-w)++[c])))=_;rw[List.contains_iff_mem.mpr h,BI]
   rw[e];refine iB λs _=>?_;simp
  ·rw[if_neg h];have e:((λs=>(nw w t s).isPerm q) ∘ λx=>c::x)=λ_=>ak:=by
    funext s;show(q.contains (t.drop (t.length+1-w)++[c]) && (nw w (t++[c]) s).isPerm (q.erase (t.drop (t.length+1-w)++[c])))=_;have:q.contains (t.drop (t.length+1-w)++[c])=ak:=by rw[BR]; intro z; exact h (List.contains_iff_mem.mp z)
    rw[this,Bool.false_and]
   rw[e];simp
def jq(w:Nat)(ls:List Tx):List Tx:=(bO (eW (ls.map qc))).flatMap λh=>g_ w ls.length h ls
theorem M9{α β:Type}{l:List α}{f:α->List β}(p:α->Bool)(h:∀ x∈l,p x=ak->f x=[]):l.flatMap f=(l.filter p).flatMap f:=by
 induction l with
 | nil=>rfl
 | cons x l ih=>
  rw[r9,ih λy hy=>h y (by simp[hy]),xP];cases e:p x with
  | true=>simp
  | false=>rw[h x (by simp) e]; simp
theorem AI{w:Nat}{ls:List Tx}(hw:1<=w)(hn:1<=ls.length)(hl:∀ x∈ls,x.length=w/\∀ c∈x,c∈bj) : jq w ls=(dQ (w-1+ls.length)).filter λz=>(cp z w).isPerm ls:=by
 rw[MN,List.filter_flatMap];have e1:(λh=>((dQ ls.length).map (h++·)).filter λz=>(cp z w).isPerm ls)=λh=>((dQ ls.length).filter λs=>(cp (h++s) w).isPerm ls).map (h++·):=by funext h;rw[List.filter_map]; rfl
 rw[e1,M9 (λh=>decide (h∈ls.map qc))]
 ·have e2:(dQ (w-1)).filter (λh=>decide (h∈ls.map qc))=bO (eW (ls.map qc)):=by
   refine re ?_ ((Jc (w-1)).filter _);refine(HW ((EV (w-1)).filter _) (A9 _)).mpr λx=>?_;rw[lM,decide_eq_true_eq,nv,mj];refine⟨λh=>h.2,λh=>⟨?_,h⟩⟩;obtain⟨y,hy,rfl⟩:=dW.mp h;obtain⟨h1,h2⟩:=hl y hy;exact⟨by rw[xO,h1],λc hc=>h2 c ((List.dropLast_sublist _).mem hc)⟩
  rw[e2];unfold jq;have:∀ l:List Tx,(∀ h∈l,h.length=w-1)->l.flatMap (λh=>g_ w ls.length h ls)=l.flatMap λh=>((dQ ls.length).filter λs=>(cp (h++s) w).isPerm ls).map (h++·):=by
   intro l
   induction l with
   | nil=>intro _; rfl
   | cons h l ih=>
    intro hh;rw[r9,r9,ih λy hy=>hh y (by simp[hy]),CF w _ h ls rfl];have e3:(λs=>(nw w h s).isPerm ls)=λs=>(cp (h++s) w).isPerm ls:=by funext s; rw[Db hw (hh h (by simp))]
    rw[e3]
  refine this _ λh hh=>?_;have hm:=(nv _ _).mp ((jN _).mem_iff.mp hh);obtain⟨y,hy,rfl⟩:=dW.mp hm;rw[xO,(hl y hy).1]
 ·intro h hh hp;have a8:=((mj _ h).mp hh).1;rw[List.map_eq_nil_iff,List.filter_eq_nil_iff];intro s hs hq;have sy:=((mj _ s).mp hs).1;rw[Db hw a8,List.isPerm_iff]at hq;cases s with
  | nil=>rw[kR]at sy; lia
  | cons c s=>rw[nw,show h.length+1-w=0 by lia,xT]at hq;have:h++[c]∈ls:=hq.mem_iff.mp (by simp);rw[decide_eq_false_iff_not]at hp;exact hp (dW.mpr ⟨_,this,by simp⟩)
def under(w:Nat)(ls:List Tx)(t:Tx):Bool:=(cp t w).all λx=>decide ((cp t w).count x<=ls.count x)
end Mx
namespace Sh
open L2 Pu Mx
theorem AB{α:Type}{f:List PV->Option α}{ds:aj->R (List PV)}{ε ε1:aj}{xs:List PV}{v:α}(h:ds ε = .ok xs ε1)(hf:f xs=aa v):dL f ds ε = .ok v ε1:=by unfold dL; rw[h]; show aO (f xs) ε1=_; rw[hf]; rfl
theorem v_{d:aj->R PV}{ds:aj->R (List PV)}{ε ε1 ε2:aj}{x:PV}{xs:List PV}(h:d ε = .ok x ε1)(hs:ds ε1 = .ok xs ε2):az d ds ε = .ok (x::xs) ε2:=by unfold az; rw[h]; show(ds ε1).bind _=_; rw[hs]; rfl
theorem y0{ε:aj}:aL ε = .ok [] ε:=rfl
theorem jt(pv:PV)(ε:aj):dC pv ε = .ok pv ε:=rfl
theorem gu{f:PV->PV->Option PV}{da db:aj->R PV}{ε ε1 ε2:aj}{x y z:PV}(h:da ε = .ok x ε1)(h2:db ε1 = .ok y ε2)(hf:f x y=aa z):d2 f da db ε = .ok z ε2:=by unfold d2; rw[h]; show(db ε1).bind _=_; rw[h2]; show aO (f x y) ε2=_; rw[hf]; rfl
section
variable{a:Ad}
abbrev df(ns:List Int):Slot:=.val (.lst (ns.map .int))
theorem GI(ns:List Int)(k:Int)(h0:0<=k)(h:k<ns.length):∃ v,eF (ns.map PV.int) k=aa (.int v):=by
 have hk:k.toNat<ns.length:=∅
 refine⟨ns[k.toNat],?_⟩;rw[wP h0 (by rw[cX]; exact hk)];simp
theorem eq_nil(ns:List Int):Pu.eqT ak (.lst (ns.map .int)) (.lst [])=aa (.bl ns.isEmpty):=by
 cases ns with
 | nil=>rfl
 | cons x xs=>
  have hd:∀ l:List Int,iM (l.map .int)=0:=λl=>by induction l with | nil=>rfl | cons y l ih=>simp[iM,jv,ih]
  have:iM ((x::xs).map .int)=0:=hd _;simp only[fI]at this;simp[Pu.eqT,dN,cS,hG,jv,this]
theorem nJ(neg:Bool)(i j:Int):Pu.eqT neg (.int i) (.int j)=aa (.bl (neg ^^ decide (i=j))):=by show(if pF (V.int i) (V.int j)then aa (PV.bl (neg ^^ decide (V.int i=V.int j)))else ae)=_;have:pF (V.int i) (V.int j)=ah:=rfl;rw[if_pos this];simp
theorem zE(neg:Bool)(x y:Tx):Pu.eqT neg (.str x) (.str y)=aa (.bl (neg ^^ decide (x=y))):=by show(if pF (tV x) (tV y)then aa (PV.bl (neg ^^ decide (tV x=tV y)))else ae)=_;have:pF (tV x) (tV y)=ah:=rfl;rw[if_pos this];have e:(tV x=tV y)=(x=y):=propext ⟨Lu,λh=>by rw[h]⟩;simp only[e]
theorem Jk(ns:List Int)(k:Int)(h0:0<=k):∃ v,qN a [df ns,.val (.int k)] = .ok (.val (.int v)) [df ns,.val (.int k)]:=by
 by_cases h:k<ns.length
 ·obtain⟨v,hv⟩:=GI ns k h0 h;refine⟨v,?_⟩;simp![qN,yaB,cb,bL,hv,h]
 ·have e:=eq_nil ns;by_cases hn:ns=[]
  ·subst hn;refine⟨0,?_⟩;simp only[BE,HX]at e;have h':¬ k<0:=∅
   simp![qN,yaB,cb,bL,e,h']
  ·have hpos:0<ns.length:=by cases ns with | nil=>exact absurd rfl hn | cons=>simp
   obtain⟨v,hv⟩:=GI ns (k % ns.length) (Int.emod_nonneg _ ∅) (HY _ ∅);refine⟨v * 31+k,?_⟩;have e2:ns.isEmpty=ak:=by cases ns with | nil=>exact absurd rfl hn | cons=>rfl
   rw[e2]at e;have hm:fV (.int k) (.int (ns.length:Int))=aa (.int (k % ns.length)):=by simp[fV]; lia
   have hmul:cG (.int v) (.int 31)=aa (.int (v * 31)):=by simp[cG,t6]
   simp![qN,yaB,cb,bL,h,e,hm,hv,hmul,aW]
theorem MQ(ns:List Int)(k m:Int)(h0:0<=k)(hm:0<m):∃ v,0<=v/\v<m/\xk a [df ns,.val (.int k),.val (.int m)] = .ok (.val (.int v)) [df ns,.val (.int k),.val (.int m)]:=by
 obtain⟨c,hc⟩:=Jk (a:=a) ns k h0;have d0:0<=(c * 1103515245+7919 * k+12345) % 2147483647:=Int.emod_nonneg _ (by decide);have d1:(c * 1103515245+7919 * k+12345) % 2147483647<2147483647:=HY _ (by decide);have m1:cG (.int c) (.int 1103515245)=aa (.int (c * 1103515245)):=by simp[cG,t6]
 have m2:cG (.int 7919) (.int k)=aa (.int (7919 * k)):=by simp[cG,t6]
 have m3:fV (.int (c * 1103515245+7919 * k+12345)) (.int 2147483647)=aa (.int ((c * 1103515245+7919 * k+12345) % 2147483647)):=by simp[fV]
 generalize (c * 1103515245+7919 * k+12345) % 2147483647=d at d0 d1 m3;have m4:tf (.int d) (.int 5)=aa (.int (d ^ 5)):=by
  have:d.natAbs<2 ^ 64:=∅
  simp[tf,this]
 have m5:fV (.int (d ^ 5)) (.int 2147483647)=aa (.int (d ^ 5 % 2147483647)):=by simp[fV]
 generalize d ^ 5 % 2147483647=d5 at m5;have m6:fV (.int d5) (.int 999983)=aa (.int (d5 % 999983)):=by simp[fV]
 generalize d5 % 999983=d6 at m6;have m7:fV (.int d6) (.int m)=aa (.int (d6 % m)):=by simp[fV,hm]
 refine⟨d6 % m,Int.emod_nonneg _ ∅,HY _ hm,?_⟩;simp![xk,yaD,hc,m1,m2,m3,m4,m5,m6,m7,aW]
theorem rq(ns:List Int)(xs:List PV)(m:Int)(hm:0<m)(hx:xs.length<=1000):∃ v,0<=v/\v<m/\iz a [df ns,.own (.lst xs),.val (.int m)] = .ok (.val (.int v)) [df ns,.own (.lst (xs++[.int 0])),.val (.int m)]:=by
 obtain⟨v,v0,v1,hv⟩:=MQ (a:=a) ns ((xs.length:Int)+1) m ∅ hm;refine⟨v,v0,v1,?_⟩;have hx':xs.length<bi:=by unfold bi; lia
 simp![iz,yaC,cb,hx',hv]
theorem Eb{α:Type}(ps:List α)(v:Int)(h0:0<=v)(h1:v<ps.length):∃ x∈ps,eF ps v=aa x:=by
 have hk:v.toNat<ps.length:=∅
 exact⟨ps[v.toNat],BJ _,wP h0 hk⟩
theorem OM(ns:List Int)(xs ps:List PV)(hx:xs.length<=1000)(hp:0<ps.length):∃ x∈ps,wj a [df ns,.own (.lst xs),.val (.lst ps)] = .ok (.val x) [df ns,.own (.lst (xs++[.int 0])),.val (.lst ps)]:=by obtain⟨v,v0,v1,hv⟩:=rq (a:=a) ns xs (ps.length:Nat) ∅ hx;obtain⟨x,hm,lV⟩:=Eb ps v v0 v1;refine⟨x,hm,?_⟩;simp![wj,yaE,cb,bL,hv,lV]
theorem FR{n:Nat}(h:n<=1000000):nH [.int n]=aa (ik 0 n):=by show(if(n:Int)<=1000000/\-1000000<=(n:Int)then aa (ik 0 (n:Int).toNat)else ae)=_;rw[if_pos ⟨∅,∅⟩]; simp
theorem ir{x y:Tx}(h:x.length+y.length<=bi):aW (.str x) (.str y)=aa (.str (x++y)):=by show(if(x++y).length<=bi then aa (PV.str (x++y))else ae)=_;rw[if_pos (by rw[dr]; exact h)]
theorem eG{d1 d2:aj->R aT}{ε ε1:aj}(h:d1 ε = .ok .next ε1):aN d1 d2 ε=d2 ε1:=by unfold aN; rw[h]
theorem AK{i:Nat}{d:aj->R PV}{ε ε1:aj}{x:PV}(h:d ε = .ok x ε1):cM i d ε = .ok .next (ε1.set i (.val x)):=by unfold cM; rw[h]; rfl
theorem Dw{i:Nat}{db:aj->R aT}{I:Nat->aj->Prop}{N:Nat}(step:∀ k ε x,k<N->I k ε->∃ ε',db (ε.set i (.val x)) = .ok .next ε'/\I (k+1) ε'):∀ (xs:List PV) (k:Nat) (ε:aj),k+xs.length<=N->I k ε->∃ ε',gT i db xs ε = .ok .next ε'/\I (k+xs.length) ε'
 | [],k,ε,_,h=>⟨ε,rfl,h⟩
 | x::xs,k,ε,hk,h=>by simp only[dq]at hk;obtain⟨ε1,e1,h1⟩:=step k ε x ∅ h;obtain⟨ε2,e2,h2⟩:=Dw step xs (k+1) ε1 ∅ h1;refine⟨ε2,by unfold gT; rw[e1]; exact e2,?_⟩;rw[dq,show k+(xs.length+1)=k+1+xs.length by lia]; exact h2
theorem xr{i:Nat}{db:aj->R aT}{I:List PV->aj->Prop}(step:∀ (x:PV) (r:List PV) ε,I (x::r) ε->∃ ε',db (ε.set i (.val x)) = .ok .next ε'/\I r ε'):∀ (xs:List PV) (ε:aj),I xs ε->∃ ε',gT i db xs ε = .ok .next ε'/\I [] ε'
 | [],ε,h=>⟨ε,rfl,h⟩
 | x::xs,ε,h=>by obtain⟨ε1,e1,h1⟩:=step x xs ε h;obtain⟨ε2,e2,h2⟩:=xr step xs ε1 h1;exact⟨ε2,by unfold gT; rw[e1]; exact e2,h2⟩
theorem NH(ns:List Int)(xs:List PV)(low most:Nat)(hlm:low<=most)(hm:most<=100)(hx:xs.length<=500) : ∃ (z:Tx) (ys:List PV),low<=z.length/\z.length<=most/\(∀ c∈z,c∈bj)/\ys.length<=xs.length+2+most /\ oV a [df ns,.own (.lst xs),.val (.int low),.val (.int most)] = .ok (.val (.str z)) [df ns,.own (.lst ys),.val (.int low),.val (.int most)]:=by
 obtain⟨f,hf,hp⟩:=OM (a:=a) ns xs [.int 1,.int 2,.int 2,.int 3,.int 3,.int 3] ∅ (by decide);obtain⟨few,rfl,f0,f1⟩:∃ few:Int,f = .int few/\0<few/\few<=3:=by simp only[bV,kT,or_false]at hf;rcases hf with rfl | rfl | rfl | rfl | rfl | rfl <;> exact⟨_,rfl,by decide,by decide⟩
 obtain⟨m,m0,m1,hd⟩:=rq (a:=a) ns (xs++[.int 0]) ((most:Int)-low+1) ∅ (by simp; lia);obtain⟨n,hn⟩:∃ n:Nat,(low:Int)+m=n:=⟨(low+m).toNat,∅⟩
 have hr:nH [.int ((low:Int)+m)]=aa (ik 0 n):=by rw[hn];exact FR ∅
 have a8:(ik 0 n).length=n:=by simp[ik]
 obtain⟨ε',e1,ys,z,s6,rfl,hz,hy,Ch⟩:=Dw (i:=6) (db:=cM 5 (d2 aW (dV 5) (d2 bL (dC (.str [97,98,99])) (bf (bh (iz a) (gV (dV 0) (gO 1 (gV (dV 4) (Pu.bT)))))))))
  (I:=λk ε=>∃ ys z s6,ε=[df ns,.own (.lst ys),.val (.int low),.val (.int most),.val (.int few),.val (.str z),s6]/\z.length=k/\ys.length<=xs.length+2+k/\∀ c∈z,c∈bj) (N:=n)
  (by
   rintro k ε x hk ⟨ys,z,s6,rfl,hz,hy,Ch⟩;obtain⟨v,v0,v1,hv⟩:=rq (a:=a) ns ys few f0 ∅;obtain⟨c,hc,hc2⟩:=Eb bj v v0 (by simp[bj]; lia);refine⟨[df ns,.own (.lst (ys++[.int 0])),.val (.int low),.val (.int most),.val (.int few),.val (.str (z++[c])),.val x],?_,ys++[.int 0],z++[c],.val x,rfl,by simp[hz],by simp; lia,λd hd=>?_⟩
   ·have hc3:bL (.str [97,98,99]) (.int v)=aa (.str [c]):=by
     show(eF bj v).map _=_;rw[hc2]; rfl
    have Ci:aW (.str z) (.str [c])=aa (.str (z++[c])):=ir (by simp[bi]; lia);simp![hv,hc3,Ci]
   ·simp only[eM,gG]at hd;rcases hd with hd | rfl
    ·exact Ch d hd
    ·exact hc)
  (ik 0 n) 0 [df ns,.own (.lst (xs++[.int 0]++[.int 0])),.val (.int low),.val (.int most),.val (.int few),.val (.str []),.none] ∅ ⟨xs++[.int 0]++[.int 0],[],.none,rfl,rfl,by simp,by simp⟩
 refine⟨z,ys,∅,∅,Ch,∅,?_⟩;have lR:mw (.int most) (.int low)=aa (.int ((most:Int)-low)):=rfl;have ha1:aW (.int ((most:Int)-low)) (.int 1)=aa (.int ((most:Int)-low+1)):=rfl;have sA:aW (.int low) (.int m)=aa (.int ((low:Int)+m)):=rfl;simp only[gb,HR,mS]at e1;simp![oV,yaF,hp,lR,ha1,sA,hd,gM,hr,gk,e1]
theorem oX{cap:List Nat}{dt:aj->R Bool}{de:aj->R PV}{ε:aj}(p:PV->Bool)(f:PV->PV):∀ (xs:List PV),(∀ x∈xs,ce (eX cap dt x ε) = .ok (p x) ε/\(p x=ah->ce (eX cap de x ε) = .ok (f x) ε))->∀ bg,kE cap dt de xs bg ε = .ok (bg++(xs.filter p).map f) ε
 | [],_,bg=>by simp[kE]
 | x::xs,h,bg=>by
  have h1:=h x (by simp);have ih:=oX p f xs (λy hy=>h y (by simp[hy]));unfold kE;rw[h1.1];simp only[R.bind_ok];cases hp:p x with
  | false=>simp only[ih bg,xP,hp]; simp
  | true=>simp only[h1.2 hp,R.bind_ok,ih (bg++[f x]),xP,hp]; simp
theorem Ck{z:Tx}{w:Nat}:∀ x∈cp z w,x.length=w/\∀ c∈x,c∈z:=by intro x hx;simp only[cp,dW,lM,uh,decide_eq_true_eq]at hx;obtain⟨i,⟨_,h⟩,rfl⟩:=hx;exact⟨by rw[jD,jF]; lia,λc hc=>r_ (mV hc)⟩
theorem OY{z:Tx}{w m:Nat}(hw:1<=w)(h1:w<=z.length)(h2:z.length<=w+m):1<=(cp z w).length/\(cp z w).length<=m+1:=by
 unfold cp;rw[cX];have:∀ n,((bJ n).filter λi=>decide (i+w<=z.length)).length=min n (z.length+1-w):=by
  intro n
  induction n with
  | zero=>simp
  | succ n ih=>
   rw[ur,List.filter_append,dr,ih];by_cases h:n+w<=z.length
   ·simp[List.filter,h]; lia
   ·simp[List.filter,h]; lia
 rw[this];lia
structure Good(l:Tx)(w:Nat)(ls:List Tx):Prop where
 len:∀ x∈ls,x.length=w
 abc:∀ x∈ls,∀ c∈x,c∈l
 some:1<=ls.length
 few:ls.length<=9
theorem Good.perm{l:Tx}{w:Nat}{ls ms:List Tx}(g:Good l w ls)(p:ms.Perm ls):Good l w ms:=⟨λx h=>g.len x (p.mem_iff.mp h),λx h=>g.abc x (p.mem_iff.mp h),by rw[p.length_eq]; exact g.some,by rw[p.length_eq]; exact g.few⟩
theorem Good.put{l:Tx}{w:Nat}{ls:List Tx}{z:Tx}{j:Nat}(g:Good l w ls)(hz:z.length=w)(ha:∀ c∈z,c∈l):Good l w (ls.set j z):=by
 refine⟨λx h=>?_,λx h=>?_,by rw[fL]; exact g.some,by rw[fL]; exact g.few⟩
 ·rcases List.mem_or_eq_of_mem_set h with h | rfl
  ·exact g.len x h
  ·exact hz
 ·rcases List.mem_or_eq_of_mem_set h with h | rfl
  ·exact g.abc x h
  ·exact ha
theorem iH(ls:List Tx):(am ls).length=ls.length:=by simp[am]
theorem PD{n:Nat}{v:Int}(h0:0<=v)(h1:v<n):kx n v=aa v.toNat:=by unfold kx; rw[if_pos h0,if_pos h1]
theorem Es(ls:List Tx):lB (am ls)=ah:=by
 induction ls with
 | nil=>rfl
 | cons x ls ih=>show(imm (.str x) && lB (am ls))=ah; rw[ih]; rfl
theorem MX{α:Type}(xs:List α)(n:Nat):gv xs (aa (n:Int)) ae=xs.drop n:=by
 unfold gv;have e2:HT.sIx xs.length xs.length ae=xs.length:=rfl;rw[e2,HT.sIx_nat];by_cases h:n<=xs.length
 ·rw[Nat.min_eq_left h,xU (by rw[jF]; lia)]
 ·rw[Nat.min_eq_right ∅,List.drop_of_length_le ∅,List.drop_of_length_le ∅]; simp
theorem mi{t T:String}{b:Bool}{x:PV}(h:ro x=aa t)(e:gX [] (.type t) (.type T)=aa b):gA [x,.raw (.ty T)]=aa (.bl b):=by show((ro x).bind λt=>(gX [] (.type t) (.type T)).map λb=>PV.bl b)=_;rw[h,iC,e]; rfl
theorem NA:gX [] (.type "int") (.type "int")=aa ah:=by decide +kernel
theorem O9:gX [] (.type "int") (.type "bool")=aa ak:=by decide +kernel
theorem zR:gX [] (.type "str") (.type "str")=aa ah:=by decide +kernel
theorem yR:gX [] (.type "tuple") (.type "tuple")=aa ah:=by decide +kernel
theorem JO(bs:List Bool):l5 (bs.map .bl)=aa bs:=by
 induction bs with
 | nil=>rfl
 | cons b bs ih=>show(l5 (bs.map .bl)).map (b::·)=_; rw[ih]; rfl
theorem zt(bs:List Bool):pD [.lst (bs.map .bl)]=aa (.bl (bs.all id)):=by show(l5 (bs.map .bl)).map _=_;rw[JO]; rfl
theorem Mi(z s:Tx):xm a [.val (.str z),.val (.str s)] = .ok (.val (.bl (z.all s.contains))) [.val (.str z),.val (.str s)]:=by
 have hc:=oX (cap:=[1]) (dt:=dR) (de:=(d2 (qB ak) (dV 0) (dV 1))) (ε:=[.val (.str z),.val (.str s)]) (λ_=>ah) (λx=>match x with | .str [c]=>.bl (s.contains c) | _=>.non) (z.map λc=>.str [c])
  (by
   intro x hx;obtain⟨c,_,rfl⟩:=dW.mp hx;refine⟨by simp![eX,ff,ce,dR],λ_=>?_⟩;have lf:qB ak (.str [c]) (.str s)=aa (.bl (s.contains c)):=by rw[← Jw]; simp[qB]
   simp![eX,ff,ce,lf]) []
 have he:((z.map λc=>PV.str [c]).filter (λ_=>ah)).map (λx=>match x with | .str [c]=>PV.bl (s.contains c) | _=>.non)=(z.map s.contains).map .bl:=by rw[uE.mpr (by simp),eP,eP]; rfl
 rw[mS,he]at hc;have eT:(z.map s.contains).all id=z.all s.contains:=by rw[xS]; rfl
 generalize z.map s.contains=bs at hc eT;have ha:=zt bs;rw[eT]at ha;simp![xm,yat,fG,dO,kI,hc,ha]
def cx(w:Int)(s z:Tx):Bool:=decide ((z.length:Int)=w) && z.all s.contains
theorem yS(z s:Tx)(w:Int):jY a [.val (.str z),.val (.int w),.val (.str s)] = .ok (.val (.bl (cx w s z))) [.val (.str z),.val (.int w),.val (.str s)]:=by
 have h1:gA [.str z,.raw (.ty "str")]=aa (.bl ah):=mi rfl zR;have hh:=Mi (a:=a) z s;have hl:cb [.str z]=aa (.int (z.length:Nat)):=rfl;have he:=nJ ak (z.length:Nat) w;unfold cx;by_cases h:((z.length:Nat):Int)=w
 ·simp only[h,decide_true,Bool.xor_true,Bool.not_false]at he;simp![jY,yay,h1,hl,he,hh,h]
 ·simp only[h,decide_false,Bool.xor_false]at he;simp![jY,yay,h1,hl,he,h]
theorem Jl(ls ms:List Tx):hG (am ls) (am ms)=aa (decide (ls=ms)):=by
 induction ls generalizing ms with
 | nil=>cases ms <;> simp[am,hG]
 | cons x ls ih=>
  cases ms with
  | nil=>simp[am,hG]
  | cons y ms=>
   show(cS (.str x) (.str y)).bind (λa=>(hG (am ls) (am ms)).map λb=>a && b)=_;rw[ih];have:cS (.str x) (.str y)=aa (decide (x=y)):=by
    show aa (tS x == tS y)=_;by_cases h:x=y
    ·subst h; simp
    ·have:tS x≠tS y:=λz=>h (sW z);simp[h,this]
   rw[this];simp[BZ]
theorem JD(ls:List Tx):iM (am ls)=0:=by
 induction ls with
 | nil=>rfl
 | cons x ls ih=>show max (jv (.str x)) (iM (am ls))=0; rw[ih]; rfl
theorem AZ(neg:Bool)(ls ms:List Tx):Pu.eqT neg (.lst (am ls)) (.lst (am ms))=aa (.bl (neg ^^ decide (ls=ms))):=by show(if jv (.lst (am ls))<=8 then(hG (am ls) (am ms)).map (λk=>PV.bl (neg ^^ k))else ae)=_;rw[if_pos (by show iM (am ls)+1<=8; rw[JD]; decide),Jl]; rfl
theorem Kl(ls:List Tx)(w:Int)(s:Tx)(h1:1<=ls.length)(h9:ls.length<=9) : nD a [.val (.tup (am ls)),.val (.int w),.val (.str s)] = .ok (.val (.bl (ls.all (cx w s) && decide (ls=bO ls)))) [.val (.tup (am ls)),.val (.int w),.val (.str s)]:=by
 have k1:gA [.tup (am ls),.raw (.ty "tuple")]=aa (.bl ah):=mi rfl yR;have hl:cb [.tup (am ls)]=aa (.int (ls.length:Nat)):=by simp[cb,iH]
 have c1:(1:Int)<=(ls.length:Nat):=∅
 have c2:((ls.length:Nat):Int)<=9:=∅
 have hc:=oX (cap:=[1,2]) (dt:=dR) (de:=(bf (bh (jY a) (gV (dV 0) (gV (dV 1) (gV (dV 2) (Pu.bT))))))) (ε:=[.val (.tup (am ls)),.val (.int w),.val (.str s)]) (λ_=>ah) (λx=>match x with | .str z=>.bl (cx w s z) | _=>.non) (am ls)
  (by intro x hx;obtain⟨z,_,rfl⟩:=dW.mp hx;refine⟨by simp![eX,ff,ce,dR],λ_=>?_⟩;have hw:=yS (a:=a) z s w;simp![eX,ff,ce,hw]) []
 have he:((am ls).filter (λ_=>ah)).map (λx=>match x with | .str z=>PV.bl (cx w s z) | _=>.non)=(ls.map (cx w s)).map .bl:=by rw[uE.mpr (by simp)];unfold am;rw[eP,eP]; rfl
 rw[mS,he]at hc;have eT:(ls.map (cx w s)).all id=ls.all (cx w s):=by rw[xS]; rfl
 generalize ls.map (cx w s)=bs at hc eT;have ha:=zt bs;have ii:ls.length<=1000000:=∅
 have heq:=AZ ak ls (bO ls);cases hb:ls.all (cx w s)with
 | false=>rw[eT,hb]at ha;simp![nD,yao,k1,hl,c1,c2,fG,dO,kI,hc,ha]
 | true=>rw[eT,hb]at ha;simp only[sd]at heq;simp![nD,yao,k1,hl,c1,c2,fG,dO,kI,hc,ha,qU,qV,sQ,ii,heq]
theorem Qz(ls:List Tx)(w:Int)(s:Tx)(h9:ls.length=0\/9<ls.length):nD a [.val (.tup (am ls)),.val (.int w),.val (.str s)] = .ok (.val (.bl ak)) [.val (.tup (am ls)),.val (.int w),.val (.str s)]:=by
 have k1:gA [.tup (am ls),.raw (.ty "tuple")]=aa (.bl ah):=mi rfl yR;have hl:cb [.tup (am ls)]=aa (.int (ls.length:Nat)):=by simp[cb,iH]
 by_cases c1:(1:Int)<=(ls.length:Nat)
 ·have c2:¬ ((ls.length:Nat):Int)<=9:=∅
  simp![nD,yao,k1,hl,c1,c2]
 ·simp![nD,yao,k1,hl,c1]
theorem O3(i:Int):vv a [.val (.int i)] = .ok (.val (.bl ah)) [.val (.int i)]:=by have h1:gA [.int i,.raw (.ty "int")]=aa (.bl ah):=mi rfl NA;have h2:gA [.int i,.raw (.ty "bool")]=aa (.bl ak):=mi rfl O9;simp![vv,yaw,h1,h2]
theorem DQ(i:Int):pO a [.val (.int i)] = .ok (.val (.bl (decide (1<=i/\i<=4)))) [.val (.int i)]:=by
 have h:=O3 (a:=a) i;by_cases c1:1<=i
 ·by_cases c2:i<=4
  ·simp![pO,yax,h,c1,c2]
  ·simp![pO,yax,h,c1,c2]
 ·simp![pO,yax,h,c1]
def sO(s:Tx)(w:Int)(ls:List Tx):Bool:=decide (1<=w/\w<=4) && (decide (1<=ls.length/\ls.length<=9) && (ls.all (cx w s) && decide (ls=bO ls)))
theorem QG(s:Tx)(w:Int)(ls:List Tx):qS a [.val (.tup [.int w,.tup (am ls)]),.val (.str s)] = .ok (.val (.bl (sO s w ls))) [.val (.tup [.int w,.tup (am ls)]),.val (.str s)]:=by
 have k1:gA [.tup [.int w,.tup (am ls)],.raw (.ty "tuple")]=aa (.bl ah):=mi rfl yR;have hl:cb [.tup [.int w,.tup (am ls)]]=aa (.int 2):=rfl;have e2:=nJ ah 2 2;simp only[decide_true,Bool.true_xor,Bool.not_true]at e2;have i0:bL (.tup [.int w,.tup (am ls)]) (.int 0)=aa (.int w):=rfl;have i1:bL (.tup [.int w,.tup (am ls)]) (.int 1)=aa (.tup (am ls)):=rfl;have hw:=DQ (a:=a) w;unfold sO;by_cases c:1<=w/\w<=4
 ·rw[decide_eq_true c]at hw ⊢;by_cases c2:1<=ls.length/\ls.length<=9
  ·have hh:=Kl (a:=a) ls w s c2.1 c2.2;rw[decide_eq_true c2];simp![qS,yav,k1,hl,e2,i0,i1,hw,hh]
  ·have hh:=Qz (a:=a) ls w s ∅;rw[decide_eq_false c2];simp![qS,yav,k1,hl,e2,i0,i1,hw,hh]
 ·rw[decide_eq_false c]at hw ⊢;simp![qS,yav,k1,hl,e2,i0,i1,hw]
abbrev vw(w:Int)(ls:List Tx):Bool:=sO bj w ls
theorem Lk(w:Int)(ls:List Tx):wG a [.val (.tup [.int w,.tup (am ls)])] = .ok (.val (.bl (vw w ls))) [.val (.tup [.int w,.tup (am ls)])]:=by have hv:=QG (a:=a) bj w ls;simp only[bj]at hv;simp![wG,yau,hv];rfl
theorem OQ{w:Int}{ls:List Tx}(h:vw w ls=ah):vZ a [.val (.tup [.int w,.tup (am ls)])] = .ok (.val .non) [.val (.tup [.int w,.tup (am ls)])]:=by have hv:=Lk (a:=a) w ls;rw[h]at hv;simp![vZ,yap,hv]
theorem Good.vw{w:Nat}{ls:List Tx}(g:Good bj w ls)(w1:1<=w)(w4:w<=4)(hs:ls.Pairwise (λa b=>d_ a b=ah)):vw w ls=ah:=by
 have e1:ls.all (cx w bj)=ah:=by rw[lP];intro x hx;unfold cx;rw[g.len x hx,decide_eq_true rfl,BI,lP];intro c hc;simpa using g.abc x hx c hc
 have e2:decide (ls=bO ls)=ah:=decide_eq_true (F8 hs).symm;show sO bj w ls=ah;unfold sO;rw[e1,e2,decide_eq_true (show 1<=(w:Int)/\(w:Int)<=4 by lia),decide_eq_true (show 1<=ls.length/\ls.length<=9 from⟨g.some,g.few⟩)];rfl
theorem wo(ls:List Tx):d8 [] ls=ls.flatten:=by
 induction ls with
 | nil=>rfl
 | cons x ls ih=>
  cases ls with
  | nil=>simp[d8]
  | cons y ls=>show x++[]++d8 [] (y::ls)=_; rw[ih]; simp
end
def cn(m:List (Tx×Int))(x:Tx):Option Int:=(m.find? λp=>decide (p.1=x)).map (·.2)
def cL(m:List (Tx×Int))(x:Tx)(n:Int):List (Tx×Int):=if(m.any λp=>decide (p.1=x))=ah then m.map (λp=>if p.1=x then(p.1,n)else p)else m++[(x,n)]
def dk(m:List (Tx×Int)):List (aJ×PV):=m.map λp=>(Sum.inr (tS p.1),PV.int p.2)
theorem Ba(x y:Tx):((Sum.inr (tS x):aJ)=Sum.inr (tS y))=(x=y):=propext ⟨λh=>sW (Sum.inr.inj h),λh=>by rw[h]⟩
theorem vz(m:List (Tx×Int))(x:Tx):l_ (dk m) (Sum.inr (tS x))=(cn m x).map .int:=by
 induction m with
 | nil=>rfl
 | cons p m ih=>
  show((List.find? _ ((Sum.inr (tS p.1),PV.int p.2)::dk m)).map (·.2))=_;unfold cn;rw[j_,j_];simp only[Ba];by_cases h:p.1=x
  ·simp[h]
  ·simp only[h,decide_false]; exact ih
theorem P7(m:List (Tx×Int))(x:Tx):((dk m).any λkv=>decide (kv.1=(Sum.inr (tS x):aJ)))=m.any λp=>decide (p.1=x):=by unfold dk;rw[List.any_map];congr 1;funext p;simp only[yd,Ba]
theorem yX(m:List (Tx×Int))(x:Tx)(n:Int):qC (dk m) (Sum.inr (tS x)) (.int n)=dk (cL m x n):=by
 unfold qC cL;rw[P7];split
 ·unfold dk;rw[eP,eP];refine iB λp _=>?_;simp only[yd,Ba];split <;> rfl
 ·unfold dk; simp
theorem Fz(m:List (Tx×Int)):pH (dk m)=aa (m.any λp=>decide (p.2≠0)):=by
 induction m with
 | nil=>rfl
 | cons p m ih=>show(pH (dk m)).map _=_;rw[ih]; simp
theorem vx{m:List (Tx×Int)}{x:Tx}(h:(m.any λp=>decide (p.1=x))=ak):cn m x=ae:=by unfold cn;rw[Option.map_eq_none_iff,List.find?_eq_none];intro p hp;have:=Hd.mp h p hp;simpa using this
theorem LG{m:List (Tx×Int)}{x y:Tx}{n:Int}(h:(m.any λp=>decide (p.1=x))=ak):cn (m++[(x,n)]) y=if y=x then aa n else cn m y:=by
 have hn:=vx h;unfold cn at hn ⊢;rw[List.find?_append];by_cases e:y=x
 ·subst e;rw[Option.map_eq_none_iff]at hn;simp[hn]
 ·rw[if_neg e];have:¬ x=y:=λz=>e z.symm;cases hf:m.find? (λp=>decide (p.1=y))with
  | none=>simp[this]
  | some p=>simp
theorem Jh{m:List (Tx×Int)}{x y:Tx}{n:Int}:cn (m.map λp=>if p.1=x then(p.1,n)else p) y=(cn m y).map λz=>if y=x then n else z:=by
 induction m with
 | nil=>rfl
 | cons p m ih=>
  unfold cn at ih ⊢;rw[fI,j_,j_];by_cases h:p.1=x
  ·rw[if_pos h];by_cases e:p.1=y
   ·simp[e,show y=x from e.symm.trans h]
   ·simp only[e,decide_false]; exact ih
  ·rw[if_neg h];by_cases e:p.1=y
   ·simp[e,show ¬ y=x from λz=>h (e.trans z)]
   ·simp only[e,decide_false]; exact ih
theorem GT{m:List (Tx×Int)}{x:Tx}(h:(m.any λp=>decide (p.1=x))=ah):∃ n,cn m x=aa n:=by
 unfold cn;cases hf:m.find? (λp=>decide (p.1=x))with
 | none=>rw[List.find?_eq_none]at hf;obtain⟨p,hp,hq⟩:=uF.mp h;exact absurd hq (hf p hp)
 | some p=>exact⟨_,rfl⟩
theorem vo(m:List (Tx×Int))(x y:Tx)(n:Int):cn (cL m x n) y=if y=x then aa n else cn m y:=by
 unfold cL;by_cases h:(m.any λp=>decide (p.1=x))=ah
 ·rw[if_pos h,Jh];by_cases e:y=x
  ·subst e;obtain⟨k,hk⟩:=GT h;rw[hk]; simp
  ·simp[e]
 ·rw[if_neg h,LG (BR.mpr h)]
structure nA(m:List (Tx×Int))(q:List Tx):Prop where
 nd:(m.map (·.1)).Nodup
 get:∀ x,(cn m x).getD 0=(q.count x:Nat)
theorem nA.mem{m:List (Tx×Int)}{q:List Tx}(h:nA m q){p:Tx×Int}(hp:p∈m):cn m p.1=aa p.2:=by
 have nd:=h.nd;clear h
 induction m with
 | nil=>cases hp
 | cons r m ih=>
  unfold cn;rw[j_];rcases bV.mp hp with rfl | hp
  ·simp
  ·rw[fI,j8]at nd;have:¬ r.1=p.1:=λz=>nd.1 (dW.mpr ⟨p,hp,z.symm⟩);simp only[this,decide_false];exact ih hp nd.2
theorem Dz{m:List (Tx×Int)}{x:Tx}{n:Int}:(cL m x n).map (·.1)=if(m.any λp=>decide (p.1=x))=ah then m.map (·.1)else m.map (·.1)++[x]:=by
 unfold cL;split
 ·rw[eP];refine iB λp _=>?_;simp only[yd];split <;> rfl
 ·simp
theorem zz{m:List (Tx×Int)}{x:Tx}{n:Int}(h:(m.map (·.1)).Nodup):((cL m x n).map (·.1)).Nodup:=by
 rw[Dz];split
 ·exact h
 ·rename_i hn;rw[List.nodup_append];refine⟨h,by simp,λa ha b hb=>?_⟩;rw[gG]at hb;subst hb;rintro rfl;obtain⟨p,hp,rfl⟩:=dW.mp ha;exact hn (uF.mpr ⟨p,hp,by simp⟩)
theorem nA.any{m:List (Tx×Int)}{q:List Tx}(h:nA m q):(m.any λp=>decide (p.2≠0)) = !q.isEmpty:=by
 cases q with
 | nil=>rw[HX,Bool.not_true,Hd];intro p hp;have h1:=h.get p.1;rw[h.mem hp]at h1;simpa using h1
 | cons x q=>
  rw[List.isEmpty_cons,Bool.not_false,uF];have h1:=h.get x;rw[B3]at h1;cases e:m.find? (λp=>decide (p.1=x))with
  | none=>unfold cn at h1; rw[e]at h1; simp at h1; lia
  | some p=>unfold cn at h1;rw[e]at h1;refine⟨p,List.mem_of_find?_eq_some e,?_⟩;simp at h1;simp; lia
theorem nA.dec{m:List (Tx×Int)}{q:List Tx}(h:nA m q){x:Tx}(hx:x∈q):∃ n,cn m x=aa n/\0<n/\nA (cL m x (n-1)) (q.erase x)/\cn (cL m x (n-1)) x=aa (n-1)/\cL (cL m x (n-1)) x (n-1+1)=m:=by
 have h1:=h.get x;have hc:0<q.count x:=List.count_pos_iff.mpr hx;cases e:cn m x with
 | none=>rw[e]at h1; simp at h1; lia
 | some n=>
  rw[e]at h1;simp only[HZ]at h1;refine⟨n,rfl,∅,⟨zz h.nd,λy=>?_⟩,by rw[vo,if_pos rfl],?_⟩
  ·rw[vo];by_cases c:y=x
   ·subst c;rw[if_pos rfl,List.count_erase_self];simp only[HZ]; lia
   ·rw[if_neg c,List.count_erase_of_ne (eh (eh c))]; exact h.get y
  ·have ha:(m.any λp=>decide (p.1=x))=ah:=by
    cases z:(m.any λp=>decide (p.1=x))with
    | true=>rfl
    | false=>rw[vx z]at e; cases e
   have hb:((cL m x (n-1)).any λp=>decide (p.1=x))=ah:=by unfold cL;rw[if_pos ha];obtain⟨p,hp,hq⟩:=uF.mp ha;refine uF.mpr ⟨_,dW.mpr ⟨p,hp,rfl⟩,?_⟩;rw[decide_eq_true_eq]at hq;rw[if_pos hq]; simpa using hq
   have e1:cL (cL m x (n-1)) x (n-1+1)=(m.map λp=>if p.1=x then(p.1,n-1)else p).map λp=>if p.1=x then(p.1,n-1+1)else p:=by show(if((cL m x (n-1)).any λp=>decide (p.1=x))=ah then _ else _)=_;rw[if_pos hb];unfold cL;rw[if_pos ha]
   rw[e1,eP];have:∀ p∈m,((λp:Tx×Int=>if p.1=x then(p.1,n-1+1)else p) ∘ λp:Tx×Int=>if p.1=x then(p.1,n-1)else p) p=p:=by
    intro p hp;simp only[yd];by_cases c:p.1=x
    ·rw[if_pos c,if_pos c];have h2:=h.mem hp;rw[c,e]at h2;cases h2;rw[show p.2-1+1=p.2 by lia]
    ·rw[if_neg c,if_neg c]
   rw[iB this,List.map_id''];intro p; rfl
theorem nA.zero{m:List (Tx×Int)}{q:List Tx}(h:nA m q){x:Tx}(hx:x∉q):(cn m x).getD 0=0:=by rw[h.get,Q0 hx]; rfl
section
variable{a:Ad}
theorem Pf(ls:List Tx)(hl:ls.length<=100):∃ m,nA m ls/\m.length<=ls.length/\uc a [.val (.tup (am ls))] = .ok (.own (.dK (dk m))) [.val (.tup (am ls))]:=by
 obtain⟨ε',e1,m,s2,l,rfl,hm,sB,mX⟩:=xr (i:=2) (db:=(l0 1 (dV 2) (d2 aW (mr 1 (dV 2) (dC (.int 0))) (dC (.int 1)))))
  (I:=λr ε=>∃ (m:List (Tx×Int)) (s2:Slot) (l:List Tx),ε=[.val (.tup (am ls)),.own (.dK (dk m)),s2]/\nA m l/\m.length<=l.length/\∃ q,ls=l++q/\r=am q)
  (by
   rintro x r ε ⟨m,s2,l,rfl,hm,sB,q,hq,hr⟩;cases q with
   | nil=>cases hr
   | cons y q=>
    have oH:x::r = .str y::am q:=hr;simp only[BZ]at oH;obtain⟨rfl,rfl⟩:=oH;have a8:m.length<bi:=by have:=congrArg mI hq;simp at this;unfold bi; lia
    refine⟨[.val (.tup (am ls)),.own (.dK (dk (cL m y ((cn m y).getD 0+1)))),.val (.str y)],?_,cL m y ((cn m y).getD 0+1),_,l++[y],rfl,⟨zz hm.nd,λz=>?_⟩,?_,q,by rw[hq]; simp,rfl⟩
    ·have hv:=vz m y;have hp:=yX m y ((cn m y).getD 0+1);have hd:(dk m).length<bi:=by unfold dk; rw[cX]; exact a8
     have hg:((cn m y).map PV.int).getD (.int 0) = .int ((cn m y).getD 0):=by cases cn m y <;> rfl
     generalize dk m=D at hv hp hd;simp![l0,mr,fH,kr,hv,hg,aW,hd,hp]
    ·rw[vo];by_cases c:z=y
     ·subst c;rw[if_pos rfl,List.count_append,List.count_singleton_self];have:=hm.get z;simp only[HZ]; lia
     ·rw[if_neg c,List.count_append,hm.get z];have:[y].count z=0:=Q0 (by simpa using c);rw[this]; rfl
    ·have:(cL m y ((cn m y).getD 0+1)).length<=m.length+1:=by
      unfold cL; split <;> simp
     rw[dr,p7]; lia)
  (am ls) [.val (.tup (am ls)),.own (.dK (dk [])),.none] ⟨[],.none,[],rfl,⟨by simp,λx=>by simp[cn]⟩,by simp,ls,by simp,rfl⟩
 obtain⟨q,hq,sw⟩:=mX;have:q=[]:=by cases q with | nil=>rfl | cons=>cases sw
 subst this;rw[gD]at hq;subst hq;refine⟨m,hm,sB,?_⟩;have e0:dk []=[]:=rfl;rw[e0]at e1;simp![uc,yas,zB,gM,dO,kI,gk,e1,pE]
theorem NM{t:Tx}{w:Nat}(hw:w<=t.length+1)(h1:1<=w):i5 (.str t) (aa ((t.length:Int)-w+1)) ae=aa (.str (t.drop (t.length+1-w))):=by show aa (PV.str (gv t _ ae))=_;rw[show((t.length:Int)-w+1)=((t.length+1-w:Nat):Int) by lia,MX]
def pi(c:Nat):PV:=.str [c]
theorem E6(w:Nat)(w1:1<=w):∀ (r kX:Nat) (t:Tx) (m:List (Tx×Int)) (q:List Tx) (cO:List Tx),r<kX->q.length=r->nA m q->w<=t.length+1->t.length+r<=1000->m.length<=1000->cO.length+(g_ w r t q).length<=bi -> nQ a kX [.val (.str t),.val (.int w),.own (.dK (dk m)),.own (.lst (am cO))] = .ok (.val .non) [.val (.str t),.val (.int w),.own (.dK (dk m)),.own (.lst (am (cO++g_ w r t q)))]
 | 0,0,_,_,_,_,h,_,_,_,_,_,_=>absurd h ∅
 | r+1,0,_,_,_,_,h,_,_,_,_,_,_=>absurd h ∅
 | 0,kX+1,t,m,q,cO,_,hq,hm,hw,ht,sB,hs=>by
  have hq0:q=[]:=BY.mp hq;subst hq0;have ha:=Fz m;rw[hm.any]at ha;simp only[HX,Bool.not_true]at ha;have hl:(am cO).length<bi:=by rw[iH];simp only[g_,p7]at hs; lia
  have e:am (cO++g_ w 0 t [])=am cO++[.str t]:=by simp[am,g_]
  rw[e];generalize dk m=D at ha;generalize am cO=L at hl;simp![nQ,yan,tj,fH,ha,hl]
 | r+1,kX+1,t,m,q,cO,hf,hq,hm,hw,ht,sB,hs=>by
  have cY:q.isEmpty=ak:=by cases q with | nil=>cases hq | cons=>rfl
  have ha:=Fz m;rw[hm.any,cY]at ha;simp only[Bool.not_false]at ha;have hcut:=NM (t:=t) hw w1;have bS:cb [.str t]=aa (.int (t.length:Nat)):=rfl;have lR:mw (.int (t.length:Nat)) (.int w)=aa (.int ((t.length:Int)-w)):=rfl;have Ci:aW (.int ((t.length:Int)-w)) (.int 1)=aa (.int ((t.length:Int)-w+1)):=rfl
  let H:=t.drop (t.length+1-w)
  let f:=λc=>if H++[c]∈q then g_ w r (t++[c]) (q.erase (H++[c]))else []
  have hE:g_ w (r+1) t q=bj.flatMap f:=rfl;have hH:H.length<=1000:=by simp only[H,jF]; lia
  obtain⟨ε',e1,s5,s6,p,rest,hp,hr0,rfl⟩:=xr (i:=5) (db:=(aN (cM 6 (d2 aW (dV 4) (dV 5)))
 (bX (dB (d2 (ge λi j=>decide (j<i)) (mr 2 (dV 6) (dC (.int 0))) (dC (.int 0)))) (aN (l0 2 (dV 6) (d2 mw (pJ 2 (dV 6)) (dC (.int 1))))
 (aN (eJ (bh (nQ a kX) (gV (d2 aW (dV 0) (dV 5)) (gV (dV 1) (gO 2 (gO 3 (Pu.bT)))))))
 (l0 2 (dV 6) (d2 aW (pJ 2 (dV 6)) (dC (.int 1)))))) (dy))))
   (I:=λr' ε=>∃ (s5 s6:Slot) (p rest:Tx),bj=p++rest/\r'=rest.map pi/\ε=[.val (.str t),.val (.int w),.own (.dK (dk m)),.own (.lst (am (cO++p.flatMap f))),.val (.str H),s5,s6])
   (by
    rintro x r' ε ⟨s5,s6,p,rest,hp,oH,rfl⟩;cases rest with
    | nil=>cases oH
    | cons c rest=>
     have Ih:x::r'=pi c::rest.map pi:=oH;simp only[BZ]at Ih;obtain⟨rfl,rfl⟩:=Ih;have oF:aW (.str H) (.str [c])=aa (.str (H++[c])):=ir (by simp[bi]; lia);have lV:aW (.str t) (.str [c])=aa (.str (t++[c])):=ir (by simp[bi]; lia);have Q4:cO.length+(p.flatMap f).length+(f c).length<=bi:=by rw[hE,hp,List.flatMap_append,r9,dr,dr]at hs; lia
     have oC:am (cO++(p++[c]).flatMap f)=am ((cO++p.flatMap f)++f c):=by simp
     by_cases hc:H++[c]∈q
     ·obtain⟨n,g1,g2,g3,g4,g5⟩:=hm.dec hc;have hfc:f c=g_ w r (t++[c]) (q.erase (H++[c])):=if_pos hc;have ih:=E6 w w1 r kX (t++[c]) (cL m (H++[c]) (n-1)) (q.erase (H++[c])) (cO++p.flatMap f) ∅ (by rw[HV hc,hq]; rfl) g3 (by simp; lia) (by simp; lia)
       (by
        have:(cL m (H++[c]) (n-1)).length=m.length:=by
         have:=congrArg mI (Dz (m:=m) (x:=H++[c]) (n:=n-1));have ha:(m.any λp=>decide (p.1=H++[c]))=ah:=by
          cases z:(m.any λp=>decide (p.1=H++[c]))with
          | true=>rfl
          | false=>rw[vx z]at g1; cases g1
         rw[if_pos ha]at this;simpa using this
        lia)
       (by rw[← hfc,dr]; exact Q4)
      rw[← hfc]at ih;have qo:=vz m (H++[c]);rw[g1]at qo;have gK:=yX m (H++[c]) (n-1);have hv2:=vz (cL m (H++[c]) (n-1)) (H++[c]);rw[g4]at hv2;have fN:=yX (cL m (H++[c]) (n-1)) (H++[c]) (n-1+1);rw[g5,show n-1+1=n by lia]at fN;have hd1:(dk m).length<bi:=by unfold dk; rw[cX]; unfold bi; lia
      have uR:(dk (cL m (H++[c]) (n-1))).length<bi:=by
       unfold dk;rw[cX];have:(cL m (H++[c]) (n-1)).length<=m.length+1:=by unfold cL; split <;> simp
       unfold bi; lia
      have gt:(0:Int)<n:=g2;refine⟨[.val (.str t),.val (.int w),.own (.dK (dk m)),.own (.lst (am (cO++(p++[c]).flatMap f))),.val (.str H),.val (.str [c]),.val (.str (H++[c]))],?_,_,_,p++[c],rest,by rw[hp]; simp,rfl,rfl⟩;rw[oC];have s1:mw (.int n) (.int 1)=aa (.int (n-1)):=rfl;have s2:aW (.int (n-1)) (.int 1)=aa (.int n):=by show aa (PV.int (n-1+1))=_;congr 2; lia
      simp only[ux]at qo hv2;generalize dk m=D at qo gK fN hd1;generalize dk (cL m (H++[c]) (n-1))=D2 at hv2 gK fN ih uR;generalize am (cO++p.flatMap f)=L at ih;generalize am ((cO++p.flatMap f)++f c)=L2 at ih;clear_value H f;simp![pi,oF,mr,pJ,l0,fH,kr,qo,gt,s1,hd1,gK,lV,ih,hv2,s2,uR,fN]
     ·have hfc:f c=[]:=if_neg hc;have hz:=hm.zero hc;have qo:=vz m (H++[c]);have hg:((cn m (H++[c])).map PV.int).getD (.int 0) = .int 0:=by
       cases e:cn m (H++[c])with
       | none=>rfl
       | some k=>rw[e]at hz; simp at hz; subst hz; rfl
      refine⟨[.val (.str t),.val (.int w),.own (.dK (dk m)),.own (.lst (am (cO++(p++[c]).flatMap f))),.val (.str H),.val (.str [c]),.val (.str (H++[c]))],?_,_,_,p++[c],rest,by rw[hp]; simp,rfl,rfl⟩;rw[oC,hfc,gD];generalize dk m=D at qo;generalize am (cO++p.flatMap f)=L;clear_value H f;simp![pi,oF,mr,fH,kr,qo,hg])
   (bj.map pi) [.val (.str t),.val (.int w),.own (.dK (dk m)),.own (.lst (am (cO++([]:Tx).flatMap f))),.val (.str H),.none,.none] ⟨.none,.none,[],bj,by simp,rfl,rfl⟩
  have jL:rest=[]:=by cases rest with | nil=>rfl | cons=>cases hr0
  subst jL;rw[gD]at hp;rw[hE];rw[← hp]at e1;simp only[HS,gD]at e1;have hits:kI (.str [97,98,99])=aa (bj.map pi):=rfl;have Rb:i5 (.str t) (aa ((t.length:Int)-w+1)) ae=aa (.str H):=hcut;generalize dk m=D at ha e1;generalize am cO=L at e1;generalize am (cO++bj.flatMap f)=L2 at e1;clear_value H f;simp![nQ,yan,tj,fH,ha,jM,iq,jP,bS,lR,Ci,Rb,gk,gM,dO,hits,e1]
end
section
variable{a:Ad}
abbrev lH(w:Nat)(ls:List Tx):PV:=.tup [.int w,.tup (am ls)]
theorem zW{α:Type}(xs:List α):gv xs ae (aa (-1))=xs.dropLast:=by unfold gv;rw[show HT.sIx xs.length 0 ae=0 from rfl,xT,Nat.sub_zero,List.dropLast_eq_take];congr 1;show(HT.sIx xs.length xs.length (aa (-1)))=_;show(if(-1:Int)<0 then((-1:Int)+(xs.length:Int)).toNat else min (-1:Int).toNat xs.length)=_;rw[if_pos (by decide)];lia
theorem Nd{w:Nat}{ls:List Tx}(g:Good bj w ls)(w1:1<=w)(w4:w<=4):(jq w ls).length<=531441:=by rw[AI w1 g.some λx hx=>⟨g.len x hx,g.abc x hx⟩];refine cr (List.length_filter_le _ _) ?_;rw[AY];exact cr (Nat.pow_le_pow_right (by decide) (show w-1+ls.length<=12 by have:=g.few; lia)) (by decide)
theorem IW(V:PV)(ls:List Tx)(w:Nat)(s2 s3:Slot):kE [] dR (jM i5 (dV 0) jP (iq (d1 gh (dC (.int 1))))) (am ls) [] [.val V,.val (.int w),s2,s3] = .ok (am (ls.map qc)) [.val V,.val (.int w),s2,s3]:=by
 have hc:=oX (cap:=[]) (dt:=dR) (de:=(jM i5 (dV 0) jP (iq (d1 gh (dC (.int 1)))))) (ε:=[.val V,.val (.int w),s2,s3]) (λ_=>ah) (λx=>match x with | .str z=>.str z.dropLast | _=>.non) (am ls)
  (by
   intro x hx;obtain⟨z,_,rfl⟩:=dW.mp hx;refine⟨by simp![eX,ff,ce,dR],λ_=>?_⟩;have hs:i5 (.str z) ae (aa (-1))=aa (.str z.dropLast):=by show aa (PV.str (gv z ae (aa (-1))))=_;rw[zW]
   have hn:gh (.int 1)=aa (.int (-1)):=rfl;simp![eX,ff,ce,jM,jP,iq,hn,hs]) []
 rw[hc,mS,uE.mpr (by simp)];unfold am;rw[eP,eP]; rfl
theorem PQ{w:Nat}{ls:List Tx}(g:Good bj w ls)(w1:1<=w)(w4:w<=4)(hs:ls.Pairwise (λa b=>d_ a b=ah)) : tT a [.val (lH w ls)] = .ok (.own (.lst (am (jq w ls)))) [.val (lH w ls)]:=by
 have hck:=OQ (a:=a) (g.vw w1 w4 hs);have i0:bL (lH w ls) (.int 0)=aa (.int w):=rfl;have i1:bL (lH w ls) (.int 1)=aa (.tup (am ls)):=rfl;obtain⟨m,hm,hml0,hcm⟩:=Pf (a:=a) ls (by have:=g.few; lia);have sB:m.length<=1000:=by have:=g.few; lia
 let hd:=bO (eW (ls.map qc))
 have hdl:∀ h∈hd,h.length=w-1:=λh hh=>by have hm:=(nv _ _).mp ((jN _).mem_iff.mp hh);obtain⟨y,hy,rfl⟩:=dW.mp hm;rw[xO,g.len y hy]
 let f:=λh=>g_ w ls.length h ls
 have hT:jq w ls=hd.flatMap f:=rfl;have hTl:=Nd g w1 w4;obtain⟨ε',e1,s3,p,rest,hp,hr0,rfl⟩:=xr (i:=3) (db:=(eJ (sG (nQ a 12) (qO (dV 3) (qO (dV 1) (gN (lE (bh (uc a) (gV (d2 bL (dV 0) (dC (.int 1))) (Pu.bT)))) (gO 2 (Pu.bT))))))))
  (I:=λr ε=>∃ (s3:Slot) (p rest:List Tx),hd=p++rest/\r=am rest/\ε=[.val (lH w ls),.val (.int w),.own (.lst (am (p.flatMap f))),s3])
  (by
   rintro x r ε ⟨s3,p,rest,hp,hr,rfl⟩;cases rest with
   | nil=>cases hr
   | cons h rest=>
    have oH:x::r = .str h::am rest:=hr;simp only[BZ]at oH;obtain⟨rfl,rfl⟩:=oH;have hh:h.length=w-1:=hdl h (by rw[hp]; simp);have ha:=E6 (a:=a) w w1 ls.length 12 h m ls (p.flatMap f) (by have:=g.few; lia) rfl hm ∅ (by have:=g.few; lia) sB (by rw[hT,hp,List.flatMap_append,r9,dr,dr]at hTl;show(p.flatMap f).length+(f h).length<=bi;unfold bi; lia);refine⟨[.val (lH w ls),.val (.int w),.own (.lst (am ((p++[h]).flatMap f))),.val (.str h)],?_,_,p++[h],rest,by rw[hp]; simp,rfl,rfl⟩;have e2:(p++[h]).flatMap f=p.flatMap f++g_ w ls.length h ls:=by simp[f]
    rw[e2];generalize am (p.flatMap f)=L at ha;generalize am (p.flatMap f++g_ w ls.length h ls)=L2 at ha;generalize dk m=D at ha hcm;simp only[lH]at i1 ⊢;generalize am ls=T at hcm i1;clear_value f hd;simp![sG,qO,gN,Ey,i1,hcm,ha])
  (am hd) [.val (lH w ls),.val (.int w),.own (.lst (am (([]:List Tx).flatMap f))),.none] ⟨.none,[],hd,by simp,rfl,rfl⟩
 have jL:rest=[]:=by cases rest with | nil=>rfl | cons=>cases hr0
 subst jL;rw[gD]at hp;rw[← hp,← hT]at e1;simp only[HS]at e1;have hco:=IW (lH w ls) ls w (.own (.lst [])) .none;have hss:tX [.lst (am (ls.map qc))]=aa (.lst (am hd)):=by show(gx (am _)).bind _=_;have h2:=g.few;rw[sQ,iC,if_pos (xQ (Og _) (by rw[cX]; lia))]
 have e0:am ([]:List Tx)=[]:=rfl;rw[e0]at e1;generalize am (jq w ls)=L at e1;generalize am hd=D at e1 hss;generalize am (ls.map qc)=D0 at hco hss;simp only[lH]at hck i0 i1 hco e1 ⊢;generalize hTT:am ls=T at hck i0 i1 hco e1;clear_value f hd;simp![tT,yaK,hck,i0,i1,gk,gM,dO,kI,fG,hco,hss,e1,pE]
end
end Sh
namespace Mx
open L2 Pu
def cV(z:Tx)(i:Nat):Nat:=z.getD (i % z.length) 0
def pM(z:Tx)(w i:Nat):Tx:=(bJ w).map λk=>cV z (i+k)
def cw(z:Tx)(w:Nat):List Tx:=(bJ z.length).map (pM z w)
def ip(z:Tx)(w:Nat):Tx:=((aU w z).flatten).take (z.length+w-1)
theorem v6{z:Tx}{i:Nat}(h:i<z.length):z[i]?=aa (cV z i):=by unfold cV;rw[ye h];simp[List.getD,h]
theorem CW(z:Tx)(i:Nat):cV z (z.length+i)=cV z i:=by unfold cV; rw[Nat.add_mod_left]
theorem GM(z:Tx):∀ (w i:Nat),i<w * z.length->(aU w z).flatten[i]?=aa (cV z i)
 | 0,i,h=>∅
 | w+1,i,h=>by
  rw[uo,BC];by_cases c:i<z.length
  ·rw[fJ c,v6 c]
  ·rw[jE ∅,GM z w (i-z.length) (by rw[Nat.succ_mul]at h; lia)];congr 1;have:=CW z (i-z.length);rw[show z.length+(i-z.length)=i by lia]at this;exact this.symm
theorem ET(z:Tx)(w:Nat):(aU w z).flatten.length=w * z.length:=by simp
theorem wD{z:Tx}{w:Nat}(hn:1<=z.length)(hw:1<=w):(ip z w).length=z.length+w-1:=by
 unfold ip;rw[jD,ET];obtain⟨n,uO⟩:∃ n,z.length=n+1:=⟨z.length-1,∅⟩
 obtain⟨v,rfl⟩:∃ v,w=v+1:=⟨w-1,∅⟩
 rw[uO,Nat.add_mul,Nat.mul_add];have:=mG (v * n);lia
theorem tI{z:Tx}{w:Nat}(hn:1<=z.length)(hw:1<=w){i:Nat}(h:i<z.length+w-1):(ip z w)[i]?=aa (cV z i):=by have hl:=wD hn hw;unfold ip at hl ⊢;rw[jD,ET]at hl;rw[xK h,GM z w i ∅]
theorem C4{z:Tx}{w:Nat}(hn:1<=z.length)(hw:1<=w):cp (ip z w) w=cw z w:=by
 rw[q_ _ _ hw,wD hn hw,show z.length+w-1+1-w=z.length by lia];refine iB λi hi=>?_;have hi:i<z.length:=by simpa using hi
 refine ka λk=>?_;unfold pM;by_cases hk:k<w
 ·rw[xK hk,mP,tI hn hw ∅,j9,BH hk]; rfl
 ·rw[jg (by rw[jD]; lia),jg (by simp; lia)]
theorem Jx{z:Tx}{w:Nat}(hn:1<=z.length)(hw:1<=w):(ip z w).take z.length=z:=by
 refine ka λk=>?_;by_cases hk:k<z.length
 ·rw[xK hk,tI hn hw ∅,v6 hk]
 ·rw[jg (by rw[jD]; lia),jg ∅]
def gy(i:Nat)(z:Tx):Tx:=z.drop i++z.take i
theorem oR{i:Nat}{z:Tx}(h:i<=z.length):(gy i z).length=z.length:=by unfold gy; rw[dr,jF,jD]; lia
theorem vB{z:Tx}{i:Nat}(h:i<=z.length)(hn:1<=z.length)(j:Nat):cV (gy i z) j=cV z (i+j):=by
 unfold cV;rw[oR h];have hj:j % z.length<z.length:=Nat.mod_lt _ ∅;rw[Nat.add_mod i j];generalize j % z.length=m at hj;by_cases hi:i=z.length
 ·subst hi;unfold gy;rw[HC,mS,BW,Nat.mod_self,rX,ye hj]
 ·rw[ye (show i<z.length by lia)];unfold gy;rw[List.getD_eq_getElem?_getD,List.getD_eq_getElem?_getD];congr 1;by_cases c:i+m<z.length
  ·rw[ye c,fJ (by rw[jF]; lia),mP]
  ·have e:(i+m) % z.length=i+m-z.length:=by
    rw[Nat.mod_eq_sub_mod ∅,ye ∅]
   rw[e,jE (by rw[jF]; lia),jF,xK ∅];congr 1; lia
theorem Kd{x y:Tx}(h:x.length=y.length)(hn:1<=x.length)(ha:∀ k,k<x.length->cV x k=cV y k):x=y:=by
 refine ka λk=>?_;by_cases hk:k<x.length
 ·rw[v6 hk,v6 ∅,ha k hk]
 ·rw[jg ∅,jg ∅]
theorem Ja{z:Tx}{i j:Nat}(hn:1<=z.length)(hi:i<z.length)(hj:j<z.length):gy j (gy i z)=gy ((i+j) % z.length) z:=by
 have hm:(i+j) % z.length<z.length:=Nat.mod_lt _ ∅;have h1:(gy i z).length=z.length:=oR ∅;refine Kd ?_ ?_ λk hk=>?_
 ·rw[oR ∅,h1,oR ∅]
 ·rw[oR ∅,h1]; exact hn
 ·rw[vB ∅ ∅,vB ∅ hn,vB ∅ hn];unfold cV;congr 1;rw[← oi,Nat.add_mod ((i+j) % z.length) k,Nat.mod_mod,← Nat.add_mod]
theorem IA(z:Tx):gy 0 z=z:=by simp[gy]
theorem DV{f:Nat->Tx}{n:Nat}(hf:∀ i,f (i+n)=f i):∀ i,((bJ n).map λj=>f (i+j)).Perm ((bJ n).map f)
 | 0=>by simp
 | i+1=>by
  refine List.Perm.trans ?_ (DV hf i);cases n with
  | zero=>simp
  | succ m=>
   have eL:(bJ (m+1)).map (λj=>f (i+1+j))=(bJ m).map (λj=>f (i+(j+1)))++[f (i+0)]:=by
    rw[ur,mL];congr 1
    ·refine iB λj _=>?_;congr 1; lia
    ·rw[fI,BE];congr 1;show f (i+1+m)=f i;rw[← hf i];congr 1; lia
   have eR:(bJ (m+1)).map (λj=>f (i+j))=f (i+0)::(bJ m).map (λj=>f (i+(j+1))):=by rw[xR,fI,eP]; rfl
   rw[eL,eR];exact List.perm_append_singleton _ _
theorem Py(z:Tx)(w i:Nat):pM z w (i+z.length)=pM z w i:=by unfold pM;refine iB λk _=>?_;rw[show i+z.length+k=z.length+(i+k) by lia,CW]
theorem QR{z:Tx}{w i:Nat}(hi:i<z.length):(cw (gy i z) w).Perm (cw z w):=by
 have e:cw (gy i z) w=(bJ z.length).map λj=>pM z w (i+j):=by unfold cw;rw[oR ∅];refine iB λj _=>?_;unfold pM;refine iB λk _=>?_;rw[vB ∅ ∅,oi]
 rw[e];exact DV (λj=>Py z w j) i
theorem Iy{z:Tx}{w:Nat}{c:Nat}(h:c∈ip z w):c∈z:=by have:=mV h;rw[List.mem_flatten]at this;obtain⟨l,hl,hc⟩:=this;rw[yf]at hl;rw[hl.2]at hc; exact hc
theorem Jj{z:Tx}{i c:Nat}(h:c∈gy i z):c∈z:=(eM.mp h).elim r_ mV
def lr:Nat->Nat->Nat->Nat->List Tx
 | 0,_,_,_=>[[]]
 | n+1,i,j,k=>(match i with | 0=>[] | i+1=>(lr n i j k).map (97::·))++((match j with | 0=>[] | j+1=>(lr n i j k).map (98::·))++(match k with | 0=>[] | k+1=>(lr n i j k).map (99::·)))
theorem D6:∀ (n:Nat) (z:Tx),z.length=n->(∀ c∈z,c∈bj)->z∈lr n (z.count 97) (z.count 98) (z.count 99)
 | 0,z,h,_=>by rw[BY.mp h]; simp[lr]
 | n+1,z,h,hc=>by
  cases z with
  | nil=>cases h
  | cons c z=>
   have ih:=D6 n z (ya h) λd hd=>hc d (by simp[hd]);have h3:c=97\/c=98\/c=99:=by have:=hc c (by simp);simpa[bj]using this
   rcases h3 with rfl | rfl | rfl
   ·rw[B3,uG (by decide),uG (by decide)];simp only[lr,eM];exact .inl (dW.mpr ⟨z,ih,rfl⟩)
   ·rw[B3,uG (by decide),uG (by decide)];simp only[lr,eM];exact .inr (.inl (dW.mpr ⟨z,ih,rfl⟩))
   ·rw[B3,uG (by decide),uG (by decide)];simp only[lr,eM];exact .inr (.inr (dW.mpr ⟨z,ih,rfl⟩))
theorem len_sub{l m:List Tx}(nd:l.Nodup)(h:∀ x∈l,x∈m):l.length<=m.length:=by
 induction l generalizing m with
 | nil=>simp
 | cons x l ih=>rw[j8]at nd;have hx:x∈m:=h x (by simp);have:=ih (m:=m.erase x) nd.2 λy hy=>(List.mem_erase_of_ne (λz=>nd.1 (by rw[← z]; exact hy))).mpr (h y (by simp[hy]));rw[HV hx]at this;have h0:0<m.length:=List.length_pos_of_mem hx;rw[dq]; lia
theorem LA{z:Tx}(h:∀ c∈z,c∈bj):z.count 97+z.count 98+z.count 99=z.length:=by
 induction z with
 | nil=>rfl
 | cons c z ih=>
  have:=ih λd hd=>h d (by simp[hd]);have h3:c=97\/c=98\/c=99:=by have:=h c (by simp);simpa[bj]using this
  rcases h3 with rfl | rfl | rfl <;> (rw[List.count_cons,List.count_cons,List.count_cons,dq]; simp; lia)
theorem F9{z:Tx}{w:Nat}(hw:1<=w):(cp z w).length=z.length+1-w:=by rw[q_ z w hw]; simp
def kH(t:Tx)(w:Nat):List Tx:=(dQ t.length).filter λz=>(cp z w).isPerm (cp t w)
theorem Rn{t z:Tx}{w:Nat}:z∈kH t w↔z.length=t.length/\(∀ c∈z,c∈bj)/\(cp z w).Perm (cp t w):=by unfold kH;rw[lM,mj,List.isPerm_iff];exact⟨λ⟨⟨a,b⟩,c⟩=>⟨a,b,c⟩,λ⟨a,b,c⟩=>⟨⟨a,b⟩,c⟩⟩
theorem FC(t:Tx)(w:Nat):(kH t w).Nodup:=(EV _).filter _
theorem Il{w:Nat}{ls:List Tx}(hw:1<=w)(hn:1<=ls.length)(hl:∀ x∈ls,x.length=w/\∀ c∈x,c∈bj)(hs:ls.Pairwise (λa b=>d_ a b=ah)){z:Tx}(hz:∀ c∈z,c∈bj):z∈jq w ls↔bO (cp z w)=ls:=by
 rw[AI hw hn hl,lM,mj,List.isPerm_iff];constructor
 ·rintro⟨_,p⟩;rw[JC p,F8 hs]
 ·intro e;have p:(cp z w).Perm ls:=by rw[← e]; exact(jN _).symm
  have a8:=p.length_eq;rw[F9 hw]at a8;exact⟨⟨∅,hz⟩,p⟩
theorem IJ{w:Nat}{ls:List Tx}(hw:1<=w)(hn:1<=ls.length)(hl:∀ x∈ls,x.length=w/\∀ c∈x,c∈bj){z:Tx}(h:z∈jq w ls):z.length=w-1+ls.length/\∀ c∈z,c∈bj:=by rw[AI hw hn hl,lM,mj]at h;exact h.1
end Mx
namespace Sh
open L2 Pu Mx
structure Vd where
 w:Nat
 ls:List Tx
structure GV(v:Vd):Prop where
 w1:1<=v.w
 w4:v.w<=4
 good:Good bj v.w v.ls
 rises:v.ls.Pairwise (λa b=>d_ a b=ah)
 few:(jq v.w v.ls).length<=1000
def tx(v:Vd):List Tx:=jq v.w v.ls
theorem GV.wn{v:Vd}(g:GV v):∀ x∈v.ls,x.length=v.w/\∀ c∈x,c∈bj:=λx hx=>⟨g.good.len x hx,g.good.abc x hx⟩
theorem GV.mem{v:Vd}(g:GV v){z:Tx}(hz:∀ c∈z,c∈bj):z∈tx v↔bO (cp z v.w)=v.ls:=Il g.w1 g.good.some g.wn g.rises hz
theorem GV.abc{v:Vd}(g:GV v){z:Tx}(h:z∈tx v):z.length<=12/\∀ c∈z,c∈bj:=by obtain⟨h1,h2⟩:=IJ g.w1 g.good.some g.wn h;exact⟨by have:=g.w4; have:=g.good.few; lia,h2⟩
section
variable{a:Ad}
theorem PX{w:Nat}(w1:1<=w)(w4:w<=4):wO a [.val (.int w)] = .ok (.val .non) [.val (.int w)]:=by have h:=DQ (a:=a) w;rw[decide_eq_true (show 1<=(w:Int)/\(w:Int)<=4 by lia)]at h;simp![wO,yaq,h]
def gd(t:Tx)(v:Nat):List Tx:=(bJ (t.length+1-v)).map λi=>(t.drop i).take v
theorem Ai(t:Tx)(v:Nat):(gd t v).length=t.length+1-v:=by simp[gd]
structure Tv(t:Tx)(w:Nat):Prop where
 w1:1<=w
 w4:w<=4
 h1:w<=t.length
 h9:t.length+1<=w+9
 abc:∀ c∈t,c∈bj
theorem Tv.good{t:Tx}{w:Nat}(h:Tv t w):Good bj w (cp t w):=by have hm:=OY (m:=8) h.w1 h.h1 (by have:=h.h9; lia);exact⟨λx hx=>(Ck x hx).1,λx hx c hc=>h.abc c ((Ck x hx).2 c hc),hm.1,hm.2⟩
end
end Sh
namespace K39
open L2 Pu Mx Sh
section
variable{a:Ad}
abbrev fw(w:Nat):List (Str×PV):=[(b0 "width",.int w)]
def SL(a:Ad)(w:Nat)(L:List PV):PO:=.inl a.Slit (fw w) (b0 "came") L
theorem t7(w:Nat)(L:List PV)(ε:aj):i4 (.own (SL a w L)::ε) a.Slit (b0 "came") 0=aa (fw w,L):=by show(if a.Slit=a.Slit/\_=_ then _ else _)=_;rw[if_pos ⟨rfl,rfl⟩]
theorem zb(w:Nat):(fw w).lookup (b0 "width")=aa (.int w):=rfl
theorem Pr{z:Tx}{w:Nat}(h:cx w bj z=ah):wm a [.val (.str z),.val (.int w)] = .ok (.val .non) [.val (.str z),.val (.int w)]:=by
 have hw:jY a [.val (.str z),.val (.int w),.val (.str [97,98,99])] = .ok (.val (.bl ah)) [.val (.str z),.val (.int w),.val (.str [97,98,99])]:=by have:=yS (a:=a) z bj w;rw[h]at this;exact this
 simp![wm,yar,hw]
theorem JE{w:Nat}(w1:1<=w)(w4:w<=4):nP a [.own (.ins a.Slit []),.val (.int w)] = .ok (.val .non) [.own (SL a w []),.val (.int w)]:=by
 have hc:=PX (a:=a) w1 w4;have p1:ri (b0 "width") (.int w) []=fw w:=rfl;have p2:(fw w).lookup (b0 "came")=ae:=rfl;unfold SL;have p3:(fw w).length<1000:=by simp[fw]
 generalize fw w=f at p1 p2 p3 ⊢;simp![nP,E9,hc,y8,o9,p1,vS,p2,p3]
def TW(w:Nat)(ws:List Tx):List Tx:=if ws=[] then [] else jq w (bO ws)
theorem Dq{w:Nat}{ws:List Tx}(w1:1<=w)(w4:w<=4)(hw:∀ z∈ws,z.length=w/\∀ c∈z,c∈bj)(h9:ws.length<=9):qY a [.own (.lst (am ws)),.val (.int w)] = .ok (.own (.lst (am (TW w ws)))) [.own (.lst (am ws)),.val (.int w)]:=by
 have a8:cb [.lst (am ws)]=aa (.int (ws.length:Nat)):=by show aa (PV.int _)=_;rw[iH]
 have he:=nJ ak (ws.length:Nat) 0;unfold TW;by_cases q:ws=[]
 ·subst q;simp only[kR]at he a8;have he:Pu.eqT ak (.int ((0:Nat):Int)) (.int 0)=aa (.bl ah):=by rw[nJ]; rfl
  rw[if_pos rfl];show _=R.ok (Slot.own (PO.lst [])) _;generalize am []=L at a8 ⊢;simp at he a8;simp![qY,yaL,vn,a8,he]
 ·rw[if_neg q];have n0:¬ ((ws.length:Nat):Int)=0:=by have:=List.length_pos_iff.mpr q;lia
  simp only[n0,decide_false,sd]at he;have g:Good bj w (bO ws):=Good.perm (ls:=ws) ⟨λx hx=>(hw x hx).1,λx hx=>(hw x hx).2,by have:=List.length_pos_iff.mpr q; lia,h9⟩ (jN _);have ht:=PQ (a:=a) g w1 w4 (wY _);have hs:qV [.lst (am ws)]=aa (.lst (am (bO ws))):=by show(gx (am ws)).bind _=_;rw[sQ,iC,if_pos ∅]
  have vg:=Es (bO ws);have htu:qQ [.lst (am (bO ws))]=aa (.tup (am (bO ws))):=rfl;have ht:tT a [.val (.tup [.int w,.tup (am (bO ws))])] = .ok (.own (.lst (am (jq w (bO ws))))) [.val (.tup [.int w,.tup (am (bO ws))])]:=ht;generalize am (bO ws)=SS at hs htu ht vg;generalize am (jq w (bO ws))=TT at ht ⊢;generalize am ws=L at a8 hs ⊢;generalize ((ws.length:Nat):Int)=n at a8 he;simp[qY,yaL,aN,bX,dB,d2,d1,dV,dC,dL,dF,az,aL,cy,l8,cM,fi,bh,gV,gO,Pu.bT,cZ,dG,bF,cJ,eD,R.bind,aO,bM,fX,bu,back,jo,nc,w6,vK,AQ,Ao,bf,lE,c8,jb,dy,xu,eJ,Gx,iW,xg,oP,fS,ki,Fp,pf,ge,dA,kB,kG,nN,aU,mI,g7,imm,AE,a8,he,hs,vg,htu,ht]
theorem Cw{w:Nat}{z:Tx}(h:z.length=w/\∀ c∈z,c∈bj):cx w bj z=ah:=by unfold cx;rw[decide_eq_true ∅,BI,lP];intro c hc;simpa using h.2 c hc
def gB(w:Nat)(ws:List Tx):Prop:=∀ z∈ws,z.length=w/\∀ c∈z,c∈bj
theorem gB.app{w:Nat}{ws:List Tx}{z:Tx}(h:gB w ws)(hz:z.length=w/\∀ c∈z,c∈bj):gB w (ws++[z]):=λx hx=>by
 rcases eM.mp hx with hx | hx
 ·exact h x hx
 ·rw[gG.mp hx]; exact hz
theorem IM{w:Nat}{ws:List Tx}{z:Tx}(w1:1<=w)(w4:w<=4)(hw:gB w ws)(h9:ws.length<=8)(hz:z.length=w/\∀ c∈z,c∈bj) : jx a [.own (SL a w (am ws)),.val (.str z)] = .ok (.val (.int ((TW w (ws++[z])).length:Nat))) [.own (SL a w (am (ws++[z]))),.val (.str z)]:=by
 have hc:=Pr (a:=a) (Cw hz);have ht:=Dq (a:=a) w1 w4 (hw.app hz) (by rw[dr,p7]; lia);have a8:cb [.lst (am ws)]=aa (.int (ws.length:Nat)):=by show aa (PV.int _)=_;rw[iH]
 have Cb:cb [.lst (am (TW w (ws++[z])))]=aa (.int ((TW w (ws++[z])).length:Nat)):=by show aa (PV.int _)=_;rw[iH]
 have he:=nJ ak (ws.length:Nat) 9;have n9:¬ ((ws.length:Nat):Int)=9:=∅
 simp only[n9,decide_false,sd]at he;have hl:(am ws).length<bi:=by rw[iH]; unfold bi; lia
 have ea:am (ws++[z])=am ws++[.str z]:=by unfold am; rw[mL]; rfl
 rw[ea]at ht ⊢;have h1:=λL=>t7 (a:=a) w L [.val (.str z)];have h2:=zb w;have h0:∀ L L',([.own (SL a w L),.val (.str z)]:aj).set 0 (.own (.inl a.Slit (fw w) (b0 "came") L'))=[.own (SL a w L'),.val (.str z)]:=λ_ _=>rfl;have h4:∀ L',(PO.inl a.Slit (fw w) (b0 "came") L')=SL a w L':=λ_=>rfl;generalize am (TW w (ws++[z]))=TT at ht Cb;generalize (((TW w (ws++[z])).length:Nat):Int)=m at Cb ⊢;generalize ((ws.length:Nat):Int)=n at a8 he;generalize am ws=L at a8 hl ht ⊢;generalize SL a w=P at h1 h4 ⊢;generalize fw w=f at h1 h2 h4;simp![jx,G9,gq,hV,jV,qt,jQ,xt,nK,h1,h2,h4,hc,a8,Cb,he,hl,ht]
theorem DJ{w:Nat}{ws:List Tx}:lj a [.own (SL a w (am ws))] = .ok (.val (.lst (am ws))) [.own (SL a w (am ws))]:=by have h1:=λL=>t7 (a:=a) w L [];have vg:=Es ws;have hl:qU [.lst (am ws)]=aa (.lst (am ws)):=rfl;generalize am ws=L at vg hl ⊢;generalize SL a w=P at h1 ⊢;generalize fw w=f at h1;simp[lj,C6,aN,bX,dB,d2,d1,dV,dC,dL,dF,az,aL,cy,l8,cM,fi,bh,gV,gO,Pu.bT,cZ,dG,bF,cJ,eD,R.bind,aO,bM,fX,bu,back,jo,nc,w6,vK,AQ,Ao,bf,lE,c8,jb,dy,xu,eJ,Gx,iW,xg,oP,fS,ki,Fp,pf,ge,dA,kB,kG,nN,aU,mI,gq,hV,jV,jQ,AE,h1,hl,vg]
theorem KS{w:Nat}{ws:List Tx}{z:Tx}:iK a [.own (SL a w (am (ws++[z])))] = .ok (.val (.str z)) [.own (SL a w (am ws))]:=by
 have h1:=λL=>t7 (a:=a) w L [];have a8:cb [.lst (am (ws++[z]))]=aa (.int ((ws.length+1:Nat):Int)):=by show aa (PV.int _)=_;rw[iH,dr,p7]
 have he:=nJ ak ((ws.length+1:Nat):Int) 0;have n9:¬ ((ws.length+1:Nat):Int)=0:=∅
 simp only[n9,decide_false,sd]at he;have ea:am (ws++[z])=am ws++[.str z]:=by unfold am; rw[mL]; rfl
 rw[ea]at a8 ⊢;have h4:∀ L',(PO.inl a.Slit (fw w) (b0 "came") L')=SL a w L':=λ_=>rfl;generalize ((ws.length+1:Nat):Int)=n at a8 he;generalize am ws=L at a8 ⊢;generalize SL a w=P at h1 h4 ⊢;generalize fw w=f at h1 h4;simp![iK,Fb,gq,hV,jV,jQ,vL,h1,h4,a8,he]
def qF(w:Nat)(ws:List Tx):PV:=match TW w ws with
 | [t]=>.str t
 | _=>.non
theorem Ke{w:Nat}{ws:List Tx}(w1:1<=w)(w4:w<=4)(hw:gB w ws)(h9:ws.length<=9):lI a [.own (SL a w (am ws))] = .ok (.val (qF w ws)) [.own (SL a w (am ws))]:=by
 have ht:=Dq (a:=a) w1 w4 hw h9;have h1:=λL ε=>t7 (a:=a) w L ε;have h2:=zb w;have h4:∀ L',(PO.inl a.Slit (fw w) (b0 "came") L')=SL a w L':=λ_=>rfl;have a8:cb [.lst (am (TW w ws))]=aa (.int ((TW w ws).length:Nat)):=by show aa (PV.int _)=_;rw[iH]
 have he:=nJ ak ((TW w ws).length:Nat) 1;unfold qF;generalize TW w ws=T at ht a8 he ⊢
 match T with
 | [t]=>have hi:bL (.lst (am [t])) (.int 0)=aa (.str t):=rfl;have he:Pu.eqT ak (.int (([t].length:Nat):Int)) (.int 1)=aa (.bl ah):=rfl;simp only;generalize (([t].length:Nat):Int)=n at a8 he;generalize am [t]=TT at ht a8 hi;generalize am ws=L at ht ⊢;generalize SL a w=P at h1 h4 ⊢;generalize fw w=f at h1 h2 h4;simp![lI,vN,gq,hV,jV,nK,h1,h2,h4,a8,he,hi,ht]
 | []=>have he:Pu.eqT ak (.int ((([]:List Tx).length:Nat):Int)) (.int 1)=aa (.bl ak):=rfl;simp only;generalize ((([]:List Tx).length:Nat):Int)=n at a8 he;generalize am []=TT at ht a8;generalize am ws=L at ht ⊢;generalize SL a w=P at h1 h4 ⊢;generalize fw w=f at h1 h2 h4;simp![lI,vN,gq,hV,jV,nK,h1,h2,h4,a8,he,ht]
 | t::t2::r=>
  have n1:¬ (((t::t2::r).length:Nat):Int)=1:=by simp; lia
  simp only[n1,decide_false,sd]at he;simp only;generalize (((t::t2::r).length:Nat):Int)=n at a8 he;generalize am (t::t2::r)=TT at ht a8;generalize am ws=L at ht ⊢;generalize SL a w=P at h1 h4 ⊢;generalize fw w=f at h1 h2 h4;simp![lI,vN,gq,hV,jV,nK,h1,h2,h4,a8,he,ht]
def aZ(w:Nat)(ls:List Tx):Tx:=[48+w,59]++(ls.map λx=>32::x).flatten
theorem Gj(w:Nat)(ls:List Tx)(hw:w<10)(hl:ls.length<=9)(hx:∀ x∈ls,x.length<=4)(k:List PV->PV)(hk:k = .tup\/k = .lst):qy a [.val (.int w),.val (.str [59]),.val (k (am ls))] = .ok (.val (.str (aZ w ls))) [.val (.int w),.val (.str [59]),.val (k (am ls))]:=by
 have hs:jZ [.int w]=aa (.str [48+w]):=by show(if 0<=(w:Int)/\(w:Int)<10 then aa (PV.str [48+(w:Int).toNat])else ae)=_;rw[if_pos ∅]; simp
 have h1:aW (.str [48+w]) (.str [59])=aa (.str [48+w,59]):=ir (by simp[bi]);have hc:=oX (cap:=[]) (dt:=dR) (de:=(d2 aW (dC (.str [32])) (dV 0))) (ε:=[.val (.int w),.val (.str [59]),.val (k (am ls))]) (λ_=>ah) (λx=>match x with | .str z=>.str (32::z) | _=>.non) (am ls)
  (by intro x sC;obtain⟨z,hz,rfl⟩:=dW.mp sC;refine⟨by simp![eX,ff,ce,dR],λ_=>?_⟩;have ha:aW (.str [32]) (.str z)=aa (.str (32::z)):=ir (by have:=hx z hz; simp[bi]; lia);simp![eX,ff,ce,ha]) []
 have he:((am ls).filter (λ_=>ah)).map (λx=>match x with | .str z=>PV.str (32::z) | _=>.non)=am (ls.map λx=>32::x):=by rw[uE.mpr (by simp)];unfold am;rw[eP,eP]; rfl
 rw[mS,he]at hc;have hwt:j3 [] (ls.map λx=>32::x)<=45:=by
  unfold j3;have:∀ l:List Tx,(∀ x∈l,x.length<=4)->((l.map λx=>32::x).map mI).sum<=5 * l.length:=by
   intro l
   induction l with
   | nil=>simp
   | cons x l ih=>intro h; have h1:=h x (by simp); have h2:=ih λy hy=>h y (by simp[hy]); simp at h2 ⊢; lia
  have:=this ls hx;simp at this ⊢; lia
 have hj:oW [] [.lst (am (ls.map λx=>32::x))]=aa (.str (ls.map λx=>32::x).flatten):=by show(gx (am _)).bind _=_;rw[sQ,iC,if_pos (by unfold bi; lia),wo]
 have hjl:(ls.map λx=>32::x).flatten.length<=45:=by have:=wy [] (ls.map λx=>32::x);rw[wo]at this; lia
 have h2:aW (.str [48+w,59]) (.str (ls.map λx=>32::x).flatten)=aa (.str (aZ w ls)):=ir (by simp only[dq,kR]; unfold bi; lia);have hi:kI (k (am ls))=aa (am ls):=by rcases hk with rfl | rfl <;> rfl
 generalize hq:am (ls.map λx=>32::x)=q at hc hj;generalize sw:(ls.map λx=>32::x).flatten=q2 at hj h2;simp![qy,yaH,hs,h1,lC,tK,fG,dO,hi,hc,hj,h2]
theorem Dt(p:Tx):∀ ls:List Tx,d8 [32] (p::ls)=p++(ls.map λx=>32::x).flatten
 | []=>by simp[d8]
 | x::ls=>by show p++[32]++d8 [32] (x::ls)=_;rw[Dt x ls]; simp
theorem Fy{w:Nat}{ls:List Tx}(hw:w<10)(h:∀ x∈ls,32∉x):dD 32 (aZ w ls)=[48+w,59]::ls:=by
 have e:aZ w ls=d8 [32] ([48+w,59]::ls):=(Dt _ ls).symm;rw[e];refine yx 32 _ (by simp) λp hp=>?_;rcases bV.mp hp with rfl | hp
 ·simp; lia
 ·exact h p hp
theorem LR{w:Nat}{ls:List Tx}(hl:ls.length<=9)(hx:∀ x∈ls,x.length<=4):(aZ w ls).length<=60:=by
 have:∀ l:List Tx,(∀ x∈l,x.length<=4)->(l.map λx=>32::x).flatten.length<=5 * l.length:=by
  intro l
  induction l with
  | nil=>simp
  | cons x l ih=>intro h; have h1:=h x (by simp); have h2:=ih λy hy=>h y (by simp[hy]); simp at h2 ⊢; lia
 have:=this ls hx;unfold aZ;simp at this ⊢; lia
theorem QK{α:Type}(p:α)(r:List α):gv (p::r) (aa 1) ae=r:=by
 unfold gv;have e1:HT.sIx (p::r).length 0 (aa 1)=1:=by rw[show(1:Int)=((1:Nat):Int)from rfl,HT.sIx_nat]; simp
 have e2:HT.sIx (p::r).length (p::r).length ae=(p::r).length:=rfl;rw[e1,e2];simp
theorem Cu:wd [.int 1,.int 5]=aa [.int 1,.int 2,.int 3,.int 4]:=by show(if(5:Int)<=1000000/\-1000000<=(5:Int)/\(1:Int)<=1000000/\-1000000<=(1:Int)then aa (ik 1 ((5:Int)-1).toNat)else ae)=_;rw[if_pos (by decide)]; rfl
theorem nk(k:Nat)(hk:k<10):qy a [.val (.int k),.val (.str [59]),.val (.lst [])] = .ok (.val (.str [48+k,59])) [.val (.int k),.val (.str [59]),.val (.lst [])]:=by have:=Gj (a:=a) k [] hk (by simp) (by simp) .lst (.inr rfl);simpa[aZ,am]using this
theorem Ct{t:Tx}{w:Nat}{ls:List Tx}(w1:1<=w)(w4:w<=4)(h:dD 32 t=[48+w,59]::ls) : ku a [.val (.str t),.val (.str [59])] = .ok (.val (.tup [.int w,.tup (am ls)])) [.val (.str t),.val (.str [59])]:=by
 have k1:gA [.str t,.raw (.ty "str")]=aa (.bl ah):=mi rfl zR;have hs:qz t [.str [32]]=aa (.lst (am ([48+w,59]::ls))):=by show aa (PV.lst (am (dD 32 t)))=_;rw[h]
 have hr:=Cu;have ha:aW (.int 4) (.int 1)=aa (.int 5):=rfl;have i0:bL (.lst (am ([48+w,59]::ls))) (.int 0)=aa (.str [48+w,59]):=by show eF (am ([48+w,59]::ls)) 0=_;rw[wP (by decide) (by simp[am])];rfl
 have sy:i5 (.lst (am ([48+w,59]::ls))) (aa 1) ae=aa (.lst (am ls)):=by show aa (PV.lst (gv (am ([48+w,59]::ls)) (aa 1) ae))=_;have:am ([48+w,59]::ls) = .str [48+w,59]::am ls:=rfl;rw[this,QK]
 have l1:=nk (a:=a) 1 (by decide);have l2:=nk (a:=a) 2 (by decide);have l3:=nk (a:=a) 3 (by decide);have l4:=nk (a:=a) 4 (by decide);have es:∀ k:Nat,Pu.eqT ak (.str [48+w,59]) (.str [48+k,59])=aa (.bl (decide (w=k))):=λk=>by
  rw[zE];have:([48+w,59]=[48+k,59])=(w=k):=by simp
  simp only[this,sd]
 have s1:=es 1;have s2:=es 2;have s3:=es 3;have s4:=es 4;clear h;generalize hW:am ([48+w,59]::ls)=W at hs i0 sy;have z:w=1\/w=2\/w=3\/w=4:=∅
 rcases z with rfl | rfl | rfl | rfl
 all_goals
  simp at l1 l2 l3 l4 s1 s2 s3 s4 i0;simp![ku,yaM,k1,lC,tK,hs,gM,ha,hr,gk,gT,i0,l1,l2,l3,l4,s1,s2,s3,s4,jM,iq,jP,sy,qQ]
theorem GD{x:PV}{W:List PV}{p:Tx}(i0:bL (.lst W) (.int 0)=aa (.str p))(hp:∀ k:Nat,1<=k->k<=4->p≠[48+k,59])(hw:(bX (dB (dL gA (az (dV 0) (az (dC (.raw (.ty "str"))) (aL))))) (lC qz (dV 0) (az (dC (.str [32])) (aL))) (dF (dL c8 (az (dC (.str [])) (aL))))) [.val x,.val (.str [59]),.none,.none] = .ok (.lst W) [.val x,.val (.str [59]),.none,.none]) : ku a [.val x,.val (.str [59])] = .er (.ref a.BadText) [.val x,.val (.str [59])]:=by
 have hr:=Cu;have ha:aW (.int 4) (.int 1)=aa (.int 5):=rfl;have l1:=nk (a:=a) 1 (by decide);have l2:=nk (a:=a) 2 (by decide);have l3:=nk (a:=a) 3 (by decide);have l4:=nk (a:=a) 4 (by decide);have es:∀ k:Nat,1<=k->k<=4->Pu.eqT ak (.str p) (.str [48+k,59])=aa (.bl ak):=λk k1 k4=>by rw[zE];simp[hp k k1 k4]
 have s1:=es 1 (by decide) (by decide);have s2:=es 2 (by decide) (by decide);have s3:=es 3 (by decide) (by decide);have s4:=es 4 (by decide) (by decide);have body:yaM a [.val x,.val (.str [59]),.none,.none] = .er (.ref a.BadText) [.val x,.val (.str [59]),.val (.lst W),.val (.int 4)]:=by unfold yaM;refine(eG (AK hw)).trans ?_;simp at l1 l2 l3 l4 s1 s2 s3 s4;simp![gM,ha,hr,gk,gT,i0,l1,l2,l3,l4,s1,s2,s3,s4,ma,ce]
 simp[ku,bM,fX,bu,aU,body,back,aO,R.bind]
theorem EB{t p:Tx}{ls:List Tx}(h:dD 32 t=p::ls)(hp:∀ k:Nat,1<=k->k<=4->p≠[48+k,59]):ku a [.val (.str t),.val (.str [59])] = .er (.ref a.BadText) [.val (.str t),.val (.str [59])]:=by
 have k1:gA [.str t,.raw (.ty "str")]=aa (.bl ah):=mi rfl zR;have hs:qz t [.str [32]]=aa (.lst (am (p::ls))):=by show aa (PV.lst (am (dD 32 t)))=_;rw[h]
 refine GD (W:=am (p::ls)) (p:=p) ?_ hp (by simp![k1,lC,tK,hs]);show eF (am (p::ls)) 0=_;rw[wP (by decide) (by simp[am])];rfl
theorem Kn{x:PV}{t:String}(h:ro x=aa t)(e:gX [] (.type t) (.type "str")=aa ak):ku a [.val x,.val (.str [59])] = .er (.ref a.BadText) [.val x,.val (.str [59])]:=by
 have k1:=mi (T:="str") h e;exact GD (W:=[.str []]) (p:=[]) rfl (by intro k _ _ z; cases z) (by simp![k1])
theorem Qi{w:Nat}{ws:List Tx}(w4:w<=4)(hw:gB w ws)(h9:ws.length<=9):nt a [.own (SL a w (am ws))] = .ok (.val (.str (aZ w ws))) [.own (SL a w (am ws))]:=by
 have hl:=Gj (a:=a) w ws ∅ h9 (λx hx=>by rw[(hw x hx).1]; exact w4) .lst (.inr rfl);have hq:=DJ (a:=a) (w:=w) (ws:=ws);have h1:=λL ε=>t7 (a:=a) w L ε;have h2:=zb w;have hm:∀ ε:aj,jn (.own (SL a w (am ws))::ε) a.Slit (b0 "windows") 0=ah:=λε=>by show(decide (a.Slit=a.Slit) && ((fw w).lookup (b0 "windows")).isNone && decide (b0 "windows"≠b0 "came"))=ah;rw[decide_eq_true rfl,show(fw w).lookup (b0 "windows")=ae from rfl];decide
 generalize am ws=L at hl hq hm ⊢;generalize aZ w ws=T at hl ⊢;generalize SL a w=P at h1 hq hm ⊢;generalize fw w=f at h1 h2;simp![nt,yaJ,gq,hV,jV,qt,dI,kz,h1,h2,hm,hq,hl]
end
end K39
namespace Sh
open L2 Pu Mx
section
variable{a:Ad}
def jR(lo hi:Nat):List Nat:=List.range' lo (hi-lo)
theorem FZ{lo hi x:Nat}:x∈jR lo hi↔lo<=x/\x<hi:=by unfold jR;rw[List.mem_range'_1];lia
def part(t:Tx)(i j:Nat):Tx:=(t.drop i).take (j-i)
def cV(row:List Tx)(i:Nat):Tx:=row.getD i []
def ja(t:Tx)(s e g l:Nat):Tx:=t.take s++part t g l++part t e g++part t s e++t.drop l
def FX(t:Tx)(row:List Tx)(s g e:Nat):List Tx:=(jR (g+1) row.length).flatMap λl=>if cV row e=cV row l then [ja t s e g l] else []
def Ep(t:Tx)(row:List Tx)(s g:Nat):List Tx:=(jR (s+1) (g+1)).flatMap λe=>FX t row s g e
theorem GU{i:Nat}{ε:aj}(h:i<ε.length):fi i (dL c8 aL) ε = .ok .next (ε.set i (.own (.lst []))):=by simp[fi,dL,aL,c8,R.bind,aO,h]
def CT(t:Tx)(row:List Tx)(s:Nat):List Tx:=(jR (s+1) row.length).flatMap λg=>if cV row s=cV row g then Ep t row s g else []
def Ac(t:Tx)(row:List Tx):List Tx:=(jR 0 row.length).flatMap λs=>CT t row s
theorem nr{i:Nat}{ε:aj}{v:PV}(h:ε[i]?=aa (.val v)):dV i ε = .ok v ε:=by unfold dV; rw[h]
theorem E8{α:Type}{c:aj->R Bool}{d1 d2:aj->R α}{ε ε1:aj}(h:c ε = .ok ah ε1):bX c d1 d2 ε=d1 ε1:=by unfold bX; rw[h]; rfl
theorem py{α:Type}{c:aj->R Bool}{d1 d2:aj->R α}{ε ε1:aj}(h:c ε = .ok ak ε1):bX c d1 d2 ε=d2 ε1:=by unfold bX; rw[h]; rfl
theorem i3{d:aj->R PV}{b:Bool}{ε ε1:aj}(h:d ε = .ok (.bl b) ε1):dB d ε = .ok b ε1:=by unfold dB; rw[h]; rfl
def yu(t:Tx)(m w:Nat):List Tx:=(jR 1 m).map λp=>ip ((t.take m).drop p++(t.take m).take p) w
def pc(t:Tx)(row:List Tx)(w:Nat):List Tx:=if cV row 0=cV row (row.length-1)then yu t (row.length-1) w else []
def nq(t:Tx)(w:Nat):List Tx:=Ac t (gd t (w-1))++pc t (gd t (w-1)) w
def nh(t:Tx)(w:Nat):List Tx:=bO (wL (eW (nq t w)) t)
end
section
variable{a:Ad}
def stI(t:Tx)(row:List Tx)(j l k:Nat):List Tx:=(jR 0 j).flatMap λi=>if cV row i=cV row k then [ja t i j k l] else []
def G7(t:Tx)(row:List Tx)(j l:Nat):List Tx:=(jR j l).flatMap λk=>stI t row j l k
def Gr(t:Tx)(row:List Tx)(l:Nat):List Tx:=(jR 0 l).flatMap λj=>if cV row j=cV row l then G7 t row j l else []
def Bl(t:Tx)(row:List Tx):List Tx:=(jR 0 row.length).flatMap λl=>Gr t row l
def C_(t:Tx)(m:Nat):List Tx:=(jR 1 m).map λp=>part (aU 3 (t.take m)).flatten p (p+t.length)
def iF(t:Tx)(row:List Tx):List Tx:=if cV row 0=cV row (row.length-1)then C_ t (row.length-1)else []
def EN(t:Tx)(w:Nat):List Tx:=Bl t (gd t (w-1))++iF t (gd t (w-1))
def A4(t:Tx)(w:Nat):List Tx:=bO (eW (wL (EN t w) t))
end
theorem Bd{p:Prop}[Decidable p]{z:Tx}{L:List Tx}:z∈(if p then L else [])↔p/\z∈L:=by split <;> simp[*]
def l6(t:Tx)(row:List Tx)(z:Tx):Prop:=∃ s e g l,s<e/\e<=g/\g<l/\l<row.length/\cV row s=cV row g/\cV row e=cV row l/\z=ja t s e g l
theorem CQ{t:Tx}{row:List Tx}{z:Tx}:z∈Ac t row↔l6 t row z:=by
 unfold Ac CT Ep FX l6;simp only[uD,FZ,Bd,gG];constructor
 ·rintro⟨s,hs,g,hg,q1,e,he,l,hl,q2,rfl⟩;exact⟨s,e,g,l,∅,∅,∅,hl.2,q1,q2,rfl⟩
 ·rintro⟨s,e,g,l,h1,h2,h3,h4,q1,q2,rfl⟩;exact⟨s,⟨∅,∅⟩,g,⟨∅,∅⟩,q1,e,⟨∅,∅⟩,l,⟨∅,h4⟩,q2,rfl⟩
theorem JM{t:Tx}{row:List Tx}{z:Tx}:z∈Bl t row↔l6 t row z:=by
 unfold Bl Gr G7 stI l6;simp only[uD,FZ,Bd,gG];constructor
 ·rintro⟨l,hl,j,hj,q2,k,hk,i,hi,q1,rfl⟩;exact⟨i,j,k,l,∅,∅,∅,hl.2,q1,q2,rfl⟩
 ·rintro⟨s,e,g,l,h1,h2,h3,h4,q1,q2,rfl⟩;exact⟨l,⟨∅,h4⟩,e,⟨∅,∅⟩,q2,g,⟨∅,∅⟩,s,⟨∅,∅⟩,q1,rfl⟩
theorem Po{R:Tx}{m w p:Nat}(hR:R.length=m)(w1:1<=w)(hw:w<=m+1)(hp:p<=m):ip (R.drop p++R.take p) w=part (aU 3 R).flatten p (p+(m+w-1)):=by
 have hl:(R.drop p++R.take p).length=m:=by simp; lia
 unfold ip part;rw[hl,yg];have e3:((aU 3 R).flatten).drop p=(R.drop p++R.take p)++((R.drop p++R.take p)++R.drop p):=by
  have:(aU 3 R).flatten=R++(R++R):=by simp[aU]
  rw[this,HU ∅];simp only[gb];rw[ol,← gb (R.take p),ol]
 rw[e3];generalize R.drop p++R.take p=Z at hl;obtain⟨v,rfl⟩:∃ v,w=v+1:=⟨w-1,∅⟩
 cases v with
 | zero=>
  have:(aU (0+1) Z).flatten=Z:=by simp
  rw[this,B6 ∅]
 | succ v=>
  have:(aU (v+1+1) Z).flatten=(Z++Z)++(aU v Z).flatten:=by simp[aU]
  rw[this,← gb,B6 (l₁:=Z++Z) (by simp; lia),B6 (l₁:=Z++Z) (by simp; lia)]
def sg(s e g l i:Nat):Nat:=if i<s then i else if i<s+(l-g)then g+(i-s)else if i<s+(l-g)+(g-e)then e+(i-(s+(l-g)))else if i<l then s+(i-(s+(l-g)+(g-e)))else i
theorem qZ{t:Tx}{i j:Nat}(h:j<=t.length):(part t i j).length=j-i:=by unfold part; simp; lia
theorem y4{t:Tx}{i j k:Nat}(h:k<j-i):(part t i j)[k]?=t[i+k]?:=by unfold part;rw[om,if_pos h,mP]
theorem vF{t:Tx}{s e g l:Nat}(h1:s<e)(h2:e<=g)(h3:g<l)(h4:l<=t.length):(ja t s e g l).length=t.length:=by unfold ja;rw[dr,dr,dr,dr,qZ h4,qZ ∅,qZ ∅,jD,jF];lia
theorem AA{t:Tx}{s e g l:Nat}(h1:s<e)(h2:e<=g)(h3:g<l)(h4:l<=t.length)(i:Nat):(ja t s e g l)[i]?=t[sg s e g l i]?:=by
 have e1:(t.take s).length=s:=by simp; lia
 have e2:=qZ (t:=t) (i:=g) (j:=l) h4;have e3:=qZ (t:=t) (i:=e) (j:=g) ∅;have e4:=qZ (t:=t) (i:=s) (j:=e) ∅;unfold ja sg;by_cases c1:i<s
 ·rw[if_pos c1,gb,gb,gb,fJ ∅,om,if_pos c1]
 ·rw[if_neg c1,gb,gb,gb,jE ∅,e1];by_cases c2:i<s+(l-g)
  ·rw[if_pos c2,fJ ∅,y4 ∅]
  ·rw[if_neg c2,jE ∅,e2];by_cases c3:i<s+(l-g)+(g-e)
   ·rw[if_pos c3,fJ ∅,y4 ∅,show i-s-(l-g)=i-(s+(l-g)) by lia]
   ·rw[if_neg c3,jE ∅,e3];by_cases c4:i<l
    ·rw[if_pos c4,fJ ∅,y4 ∅];congr 1; lia
    ·rw[if_neg c4,jE ∅,e4,mP];congr 1; lia
theorem sS{s e g l i:Nat}(h:i<s):sg s e g l i=i:=if_pos h
theorem pP{s e g l i:Nat}(a:¬ i<s)(h:i<s+(l-g)):sg s e g l i=g+(i-s):=by unfold sg; rw[if_neg a,if_pos h]
theorem rh{s e g l i:Nat}(a:¬ i<s+(l-g))(h:i<s+(l-g)+(g-e)):sg s e g l i=e+(i-(s+(l-g))):=by unfold sg; rw[if_neg λz=>a (se _ z),if_neg a,if_pos h]
theorem qM{s e g l i:Nat}(a:¬ i<s+(l-g)+(g-e))(h:i<l):sg s e g l i=s+(i-(s+(l-g)+(g-e))):=by unfold sg; rw[if_neg λz=>a (se _ (se _ z)),if_neg λz=>a (se _ z),if_neg a,if_pos h]
theorem sM{s e g l i:Nat}(a:¬ i<s+(l-g)+(g-e))(h:¬ i<l):sg s e g l i=i:=by unfold sg; rw[if_neg λz=>a (se _ (se _ z)),if_neg λz=>a (se _ z),if_neg a,if_neg h]
theorem Qg{s e g l:Nat}(h1:s<e)(h2:e<=g)(h3:g<l)(i:Nat):sg s e g l (i+1)=sg s e g l i+1\/(sg s e g l (i+1)=g/\sg s e g l i+1=s)\/(sg s e g l (i+1)=e/\sg s e g l i+1=l)\/(sg s e g l (i+1)=s/\sg s e g l i+1=l/\e=g)\/(sg s e g l (i+1)=s/\sg s e g l i+1=g)\/(sg s e g l (i+1)=l/\sg s e g l i+1=e):=by
 by_cases a1:i+1<s
 ·exact .inl (by rw[sS a1,sS (B8 a1)])
 by_cases a2:i+1<s+(l-g)
 ·by_cases b:i<s
  ·exact .inr (.inl ⟨by rw[pP a1 a2]; lia,by rw[sS b]; lia⟩)
  ·exact .inl (by rw[pP a1 a2,pP b (B8 a2)]; lia)
 by_cases a3:i+1<s+(l-g)+(g-e)
 ·by_cases b:i<s+(l-g)
  ·exact .inr (.inr (.inl ⟨by rw[rh a2 a3]; lia,by rw[pP ∅ b]; lia⟩))
  ·exact .inl (by rw[rh a2 a3,rh b (B8 a3)]; lia)
 by_cases a4:i+1<l
 ·by_cases b:i<s+(l-g)+(g-e)
  ·have q:sg s e g l (i+1)=s:=by rw[qM a3 a4]; lia
   by_cases c:i<s+(l-g)
   ·exact .inr (.inr (.inr (.inl ⟨q,by rw[pP ∅ c]; lia,∅⟩)))
   ·exact .inr (.inr (.inr (.inr (.inl ⟨q,by rw[rh c b]; lia⟩))))
  ·exact .inl (by rw[qM a3 a4,qM b (B8 a4)]; lia)
 ·by_cases b:i<l
  ·exact .inr (.inr (.inr (.inr (.inr ⟨by rw[sM a3 a4]; lia,by rw[qM ∅ b]; lia⟩))))
  ·exact .inl (by rw[sM a3 a4,sM ∅ b])
theorem y3{s e g l:Nat}(h1:s<e)(h2:e<=g)(h3:g<l)(j:Nat):sg s e g l (sg s (s+(l-g)) (s+(l-g)+(g-e)) l j)=j:=by
 obtain⟨q,hq⟩:∃ q,q=s+(l-g):=⟨_,rfl⟩
 obtain⟨r,hr⟩:∃ r,r=q+(g-e):=⟨_,rfl⟩
 rw[← hq,← hr];have c1:s+(l-r)=e:=∅
 have c2:e+(r-q)=g:=∅
 by_cases a1:j<s
 ·rw[sS a1,sS a1]
 by_cases a2:j<s+(l-r)
 ·rw[pP a1 a2,qM (by rw[← hq,← hr]; exact uC.mpr (H_ ..)) ∅,← hq,← hr,yg];exact Ia (uC.mp a1)
 by_cases a3:j<s+(l-r)+(r-q)
 ·rw[rh a2 a3,rh (by rw[← hq]; exact uC.mpr (H_ ..)) ∅,← hq,yg,c1];exact Ia ∅
 by_cases a4:j<l
 ·rw[qM a3 a4,pP (uC.mpr (H_ ..)) ∅,yg,c1,c2];exact Ia ∅
 ·rw[sM a3 a4,sM ∅ a4]
theorem F7{s e g l m:Nat}(h1:s<e)(h2:e<=g)(h3:g<l)(h4:l<=m){i:Nat}(h:i<m):sg s e g l i<m:=by
 unfold sg
 (repeat' split) <;> lia
theorem NN{s e g l:Nat}(h1:s<e)(h2:e<=g)(h3:g<l){i j:Nat}(h:sg s e g l i=sg s e g l j):i=j:=by
 have r:∀ k,sg s (s+(l-g)) (s+(l-g)+(g-e)) l (sg s e g l k)=k:=λk=>by have:=y3 (s:=s) (e:=s+(l-g)) (g:=s+(l-g)+(g-e)) (l:=l) ∅ ∅ ∅ k;rwa[show s+(l-(s+(l-g)+(g-e)))=e by lia,show e+(s+(l-g)+(g-e)-(s+(l-g)))=g by lia]at this
 rw[← r i,h,r j]
theorem LP{s e g l m:Nat}(h1:s<e)(h2:e<=g)(h3:g<l)(h4:l<=m):((bJ m).map (sg s e g l)).Perm (bJ m):=by
 rw[HW ?_ List.nodup_range]
 ·intro j;rw[dW,uh];constructor
  ·rintro⟨i,hi,rfl⟩;exact F7 h1 h2 h3 h4 (uh.mp hi)
  ·intro hj;exact⟨sg s (s+(l-g)) (s+(l-g)+(g-e)) l j,uh.mpr (F7 ∅ ∅ ∅ h4 hj),y3 h1 h2 h3 j⟩
 ·show List.Pairwise _ _;rw[Hw];exact List.Pairwise.imp (λcY heq=>cY (NN h1 h2 h3 heq)) (List.nodup_range (n:=m))
def Pc(t:Tx)(v i j:Nat):Prop:=∀ k,k<v->t[i+k]?=t[j+k]?
theorem zP{t:Tx}{v s e g l:Nat}(h1:s<e)(h2:e<=g)(h3:g<l)(h4:l<=t.length)(p1:Pc t v s g)(p2:Pc t v e l):∀ k,k<=v->∀ i,(ja t s e g l)[i+k]?=t[sg s e g l i+k]?
 | 0,_,i=>AA h1 h2 h3 h4 i
 | k+1,hk,i=>by
  have ih:=zP h1 h2 h3 h4 p1 p2 k ∅ (i+1);rw[show i+(k+1)=i+1+k by lia,ih,show sg s e g l i+(k+1)=sg s e g l i+1+k by lia];rcases Qg h1 h2 h3 i with q | ⟨q,r⟩ | ⟨q,r⟩ | ⟨q,r,u⟩ | ⟨q,r⟩ | ⟨q,r⟩ <;> rw[q]
  ·rw[r]; exact(p1 k ∅).symm
  ·rw[r]; exact p2 k ∅
  ·rw[r,p1 k ∅,← u]; exact p2 k ∅
  ·rw[r]; exact p1 k ∅
  ·rw[r]; exact(p2 k ∅).symm
theorem xn{t z:Tx}{i j w:Nat}(h:∀ k,k<w->z[i+k]?=t[j+k]?):(z.drop i).take w=(t.drop j).take w:=by
 refine ka λk=>?_;rw[om,om];split
 ·rename_i hk;rw[mP,mP]; exact h k hk
 ·rfl
theorem zX{t:Tx}{v i j:Nat}(h:(t.drop i).take v=(t.drop j).take v):Pc t v i j:=λk hk=>by have:=congrArg (λl:Tx=>l[k]?) h;simpa[om,hk,mP]using this
theorem nR{t:Tx}{v i:Nat}(h:i<t.length+1-v):cV (gd t v) i=(t.drop i).take v:=by unfold Sh.cV gd;simp[h]
theorem Ls{t:Tx}{w s e g l:Nat}(w1:1<=w)(h1:s<e)(h2:e<=g)(h3:g<l)(h4:l+w<=t.length+1)(p1:Pc t (w-1) s g)(p2:Pc t (w-1) e l):(cp (ja t s e g l) w).Perm (cp t w):=by
 have hl:l<=t.length:=∅
 rw[q_ _ _ w1,q_ _ _ w1,vF h1 h2 h3 hl];have:(bJ (t.length+1-w)).map (λi=>((ja t s e g l).drop i).take w)=((bJ (t.length+1-w)).map (sg s e g l)).map λj=>(t.drop j).take w:=by rw[eP];refine iB λi _=>?_;exact xn λk hk=>zP h1 h2 h3 hl p1 p2 k ∅ i
 rw[this];exact(LP h1 h2 h3 ∅).map _
theorem Mg{s e g l:Nat}(h1:s<e)(h2:e<=g)(h3:g<l):sg s e g l s=g:=by unfold sg; (repeat' split) <;> lia
theorem JH{s e g l:Nat}(h1:s<e)(h2:e<=g)(h3:g<l):sg s e g l (s+(l-g)+(g-e))=s:=by unfold sg; (repeat' split) <;> lia
theorem NQ{s e g l:Nat}(h1:s<e)(h2:e<=g)(h3:g<l):sg s e g l l=l:=by unfold sg; (repeat' split) <;> lia
theorem Jz{s e g l:Nat}(h1:s<e)(h2:e<=g)(h3:g<l):sg s e g l (s+(l-g))=e\/(sg s e g l (s+(l-g))=s/\e=g):=by unfold sg; (repeat' split) <;> lia
theorem Ly{t:Tx}{s e g l:Nat}(h1:s<e)(h2:e<=g)(h3:g<l)(h4:l<=t.length):ja (ja t s e g l) s (s+(l-g)) (s+(l-g)+(g-e)) l=t:=by refine ka λi=>?_;rw[AA ∅ ∅ ∅ (by rw[vF h1 h2 h3 h4]; exact h4),AA h1 h2 h3 h4,y3 h1 h2 h3]
theorem yJ{t:Tx}{w:Nat}(w1:1<=w){z:Tx}:l6 t (gd t (w-1)) z↔∃ s e g l,s<e/\e<=g/\g<l/\l+w<=t.length+1/\Pc t (w-1) s g/\Pc t (w-1) e l/\z=ja t s e g l:=by
 unfold l6;rw[Ai];constructor
 ·rintro⟨s,e,g,l,h1,h2,h3,h4,q1,q2,rfl⟩;rw[nR ∅,nR ∅]at q1 q2;exact⟨s,e,g,l,h1,h2,h3,∅,zX q1,zX q2,rfl⟩
 ·rintro⟨s,e,g,l,h1,h2,h3,h4,q1,q2,rfl⟩;refine⟨s,e,g,l,h1,h2,h3,∅,?_,?_,rfl⟩
  ·rw[nR ∅,nR ∅]; exact xn q1
  ·rw[nR ∅,nR ∅]; exact xn q2
theorem OD{t z:Tx}{w:Nat}(w1:1<=w)(h:l6 t (gd t (w-1)) z):l6 z (gd z (w-1)) t:=by
 obtain⟨s,e,g,l,h1,h2,h3,h4,q1,q2,rfl⟩:=(yJ w1).mp h;have hl:l<=t.length:=∅
 have hw:=λk hk i=>zP h1 h2 h3 hl q1 q2 k hk i;refine(yJ w1).mpr ⟨s,s+(l-g),s+(l-g)+(g-e),l,∅,∅,∅,by rw[vF h1 h2 h3 hl]; exact h4,λk hk=>?_,λk hk=>?_,(Ly h1 h2 h3 hl).symm⟩
 ·rw[hw k ∅,hw k ∅,Mg h1 h2 h3,JH h1 h2 h3];exact(q1 k hk).symm
 ·rw[hw k ∅,hw k ∅,NQ h1 h2 h3];rcases Jz h1 h2 h3 with q | ⟨q,r⟩ <;> rw[q]
  ·exact q2 k hk
  ·rw[q1 k hk,← r]; exact q2 k hk
theorem Iv{t z:Tx}{w:Nat}(w1:1<=w)(h:l6 t (gd t (w-1)) z):z.length=t.length/\(cp z w).Perm (cp t w)/\∀ c∈z,c∈t:=by
 obtain⟨s,e,g,l,h1,h2,h3,h4,q1,q2,rfl⟩:=(yJ w1).mp h;refine⟨vF h1 h2 h3 ∅,Ls w1 h1 h2 h3 h4 q1 q2,λc hc=>?_⟩;unfold ja part at hc;simp only[eM]at hc;rcases hc with(((hc | hc) | hc) | hc) | hc
 ·exact mV hc
 ·exact r_ (mV hc)
 ·exact r_ (mV hc)
 ·exact r_ (mV hc)
 ·exact r_ hc
theorem Qj{t:Tx}{m w:Nat}(w1:1<=w)(hm:m+w=t.length+1)(m1:1<=m)(h:Pc t (w-1) 0 m):t=ip (t.take m) w:=by
 have hr:(t.take m).length=m:=by simp; lia
 have key:∀ i,i<t.length->t[i]?=aa (Mx.cV (t.take m) i):=by
  intro i
  induction i using Nat.strongRecOn with
  | ind i ih=>
   intro hi;by_cases c:i<m
   ·have:=Mx.v6 (z:=t.take m) (i:=i) ∅;rw[← this,om,if_pos c]
   ·have h1:=h (i-m) ∅;rw[show 0+(i-m)=i-m by lia,show m+(i-m)=i by lia]at h1;rw[← h1,ih (i-m) ∅ ∅];have:=Mx.CW (t.take m) (i-m);rw[hr,show m+(i-m)=i by lia]at this;rw[this]
 have hl:(ip (t.take m) w).length=t.length:=by rw[wD ∅ w1,hr]; lia
 refine ka λi=>?_;by_cases c:i<t.length
 ·rw[key i c,tI ∅ w1 ∅]
 ·rw[jg ∅,jg ∅]
theorem Cs{t:Tx}{w:Nat}(w1:1<=w)(h1:w<=t.length){z:Tx}:z∈pc t (gd t (w-1)) w↔Pc t (w-1) 0 (t.length+1-w)/\∃ p,1<=p/\p<t.length+1-w/\z=ip (gy p (t.take (t.length+1-w))) w:=by
 unfold pc yu;rw[Bd,Ai,show t.length+1-(w-1)-1=t.length+1-w by lia,nR ∅,nR ∅,dW];constructor
 ·rintro⟨q,p,hp,rfl⟩;obtain⟨p1,p2⟩:=FZ.mp hp;exact⟨zX q,p,p1,p2,rfl⟩
 ·rintro⟨q,p,p1,p2,rfl⟩;exact⟨xn q,p,FZ.mpr ⟨p1,p2⟩,rfl⟩
theorem K1{t z:Tx}{w:Nat}(w1:1<=w)(h1:w<=t.length)(h:z∈pc t (gd t (w-1)) w):z.length=t.length/\(cp z w).Perm (cp t w)/\(∀ c∈z,c∈t)/\t∈pc z (gd z (w-1)) w:=by
 obtain⟨q,p,p1,p2,rfl⟩:=(Cs w1 h1).mp h;generalize hm:t.length+1-w=m at q p2;have ht:=Qj w1 (m:=m) ∅ ∅ q;have hr:(t.take m).length=m:=by simp; lia
 generalize hR:t.take m=R at ht hr;have hrl:(gy p R).length=m:=by rw[oR ∅,hr]
 have hzl:(ip (gy p R) w).length=t.length:=by rw[wD ∅ w1,hrl]; lia
 refine⟨hzl,?_,λc hc=>?_,?_⟩
 ·rw[C4 ∅ w1,ht,C4 ∅ w1];exact QR ∅
 ·have:=Jj (Iy hc);rw[← hR]at this;exact mV this
 ·rw[Cs w1 ∅,hzl,hm];refine⟨λk hk=>?_,m-p,∅,∅,?_⟩
  ·rw[tI ∅ w1 ∅,tI ∅ w1 ∅];have:=Mx.CW (gy p R) k;rw[hrl]at this;rw[this,rX]
  ·have uP:=Jx (z:=gy p R) (w:=w) ∅ w1;rw[hrl]at uP;rw[uP,Ja ∅ ∅ ∅,hr,show(p+(m-p)) % m=0 by rw[show p+(m-p)=m by lia,Nat.mod_self],IA];exact ht
theorem Ro{t:Tx}{w:Nat}{z:Tx}:z∈nh t w↔z∈nq t w/\z≠t:=by unfold nh;rw[(jN _).mem_iff];unfold wL;rw[lM,nv,decide_eq_true_eq]
theorem MZ{t z:Tx}{w:Nat}(h:Tv t w)(hz:z∈nq t w):Tv z w/\z.length=t.length/\(cp z w).Perm (cp t w)/\t∈nq z w:=by
 unfold nq at hz ⊢;rcases eM.mp hz with hz | hz
 ·rw[CQ]at hz;obtain⟨a1,a2,a3⟩:=Iv h.w1 hz;exact⟨⟨h.w1,h.w4,by rw[a1]; exact h.h1,by rw[a1]; exact h.h9,λc hc=>h.abc c (a3 c hc)⟩,a1,a2,eM.mpr (.inl (CQ.mpr (OD h.w1 hz)))⟩
 ·obtain⟨a1,a2,a3,a4⟩:=K1 h.w1 h.h1 hz;exact⟨⟨h.w1,h.w4,by rw[a1]; exact h.h1,by rw[a1]; exact h.h9,λc hc=>h.abc c (a3 c hc)⟩,a1,a2,eM.mpr (.inr a4)⟩
abbrev gr(t:Tx)(v i:Nat):Tx:=(t.drop i).take v
theorem KQ{t:Tx}{v i k:Nat}(h:k<v):(gr t v i)[k]?=t[i+k]?:=by unfold gr; rw[om,if_pos h,mP]
theorem QT{t:Tx}{v i:Nat}(h:i+v<t.length):(cp t (v+1))[i]?=aa (gr t (v+1) i):=by rw[q_ _ _ ∅,j9,BH ∅];rfl
inductive WN(w:Nat):Nat->Tx->Tx->Prop
 | here (n:Nat) (t:Tx):WN w n t t
 | on {n:Nat} {t u z:Tx}:WN w n t u->z∈nq u w->WN w (n+1) t z
theorem WN.more{w n:Nat}{t z:Tx}(h:WN w n t z):WN w (n+1) t z:=by
 induction h with
 | here n t=>exact .here _ _
 | on _ hz ih=>exact .on ih hz
theorem WN.mono{w n:Nat}{t z:Tx}(h:WN w n t z):∀ k,WN w (n+k) t z
 | 0=>h
 | k+1=>(h.mono k).more
theorem WN.cons{w n:Nat}{t u z:Tx}(hu:u∈nq t w)(h:WN w n u z):WN w (n+1) t z:=by
 induction h with
 | here n u=>exact .on (.here n t) hu
 | on _ hz ih=>exact .on (ih hu) hz
theorem WN.good{w n:Nat}{t z:Tx}(h:WN w n t z)(ht:Tv t w):Tv z w/\z.length=t.length/\(cp z w).Perm (cp t w):=by
 induction h with
 | here n t=>exact⟨ht,rfl,.refl _⟩
 | on _ hz ih=>obtain⟨a1,a2,a3⟩:=ih ht;obtain⟨b1,b2,b3,_⟩:=MZ a1 hz;exact⟨b1,∅,b3.trans a3⟩
theorem WN.like{w n:Nat}{t z:Tx}(h:WN w n t z)(ht:Tv t w):z∈kH t w:=by obtain⟨a1,a2,a3⟩:=h.good ht;exact Rn.mpr ⟨a2,a1.abc,a3⟩
def Lv(w:Nat)(t:Tx)(k:Nat)(z:Tx):Prop:=WN w k t z/\∀ j,j+1=k->¬ WN w j t z
theorem RG{w:Nat}{t z:Tx}:Lv w t 0 z↔z=t:=by
 constructor
 ·rintro⟨h,_⟩; cases h; rfl
 ·rintro rfl; exact⟨.here _ _,λj hj=>∅⟩
theorem Ru{w:Nat}{t z:Tx}:WN w 0 t z↔z=t:=by
 constructor
 ·intro h; cases h; rfl
 ·rintro rfl; exact .here _ _
theorem Lz{w k:Nat}{t z:Tx}:WN w (k+1) t z↔WN w k t z\/∃ u,Lv w t k u/\z∈nh u w:=by
 constructor
 ·intro h;by_cases c:WN w k t z
  ·exact .inl c
  ·right;cases h with
   | here=>exact absurd (.here _ _) c
   | @on _ _ u _ hu hz=>
    have cY:z≠u:=by rintro rfl; exact c hu
    refine⟨u,⟨hu,λj hj hw=>?_⟩,Ro.mpr ⟨hz,cY⟩⟩;subst hj;exact c (.on hw hz)
 ·rintro(h | ⟨u,hu,hz⟩)
  ·exact h.more
  ·exact .on hu.1 (Ro.mp hz).1
def Full(w:Nat)(t:Tx)(k:Nat):Prop:=∀ z∈kH t w,WN w k t z
theorem QB(v:Nat){a:Tx}(ha:a.length=v)(hc:∀ c∈a,c∈bj):a∈dQ v:=by rw[mj]; exact⟨ha,hc⟩
theorem Gb{z:Tx}{v:Nat}(h:v<z.length):(cp z (v+1)).map (λx=>x.headD 0)=z.take (z.length-v):=by
 refine ka λi=>?_;rw[j9,om];by_cases c:i<z.length-v
 ·rw[QT ∅,if_pos c,ux];have e:(gr z (v+1) i)[0]?=z[i]?:=by have:=KQ (t:=z) (v:=v+1) (i:=i) (k:=0) ∅; simpa using this
  have hz:z[i]?=aa z[i]:=fK ∅;rw[hz]at e ⊢;cases hg:gr z (v+1) i with
  | nil=>rw[hg]at e; cases e
  | cons c r=>rw[hg]at e; simpa using e
 ·rw[if_neg c,jg (by rw[F9 ∅]; lia)];rfl
theorem OC:∀ m:Fin 9,∀ i:Fin 9,∀ j:Fin 9,i.val+j.val<=m.val->(lr m.val i.val j.val (m.val-i.val-j.val)).length * 3 ^ (min 3 (9-m.val))<=2430:=by decide +kernel
theorem LY{t:Tx}{w:Nat}(h:Tv t w)(w2:2<=w)(h9:t.length<=9):(kH t w).length<=2430:=by
 obtain⟨v,rfl⟩:∃ v,w=v+1:=⟨w-1,∅⟩
 have hv:=h.h1;have su:=h.w4;generalize hm:t.length-v=m
 let T:=t.take m
 have hT:T.length=m:=by simp[T]; lia
 have hTc:∀ c∈T,c∈bj:=λc hc=>h.abc c (mV hc);have lR:∀ z∈kH t (v+1),z∈(lr m (T.count 97) (T.count 98) (T.count 99)).flatMap λa=>(dQ v).map λb=>a++b:=by
  intro z hz;obtain⟨z1,z2,z3⟩:=Rn.mp hz;have hp:(z.take m).Perm T:=by have e1:=Gb (z:=z) (v:=v) ∅;have e2:=Gb (z:=t) (v:=v) ∅;rw[z1,hm]at e1;rw[hm]at e2;have:=z3.map (λx:Tx=>x.headD 0);rw[e1,e2]at this;exact this
  have hzl:(z.take m).length=m:=by simp; lia
  have hzw:=D6 m (z.take m) hzl λc hc=>z2 c (mV hc);rw[hp.count_eq,hp.count_eq,hp.count_eq]at hzw;refine uD.mpr ⟨z.take m,hzw,dW.mpr ⟨z.drop m,QB v (by simp; lia) λc hc=>z2 c (r_ hc),ol m z⟩⟩
 refine cr (len_sub (FC _ _) lR) ?_;have a8:∀ (l:List Tx),(l.flatMap λa=>(dQ v).map λb=>a++b).length=l.length * 3 ^ v:=by
  intro l
  induction l with
  | nil=>simp
  | cons a l ih=>rw[r9,dr,ih,cX,AY,dq,Nat.add_mul]; lia
 rw[a8];have hc:=LA hTc;rw[hT]at hc;have:=OC ⟨m,∅⟩ ⟨T.count 97,∅⟩ ⟨T.count 98,∅⟩ (by simp; lia);simp only at this;rw[show m-T.count 97-T.count 98=T.count 99 by lia]at this;refine cr (Nat.mul_le_mul_left _ (Nat.pow_le_pow_right (by decide) (show v<=min 3 (9-m) by lia))) this
theorem Ox{R:Tx}{m w p:Nat}(hR:R.length=m)(w1:1<=w)(hw:w<=m+2)(hp:p<m):ip (R.drop p++R.take p) w=part (aU 3 R).flatten p (p+(m+w-1)):=by
 by_cases c:w<=m+1
 ·exact Po hR w1 c ∅
 ·have hl:(R.drop p++R.take p).length=m:=by simp; lia
  unfold ip part;rw[hl,yg];have e3:((aU 3 R).flatten).drop p=(R.drop p++R.take p)++((R.drop p++R.take p)++R.drop p):=by
   have:(aU 3 R).flatten=R++(R++R):=by simp[aU]
   rw[this,HU ∅];simp only[gb];rw[ol,← gb (R.take p),ol]
  obtain⟨v,rfl⟩:∃ v,w=v+3:=⟨w-3,∅⟩
  have ew:∀ Z:Tx,(aU (v+3) Z).flatten=Z++(Z++(Z++(aU v Z).flatten)):=λZ=>by simp[aU]
  rw[e3,ew];have hB:(R.drop p).length=m-p:=by simp; lia
  have hA:(R.take p).length=p:=by simp; lia
  generalize (aU v (R.drop p++R.take p)).flatten=X;generalize R.drop p=B at hB;generalize R.take p=A at hA;rw[show(B++A)++((B++A)++((B++A)++X))=((B++A)++((B++A)++B))++(A++X) by simp only[gb],B6];simp; lia
theorem Do{t:Tx}{w:Nat}(h:Tv t w)(h2:2 * w<=t.length+3):nh t w=A4 t w:=by
 have b1:=h.w1;have b3:=h.h1;have hrl:=Ai t (w-1);have ht:pc t (gd t (w-1)) w=iF t (gd t (w-1)):=by unfold pc iF;congr 1;unfold yu C_;refine iB λp hp=>?_;obtain⟨p1,p2⟩:=FZ.mp hp;rw[Ox (m:=(gd t (w-1)).length-1) (by simp; lia) b1 ∅ p2,show(gd t (w-1)).length-1+w-1=t.length by lia]
 unfold nh A4;refine re ((jN _).trans ?_) (wY _);unfold wL nq EN;rw[HW ((A9 _).filter _) (A9 _)];intro z;rw[lM,nv,nv,lM,eM,eM,CQ,JM,ht]
abbrev ks(m:List (Tx×Int)):List Tx:=m.map (·.1)
theorem MC(m:List (Tx×Int))(z:Tx):(m.any λp=>decide (p.1=z))=decide (z∈ks m):=by rw[rJ,uF,decide_eq_true_eq,dW];exact⟨λ⟨p,h1,h2⟩=>⟨p,h1,of_decide_eq_true h2⟩,λ⟨p,h1,h2⟩=>⟨p,h1,decide_eq_true h2⟩⟩
theorem OR(m:List (Tx×Int))(z:Tx):(cn m z).isSome=decide (z∈ks m):=by
 rw[← MC];cases h:m.any λp=>decide (p.1=z)with
 | false=>rw[vx h]; rfl
 | true=>obtain⟨n,e⟩:=GT h; rw[e]; rfl
theorem LO{i:Nat}{de:aj->R PV}{ε ε1:aj}{x:PV}{xs0 xs:List PV}(h0:dA ε i=aa xs0)(h:de ε = .ok x ε1)(h1:dA ε1 i=aa xs)(hl:xs.length<bi):kB i de ε = .ok .next (ε1.set i (.own (.lst (xs++[x])))):=by unfold kB;rw[h0];simp only[cz,R.bind_ok];rw[h];simp only[R.bind_ok];rw[h1];simp only[cz,R.bind_ok];rw[if_pos hl]
def sf(k:Int)(st:List (Tx×Int)×List Tx)(z:Tx):List (Tx×Int)×List Tx:=if z∈ks st.1 then st else(st.1++[(z,k)],st.2++[z])
theorem Em(k:Int):∀ (zs:List Tx) (st:List (Tx×Int)×List Tx) (z:Tx),z∈ks (zs.foldl (sf k) st).1↔z∈ks st.1\/z∈zs
 | [],st,z=>by simp
 | x::zs,st,z=>by
  rw[og,Em k zs];unfold sf;by_cases c:x∈ks st.1
  ·rw[if_pos c,bV];exact⟨λh=>h.elim .inl λh=>.inr (.inr h),λh=>h.elim .inl λh=>h.elim (λe=>.inl (by rw[e]; exact c)) .inr⟩
  ·rw[if_neg c];show z∈(st.1++[(x,k)]).map (·.1)\/z∈zs↔_;simp[or_assoc]
theorem GO(k:Int):∀ (zs:List Tx) (st:List (Tx×Int)×List Tx) (z:Tx),z∈(zs.foldl (sf k) st).2↔z∈st.2\/(z∈zs/\z∉ks st.1)
 | [],st,z=>by simp
 | x::zs,st,z=>by
  rw[og,GO k zs];unfold sf;by_cases c:x∈ks st.1
  ·rw[if_pos c,bV];constructor
   ·rintro(h | ⟨h,q⟩)
    ·exact .inl h
    ·exact .inr ⟨.inr h,q⟩
   ·rintro(h | ⟨h | h,q⟩)
    ·exact .inl h
    ·exact absurd (by rw[h]; exact c) q
    ·exact .inr ⟨h,q⟩
  ·rw[if_neg c,bV];show z∈st.2++[x]\/(z∈zs/\z∉(st.1++[(x,k)]).map (·.1))↔_;rw[eM,gG,mL,eM];constructor
   ·rintro((h | h) | ⟨h,q⟩)
    ·exact .inl h
    ·exact .inr ⟨.inl h,by rw[h]; exact c⟩
    ·exact .inr ⟨.inr h,λy=>q (.inl y)⟩
   ·rintro(h | ⟨h | h,q⟩)
    ·exact .inl (.inl h)
    ·exact .inl (.inr h)
    ·by_cases e:z=x
     ·exact .inl (.inr e)
     ·exact .inr ⟨h,λy=>y.elim q λy=>e (by simpa using y)⟩
structure SP(U:List Tx)(st:List (Tx×Int)×List Tx):Prop where
 nd:(ks st.1).Nodup
 sub:∀ z∈ks st.1,z∈U
 len:st.2.length<=st.1.length
theorem SP.few{U:List Tx}{st:List (Tx×Int)×List Tx}(h:SP U st):st.1.length<=U.length:=by have:=len_sub h.nd h.sub;rwa[cX]at this
section
variable{a:Ad}
theorem kt{d:aj->R Slot}{ε ε1:aj}{x:PV}(h:d ε = .ok (.val x) ε1):bf d ε = .ok x ε1:=by unfold bf; rw[h]; rfl
theorem LV{d:aj->R PV}{ε ε1:aj}{xs:List PV}(h:d ε = .ok (.lst xs) ε1):dO d ε = .ok xs ε1:=by unfold dO; rw[h]; rfl
end
structure tG(t:Tx)(w k:Nat)(m:List (Tx×Int))(new:List Tx):Prop where
 nd:(ks m).Nodup
 key:∀ z,z∈ks m↔WN w k t z
 new:∀ z,z∈new↔Lv w t k z
theorem tG.sp{t:Tx}{w k:Nat}{m:List (Tx×Int)}{new:List Tx}(h:tG t w k m new)(ht:Tv t w):SP (kH t w) (m,[]):=⟨h.nd,λz hz=>((h.key z).mp hz).like ht,by simp⟩
theorem FD{t:Tx}{w k:Nat}{m:List (Tx×Int)}{new:List Tx}(h:tG t w k m new)(z:Tx):z∈(new.flatMap λu=>nh u w)↔∃ u,Lv w t k u/\z∈nh u w:=by rw[uD];exact⟨λ⟨u,a,b⟩=>⟨u,(h.new u).mp a,b⟩,λ⟨u,a,b⟩=>⟨u,(h.new u).mpr a,b⟩⟩
theorem tG.next{t:Tx}{w k:Nat}{m:List (Tx×Int)}{new:List Tx}(h:tG t w k m new){st:List (Tx×Int)×List Tx}(e:(new.flatMap λu=>nh u w).foldl (sf ((k:Int)+1)) (m,[])=st)(hs:SP (kH t w) st):tG t w (k+1) st.1 st.2:=by
 refine⟨hs.nd,λz=>?_,λz=>?_⟩
 ·rw[← e,Em,Lz,FD h];show z∈ks m\/_↔_;rw[h.key]
 ·rw[← e,GO,FD h];show z∈[]\/(_/\z∉ks m)↔_;rw[h.key];constructor
  ·rintro(q | ⟨q,r⟩)
   ·simp at q
   ·exact⟨Lz.mpr (.inr q),λj hj=>(show k=j by lia) ▸ r⟩
  ·rintro⟨q,r⟩;have r':=r k rfl;exact .inr ⟨(Lz.mp q).resolve_left r',r'⟩
theorem tG.len{t:Tx}{w k:Nat}{m:List (Tx×Int)}{new:List Tx}(h:tG t w k m new)(ht:Tv t w):m.length<(kH t w).length↔¬ Full w t k:=by
 have hkl:(ks m).length=m.length:=cX _;constructor
 ·intro hl hf;have:=len_sub (FC t w) (m:=ks m) λz hz=>(h.key z).mpr (hf z hz);lia
 ·intro hf;refine Classical.byContradiction λc=>hf λz hz=>Classical.byContradiction λd=>?_;have hn:z∉ks m:=λq=>d ((h.key z).mp q);have:=len_sub (l:=z::ks m) (m:=kH t w) (j8.mpr ⟨hn,h.nd⟩) λy hy=>by
   rcases bV.mp hy with rfl | hy
   ·exact hz
   ·exact((h.key y).mp hy).like ht
  rw[dq]at this;lia
theorem IT{w i j:Nat}{t z:Tx}(h1:Lv w t i z)(h2:Lv w t j z):i=j:=by
 rcases Nat.lt_trichotomy i j with c | c | c
 ·have:=h1.1.mono (j-1-i);rw[show i+(j-1-i)=j-1 by lia]at this;exact absurd this (h2.2 (j-1) ∅)
 ·exact c
 ·have:=h2.1.mono (i-1-j);rw[show j+(i-1-j)=i-1 by lia]at this;exact absurd this (h1.2 (i-1) ∅)
theorem L3{w:Nat}{t z:Tx}:∀ {k:Nat},WN w k t z↔∃ i,i<=k/\Lv w t i z
 | 0=>⟨λh=>⟨0,bp _,RG.mpr (Ru.mp h)⟩,λ⟨i,h1,h2⟩=>by
   have:i=0:=∅
   subst this;exact h2.1⟩
 | k+1=>by
  constructor
  ·intro h;by_cases c:WN w k t z
   ·obtain⟨i,h1,h2⟩:=L3.mp c;exact⟨i,∅,h2⟩
   ·exact⟨k+1,bp _,h,λj hj=>(show k=j by lia) ▸ c⟩
  ·rintro⟨i,h1,h2⟩;have:=h2.1.mono (k+1-i);rwa[show i+(k+1-i)=k+1 by lia]at this
structure tF(t:Tx)(w k:Nat)(m:List (Tx×Int))(lv:List Tx):Prop where
 nd:(ks m).Nodup
 get:∀ z (n:Int),cn m z=aa n↔∃ i:Nat,n=i/\i<=k/\Lv w t i z
 lev:∀ z,z∈lv↔Lv w t k z
theorem tF.key{t:Tx}{w k:Nat}{m:List (Tx×Int)}{lv:List Tx}(h:tF t w k m lv)(z:Tx):z∈ks m↔WN w k t z:=by
 have:=OR m z;rw[L3];constructor
 ·intro q;rw[decide_eq_true q,xJ]at this;obtain⟨n,hn⟩:=this;obtain⟨i,_,h1,h2⟩:=(h.get z n).mp hn;exact⟨i,h1,h2⟩
 ·rintro⟨i,h1,h2⟩;have e:=(h.get z i).mpr ⟨i,rfl,h1,h2⟩;rw[e]at this;exact of_decide_eq_true this.symm
def sZ(w:Nat)(m:List (Tx×Int))(lv:List Tx):List Tx:=lv.flatMap λh=>(A4 h w).filter λz=>decide (z∉ks m)
theorem Fi(n:Int):∀ (zs:List Tx) (m:List (Tx×Int)) (z:Tx),cn (zs.foldl (λm z=>cL m z n) m) z=if z∈zs then aa n else cn m z
 | [],m,z=>by simp
 | x::zs,m,z=>by
  rw[og,Fi n zs,vo];by_cases c:z∈zs
  ·simp[c]
  ·by_cases d:z=x <;> simp[c,d]
theorem FY(n:Int):∀ (zs:List Tx) (m:List (Tx×Int)),(ks m).Nodup->(ks (zs.foldl (λm z=>cL m z n) m)).Nodup
 | [],m,h=>h
 | x::zs,m,h=>FY n zs (cL m x n) (zz h)
structure sK(t:Tx)(w:Nat):Prop where
 tv:Tv t w
 w2:2<=w
 h9:t.length<=9
 two:2 * w<=t.length+3
theorem sK.of{t u:Tx}{w k:Nat}(h:sK t w)(q:WN w k t u):sK u w:=by obtain⟨a1,a2,_⟩:=q.good h.tv;exact⟨a1,h.w2,by have:=h.h9; lia,by have:=h.two; lia⟩
theorem tF.late{t:Tx}{w k:Nat}{m:List (Tx×Int)}{lv:List Tx}(h:tF t w k m lv)(ht:sK t w)(z:Tx):z∈sZ w m lv↔Lv w t (k+1) z:=by
 unfold sZ;rw[uD];simp only[lM,decide_eq_true_eq];constructor
 ·rintro⟨u,hu,hz,hn⟩;have hl:=(h.lev u).mp hu;have hw:=ht.of hl.1;rw[← Do hw.tv hw.two]at hz;refine⟨Lz.mpr (.inr ⟨u,hl,hz⟩),λj hj=>?_⟩;rw[h.key]at hn;exact(show k=j by lia) ▸ hn
 ·rintro⟨q,r⟩;have r':=r k rfl;obtain⟨u,hu,hz⟩:=(Lz.mp q).resolve_left r';have hw:=ht.of hu.1;rw[Do hw.tv hw.two]at hz;exact⟨u,(h.lev u).mpr hu,hz,λc=>r' ((h.key z).mp c)⟩
theorem tF.next{t:Tx}{w k:Nat}{m:List (Tx×Int)}{lv:List Tx}(h:tF t w k m lv)(ht:sK t w):tF t w (k+1) ((sZ w m lv).foldl (λm z=>cL m z ((k:Int)+1)) m) (bO (eW (sZ w m lv))):=by
 refine⟨FY _ _ _ h.nd,λz n=>?_,λz=>?_⟩
 ·rw[Fi];by_cases c:z∈sZ w m lv
  ·have hl:=(h.late ht z).mp c;rw[if_pos c];constructor
   ·intro e;exact⟨k+1,by rw[← fj e]; rfl,bp _,hl⟩
   ·rintro⟨i,rfl,h1,h2⟩;rw[IT h2 hl]; rfl
  ·rw[if_neg c,h.get];constructor
   ·rintro⟨i,e,h1,h2⟩;exact⟨i,e,∅,h2⟩
   ·rintro⟨i,e,h1,h2⟩;refine⟨i,e,?_,h2⟩;rcases Nat.lt_or_ge k i with d | d
    ·have:i=k+1:=∅
     subst this;exact absurd ((h.late ht z).mpr h2) c
    ·exact d
 ·rw[(jN _).mem_iff,nv,h.late ht]
theorem tF.sub{t:Tx}{w k:Nat}{m:List (Tx×Int)}{lv:List Tx}(h:tF t w k m lv)(ht:sK t w):m.length<=2430:=by have:=len_sub h.nd λz hz=>((h.key z).mp hz).like ht.tv;rw[cX]at this;have:=LY ht.tv ht.w2 ht.h9;lia
end Sh
namespace K39
open L2 Pu Mx Sh
section
variable{a:Ad}
theorem Ka{g:aj->R Slot}{ε:aj}{i:Nat}{C:af}{m:Str}{d:aj->R PV}{x r:PV}{po po':PO}(hm:jn ε C m i=ah)(hi:ε[i]?=aa (.own po))(hd:d ε = .ok x ε)(hg:g [.own po,.val x] = .ok (.val r) [.own po',.val x]) : iZ C m i g (gV d Pu.bT) ε = .ok (.val r) (ε.set i (.own po')):=by unfold iZ;rw[if_pos hm];simp[gV,Pu.bT,hd,kz,bF,cJ,hi,hg,cZ,dG,eD,aO,R.bind]
theorem zJ{g:aj->R Slot}{ε:aj}{i:Nat}{C:af}{m:Str}{r:PV}{po po':PO}(hm:jn ε C m i=ah)(hi:ε[i]?=aa (.own po))(hg:g [.own po] = .ok (.val r) [.own po']) : dI C m i g ε = .ok (.val r) (ε.set i (.own po')):=by unfold dI;rw[if_pos hm];simp[kz,bF,cJ,hi,hg,cZ,dG,eD,aO,R.bind]
theorem xD{ε:aj}{i:Nat}{w:Nat}{L:List PV}{m:Str}(hi:ε[i]?=aa (.own (SL a w L)))(h1:(fw w).lookup m=ae)(h2:m≠b0 "came"):jn ε a.Slit m i=ah:=by unfold jn;rw[hi];show(decide (a.Slit=a.Slit) && ((fw w).lookup m).isNone && decide (m≠b0 "came"))=ah;rw[decide_eq_true rfl,h1,decide_eq_true h2];rfl
theorem wZ{ε:aj}{i:Nat}{w:Nat}{ws:List Tx}{z:Tx}{d:aj->R PV}(w1:1<=w)(w4:w<=4)(hw:gB w ws)(h9:ws.length<=8)(hz:z.length=w/\∀ c∈z,c∈bj)(hi:ε[i]?=aa (.own (SL a w (am ws))))(hd:d ε = .ok (.str z) ε) : iZ a.Slit (b0 "come") i (jx a) (gV d Pu.bT) ε = .ok (.val (.int ((TW w (ws++[z])).length:Nat))) (ε.set i (.own (SL a w (am (ws++[z]))))) :=Ka (xD hi rfl (by decide)) hi hd (IM w1 w4 hw h9 hz)
theorem zv{ε:aj}{i:Nat}{w:Nat}{ws:List Tx}{z:Tx}(hi:ε[i]?=aa (.own (SL a w (am (ws++[z]))))) : dI a.Slit (b0 "undo") i (iK a) ε = .ok (.val (.str z)) (ε.set i (.own (SL a w (am ws)))) :=zJ (xD hi rfl (by decide)) hi KS
theorem tJ{ε:aj}{i:Nat}{s:Slot}(h:ε[i]?=aa s):ε.set i s=ε:=by
 apply ka;intro j;by_cases hj:i=j
 ·subst hj; rw[cA (cu.mp h).1,h]
 ·rw[cg hj]
theorem G5{ε:aj}{i:Nat}{w:Nat}{ws:List Tx}(hi:ε[i]?=aa (.own (SL a w (am ws)))) : dI a.Slit (b0 "windows") i (lj a) ε = .ok (.val (.lst (am ws))) ε:=by have:=zJ (xD (m:=b0 "windows") hi rfl (by decide)) hi (DJ (a:=a) (w:=w) (ws:=ws));rwa[tJ hi]at this
theorem Ft{ε:aj}{i:Nat}{w:Nat}{ws:List Tx}(w1:1<=w)(w4:w<=4)(hw:gB w ws)(h9:ws.length<=9)(hi:ε[i]?=aa (.own (SL a w (am ws)))) : dI a.Slit (b0 "told") i (lI a) ε = .ok (.val (qF w ws)) ε:=by have:=zJ (xD (m:=b0 "told") hi rfl (by decide)) hi (Ke (a:=a) w1 w4 hw h9);rwa[tJ hi]at this
theorem GH{ε:aj}{w:Nat}{d:aj->R PV}(w1:1<=w)(w4:w<=4)(hd:d ε = .ok (.int w) ε):ph a.Slit (nP a) (gV d Pu.bT) ε = .ok (SL a w []) ε:=by have hi:=JE (a:=a) w1 w4;simp[ph,gV,Pu.bT,hd,kz,bF,cJ,hi,cZ,dG,eD,aO,R.bind]
def cB(a:Ad):aj->R aT:=eJ (iZ a.Slit (b0 "come") 3 (jx a) (gV (dV 4) (Pu.bT)))
theorem GA(T F W:Slot)(w:Nat)(w1:1<=w)(w4:w<=4):∀ (ls pre:List Tx) (s:Slot),gB w (pre++ls)->pre.length+ls.length<=9->∃ s',gT 4 (cB a) (am ls) [T,F,W,.own (SL a w (am pre)),s] = .ok .next [T,F,W,.own (SL a w (am (pre++ls))),s']
 | [],pre,s,_,_=>⟨s,by rw[gD]; rfl⟩
 | z::ls,pre,s,hw,h9=>by
  have hz:=hw z (by simp);have hc:=wZ (a:=a) (ε:=[T,F,W,.own (SL a w (am pre)),.val (.str z)]) (i:=3) (d:=dV 4) w1 w4 (λx hx=>hw x (by simp[hx])) (by simp at h9; lia) hz rfl rfl;obtain⟨s',e⟩:=GA T F W w w1 w4 ls (pre++[z]) (.val (.str z)) (by rw[gb]; exact hw) (by simp at h9 ⊢; lia);refine⟨s',?_⟩;have hb:cB a [T,F,W,.own (SL a w (am pre)),.val (.str z)] = .ok .next [T,F,W,.own (SL a w (am (pre++[z]))),.val (.str z)]:=by unfold cB eJ;rw[hc];rfl
  show gT 4 (cB a) (PV.str z::am ls) _=_;rw[gT,show([T,F,W,.own (SL a w (am pre)),s]:aj).set 4 (.val (.str z))=[T,F,W,.own (SL a w (am pre)),.val (.str z)] from rfl,hb];rw[gb]at e;exact e
def cond(a:Ad):aj->R Bool:=fS (dB (d2 (ge λi j=>decide (j<i)) (dL cb (az (dV 2) (aL))) (dC (.int 9)))) (iW (dB (dL pD (az (dF (fG [1] (dO (dV 2)) (dR) (bf (bh (jY a) (gV (dV 0) (gV (d2 bL (dV 1) (dC (.int 0))) (gV (dC (.str [97,98,99])) (Pu.bT)))))))) (aL)))))
theorem Qx(T:Slot)(w:Nat)(ls:List Tx):cond a [T,.val (.tup [.int w,.tup (am ls)]),.val (.tup (am ls)),.none,.none] = .ok (decide (9<ls.length) || !(ls.all (cx w bj))) [T,.val (.tup [.int w,.tup (am ls)]),.val (.tup (am ls)),.none,.none]:=by
 have hl:cb [.tup (am ls)]=aa (.int (ls.length:Nat)):=by simp[cb,iH]
 have hc:=oX (cap:=[1]) (dt:=dR) (de:=(bf (bh (jY a) (gV (dV 0) (gV (d2 bL (dV 1) (dC (.int 0))) (gV (dC (.str [97,98,99])) (Pu.bT))))))) (ε:=[T,.val (.tup [.int w,.tup (am ls)]),.val (.tup (am ls)),.none,.none]) (λ_=>ah) (λx=>match x with | .str z=>.bl (cx w bj z) | _=>.non) (am ls)
  (by intro x hx;obtain⟨z,_,rfl⟩:=dW.mp hx;refine⟨by simp![eX,ff,ce,dR],λ_=>?_⟩;have hw:jY a [.val (.str z),.val (.int w),.val (.str [97,98,99])] = .ok (.val (.bl (cx w bj z))) [.val (.str z),.val (.int w),.val (.str [97,98,99])]:=yS (a:=a) z bj w;have i0:bL (.tup [.int w,.tup (am ls)]) (.int 0)=aa (.int w):=rfl;simp![eX,ff,ce,i0,hw]) []
 have he:((am ls).filter (λ_=>ah)).map (λx=>match x with | .str z=>PV.bl (cx w bj z) | _=>.non)=(ls.map (cx w bj)).map .bl:=by rw[uE.mpr (by simp)];unfold am;rw[eP,eP]; rfl
 rw[mS,he]at hc;have eT:(ls.map (cx w bj)).all id=ls.all (cx w bj):=by rw[xS]; rfl
 generalize ls.map (cx w bj)=bs at hc eT;have ha:=zt bs;rw[eT]at ha;have c9:decide ((9:Int)<(ls.length:Nat))=decide (9<ls.length):=by
  by_cases q:9<ls.length
  ·rw[decide_eq_true q,decide_eq_true ∅]
  ·rw[decide_eq_false q,decide_eq_false ∅]
 generalize ls.all (cx w bj)=B at ha ⊢;generalize decide (9<ls.length)=D at c9 ⊢;generalize ((ls.length:Nat):Int)=n at hl c9;cases D with
 | true=>
  have c:(9:Int)<n:=by simpa using c9
  simp![cond,hl,c]
 | false=>
  have c:¬ (9:Int)<n:=by simpa using c9
  simp![cond,hl,c,fG,dO,kI,hc,ha]
theorem Dy{i:Nat}{di:aj->R (List PV)}{db d2:aj->R aT}{ε ε1 ε2:aj}{xs:List PV}(h:di ε = .ok xs ε1)(h2:gT i db xs ε1 = .ok .next ε2):aN (λε=>gk (gM i di db ε)) d2 ε=d2 ε2 :=eG (by show gk _=_; unfold gM; rw[h,R.bind_ok,h2]; rfl)
theorem D4{T:PV}{w:Nat}{ls:List Tx}(w1:1<=w)(w4:w<=4)(ht:ku a [.val T,.val (.str [59])] = .ok (.val (.tup [.int w,.tup (am ls)])) [.val T,.val (.str [59])]) : j2 a [.val T]=if(decide (9<ls.length) || !(ls.all (cx w bj)))=ah then .er (.ref a.BadText) [.val T] else .ok (.own (SL a w (am ls))) [.val T]:=by
 have hc:=Qx (a:=a) (.val T) w ls;have k1:cM 1 (bf (bh (ku a) (gV (dV 0) (gV (dC (.str [59])) (Pu.bT))))) [.val T,.none,.none,.none,.none] = .ok .next [.val T,.val (.tup [.int w,.tup (am ls)]),.none,.none,.none]:=by generalize am ls=L at ht ⊢;simp![ht]
 have k2:cM 2 (d2 bL (dV 1) (dC (.int 1))) [.val T,.val (.tup [.int w,.tup (am ls)]),.none,.none,.none] = .ok .next [.val T,.val (.tup [.int w,.tup (am ls)]),.val (.tup (am ls)),.none,.none]:=by have i1:bL (.tup [.int w,.tup (am ls)]) (.int 1)=aa (.tup (am ls)):=rfl;generalize am ls=L at i1 ⊢;simp![i1]
 cases hb:(decide (9<ls.length) || !(ls.all (cx w bj)))with
 | true=>
  rw[hb]at hc;rw[if_pos rfl];have oI:yaI a [.val T,.none,.none,.none,.none] = .er (.ref a.BadText) [.val T,.val (.tup [.int w,.tup (am ls)]),.val (.tup (am ls)),.none,.none]:=by show aN _ (aN _ (aN (bX (cond a) _ _) _)) _=_;refine(eG k1).trans ?_;refine(eG k2).trans ?_;unfold aN bX;rw[hc];rfl
  unfold j2;generalize yaI a=D at oI;generalize am ls=L at oI;simp[bM,fX,bu,aU,oI,back,aO,R.bind]
 | false=>
  rw[hb]at hc;rw[if_neg (by simp)];simp only[Bool.or_eq_false_iff,decide_eq_false_iff_not,Bool.not_eq_false',lP]at hb;have hW:gB w ls:=λz hz=>by have:=hb.2 z hz;unfold cx at this;simp only[fc,decide_eq_true_eq,lP]at this;exact⟨∅,λc hc=>by simpa using this.2 c hc⟩
  obtain⟨s',hl⟩:=GA (a:=a) (.val T) (.val (.tup [.int w,.tup (am ls)])) (.val (.tup (am ls))) w w1 w4 ls [] .none (by simpa using hW) (by simp; lia);rw[mS]at hl;have k4:fi 3 (ph a.Slit (nP a) (gV (d2 bL (dV 1) (dC (.int 0))) (Pu.bT))) [.val T,.val (.tup [.int w,.tup (am ls)]),.val (.tup (am ls)),.none,.none] = .ok .next [.val T,.val (.tup [.int w,.tup (am ls)]),.val (.tup (am ls)),.own (SL a w (am [])),.none]:=by unfold fi;rw[GH w1 w4 (gu (nr (i:=1) (v:=.tup [.int w,.tup (am ls)]) rfl) (jt (.int 0) _) rfl)];rfl
  have oI:yaI a [.val T,.none,.none,.none,.none] = .ok (.ret (.own (SL a w (am ls)))) [.val T,.val (.tup [.int w,.tup (am ls)]),.val (.tup (am ls)),.none,s']:=by show aN _ (aN _ (aN (bX (cond a) _ _) (aN _ (aN (λε=>gk (gM 4 _ (cB a) ε)) _)))) _=_;refine(eG k1).trans ?_;refine(eG k2).trans ?_;refine(eG (py hc)).trans ?_;refine(eG k4).trans ?_;refine(Dy (show dO (dV 2) [.val T,.val (.tup [.int w,.tup (am ls)]),.val (.tup (am ls)),.own (SL a w (am [])),.none] = .ok (am ls) [.val T,.val (.tup [.int w,.tup (am ls)]),.val (.tup (am ls)),.own (SL a w (am [])),.none] from rfl) hl).trans ?_;rfl
  unfold j2;generalize yaI a=D at oI;generalize SL a w=P at oI ⊢;generalize am ls=L at oI ⊢;simp[bM,fX,bu,aU,oI,back,aO,R.bind]
def nG:PV:=.tup [.str [114,101,102,117,115,101,100],.int 10]
def Wh(a:Ad):Prop:=tN a [.val (.exc (.ref a.BadText))] = .ok (.val nG) [.val (.exc (.ref a.BadText))]
theorem RE(h:tN a [.val (.exc (.ref a.BadText))] = .ok (.val nG) [.val (.exc (.ref a.BadText))]):Wh a:=h
theorem FM(nd:Wh a){x:PV}(hw:j2 a [.val x] = .er (.ref a.BadText) [.val x]):mq a [.val x] = .ok (.val nG) [.val x]:=by
 have hq:tN a _=_:=nd;have hc:qw a (.ref a.BadText)=ah:=by simp[qw,fF]
 simp![mq,yaA,wE,vi,qW,ce,hw,hc,hq]
theorem AF{x:PV}(h:ku a [.val x,.val (.str [59])] = .er (.ref a.BadText) [.val x,.val (.str [59])]):j2 a [.val x] = .er (.ref a.BadText) [.val x]:=by simp![j2,yaI,h]
theorem tY{w:Nat}{ls:List Tx}(w1:1<=w)(w4:w<=4)(h32:∀ x∈ls,32∉x)(h:9<ls.length\/∃ x∈ls,cx w bj x=ak):j2 a [.val (.str (aZ w ls))] = .er (.ref a.BadText) [.val (.str (aZ w ls))]:=by
 rw[D4 w1 w4 (Ct w1 w4 (Fy ∅ h32)),if_pos];rcases h with h | ⟨x,hx,h⟩
 ·rw[decide_eq_true h]; rfl
 ·have:ls.all (cx w bj)=ak:=by
   rw[BR];intro q;rw[lP.mp q x hx]at h;cases h
  rw[this]; simp
theorem QP{w:Nat}{ls:List Tx}(w1:1<=w)(w4:w<=4)(hw:gB w ls)(h9:ls.length<=9):j2 a [.val (.str (aZ w ls))] = .ok (.own (SL a w (am ls))) [.val (.str (aZ w ls))]:=by
 have h32:∀ x∈ls,32∉x:=λx hx q=>by have:=(hw x hx).2 32 q;simp[bj]at this
 have hb:(decide (9<ls.length) || !(ls.all (cx w bj)))=ak:=by rw[decide_eq_false ∅,lP.mpr λx hx=>Cw (hw x hx)];rfl
 rw[D4 w1 w4 (Ct w1 w4 (Fy ∅ h32)),hb,if_neg (by simp)]
theorem AV(w:Nat)(ls ms:List Tx):aZ w (ls++ms)=aZ w ls++(ms.map λx=>32::x).flatten:=by unfold aZ;rw[mL,List.flatten_append,gb]
theorem Qe(w:Nat)(ls:List Tx):aZ w ls++[32]=aZ w (ls++[[]]):=by rw[AV]; rfl
theorem OB(w:Nat)(ls:List Tx)(k:Nat):aZ w ls++(aU k [32,100]).flatten=aZ w (ls++aU k [100]):=by rw[AV,List.map_replicate]
theorem NR(w:Nat)(ls:List Tx)(k:Nat):aZ w ls++[32]++aU k 97=aZ w (ls++[aU k 97]):=by rw[AV];simp
theorem zj{w:Nat}{ls ms:List Tx}(hw:gB w ls)(h:∀ x∈ms,32∉x):∀ x∈ls++ms,32∉x:=λx hx q=>by
 rcases eM.mp hx with hx | hx
 ·have:=(hw x hx).2 32 q;simp[bj]at this
 ·exact h x hx q
theorem Nv(nd:Wh a){w:Nat}{ls:List Tx}(w1:1<=w)(w4:w<=4)(hw:gB w ls):∀ x∈[PV.str (aZ w ls++[32]),.str (aZ w ls++(aU w [32,100]).flatten),.str ([32]++aZ w ls),.str [53,59],.str (aZ w ls++[32]++aU (w+1) 97),.str (aZ w [[59],[]]),.non], mq a [.val x] = .ok (.val nG) [.val x]:=by
 intro x hx;simp only[bV,kT,or_false]at hx;refine FM nd ?_;rcases hx with rfl | rfl | rfl | rfl | rfl | rfl | rfl
 ·rw[Qe];exact tY w1 w4 (zj hw (by simp)) (.inr ⟨[],by simp,by unfold cx; rw[decide_eq_false (by simp; lia)]; rfl⟩)
 ·rw[OB];refine tY w1 w4 (zj hw λx hx=>by rw[(yf.mp hx).2]; decide) (.inr ⟨[100],kM _ (yf.mpr ⟨∅,rfl⟩),?_⟩);unfold cx;rw[show([100]:Tx).all bj.contains=ak by decide,Bool.and_false]
 ·exact AF (EB (p:=[]) (ls:=dD 32 (aZ w ls)) (by show dD 32 (32::aZ w ls)=_; rw[dD,if_pos rfl]) (λk _ _ z=>by cases z))
 ·exact AF (EB (p:=[53,59]) (ls:=[]) (by decide) (λk _ k4 z=>by simp at z; lia))
 ·rw[NR];refine tY w1 w4 (zj hw λx hx=>?_) (.inr ⟨aU (w+1) 97,by simp,by unfold cx; rw[decide_eq_false (by simp; lia)]; rfl⟩);rw[gG]at hx;subst hx;intro q;have:=(yf.mp q).2;lia
 ·exact tY w1 w4 (by decide) (.inr ⟨[],by simp,by unfold cx; rw[decide_eq_false (by simp; lia)]; rfl⟩)
 ·exact AF (Kn (t:="NoneType") rfl (by decide +kernel))
theorem NE(nd:Wh a):mq a [.val (.str (aZ 1 (aU 10 [97])))] = .ok (.val nG) [.val (.str (aZ 1 (aU 10 [97])))] :=FM nd (tY (by decide) (by decide) (by decide) (.inl (by decide)))
end
section
variable{a:Ad}
theorem Ku{G:aj->R Slot}{ε:aj}{v0 v3 r:PV}{p p':PO}(h0:ε[0]?=aa (.val v0))(h1:ε[1]?=aa (.own p))(h3:ε[3]?=aa (.val v3))(hg:G [.val v0,.own p,.val v3,.val v3] = .ok (.val r) [.val v0,.own p',.val v3,.val v3]) : bh G (gV (dV 0) (gO 1 (gV (dV 3) (gV (dV 3) (Pu.bT))))) ε = .ok (.val r) (ε.set 1 (.own p')):=by simp[bh,gV,gO,Pu.bT,dV,h0,h1,h3,R.bind,aO,bF,cJ,hg,cZ,dG,eD]
theorem NV{G:aj->R Slot}{ε:aj}{i:Nat}{r:PV}{p p':PO}(h1:ε[i]?=aa (.own p))(hg:G [.own p] = .ok (.val r) [.own p']):bh G (gO i (Pu.bT)) ε = .ok (.val r) (ε.set i (.own p')):=by simp[bh,gO,Pu.bT,h1,R.bind,aO,bF,cJ,hg,cZ,dG,eD]
theorem Bm{G:aj->R Slot}{ε:aj}{d:aj->R PV}{v:PV}{s:Slot}(hd:d ε = .ok v ε)(hg:G [.val v] = .ok s [.val v]):bh G (gV d (Pu.bT)) ε = .ok s ε:=by simp[bh,gV,Pu.bT,hd,R.bind,aO,bF,cJ,hg,cZ,dG,eD]
theorem GK(ws:List Tx)(z:Tx):am (ws++[z])=am ws++[.str z]:=by unfold am; rw[mL]; rfl
theorem Jv(pre:List Tx)(v:Tx):g7 (bL (.lst (am (pre++[v]))) (.int (-1)))=aa (.str v):=by
 have hix:kx (am (pre++[v])).length (-1)=aa pre.length:=by unfold kx am;rw[cX,dr,p7,if_neg ∅,if_pos ∅];congr 1;lia
 have:bL (.lst (am (pre++[v]))) (.int (-1))=aa (.str v):=by show eF _ _=_;unfold eF;rw[hix];unfold am;simp
 rw[this]; rfl
theorem Qr{i:Nat}{ε:aj}{pre:List Tx}{v:Tx}(h:dA ε i=aa (am (pre++[v]))):jj bL i (d1 gh (dC (.int 1))) ε = .ok (.str v) ε:=by have hat:=Jv pre v;unfold jj;generalize am (pre++[v])=L at hat h;simp[h,aO,R.bind,d1,dC,gh,hat]
def rB(a:Ad):aj->R aT:=aN (kB 5 (bf (bh (oV a) (gV (dV 0) (gO 1 (gV (dV 3) (gV (dV 3) (Pu.bT)))))))) (eJ (iZ a.Slit (b0 "come") 4 (jx a) (gV (jj bL 5 (d1 gh (dC (.int 1)))) (Pu.bT))))
def eI(a:Ad)(ns:List Int)(ys:List PV)(c:PV)(w:Nat)(ws:List Tx)(s:Slot):aj:=[df ns,.own (.lst ys),.val c,.val (.int w),.own (SL a w (am ws)),.own (.lst (am ws)),s,.none,.none,.none]
theorem Gq(ns:List Int)(c:PV)(w:Nat)(w1:1<=w)(w4:w<=4):∀ (xs:List PV) (ws:List Tx) (ys:List PV) (s:Slot),gB w ws->ws.length+xs.length<=9->ys.length+10 * xs.length<=200 -> ∃ ws' ys' s',gB w ws'/\ws'.length<=9/\ys'.length<=200/\gT 6 (rB a) xs (eI a ns ys c w ws s) = .ok .next (eI a ns ys' c w ws' s')
 | [],ws,ys,s,hw,h9,hy=>⟨ws,ys,s,hw,by simp at h9; lia,by simp at hy; lia,rfl⟩
 | x::xs,ws,ys,s,hw,h9,hy=>by
  simp only[dq]at h9 hy;obtain⟨z,y2,z1,z2,zc,hy2,ht⟩:=NH (a:=a) ns ys w w (bp _) ∅ ∅;have hz:z.length=w/\∀ c∈z,c∈bj:=⟨∅,zc⟩
  obtain⟨ws',ys',s',h1,h2,h3,h4⟩:=Gq ns c w w1 w4 xs (ws++[z]) y2 (.val x) (hw.app hz) (by simp; lia) ∅;refine⟨ws',ys',s',h1,h2,h3,?_⟩;have e1:bf (bh (oV a) (gV (dV 0) (gO 1 (gV (dV 3) (gV (dV 3) (Pu.bT)))))) (eI a ns ys c w ws (.val x)) = .ok (.str z) (eI a ns y2 c w ws (.val x)) :=kt (Ku (ε:=eI a ns ys c w ws (.val x)) (p:=.lst ys) (p':=.lst y2) (v3:=.int w) rfl rfl rfl ht);have e2:=LO (i:=5) (xs0:=am ws) (xs:=am ws) rfl e1 rfl (by rw[iH]; unfold bi; lia);have jI:kB 5 (bf (bh (oV a) (gV (dV 0) (gO 1 (gV (dV 3) (gV (dV 3) (Pu.bT))))))) (eI a ns ys c w ws (.val x)) = .ok .next [df ns,.own (.lst y2),.val c,.val (.int w),.own (SL a w (am ws)),.own (.lst (am (ws++[z]))),.val x,.none,.none,.none]:=by rw[e2,GK]; rfl
  have e3:=wZ (a:=a) (ε:=[df ns,.own (.lst y2),.val c,.val (.int w),.own (SL a w (am ws)),.own (.lst (am (ws++[z]))),.val x,.none,.none,.none]) (i:=4) (d:=jj bL 5 (d1 gh (dC (.int 1)))) w1 w4 hw ∅ hz rfl (Qr rfl);have hb:rB a (eI a ns ys c w ws (.val x)) = .ok .next (eI a ns y2 c w (ws++[z]) (.val x)):=by unfold rB;refine(eG jI).trans ?_;unfold eJ;rw[e3];rfl
  show gT 6 (rB a) (x::xs) _=_;rw[gT,show(eI a ns ys c w ws s).set 6 (.val x)=eI a ns ys c w ws (.val x)from rfl,hb];exact h4
theorem rj{ε:aj}{i:Nat}{v:PV}(h:ε[i]?=aa (.val v)):eZ i ε = .ok v ε:=by unfold eZ; rw[h]
theorem GZ{ε:aj}{i:Nat}{L:List PV}(h:ε[i]?=aa (.own (.lst L))):eZ i ε = .ok (.lst L) (ε.set i (.val (.lst L))):=by unfold eZ; rw[h]
def tE:aj->R PV:=d2 aW (d2 aW (dL jZ (az (dV 3) (aL))) (dC (.str [59]))) (lC oW (dC (.str [])) (az (dF (fG [] (dO (eZ 5)) (dR) (d2 aW (dC (.str [32])) (dV 0)))) (aL)))
theorem Aw(w:Nat)(hw:w<10):jZ [.int w]=aa (.str [48+w]):=by show(if 0<=(w:Int)/\(w:Int)<10 then aa (PV.str [48+(w:Int).toNat])else ae)=_;rw[if_pos ∅]; simp
theorem Lf{ε ε1:aj}{w:Nat}{ls:List Tx}(hw:w<10)(hl:ls.length<=9)(hx:∀ x∈ls,x.length<=4)(h3:ε[3]?=aa (.val (.int w)))(h5:eZ 5 ε = .ok (.lst (am ls)) ε1):tE ε = .ok (.str (aZ w ls)) ε1:=by
 have hs:=Aw w hw;have h1:aW (.str [48+w]) (.str [59])=aa (.str [48+w,59]):=ir (by simp[bi]);have hc:=oX (cap:=[]) (dt:=dR) (de:=(d2 aW (dC (.str [32])) (dV 0))) (ε:=ε1) (λ_=>ah) (λx=>match x with | .str z=>.str (32::z) | _=>.non) (am ls)
  (by intro x sC;obtain⟨z,hz,rfl⟩:=dW.mp sC;refine⟨by simp![eX,ff,ce,dR],λ_=>?_⟩;have ha:aW (.str [32]) (.str z)=aa (.str (32::z)):=ir (by have:=hx z hz; simp[bi]; lia);simp![eX,ff,ce,ha]) []
 have he:((am ls).filter (λ_=>ah)).map (λx=>match x with | .str z=>PV.str (32::z) | _=>.non)=am (ls.map λx=>32::x):=by rw[uE.mpr (by simp)];unfold am;rw[eP,eP]; rfl
 rw[mS,he]at hc;have hwt:j3 [] (ls.map λx=>32::x)<=45:=by
  unfold j3;have:∀ l:List Tx,(∀ x∈l,x.length<=4)->((l.map λx=>32::x).map mI).sum<=5 * l.length:=by
   intro l
   induction l with
   | nil=>simp
   | cons x l ih=>intro h; have h1:=h x (by simp); have h2:=ih λy hy=>h y (by simp[hy]); simp at h2 ⊢; lia
  have:=this ls hx;simp at this ⊢; lia
 have hj:oW [] [.lst (am (ls.map λx=>32::x))]=aa (.str (ls.map λx=>32::x).flatten):=by show(gx (am _)).bind _=_;rw[sQ,iC,if_pos (by unfold bi; lia),wo]
 have hjl:(ls.map λx=>32::x).flatten.length<=45:=by have:=wy [] (ls.map λx=>32::x);rw[wo]at this; lia
 have h2:aW (.str [48+w,59]) (.str (ls.map λx=>32::x).flatten)=aa (.str (aZ w ls)):=ir (by simp only[dq,kR]; unfold bi; lia);generalize am (ls.map λx=>32::x)=q at hc hj;generalize (ls.map λx=>32::x).flatten=q2 at hj h2;generalize am ls=L at h5 hc;simp![tE,h3,hs,h1,lC,tK,fG,dO,kI,h5,hc,hj,h2]
theorem FL(w:Nat):∀ (xs:List PV) (ws:List Tx) (bg:List PV) (ε:aj),xs.length=ws.length->ε[8]?=aa (.own (SL a w (am ws))) -> kE [8] dR (bf (dI a.Slit (b0 "undo") 1 (iK a))) xs bg ε = .ok (bg++am ws.reverse) (ε.set 8 (.own (SL a w (am []))))
 | [],ws,bg,ε,hl,h8=>by have:ws=[]:=ut hl.symm;subst this;rw[tJ h8];show R.ok bg ε=R.ok (bg++[]) ε;rw[gD]
 | x::xs,ws,bg,ε,hl,h8=>by
  have cY:ws≠[]:=by rintro rfl; simp at hl
  obtain⟨pre,z,rfl⟩:∃ pre z,ws=pre++[z]:=⟨ws.dropLast,ws.getLast cY,(HJ cY).symm⟩
  have hi:8<ε.length:=(cu.mp h8).1;have hm:=zv (a:=a) (ε:=[.val x,.own (SL a w (am (pre++[z])))]) (i:=1) (w:=w) (ws:=pre) (z:=z) rfl;have b1:ce (eX [8] dR x ε) = .ok ah ε:=by have:ε.set 8 (.own (SL a w (am (pre++[z]))))=ε:=tJ h8;simp[ce,eX,ff,h8,dR,aO,R.bind,bF,cJ,cZ,dG,eD,this]
  have b2:ce (eX [8] (bf (dI a.Slit (b0 "undo") 1 (iK a))) x ε) = .ok (.str z) (ε.set 8 (.own (SL a w (am pre)))):=by have hr:bf (dI a.Slit (b0 "undo") 1 (iK a)) [.val x,.own (SL a w (am (pre++[z])))] = .ok (.str z) [.val x,.own (SL a w (am pre))]:=kt hm;simp[ce,eX,ff,h8,aO,R.bind,bF,cJ,cZ,dG,eD,hr]
  have ih:=FL w xs pre (bg++[.str z]) (ε.set 8 (.own (SL a w (am pre)))) (by simpa using hl) (cA hi);rw[kE,b1,R.bind_ok];simp only;rw[b2,R.bind_ok,ih,List.set_set,BV,gb];rfl
theorem sV{c1 c2:aj->R Bool}{ε ε1 ε2:aj}{b:Bool}(h1:c1 ε = .ok ak ε1)(h2:c2 ε1 = .ok b ε2):fS c1 c2 ε = .ok b ε2:=by unfold fS;rw[h1,R.bind_ok];exact h2
theorem vW(x:Tx):Pu.eqT ah (.str x) (.str x)=aa (.bl ak):=by rw[zE]; simp
theorem rD(x:List Tx):Pu.eqT ah (.lst (am x)) (.lst (am x))=aa (.bl ak):=by rw[AZ]; simp
theorem Pk(w:Nat)(ws:List Tx):Pu.eqT ah (qF w ws) (qF w ws)=aa (.bl ak):=by
 unfold qF;split
 ·exact vW _
 ·rfl
theorem Da(c:Nat)(m:Nat)(hm:m<=10):cG (.str [c]) (.int m)=aa (.str (aU m c)):=by
 show(if(0:Int)<=((m:Nat):Int)/\((m:Nat):Int)<=100/\[c].length<=100 then aa (PV.str (aU ((m:Nat):Int).toNat [c]).flatten)else ae)=_;rw[if_pos ⟨∅,∅,by simp⟩];congr 2;rw[kQ]
 induction m with
 | zero=>rfl
 | succ m ih=>rw[uo,uo,BC,ih ∅]; rfl
theorem Fu(x:Tx)(hx:x.length<=100)(m:Nat)(hm:m<=10):cG (.str x) (.int m)=aa (.str (aU m x).flatten):=by show(if(0:Int)<=((m:Nat):Int)/\((m:Nat):Int)<=100/\x.length<=100 then aa (PV.str (aU ((m:Nat):Int).toNat x).flatten)else ae)=_;rw[if_pos ⟨∅,∅,hx⟩,kQ]
def oB:aj->R Bool:=oP (dB (jj (eqT ah) 5 (dF (dL c8 (aL))))) (dB (d2 (eqT ak) (d2 fV (dV 2) (dC (.int 2))) (dC (.int 0))))
def o6(a:Ad):aj->R aT:=bX oB (aN (eJ (dI a.Slit (b0 "undo") 4 (iK a))) (cM 5 (jM i5 (dM 5) (jP) (iq (d1 gh (dC (.int 1))))))) (dy)
def bI(a:Ad)(ns:List Int)(ys:List PV)(c:Int)(w:Nat)(ws row:List Tx)(s:Slot)(s7 s8 s9:Slot):aj:=[df ns,.own (.lst ys),.val (.int c),.val (.int w),.own (SL a w (am ws)),.val (.lst (am row)),s,s7,s8,s9]
theorem zW(pre:List Tx)(z:Tx):i5 (.lst (am (pre++[z]))) ae (aa (-1))=aa (.lst (am pre)):=by
 show aa (PV.lst (gv _ _ _))=_;unfold gv;have e1:HT.sIx (am (pre++[z])).length 0 ae=0:=rfl;have e2:HT.sIx (am (pre++[z])).length (am (pre++[z])).length (aa (-1))=pre.length:=by rw[iH,dr,p7];show(if(-1:Int)<0 then((-1:Int)+((pre.length+1:Nat):Int)).toNat else min (-1:Int).toNat (pre.length+1))=_;rw[if_pos (by decide)];lia
 rw[e1,e2,xT,Nat.sub_zero,GK];congr 2;rw[show pre.length=(am pre).length by rw[iH],List.take_left]
theorem M0(ns:List Int)(ys:List PV)(c:Int)(w:Nat)(ws:List Tx)(s:Slot)(hw:gB w ws)(h9:ws.length<=9):∃ row ε1,gB w row/\row.length<=9/\o6 a (eI a ns ys (.int c) w ws s) = .ok .next ε1/\ε1[3]?=aa (.val (.int w)) /\ eZ 5 ε1 = .ok (.lst (am row)) (bI a ns ys c w row row s .none .none .none):=by
 have ho:jj (eqT ah) 5 (dF (dL c8 (aL))) (eI a ns ys (.int c) w ws s) = .ok (.bl (decide (ws≠[]))) (eI a ns ys (.int c) w ws s):=by
  have h:g7 (Pu.eqT ah (.lst (am ws)) (.lst []))=aa (.bl (decide (ws≠[]))):=by have:=AZ ah ws [];rw[show am []=[] from rfl]at this;rw[this];by_cases q:ws=[] <;> simp[q,g7,imm]
  unfold eI;generalize decide (ws≠[])=B at h ⊢;generalize am ws=L at h ⊢;generalize SL a w=P;simp[jj,dA,aO,R.bind,dF,dL,c8,aL,vK,h]
 by_cases q:ws=[]
 ·subst q;refine⟨[],eI a ns ys (.int c) w [] s,by intro x hx; simp at hx,by simp,?_,rfl,GZ rfl⟩;unfold o6;refine py ?_;unfold oB oP;rw[i3 ho,R.bind_ok];rfl
 ·obtain⟨pre,z,rfl⟩:∃ pre z,ws=pre++[z]:=⟨ws.dropLast,ws.getLast q,(HJ q).symm⟩
  rw[decide_eq_true q]at ho;have hmod:fV (.int c) (.int 2)=aa (.int (c % 2)):=rfl;have he:=nJ ak (c % 2) 0;have hB:oB (eI a ns ys (.int c) w (pre++[z]) s) = .ok (decide (c % 2=0)) (eI a ns ys (.int c) w (pre++[z]) s):=by unfold oB oP;rw[i3 ho,R.bind_ok];simp only[sd]at he;exact i3 (gu (gu (nr (i:=2) (v:=.int c) rfl) (jt (.int 2) _) hmod) (jt (.int 0) _) he)
  by_cases p:c % 2=0
  ·rw[decide_eq_true p]at hB;refine⟨pre,bI a ns ys c w pre pre s .none .none .none,λx hx=>hw x (by simp[hx]),by simp at h9; lia,?_,rfl,rj rfl⟩;unfold o6;refine(E8 hB).trans ?_;have e1:=zv (a:=a) (ε:=eI a ns ys (.int c) w (pre++[z]) s) (i:=4) (w:=w) (ws:=pre) (z:=z) rfl;have lX:eJ (dI a.Slit (b0 "undo") 4 (iK a)) (eI a ns ys (.int c) w (pre++[z]) s) = .ok .next [df ns,.own (.lst ys),.val (.int c),.val (.int w),.own (SL a w (am pre)),.own (.lst (am (pre++[z]))),s,.none,.none,.none]:=by unfold eJ; rw[e1]; rfl
   refine(eG lX).trans ?_;have hs:=zW pre z;refine AK (ε1:=[df ns,.own (.lst ys),.val (.int c),.val (.int w),.own (SL a w (am pre)),.val (.lst (am (pre++[z]))),s,.none,.none,.none]) ?_;generalize am (pre++[z])=L at hs ⊢;generalize SL a w=P;simp[jM,dM,jP,iq,d1,dC,gh,w6,R.bind,aO,hs]
  ·rw[decide_eq_false p]at hB;refine⟨pre++[z],eI a ns ys (.int c) w (pre++[z]) s,hw,h9,?_,rfl,GZ rfl⟩;unfold o6;exact py hB
theorem JX(i j:Int)(h:i<j):ge (λi j=>decide (i<j)) (.int i) (.int j)=aa (.bl ah):=by show aa (PV.bl (decide (i<j)))=_;rw[decide_eq_true h]
theorem EZ(i j:Int)(h:¬ i<j):ge (λi j=>decide (i<j)) (.int i) (.int j)=aa (.bl ak):=by show aa (PV.bl (decide (i<j)))=_;rw[decide_eq_false h]
theorem Ps{d:aj->R PO}{ε ε1:aj}{xs:List PV}(h:d ε = .ok (.lst xs) ε1):dF d ε = .ok (.lst xs) ε1:=by unfold dF; rw[h]; rfl
theorem Ex{ε:aj}{i:Nat}{w:Nat}{ws:List Tx}(w4:w<=4)(hw:gB w ws)(h9:ws.length<=9)(hi:ε[i]?=aa (.own (SL a w (am ws)))):bf (bh (nt a) (gO i (Pu.bT))) ε = .ok (.str (aZ w ws)) ε:=by have:=kt (NV hi (Qi (a:=a) w4 hw h9));rwa[tJ hi]at this
theorem za{ε:aj}{w:Nat}(w4:w<=4)(h3:ε[3]?=aa (.val (.int w))):d2 cG (dC (.str [97])) (dV 3) ε = .ok (.str (aU w 97)) ε:=gu (jt (.str [97]) _) (nr h3) (Da 97 w ∅)
theorem EK(w:Nat):(aU w 97).length=w/\∀ c∈aU w 97,c∈bj:=⟨by simp,λc hc=>by rw[(yf.mp hc).2]; decide⟩
def c9(a:Ad):aj->R Bool:=fS (dB (d2 (eqT ah) (bf (bh (nt a) (gO 4 (Pu.bT)))) (dV 7))) (fS (dB (d2 (eqT ah) (bf (dI a.Slit (b0 "windows") 8 (lj a))) (eZ 5))) (dB (d2 (eqT ah) (bf (dI a.Slit (b0 "told") 8 (lI a))) (bf (dI a.Slit (b0 "told") 4 (lI a))))))
theorem K0(ns:List Int)(ys:List PV)(c:Int)(w:Nat)(row:List Tx)(s:Slot)(w1:1<=w)(w4:w<=4)(hw:gB w row)(h9:row.length<=9):c9 a (bI a ns ys c w row row s (.val (.str (aZ w row))) (.own (SL a w (am row))) .none) = .ok ak (bI a ns ys c w row row s (.val (.str (aZ w row))) (.own (SL a w (am row))) .none) :=
 sV (i3 (gu (Ex w4 hw h9 rfl) (nr (i:=7) (v:=.str (aZ w row)) rfl) (vW _)))
  (sV (i3 (gu (kt (G5 rfl)) (rj (i:=5) (v:=.lst (am row)) rfl) (rD row))) (i3 (gu (kt (Ft w1 w4 hw h9 rfl)) (kt (Ft w1 w4 hw h9 rfl)) (Pk w row))))
def Ph(a:Ad):aj->R Bool:=fS (dB (d2 (eqT ah) (bf (dI a.Slit (b0 "windows") 8 (lj a))) (eZ 5))) (fS (dB (d2 (ge λi j=>decide (i<j)) (bf (iZ a.Slit (b0 "come") 8 (jx a) (gV (d2 cG (dC (.str [97])) (dV 3)) (Pu.bT)))) (dC (.int 0)))) (dB (d2 (eqT ah) (bf (dI a.Slit (b0 "undo") 8 (iK a))) (d2 cG (dC (.str [97])) (dV 3)))))
def vm(a:Ad):aj->R aT:=bX (dB (d2 (ge λi j=>decide (i<j)) (dL cb (az (eZ 5) (aL))) (dC (.int 9)))) (aN (eJ (iZ a.Slit (b0 "come") 4 (jx a) (gV (d2 cG (dC (.str [97])) (dV 3)) (Pu.bT)))) (bX (Ph a) (cy (dC (.bl ak))) (dy))) (dy)
theorem Qm(ns:List Int)(ys:List PV)(c:Int)(w:Nat)(row:List Tx)(s:Slot)(T:PV)(w1:1<=w)(w4:w<=4)(hw:gB w row)(h9:row.length<=9):∃ ws,vm a (bI a ns ys c w row row s (.val T) (.own (SL a w (am row))) .none) = .ok .next (bI a ns ys c w ws row s (.val T) (.own (SL a w (am row))) .none):=by
 have hl:dL cb (az (eZ 5) (aL)) (bI a ns ys c w row row s (.val T) (.own (SL a w (am row))) .none) = .ok (.int (row.length:Nat)) (bI a ns ys c w row row s (.val T) (.own (SL a w (am row))) .none) :=AB (v_ (rj (i:=5) (v:=.lst (am row)) rfl) y0) (by show aa (PV.int _)=_; rw[iH]);by_cases q:row.length<9
 ·refine⟨row++[aU w 97],?_⟩;unfold vm;refine(E8 (i3 (gu hl (jt (.int 9) _) (JX _ _ ∅)))).trans ?_;have e1:=wZ (a:=a) (ε:=bI a ns ys c w row row s (.val T) (.own (SL a w (am row))) .none) (i:=4) (d:=d2 cG (dC (.str [97])) (dV 3)) w1 w4 hw ∅ (EK w) rfl (za w4 rfl);have lX:eJ (iZ a.Slit (b0 "come") 4 (jx a) (gV (d2 cG (dC (.str [97])) (dV 3)) (Pu.bT))) (bI a ns ys c w row row s (.val T) (.own (SL a w (am row))) .none) = .ok .next (bI a ns ys c w (row++[aU w 97]) row s (.val T) (.own (SL a w (am row))) .none):=by unfold eJ; rw[e1]; rfl
  refine(eG lX).trans (py ?_);have e2:=wZ (a:=a) (ε:=bI a ns ys c w (row++[aU w 97]) row s (.val T) (.own (SL a w (am row))) .none) (i:=8) (d:=d2 cG (dC (.str [97])) (dV 3)) w1 w4 hw ∅ (EK w) rfl (za w4 rfl);have e3:=zv (a:=a) (ε:=bI a ns ys c w (row++[aU w 97]) row s (.val T) (.own (SL a w (am (row++[aU w 97])))) .none) (i:=8) (w:=w) (ws:=row) (z:=aU w 97) rfl;exact sV (i3 (gu (kt (G5 rfl)) (rj (i:=5) (v:=.lst (am row)) rfl) (rD row)))
   (sV (ε1:=bI a ns ys c w (row++[aU w 97]) row s (.val T) (.own (SL a w (am (row++[aU w 97])))) .none) (i3 (gu (kt e2) (jt (.int 0) _) (EZ _ _ ∅)))
    (i3 (gu (kt e3) (za w4 rfl) (vW _))))
 ·refine⟨row,?_⟩;unfold vm;exact py (i3 (gu hl (jt (.int 9) _) (EZ _ _ ∅)))
def Ar(a:Ad):aj->R Bool:=fS (dB (d2 (eqT ah) (dF (fG [8] (dO (eZ 5)) (dR) (bf (dI a.Slit (b0 "undo") 1 (iK a))))) (tO (eZ 5) (iq (d1 gh (dC (.int 1))))))) (dB (d2 (eqT ah) (bf (bh (nt a) (gO 8 (Pu.bT)))) (d2 aW (dL jZ (az (dV 3) (aL))) (dC (.str [59])))))
theorem Mn(ns:List Int)(ys:List PV)(c:Int)(w:Nat)(ws row:List Tx)(s:Slot)(T:PV)(w1:1<=w)(w4:w<=4):Ar a (bI a ns ys c w ws row s (.val T) (.own (SL a w (am row))) .none) = .ok ak (bI a ns ys c w ws row s (.val T) (.own (SL a w (am []))) .none):=by
 have e1:=FL (a:=a) w (am row) row [] (bI a ns ys c w ws row s (.val T) (.own (SL a w (am row))) .none) (by rw[iH]) rfl;have e2:dF (fG [8] (dO (eZ 5)) (dR) (bf (dI a.Slit (b0 "undo") 1 (iK a)))) (bI a ns ys c w ws row s (.val T) (.own (SL a w (am row))) .none) = .ok (.lst (am row.reverse)) (bI a ns ys c w ws row s (.val T) (.own (SL a w (am []))) .none):=by refine Ps ?_;unfold fG;rw[LV (rj (i:=5) (v:=.lst (am row)) rfl),R.bind_ok,e1];rfl
 have e3:tO (eZ 5) (iq (d1 gh (dC (.int 1)))) (bI a ns ys c w ws row s (.val T) (.own (SL a w (am []))) .none) = .ok (.lst (am row.reverse)) (bI a ns ys c w ws row s (.val T) (.own (SL a w (am []))) .none):=by unfold tO;rw[rj (i:=5) (v:=.lst (am row)) rfl,R.bind_ok,show iq (d1 gh (dC (.int 1))) (bI a ns ys c w ws row s (.val T) (.own (SL a w (am []))) .none) = .ok (aa (-1)) (bI a ns ys c w ws row s (.val T) (.own (SL a w (am []))) .none)from rfl,R.bind_ok];show R.ok (PV.lst (am row).reverse) _=_;unfold am;rw[List.map_reverse]
 have e4:d2 aW (dL jZ (az (dV 3) (aL))) (dC (.str [59])) (bI a ns ys c w ws row s (.val T) (.own (SL a w (am []))) .none) = .ok (.str [48+w,59]) (bI a ns ys c w ws row s (.val T) (.own (SL a w (am []))) .none) :=gu (AB (v_ (nr (i:=3) (v:=.int w) rfl) y0) (Aw w ∅)) (jt (.str [59]) _) (ir (by simp[bi]));have e5:=Ex (a:=a) (ε:=bI a ns ys c w ws row s (.val T) (.own (SL a w (am []))) .none) (i:=8) w4 (ws:=[]) (by intro x hx; simp at hx) (by simp) rfl;exact sV (i3 (gu e2 e3 (rD row.reverse))) (i3 (gu e5 e4 (vW _)))
def iy(w:Nat)(ls:List Tx):List PV:=[PV.str (aZ w ls++[32]),.str (aZ w ls++(aU w [32,100]).flatten),.str ([32]++aZ w ls),.str [53,59],.str (aZ w ls++[32]++aU (w+1) 97)]
theorem CJ:Pu.eqT ak nG nG=aa (.bl ah):=by rfl
def more(w:Nat):List PV:=[.str (aZ w [[59],[]]),.non]
theorem ME(nd:Wh a)(ns:List Int):sR a [df ns] = .ok (.val (.bl ah)) [df ns]:=by
 obtain⟨c,c0,c1,hdc⟩:=rq (a:=a) ns [] 7 (by decide) (by decide);obtain⟨w0,w00,w01,hdw⟩:=rq (a:=a) ns ([]++[.int 0]) 4 (by decide) (by decide);obtain⟨w,hw0⟩:∃ w:Nat,1+w0=(w:Nat):=⟨(1+w0).toNat,∅⟩
 have w1:1<=w:=∅
 have w4:w<=4:=∅
 have haw:aW (.int 1) (.int w0)=aa (.int w):=by show aa (PV.int (1+w0))=_; rw[hw0]
 obtain⟨n0,n00,n01,kg⟩:=rq (a:=a) ns ([]++[.int 0]++[.int 0]) 10 (by decide) (by decide);obtain⟨n,hn0⟩:∃ n:Nat,n0=(n:Nat):=⟨n0.toNat,∅⟩
 subst hn0;obtain⟨ws,ys,s6,hWs,h9s,hys,hlp⟩:=Gq (a:=a) ns (.int c) w w1 w4 (ik 0 n) [] ([]++[.int 0]++[.int 0]++[.int 0]) .none (by intro x hx; simp at hx) (by simp[ik]; lia) (by simp[ik]; lia);obtain⟨row,ε6,hW,h9,h6,h63,h65⟩:=M0 (a:=a) ns ys c w ws s6 hWs h9s;have h4:∀ x∈row,x.length<=4:=λx hx=>by rw[(hW x hx).1]; exact w4
 have hT:=Lf (ε:=ε6) (w:=w) (ls:=row) ∅ h9 h4 h63 h65;obtain⟨ws2,h10⟩:=Qm (a:=a) ns ys c w row s6 (.str (aZ w row)) w1 w4 hW h9;have h11:=Mn (a:=a) ns ys c w ws2 row s6 (.str (aZ w row)) w1 w4;have k1:fi 1 (dL c8 aL) [df ns,.none,.none,.none,.none,.none,.none,.none,.none,.none] = .ok .next [df ns,.own (.lst []),.none,.none,.none,.none,.none,.none,.none,.none]:=GU (by simp);have k2:cM 2 (bf (bh (iz a) (gV (dV 0) (gO 1 (gV (dC (.int 7)) (Pu.bT)))))) [df ns,.own (.lst []),.none,.none,.none,.none,.none,.none,.none,.none] = .ok .next [df ns,.own (.lst ([]++[.int 0])),.val (.int c),.none,.none,.none,.none,.none,.none,.none]:=by generalize iz a=G at hdc ⊢;simp![hdc]
 have k3:cM 3 (d2 aW (dC (.int 1)) (bf (bh (iz a) (gV (dV 0) (gO 1 (gV (dC (.int 4)) (Pu.bT))))))) [df ns,.own (.lst ([]++[.int 0])),.val (.int c),.none,.none,.none,.none,.none,.none,.none] = .ok .next [df ns,.own (.lst ([]++[.int 0]++[.int 0])),.val (.int c),.val (.int w),.none,.none,.none,.none,.none,.none]:=by generalize iz a=G at hdw ⊢;generalize ([]++[PV.int 0]:List PV)=Y0 at hdw ⊢;simp![hdw,haw]
 have k4:fi 4 (ph a.Slit (nP a) (gV (dV 3) (Pu.bT))) [df ns,.own (.lst ([]++[.int 0]++[.int 0])),.val (.int c),.val (.int w),.none,.none,.none,.none,.none,.none] = .ok .next [df ns,.own (.lst ([]++[.int 0]++[.int 0])),.val (.int c),.val (.int w),.own (SL a w []),.none,.none,.none,.none,.none]:=by unfold fi;rw[GH w1 w4 (nr (i:=3) (v:=.int w) rfl)];rfl
 have k5:fi 5 (dL c8 aL) [df ns,.own (.lst ([]++[.int 0]++[.int 0])),.val (.int c),.val (.int w),.own (SL a w []),.none,.none,.none,.none,.none] = .ok .next (eI a ns ([]++[.int 0]++[.int 0]) (.int c) w [] .none):=GU (by simp);have k6:dL nH (az (bf (bh (iz a) (gV (dV 0) (gO 1 (gV (dC (.int 10)) (Pu.bT)))))) (aL)) (eI a ns ([]++[.int 0]++[.int 0]) (.int c) w [] .none) = .ok (ik 0 n) (eI a ns ([]++[.int 0]++[.int 0]++[.int 0]) (.int c) w [] .none):=by have hr:nH [.int n]=aa (ik 0 n):=FR ∅;unfold eI;generalize iz a=G at kg ⊢;generalize ([]++[PV.int 0]++[PV.int 0]:List PV)=Y0 at kg ⊢;generalize SL a w=P;generalize ((n:Nat):Int)=N at kg hr;simp![kg,hr]
 have k8:cM 7 tE ε6 = .ok .next (bI a ns ys c w row row s6 (.val (.str (aZ w row))) .none .none):=AK hT;have k9:fi 8 (lE (bh (j2 a) (gV (dV 7) (Pu.bT)))) (bI a ns ys c w row row s6 (.val (.str (aZ w row))) .none .none) = .ok .next (bI a ns ys c w row row s6 (.val (.str (aZ w row))) (.own (SL a w (am row))) .none):=by unfold fi lE;rw[Bm (nr (i:=7) (v:=.str (aZ w row)) rfl) (QP w1 w4 hW h9)];rfl
 have k10:bX (c9 a) (cy (dC (.bl ak))) (dy) (bI a ns ys c w row row s6 (.val (.str (aZ w row))) (.own (SL a w (am row))) .none) = .ok .next (bI a ns ys c w row row s6 (.val (.str (aZ w row))) (.own (SL a w (am row))) .none):=py (K0 ns ys c w row s6 w1 w4 hW h9);have k12:bX (Ar a) (cy (dC (.bl ak))) (dy) (bI a ns ys c w ws2 row s6 (.val (.str (aZ w row))) (.own (SL a w (am row))) .none) = .ok .next (bI a ns ys c w ws2 row s6 (.val (.str (aZ w row))) (.own (SL a w (am []))) .none):=py h11;have a8:=LR (w:=w) h9 h4;have hask:=Nv nd w1 w4 hW;have m1:=Fu [32,100] (by simp) w ∅;have m1l:(aU w [32,100]).flatten.length<=8:=by simp; lia
 have m2:cG (.str [97]) (.int ((w+1:Nat):Int))=aa (.str (aU (w+1) 97)):=Da 97 (w+1) ∅;have aw1:aW (.int w) (.int 1)=aa (.int ((w+1:Nat):Int)):=rfl;have a1:aW (.str (aZ w row)) (.str [32])=aa (.str (aZ w row++[32])):=ir (by simp only[dq,kR]; unfold bi; lia);have a2:aW (.str (aZ w row)) (.str (aU w [32,100]).flatten)=aa (.str (aZ w row++(aU w [32,100]).flatten)):=ir (by unfold bi; lia);have a3:aW (.str [32]) (.str (aZ w row))=aa (.str ([32]++aZ w row)):=ir (by simp only[dq,kR]; unfold bi; lia);have a4:aW (.str (aZ w row++[32])) (.str (aU (w+1) 97))=aa (.str (aZ w row++[32]++aU (w+1) 97)):=ir (by simp only[dr,dq,kR,List.length_replicate]; unfold bi; lia);have k13:cM 9 (dF (dL c8 (az (d2 aW (dV 7) (dC (.str [32]))) (az (d2 aW (dV 7) (d2 cG (dC (.str [32,100])) (dV 3))) (az (d2 aW (dC (.str [32])) (dV 7)) (az (dC (.str [53,59])) (az (d2 aW (d2 aW (dV 7) (dC (.str [32]))) (d2 cG (dC (.str [97])) (d2 aW (dV 3) (dC (.int 1))))) (aL)))))))) (bI a ns ys c w ws2 row s6 (.val (.str (aZ w row))) (.own (SL a w (am []))) .none) = .ok .next (bI a ns ys c w ws2 row s6 (.val (.str (aZ w row))) (.own (SL a w (am []))) (.val (.lst (iy w row)))):=by unfold bI iy;generalize aZ w row++[32]++aU (w+1) 97=B4 at a4 ⊢;generalize aZ w row++[32]=B0 at a1 a4 ⊢;generalize aZ w row++(aU w [32,100]).flatten=B1 at a2 ⊢;generalize [32]++aZ w row=B2 at a3 ⊢;generalize aZ w row=TT at a1 a2 a3 a4 ⊢;generalize (aU w [32,100]).flatten=RD at m1 a2;generalize aU (w+1) 97=RA at m2 a4;generalize ((w+1:Nat):Int)=W1 at m2 aw1;generalize SL a w=P;simp![a1,a2,a3,a4,m1,m2,aw1]
 have b1:cG (.str [59,32]) (.int 2)=aa (.str [59,32,59,32]):=by rfl
 have b2:aW (.str [48+w]) (.str [59,32,59,32])=aa (.str (aZ w [[59],[]])):=ir (by simp[bi]);have b3:aW (.lst (iy w row)) (.lst (more w))=aa (.lst (iy w row++more w)):=by show(if(iy w row).length+(more w).length<=bi then aa (PV.lst (iy w row++more w))else ae)=_;rw[if_pos (by unfold iy more; simp[bi])]
 obtain⟨i,hi⟩:∃ i:Nat,c=(i:Nat):=⟨c.toNat,∅⟩
 have Rc:(iy w row++more w).length=7:=rfl;obtain⟨x,hx,sC⟩:∃ x,bL (.lst (iy w row++more w)) (.int c)=aa x/\x∈iy w row++more w:=by
  have hi7:i<(iy w row++more w).length:=by rw[Rc]; lia
  refine⟨(iy w row++more w)[i],?_,BJ hi7⟩;show eF _ _=_;unfold eF;rw[hi,PD ∅ ∅];simp only[iC,kQ];rw[fK hi7]
 have k14:cM 9 (d2 bL (d2 aW (dV 9) (dF (dL c8 (az (d2 aW (dL jZ (az (dV 3) (aL))) (d2 cG (dC (.str [59,32])) (dC (.int 2)))) (az (dC .non) (aL)))))) (dV 2)) (bI a ns ys c w ws2 row s6 (.val (.str (aZ w row))) (.own (SL a w (am []))) (.val (.lst (iy w row)))) = .ok .next (bI a ns ys c w ws2 row s6 (.val (.str (aZ w row))) (.own (SL a w (am []))) (.val x)):=by have hs:=Aw w ∅;unfold bI;generalize iy w row++more w=B7 at b3 hx;generalize iy w row=B5 at b3 ⊢;unfold more at b3;generalize aZ w [[59],[]]=L5 at b2 b3;generalize SL a w=P;simp![hs,b1,b2,b3,hx]
 have hax:=hask x (by unfold iy more at sC; simpa using sC);have hten:=NE nd;have ten:d2 aW (dC (.str [49,59])) (d2 cG (dC (.str [32,97])) (dC (.int 10))) (bI a ns ys c w ws2 row s6 (.val (.str (aZ w row))) (.own (SL a w (am []))) (.val x)) = .ok (.str (aZ 1 (aU 10 [97]))) (bI a ns ys c w ws2 row s6 (.val (.str (aZ w row))) (.own (SL a w (am []))) (.val x)) :=gu (jt (.str [49,59]) _) (gu (jt (.str [32,97]) _) (jt (.int 10) _) (Fu [32,97] (by simp) 10 ∅)) (ir (by decide));have rfd:∀ ε:aj,dL jb (az (dC (.str [114,101,102,117,115,101,100])) (az (dC (.int 10)) (aL))) ε = .ok nG ε:=λε=>AB (v_ (jt _ _) (v_ (jt _ _) y0)) rfl;have k15:cy (ki (d2 (eqT ak) (bf (bh (mq a) (gV (dV 9) (Pu.bT)))) (dL jb (az (dC (.str [114,101,102,117,115,101,100])) (az (dC (.int 10)) (aL))))) (d2 (eqT ak) (bf (bh (mq a) (gV (d2 aW (dC (.str [49,59])) (d2 cG (dC (.str [32,97])) (dC (.int 10)))) (Pu.bT)))) (dL jb (az (dC (.str [114,101,102,117,115,101,100])) (az (dC (.int 10)) (aL)))))) (bI a ns ys c w ws2 row s6 (.val (.str (aZ w row))) (.own (SL a w (am []))) (.val x)) = .ok (.ret (.val (.bl ah))) (bI a ns ys c w ws2 row s6 (.val (.str (aZ w row))) (.own (SL a w (am []))) (.val x)):=by have q1:=gu (f:=eqT ak) (kt (Bm (nr (i:=9) (v:=x) rfl) hax)) (rfd (bI a ns ys c w ws2 row s6 (.val (.str (aZ w row))) (.own (SL a w (am []))) (.val x))) CJ;have q2:=gu (f:=eqT ak) (kt (Bm ten hten)) (rfd (bI a ns ys c w ws2 row s6 (.val (.str (aZ w row))) (.own (SL a w (am []))) (.val x))) CJ;unfold cy ki;rw[i3 q1,R.bind_ok];simp only;rw[q2];rfl
 have hb:yaz a [df ns,.none,.none,.none,.none,.none,.none,.none,.none,.none] = .ok (.ret (.val (.bl ah))) (bI a ns ys c w ws2 row s6 (.val (.str (aZ w row))) (.own (SL a w (am []))) (.val x)):=by show aN _ (aN _ (aN _ (aN _ (aN _ (aN (λε=>gk (gM 6 _ (rB a) ε)) (aN (o6 a) (aN (cM 7 tE) (aN _ (aN (bX (c9 a) _ _) (aN (vm a) (aN (bX (Ar a) _ _) (aN _ (aN _ _))))))))))))) _=_;refine(eG k1).trans ?_;refine(eG k2).trans ?_;refine(eG k3).trans ?_;refine(eG k4).trans ?_;refine(eG k5).trans ?_;refine(Dy k6 hlp).trans ?_;refine(eG h6).trans ?_;refine(eG k8).trans ?_;refine(eG k9).trans ?_;refine(eG k10).trans ?_;refine(eG h10).trans ?_;refine(eG k12).trans ?_;refine(eG k13).trans ?_;refine(eG k14).trans ?_;exact k15
 unfold sR;unfold bI at hb;generalize yaz a=D at hb;generalize SL a w=P at hb;generalize am ws2=A1 at hb;generalize am row=A2 at hb;generalize am []=A3 at hb;simp[bM,fX,bu,aU,hb,back,aO,R.bind,jo]
end
open L2 Pu Sh
def tW(K:aq)(a:Ad):Bool:=oj K a.SlitError tq "ValueError.__new__" && (fF a).all (λx=>oj K x tq "ValueError.__new__" && subB K a.SlitError x && ww K x && (fF a).all (λd=>gX K (.ref x) (.ref d) == aa (x == d)) && gX K (.ref x) (.type "ValueError") == aa ah) && yv K && decide (fF a).Nodup
section
variable{K:aq}{h base:aA}{mg:Str->Option ai}{a:Ad}
theorem lw(h:tW K a=ah):oj K a.SlitError tq "ValueError.__new__" = ah/\(∀ x∈fF a,oj K x tq "ValueError.__new__" = ah/\subB K a.SlitError x=ah/\ww K x=ah/\(∀ d∈fF a,gX K (.ref x) (.ref d)=aa (x == d))/\gX K (.ref x) (.type "ValueError")=aa ah)/\yv K=ah/\(fF a).Nodup:=by unfold tW at h;simp only[fc,lP,beq_iff_eq,decide_eq_true_eq]at h;obtain⟨⟨⟨h1,h2⟩,h3⟩,h4⟩:=h;exact⟨h1,λx hx=>⟨(h2 x hx).1.1.1.1,(h2 x hx).1.1.1.2,(h2 x hx).1.1.2,(h2 x hx).1.2,(h2 x hx).2⟩,h3,h4⟩
theorem Nz(h:tW K a=ah):zq K (iI a):=by
 obtain⟨_,h2,_,_⟩:=lw h;intro c D b e;unfold iI at e;split at e
 ·rename_i x d;split at e
  ·rename_i hc;rw[fc]at hc;cases e;have hx:x∈fF a:=by simpa using hc.1
   have hd:d∈fF a:=by simpa using hc.2
   exact⟨x,.ref d,rfl,DL (h2 x hx).2.2.1,rfl,(h2 x hx).2.2.2.1 d hd⟩
  ·cases e
 ·rename_i x T;split at e
  ·rename_i hc;rw[fc]at hc;cases e;have hx:x∈fF a:=by simpa using hc.1
   have hT:T = "ValueError":=by simpa using hc.2
   subst hT;exact⟨x,.type "ValueError",rfl,DL (h2 x hx).2.2.1,rfl,(h2 x hx).2.2.2.2⟩
  ·cases e
 ·cases e
theorem Ob(X:K.In base)(h:tW K a=ah):∀ c,qw a c=ah->Under base a.SlitError c:=by
 obtain⟨_,h2,_,_⟩:=lw h;intro c e;unfold qw at e;split at e
 ·rename_i x;have hx:x∈fF a:=by simpa using e
  exact KG X (h2 x hx).1 (h2 x hx).2.1
 ·cases e
structure Top(K:aq)(a:Ad):Prop where
 yaN:v4 K a.Slit "Slit.__init__" yW
 ya9:ly K a.Slit "come" "Slit.come" A_
 ybc:ly K a.Slit "windows" "Slit.windows" zh
 ybb:ly K a.Slit "undo" "Slit.undo" zA
 yba:ly K a.Slit "told" "Slit.told" z7
 k_Slit:Cls K a.Slit
 ya2:gR K a.Slit "width"
 ya1:gR K a.Slit "came"
 yaB:dS K "_law_cell_at" yK
 yaD:dS K "_law_mixed" yB
 yaC:dS K "_law_draw" zQ
 yaH:dS K "line" wb
 yaM:dS K "width_and_windows" AU
 yat:dS K "has_only" vQ
 yay:dS K "is_window" AH
 yaw:dS K "is_whole_number" zd
 yax:dS K "is_width" Be
 yaq:dS K "check_width" Bk
 yar:dS K "check_window" zO
 yao:dS K "are_windows" vU
 yav:dS K "is_view_with" Ay
 yau:dS K "is_view" Aa
 yap:dS K "check_view" Bf
 yan:dS K "add_endings" zu
 yas:dS K "counted" yV
 yaK:dS K "texts" xw
 yaL:dS K "texts_with" yN
 yaI:dS K "slit_of" vX
 yaE:dS K "_law_pick" A5
 yaF:dS K "_law_text" zD
 yaJ:dS K "slit_text" yO
 yaG:dS K "_law_which" zw
 yaA:dS K "_law_ask" y_
 yaz:dS K "law" qp
 yaO:cD K bQ "ValueError" = aa ae
 yaP:cD K bQ "all" = aa ae
 yaQ:cD K bQ "any" = aa ae
 yaR:cD K bQ "bool" = aa ae
 yaS:cD K bQ "int" = aa ae
 yaT:cD K bQ "isinstance" = aa ae
 yaU:cD K bQ "len" = aa ae
 yaV:cD K bQ "list" = aa ae
 yaW:cD K bQ "range" = aa ae
 yaX:cD K bQ "set" = aa ae
 yaY:cD K bQ "sorted" = aa ae
 yaZ:cD K bQ "str" = aa ae
 ya0:cD K bQ "tuple" = aa ae
 ybd:∃ t,cD K bQ "LETTERS" = aa (aa (.str (tS [97,98,99]) t))
 ybe:∃ t,cD K bQ "MOST_WINDOWS" = aa (aa (.int 9 t))
 ybf:∃ t,cD K bQ "SLIT_MARK" = aa (aa (.str (tS [59]) t))
 ybg:∃ t,cD K bQ "WIDEST" = aa (aa (.int 4 t))
 yal:cD K bQ "SlitError" = aa (aa (.ref a.SlitError))
 yaf:cD K bQ "NoText" = aa (aa (.ref a.NoText))
 yah:cD K bQ "NoWidth" = aa (aa (.ref a.NoWidth))
 yag:cD K bQ "NoView" = aa (aa (.ref a.NoView))
 yai:cD K bQ "NoWindow" = aa (aa (.ref a.NoWindow))
 yac:cD K bQ "Never" = aa (aa (.ref a.Never))
 yab:cD K bQ "Full" = aa (aa (.ref a.Full))
 yaj:cD K bQ "Nothing" = aa (aa (.ref a.Nothing))
 yam:cD K bQ "Unlike" = aa (aa (.ref a.Unlike))
 yae:cD K bQ "NoPlace" = aa (aa (.ref a.NoPlace))
 yad:cD K bQ "NoLetters" = aa (aa (.ref a.NoLetters))
 yaa:cD K bQ "BadText" = aa (aa (.ref a.BadText))
 yak:cD K bQ "Slit" = aa (aa (.ref a.Slit))
 ck:tW K a=ah
 z0:nW K "road" = ae
 wh:Wh a
theorem KO(T:Top K a)(X:K.In base)(G:base.Ns bQ mg):cU K mg base a where
 yaN:=T.yaN
 ya9:=T.ya9
 ybc:=T.ybc
 ybb:=T.ybb
 yba:=T.yba
 k_Slit:=T.k_Slit
 ya2:=T.ya2
 ya1:=T.ya1
 yaB:=T.yaB.at X G
 yaD:=T.yaD.at X G
 yaC:=T.yaC.at X G
 yaH:=T.yaH.at X G
 yaM:=T.yaM.at X G
 yat:=T.yat.at X G
 yay:=T.yay.at X G
 yaw:=T.yaw.at X G
 yax:=T.yax.at X G
 yaq:=T.yaq.at X G
 yar:=T.yar.at X G
 yao:=T.yao.at X G
 yav:=T.yav.at X G
 yau:=T.yau.at X G
 yap:=T.yap.at X G
 yan:=T.yan.at X G
 yas:=T.yas.at X G
 yaK:=T.yaK.at X G
 yaL:=T.yaL.at X G
 yaI:=T.yaI.at X G
 yaE:=T.yaE.at X G
 yaF:=T.yaF.at X G
 yaJ:=T.yaJ.at X G
 yaG:=T.yaG.at X G
 yaA:=T.yaA.at X G
 yaz:=T.yaz.at X G
 yaO:=kb X G T.yaO
 yaP:=kb X G T.yaP
 yaQ:=kb X G T.yaQ
 yaR:=kb X G T.yaR
 yaS:=kb X G T.yaS
 yaT:=kb X G T.yaT
 yaU:=kb X G T.yaU
 yaV:=kb X G T.yaV
 yaW:=kb X G T.yaW
 yaX:=kb X G T.yaX
 yaY:=kb X G T.yaY
 yaZ:=kb X G T.yaZ
 ya0:=kb X G T.ya0
 ybd:=T.ybd.imp λ_ e=>eQ X G e
 ybe:=T.ybe.imp λ_ e=>eQ X G e
 ybf:=T.ybf.imp λ_ e=>eQ X G e
 ybg:=T.ybg.imp λ_ e=>eQ X G e
 yal:=eQ X G T.yal
 yaf:=eQ X G T.yaf
 yah:=eQ X G T.yah
 yag:=eQ X G T.yag
 yai:=eQ X G T.yai
 yac:=eQ X G T.yac
 yab:=eQ X G T.yab
 yaj:=eQ X G T.yaj
 yam:=eQ X G T.yam
 yae:=eQ X G T.yae
 yad:=eQ X G T.yad
 yaa:=eQ X G T.yaa
 yak:=eQ X G T.yak
 ya3:=qE X (eQ X G T.yaa) ((lw T.ck).2.1 a.BadText (by simp[fF])).1
 ya6:=qE X (eQ X G T.yah) ((lw T.ck).2.1 a.NoWidth (by simp[fF])).1
 ya7:=qE X (eQ X G T.yai) ((lw T.ck).2.1 a.NoWindow (by simp[fF])).1
 ya5:=qE X (eQ X G T.yag) ((lw T.ck).2.1 a.NoView (by simp[fF])).1
 ya4:=qE X (eQ X G T.yab) ((lw T.ck).2.1 a.Full (by simp[fF])).1
 ya8:=qE X (eQ X G T.yaj) ((lw T.ck).2.1 a.Nothing (by simp[fF])).1
 err_SlitError:=Pb X (lw T.ck).1
 und:=Ob X T.ck
 tab:=Nz T.ck
theorem LQ{l:BG}{w:aG}{fa:af}(X:K.In h)(G:h.Ns bQ mg)(hfa:mg "law" = aa (.ref fa))(T:Top K a) : ∃ fd:e_,(∀ (s:ao) (v:ai),BindsTo s fd ⟨[v],[]⟩ [("_law_script",v)])/\∀ base:aA,K.In base->base.Ns bQ mg->ez l.prog w K mg base (b8 l.prog w) 19 fa fd ["_law_script"] (br K (sR a)):=by
 obtain⟨f,oc,od,kV,dc,pm,an,cd,ct,sl,e1,e2,e3,e4⟩:=T.yaz;have e:=hfa.symm.trans (eQ X G e1);cases e;exact⟨_,λs v=>.of_eq rfl,λbase XB GB=>MP (KO T XB GB) (wV e2 e3 e4)⟩
theorem Lj{l:BG}{q:aM}{loose:List Str}{XP:(Str->Option ai)->aA->Prop}{YP:aG->aA->Prop}{d:DefRec}{K:Params->aq}(hn:l.most=aa 63)(qf:d.params.defaults=[])(hnm:d.name = "law")(hY:∀ (w:aG) (h:aA),YP w h->(K w.params).In h) {a:Ad} (T:∀ w:aG,Top (K w.params) a):PySem.W.WalkO q loose XP YP l.row.toRowW d [] (λf vs=>PySem.call f vs) :=
 L2.RL (n:=63) (k:=19) (x:="_law_script") (K:=K) (CX:=λw=>b8 l.prog w) (sp:=λw=>br (K w.params) (sR a)) hn (by decide) qf ⟨rfl,by decide,by decide⟩ (λw h Y=>⟨hY w h Y,λc P e=>by rw[(T w).z0]at e; cases e⟩)
  (λw mg fa h KX G uT=>LQ KX G (by rw[← hnm]; exact uT) (T w))
  (λw H b ns hl _ hS=>Pz (OU (lw (T w).ck).2.2.1 hS) (ME (T w).wh ns))
  (λw H s e s' z=>by obtain⟨_,_,_,_,_,_,_,_,_,_,_,f⟩:=z; exact f)
theorem RF{l:BG}{q:aM}{loose:List Str}{XP:(Str->Option ai)->aA->Prop}{YP:aG->aA->Prop}{d:DefRec}{K:Params->aq}{yal yaf yah yag yai yac yab yaj yam yae yad yaa yak:af}(hn:l.most=aa 63)(qf:d.params.defaults=[])(hnm:d.name = "law")(hY:∀ (w:aG) (h:aA),YP w h->(K w.params).In h) (T:∀ w:aG,Top (K w.params) ⟨yal,yaf,yah,yag,yai,yac,yab,yaj,yam,yae,yad,yaa,0,yak⟩):PySem.W.WalkO q loose XP YP l.row.toRowW d [] (λf vs=>PySem.call f vs):=Lj hn qf hnm hY T
end
end K39
def PySem.W.Fast.tw4970092114577606503:Nat:=0
def PySem.W.Fast.tw9678388838316873274:Nat:=0
def PySem.W.Fast.tw2749151972023756760:Nat:=0
def PySem.W.Fast.tw14417760061902123758:Nat:=0
def PySem.W.Fast.tw15110051394663151647:Nat:=0
def PySem.W.Fast.tw5895434453104497926:Nat:=0
def PySem.W.Fast.tw13787027202056416571:Nat:=0
def PySem.W.Fast.tw8854485623205793421:Nat:=0
def PySem.W.Fast.tw1063568101018377153:Nat:=0
def PySem.W.Fast.tw3440290743445701754:Nat:=0
def PySem.W.Fast.tw18384466790069416958:Nat:=0
def PySem.W.Fast.tw10743550444539170534:Nat:=0
def PySem.W.Fast.tw1470775779322104556:Nat:=0
def PySem.W.Fast.tw2967054257433694146:Nat:=0
def PySem.W.Fast.tw8979034378831324609:Nat:=0
def PySem.W.Fast.tw3288921896758826195:Nat:=0
def PySem.W.Fast.tw13220692467314937305:Nat:=0
def PySem.W.Fast.tw10552215716029513721:Nat:=0
def PySem.W.Fast.tw13720792631012993167:Nat:=0
def PySem.W.Fast.tw5472604760289348778:Nat:=0
def PySem.W.Fast.tw1804179685157577386:Nat:=0
def PySem.W.Fast.tw6443877516441713052:Nat:=0
def PySem.W.Fast.tw12923281760876170589:Nat:=0
def PySem.W.Fast.tw4663666372276132163:Nat:=0
def PySem.W.Fast.tw17941014242474586043:Nat:=0
def PySem.W.Fast.tw6262103315176605155:Nat:=0
def PySem.W.Fast.tw10832600200715587808:Nat:=0
def PySem.W.Fast.tw8313100444465758176:Nat:=0
def PySem.W.Fast.tw11794679572555798296:Nat:=0
def PySem.W.Fast.tw13059870229430385380:Nat:=0
def PySem.W.Fast.tw807647096977313408:Nat:=0
def PySem.W.Fast.tw17530449997505357434:Nat:=0
def PySem.W.Fast.tw4893569689782139816:Nat:=0
def PySem.W.Fast.tw9940913405885429115:Nat:=0
def PySem.W.Fast.tw9271148986571754956:Nat:=0
def PySem.W.Fast.tw4759518540133475358:Nat:=0
def PySem.W.Fast.tw3143378349780766336:Nat:=0
def PySem.W.Fast.tw10118582414843740696:Nat:=0
def PySem.W.Fast.tw6311736068315014476:Nat:=0
def PySem.W.Fast.tw5799206159221891689:Nat:=0
def PySem.W.Fast.tw13284170153393169700:Nat:=0
def PySem.W.Fast.tw10352378869930171422:Nat:=0
def PySem.W.Fast.tw15188282360731179667:Nat:=0
def PySem.W.Fast.tw17446685206180561838:Nat:=0
def PySem.W.Fast.tw2207981512179159676:Nat:=0
def PySem.W.Fast.tw12070404025770461814:Nat:=0
def PySem.W.Fast.tw11730423196772407267:Nat:=0
def PySem.W.Fast.tw10610632895985648886:Nat:=0
def PySem.W.Fast.tw17614140621140636034:Nat:=0
def PySem.W.Fast.tw3055272629343955373:Nat:=0
def PySem.W.Fast.tw5604253871422433757:Nat:=0
def PySem.W.Fast.tw12705455414690217838:Nat:=0
def PySem.W.Fast.tw9266904586474526412:Nat:=0
def PySem.W.Fast.tw12273141100689832534:Nat:=0
def PySem.W.Fast.tw3936657026060963051:Nat:=0
def PySem.W.Fast.tw10760175533112598222:Nat:=0
def PySem.W.Fast.tw16856682320627232751:Nat:=0
def PySem.W.Fast.tw16290297749974379542:Nat:=0
def PySem.W.Fast.tw7226267271456336079:Nat:=0
def PySem.W.Fast.tw1433066738387137807:Nat:=0
open PySem PySem.W PyProof.Rows
set_option maxRecDepth 100000 in
set_option maxHeartbeats 0 in
theorem PySem.Challenge.cw_slitview_k39_whole_slits_written_holds : PySem.Challenge.rw_slitview_k39_whole_slits_written.Holds := by
 w_on; o_law; k_head; (case hw=>w_witness2)
 k_fill
 refine' K39.RF (l:=PySem.Challenge.rw_slitview_k39_whole_slits_written) rfl rfl rfl (fun w h Y=>PySem.W.kIn_of Y) ?T
 case T =>
  intro w
  refine' { yaN:=?yaN,ya9:=?ya9,ybc:=?ybc,ybb:=?ybb,yba:=?yba,k_Slit:=?k_Slit,ya2:=?ya2,ya1:=?ya1,yaB:=?yaB,yaD:=?yaD,yaC:=?yaC,yaH:=?yaH,yaM:=?yaM,yat:=?yat,yay:=?yay,yaw:=?yaw,yax:=?yax,yaq:=?yaq,yar:=?yar,yao:=?yao,yav:=?yav,yau:=?yau,yap:=?yap,yan:=?yan,yas:=?yas,yaK:=?yaK,yaL:=?yaL,yaI:=?yaI,yaE:=?yaE,yaF:=?yaF,yaJ:=?yaJ,yaG:=?yaG,yaA:=?yaA,yaz:=?yaz,yaO:=?yaO,yaP:=?yaP,yaQ:=?yaQ,yaR:=?yaR,yaS:=?yaS,yaT:=?yaT,yaU:=?yaU,yaV:=?yaV,yaW:=?yaW,yaX:=?yaX,yaY:=?yaY,yaZ:=?yaZ,ya0:=?ya0,ybd:=?ybd,ybe:=?ybe,ybf:=?ybf,ybg:=?ybg,yal:=?yal,yaf:=?yaf,yah:=?yah,yag:=?yag,yai:=?yai,yac:=?yac,yab:=?yab,yaj:=?yaj,yam:=?yam,yae:=?yae,yad:=?yad,yaa:=?yaa,yak:=?yak,ck:=?ck,z0:=?z0,wh:=?wh }
  (case yal=>k_is)
  (case yaf=>k_is)
  (case yah=>k_is)
  (case yag=>k_is)
  (case yai=>k_is)
  (case yac=>k_is)
  (case yab=>k_is)
  (case yaj=>k_is)
  (case yam=>k_is)
  (case yae=>k_is)
  (case yad=>k_is)
  (case yaa=>k_is)
  (case yak=>k_is)
  (case yaN=>refine' Pu.Rp ?zm ?zi ?zn ?zp ?zl ?zc ?zk; (case zm=>k_is); (case zi=>k_is); (case zn=>k_is); (case zp=>k_is); (case zl=>k_is); (case zc=>k_is); (case zk=>k_is))
  (case ya9=>refine' Pu.RI ?yi ?yn ?yl ?yc ?yk; (case yi=>k_is); (case yn=>k_is); (case yl=>k_is); (case yc=>k_is); (case yk=>k_is))
  (case ybc=>refine' Pu.RI ?yi ?yn ?yl ?yc ?yk; (case yi=>k_is); (case yn=>k_is); (case yl=>k_is); (case yc=>k_is); (case yk=>k_is))
  (case ybb=>refine' Pu.RI ?yi ?yn ?yl ?yc ?yk; (case yi=>k_is); (case yn=>k_is); (case yl=>k_is); (case yc=>k_is); (case yk=>k_is))
  (case yba=>refine' Pu.RI ?yi ?yn ?yl ?yc ?yk; (case yi=>k_is); (case yn=>k_is); (case yl=>k_is); (case yc=>k_is); (case yk=>k_is))
  (case k_Slit=>refine' L2.Cls.mk ?xp ?xh ?xo ?xs; (case xp=>k_is); (case xh=>k_is); (case xo=>k_is); (case xs=>k_is))
  (case ya2=>unfold L2.gR; k_is)
  (case ya1=>unfold L2.gR; k_is)
  (case yaB=>and_intros)
  (case yaD=>and_intros)
  (case yaC=>and_intros)
  (case yaH=>and_intros)
  (case yaM=>and_intros)
  (case yat=>and_intros)
  (case yay=>and_intros)
  (case yaw=>and_intros)
  (case yax=>and_intros)
  (case yaq=>and_intros)
  (case yar=>and_intros)
  (case yao=>and_intros)
  (case yav=>and_intros)
  (case yau=>and_intros)
  (case yap=>and_intros)
  (case yan=>and_intros)
  (case yas=>and_intros)
  (case yaK=>and_intros)
  (case yaL=>and_intros)
  (case yaI=>and_intros)
  (case yaE=>and_intros)
  (case yaF=>and_intros)
  (case yaJ=>and_intros)
  (case yaG=>and_intros)
  (case yaA=>and_intros)
  (case yaz=>and_intros)
  (case yaO=>k_is)
  (case yaP=>k_is)
  (case yaQ=>k_is)
  (case yaR=>k_is)
  (case yaS=>k_is)
  (case yaT=>k_is)
  (case yaU=>k_is)
  (case yaV=>k_is)
  (case yaW=>k_is)
  (case yaX=>k_is)
  (case yaY=>k_is)
  (case yaZ=>k_is)
  (case ya0=>k_is)
  (case ybd=>refine' Pu.Rx ?e; (case e=>k_is))
  (case ybe=>refine' Pu.RC ?e; (case e=>k_is))
  (case ybf=>refine' Pu.Rx ?e; (case e=>k_is))
  (case ybg=>refine' Pu.RC ?e; (case e=>k_is))
  (case ck=>kernel_rfl)
  (case z0=>kernel_rfl)
  (case wh=>refine K39.RE ?_; kernel_rfl)
