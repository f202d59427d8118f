import PyProof.Rows.All
import Wide.All
import OpenK.AllK
import Wide.FinOn
import Lean
import PyProof.EqAt
import PyProof.EqKinds
import PyProof.TupleCall
import KE.KIntText
import KE.KDictList
import KE.KDictSum
import PyProof.Rows.Range3
import PyProof.DictWalks
import KE.KMinKey
import PySem.Challenge.RW_slitview_k18_whole_roads
noncomputable section
set_option compiler.extract_closed false
local macro_rules | `(∅) => `(by first | lia | omega)
set_option Elab.async false
set_option bootstrap.genMatcherCode false
set_option genSizeOf false
set_option linter.all false
set_option maxRecDepth 100000
local macro_rules | `(tactic| ac_nf) => `(tactic| exact ⟨rfl,rfl,rfl,by decide +kernel,rfl,by decide +kernel,by decide +kernel⟩)
open Option renaming some→aa,none→ae,bind_some→iD,map_some→lV,map_eq_some_iff→tF,isSome_map→CQ,map_none→C0,getD_none→JF,getD_some→Kj
open PySem renaming Addr→af,Value→am,Shared→aq,wpAny_bind→ar,wpAny→ax,model→ay,Expr→aC,wpAny_pure→aD,Heap→aF,World→aN,Program→aX,Around→be,Stmt→bf,starEach→bu,sizeLine→bx,eval→bz,mainGlobals→cG,strKind→dP,wpAny_mono→d_,Scope→eG,rawInt→eZ,compareOp→ft,bootBuiltins→fM,backTo→f7,cellsFrom→gw,wpAny_ite_split→gy,bindArgs→gM,SetTable→gQ,FuncData→g9,NameKind→g_,wpAny_setState_of→iC,binaryOp→jI,wpAny_rule→ln,wpAny_askSetting→lp,mem_of_lookup→lQ,wpAny_holding→lS,behindInMarks→mU,swapsWith→mV,wpAny_newObj_type→m8,Paired→nX,sysModules→nY,isTrue→n8,wpAny_truthy_bool→n9,IsPart→n_,setNext→oq,setField→ot,setsByText→ou,pyIter→pr,codeAny→pB,valueAt→pE,builtinsNs→qJ,getItem→qL,Keyword→qM,wpAny_passesOwn→tj,sizeLine_eq→tm,Arguments→tt,wpAny_field→tu,sliceBounds→tw,attributeBase→tz,callerA→tG,relayAll→tK,wpAny_storeSet_of→tO,tupleKind→vI,codeAmong→vJ,assignEach→vK,foldedSetIterable→vL,recursionLimit→vN,wpAny_call_entry→vQ,fits_of_scanBound→vV,codeAny_builtin→vW,pickOrder→vX,wpAny_setField→vY,wpAny_Name→zm,codeAny_mono→zo,tupleKind_room_in1→zt,closureFor→zw,pushCells→zx,wpAny_isInstance→zD,wpAny_setEpoch_of→zK,wpAny_execs_nil→CC,wpAny_assign_Name→CD,PassesOwn→CF,letOwnedTupleGo→CG,wpAny_Call_Name_kw→CI,subscripted→CM,keywordEach→CN,wpAny_alloc→CT,pushCells_keeps→CU,lookup_relabel_local→CV,wpAny_pyIter_list→CZ,plainId_quiet→C8,sub_set_self→C9,wpAny_setEntries_of→C_,setWalkUnseen→Dl,wpAny_setScan_of→JP
open Bool renaming true→ai,false→ao,false_ne_true→gu,and_eq_true→iA,false_xor→lr,eq_iff_iff→pt,false_eq_true→pG,true_xor→tX,or_eq_true→zB,not_true→zO,true_and→C1,and_false→C4,not_eq_true'→JZ
open PySem.W renaming Frag→az,nsIn→eU,mg_of→jN,kitOne→j3,fnOf→kC,mg_none_of→kG,tabIn→lM,kia_one→mZ,emptyDict→qK,instObj→ti,keepIn→tq,excIn→tQ,findIn→zn,codeIn→zq,codeHdIn→zv,OpenLaw→CS,kla_obj→Do,methodObj→Jw
open PyProof.Rows renaming wpS_bind→aK,wpS_pure→aT,pendingOf→bF,SortSt→bW,StrsAre→eT,wpS_mono→h_,wpS_forRange→ic,envOfC→j4,size_push'→j7,seqObj→lU,wpS_get→lW,AllBare→n4,wpS_modify→oy,wpS_lift→tR,listUpdate_at→Dk,callWith_type1→Jy,slot_tuple_getitem→Ut
open Nat renaming le_refl→bo,le_trans→cL,ne_of_lt→c_,lt_irrefl→fG,lt_of_lt_of_le→fW,zero_le→lj,le_of_lt→lN,ne_of_gt→mW,le_of_eq→mX,lt_succ_self→mY,lt_succ_of_lt→m_,lt_trans→oh,zero_add→ox,mod_eq_of_lt→pH,lt_of_le_of_lt→qN,mod_lt→qP,pow_succ→qS,not_lt→tT,add_mod→tU,lt_add_right→tZ,add_assoc→v5,add_sub_cancel_left→we,not_lt_zero→zu,le_succ→zz,add_right_comm→zH,mul_comm→zL,lt_of_succ_lt→zP,min_eq_left→zR,mul_le_mul→C6,add_mul→Dt,lt_or_ge→Dx,min_eq_right→Ki,le_add_right→Kk,add_sub_cancel'→Kl
open PySem.Heap renaming lt_size→bE,get?_push_of_some→bK,get?_push_size→dG,SameBut→jf,get?_update_other→tD,get?_update_self→tL,size_push→vM,get?_none_of_le→Jx,size_update→JY
open List renaming replicate→bH,range→bQ,mem_cons→ca,length_map→cD,mem_map→cM,length_append→cZ,size_toArray→dH,map_cons→eC,getElem?_eq_some_iff→eE,length_cons→eI,map_map→eJ,nil_append→eV,mem_append→eY,getElem?_set_ne→fN,getElem?_append_left→fO,find?_cons→fX,append_assoc→gx,map_congr_left→gP,mem_singleton→hZ,getElem?_set_self→ix,getElem?_eq_getElem→iB,append_nil→jg,getElem?_map→jh,getElem?_take→jj,nodup_cons→jJ,getElem?_append_right→jK,foldl_cons→jL,getElem?_eq_none→jM,mem_append_right→j2,length_take→j5,length_drop→j6,mem_of_mem_take→j8,mem_filter→kA,not_mem_nil→kD,ext_getElem?→kE,getElem?_drop→kF,lookup_cons→lm,length_set→lq,mem_cons_of_mem→lO,take_of_length_le→lT,flatMap_cons→lY,take_append_drop→ng,mem_range→nZ,filterMap_cons→n5,mem_cons_self→n6,any_cons→og,map_append→oi,filter_eq_self→oC,mem_of_mem_drop→oD,length_singleton→pD,filter_cons→pF,range_succ_eq_map→qO,mem_reverse→qR,dropLast→qU,length_nil→tE,range_succ→tJ,any_eq_true→tY,length→vO,mem_of_getElem?→vP,all_cons→vR,map_nil→vS,all_eq_true→vZ,length_filter_le→wb,filter_map→wc,mem_flatMap→wd,count_cons_of_ne→wf,mem_append_left→zk,getElem?_take_of_lt→zp,lookup→zy,eq_nil_of_length_eq_zero→zA,nodup_append→zF,drop_eq_getElem_cons→zG,getElem_of_mem→zJ,find?_eq_none→zM,replicate_succ→CO,getElem?_range→CW,all_map→CY,drop_zero→C3,pairwise_map→C5,getElem_mem→C7,length_eraseIdx→Da,take_zero→Dc,any_map→De,length_dropLast→Df,singleton_append→Dg,drop_eq_nil_iff→Dh,take_length→Di,cons_append→Dj,filter_append→Dn,length_eq_zero_iff→Dp,isPerm_iff→Dq,drop_of_length_le→Dr,count_cons_self→Ds,range'→Du,sum_cons→Dv,take_append_of_le_length→Dw,mem_filterMap→Jz,any_eq_false→JB,filterMap_map→JE,flatten_cons→JJ,lookup_append→JL,findIdx?_eq_some_iff_getElem→JQ,findIdx?_eq_none_iff→JR,drop_length→JW,pairwise_append→J0,getElem_drop→J2,getElem_take→J3,reverse_append→J4,reverse_perm→J5,pairwise_reverse→J7,toList_toArray→J9,getD_eq_getElem?_getD→Kb,filter_congr→Kc,flatMap_nil→Kd,drop_append_of_le_length→Ke,length_erase_of_mem→Kf,perm_ext_iff_of_nodup→Kg,isEmpty_nil→Kh,count_eq_zero_of_not_mem→Uv
open Option.some renaming inj→eQ
open PySem.PassesOwn renaming never→gR
open Ne renaming symm→g8
open Array renaming length_toList→iz,toList_append→iE,getElem_extract→oA,getElem?_eq_some_iff→tI,toList_push→vU,getElem?_eq_getElem→zE,getElem?_toList→Db,toList_extract→J1,perm_iff_toList_perm→J8,getD_eq_getD_getElem?→Ka
open False renaming elim→kB
open Int renaming toNat_natCast→lR,emod_nonneg→v9,emod_lt_of_pos→zN
open PyProof.Rows.KeyOrd renaming kle_of_klt→lX,kle_refl→oz,kle_trans→v6
open List.Perm renaming refl→m9,append_left→JT
open PySem.SetTable renaming sizeAbove→oj,eraseAt→oB,bits→pI,grown→tN,fits→tP,fill→tW,turns→v8,insertAt→JN,layClean→JO,below→JU
open PySem.Heap.SameBut renaming update→om,refl→vT
open PySem.Str renaming empty→pA,ofString→CK
open PySem.Obj renaming mapSeq→pC,mapFields→qQ,data_mapFields→Dd,isFreed_of_fields→JX
open PySem.Value renaming isStrOf→qI
open Function renaming comp→qT,comp_def→JM
open PySem.SetTable.layClean renaming free→v7
open PySem.SetTable.sizeAbove renaming go→v_
open List.cons renaming injEq→wa
open PySem.SeqAt renaming EqAt→zr
open PySem.Around renaming under_plainId→zC
open Nat.succ renaming inj→zI
open PySem.F renaming excBase_ValueError→zQ,slot_dict_get→JK
open Classical renaming byContradiction→zS
open PySem.Calls renaming spliced_cons→CH,spliced_nil→JC,callWith_builtin→JG,evalArgs_plain→JH
open PySem.Builtin.Slice renaming slicePlaces→CJ,sliceAdjust→JD
open PySem.Builtin.Tuple renaming tupleExact→CL
open PySem.Paired renaming snoc→CP
open PySem.Builtin.Frozenset renaming unchanged→Dm,sizeOf→J_
open PySem.Builtin.Str renaming occurrences→JA
open PySem.Builtin.List renaming listTooLong→JI
open PyProof.Rows.F renaming plain_set_update_loop→JS,entry_set_update_loop→Uu
open PySem.SetTable.below renaming go→JV
open PySem PySem.Spec PyProof.Rows
namespace L2
abbrev aJ:=Sum Int Str
def sF:aJ->am->Bool
 | .inl k,v=>Value.isInt k v
 | .inr x,v=>qI x v
def TV(w:aN):aJ->Int
 | .inl k=>hashInt k
 | .inr x=>hashStr w x
theorem nR:∀ {k:aJ} {v:am},sF k v=ai->(∃ i t,k=Sum.inl i/\v=Value.int i t)\/(∃ x t,k=Sum.inr x/\v=Value.str x t)
 | .inl i,v,h=>by obtain⟨t,e⟩:=Value.isInt_shape (k:=i) (v:=v) h;exact .inl ⟨i,t,rfl,e⟩
 | .inr x,v,h=>by obtain⟨t,e⟩:=Value.isStrOf_shape (x:=x) (v:=v) h;exact .inr ⟨x,t,rfl,e⟩
theorem Lx(i:Int)(t:Tok):sF (.inl i) (.int i t)=ai:=by simp[sF,Value.isInt]
theorem QT(x:Str)(t:Tok):sF (.inr x) (.str x t)=ai:=by simp[sF,qI]
theorem SS(a b:Int):decide ((Sum.inl a:aJ)=Sum.inl b)=(a == b):=by
 by_cases e:a=b
 ·subst e; simp
 ·have h:¬ (Sum.inl a:aJ)=Sum.inl b:=λq=>e (Sum.inl.inj q);rw[decide_eq_false h];exact(beq_eq_false_iff_ne.mpr e).symm
theorem Tj(a b:Str):decide ((Sum.inr a:aJ)=Sum.inr b)=decide (a=b):=by
 by_cases e:a=b
 ·subst e; simp
 ·have h:¬ (Sum.inr a:aJ)=Sum.inr b:=λq=>e (Sum.inr.inj q);rw[decide_eq_false h,decide_eq_false e]
theorem MP(a:Int)(b:Str):decide ((Sum.inl a:aJ)=Sum.inr b)=ao:=decide_eq_false (λq=>nomatch q)
theorem Nd(a:Str)(b:Int):decide ((Sum.inr a:aJ)=Sum.inl b)=ao:=decide_eq_false (λq=>nomatch q)
def gI(prog:aX)(w:aN):PySem.KeyKind prog w aJ where
 is:=sF
 hash:=TV w
 inj:=λv a b ha hb=>by
  rcases nR ha with⟨i,t,rfl,rfl⟩ | ⟨x,t,rfl,rfl⟩
  ·rcases nR hb with⟨j,u,rfl,e⟩ | ⟨y,u,rfl,e⟩
   ·injection e with e1 _; rw[e1]
   ·exact nomatch e
  ·rcases nR hb with⟨j,u,rfl,e⟩ | ⟨y,u,rfl,e⟩
   ·exact nomatch e
   ·injection e with e1 _; rw[e1]
 byValue:=λk v h=>by rcases nR h with⟨i,t,rfl,rfl⟩ | ⟨x,t,rfl,rfl⟩ <;> rfl
 pyHash:=λhv h=>by
  rcases nR hv with⟨i,t,rfl,rfl⟩ | ⟨x,t,rfl,rfl⟩
  ·exact wpAny_pyHash_int h
  ·exact wpAny_pyHash_str h
 eqBool:=λhu hv h=>by
  rcases nR hu with⟨i,t,rfl,rfl⟩ | ⟨x,t,rfl,rfl⟩
  ·rcases nR hv with⟨j,u,rfl,rfl⟩ | ⟨y,u,rfl,rfl⟩
   ·rw[SS]at h; exact wpAny_eqBool_int h
   ·rw[MP]at h; exact SeqAt.EqAt.int_str i t y u _ _ _ _ h
  ·rcases nR hv with⟨j,u,rfl,rfl⟩ | ⟨y,u,rfl,rfl⟩
   ·rw[Nd]at h; exact SeqAt.EqAt.str_int x t j u _ _ _ _ h
   ·rw[Tj]at h; exact wpAny_eqBool_str h
 «strs»:=λk x t v h=>by
  rcases nR h with⟨i,u,rfl,e⟩ | ⟨y,u,rfl,e⟩
  ·exact nomatch e
  ·injection e with e1 _;subst e1;cases v <;> rfl
theorem K2(prog:aX)(w:aN)(i:Int)(t:Tok):(gI prog w).is (.inl i) (.int i t)=ai:=Lx i t
theorem Nf(prog:aX)(w:aN)(x:Str)(t:Tok):(gI prog w).is (.inr x) (.str x t)=ai:=QT x t
inductive V where
 | non | bl (b:Bool) | int (i:Int) | str (x:Str) | byt (b:Array UInt8) | flt (b:UInt64) | ref (a:af) | ty (n:String)
 deriving DecidableEq
def RelV:V->am->Prop
 | .non,u=>u=Value.none
 | .bl b,u=>u=Value.bool b
 | .int i,u=>∃ t,u=Value.int i t
 | .str x,u=>∃ t,u=Value.str x t
 | .byt b,u=>∃ t,u=Value.bytes b t
 | .flt b,u=>∃ t,u=Value.float b t
 | .ref a,u=>u=Value.ref a
 | .ty n,u=>u=Value.type n
abbrev bJ:List V->List am->Prop:=nX RelV
theorem bJ.length{xs:List V}{us:List am}(r:bJ xs us):xs.length=us.length:=Paired.length r
theorem bJ.get:∀ {xs:List V} {us:List am} {i:Nat} {x:V},bJ xs us->xs[i]?=aa x->∃ u,us[i]?=aa u/\RelV x u
 | _,_,_,_,.nil,e=>by simp at e
 | _,_,0,_,.cons r _,e=>by simp at e; subst e; exact⟨_,rfl,r⟩
 | _,_,i+1,x,.cons _ t,e=>by obtain⟨u,h1,h2⟩:=bJ.get (i:=i) (x:=x) t (by simpa using e);exact⟨u,by simpa using h1,h2⟩
theorem bJ.set{x:V}{u:am}(r:RelV x u):∀ {xs:List V} {us:List am} (i:Nat),bJ xs us->bJ (xs.set i x) (us.set i u)
 | _,_,_,.nil=>.nil
 | _,_,0,.cons _ t=>.cons r t
 | _,_,i+1,.cons q t=>.cons q (bJ.set r i t)
theorem bJ.append:∀ {xs ys:List V} {us ws:List am},bJ xs us->bJ ys ws->bJ (xs++ys) (us++ws)
 | _,_,_,_,.nil,s=>s
 | _,_,_,_,.cons r t,s=>.cons r (bJ.append t s)
theorem bJ.take:∀ {xs:List V} {us:List am} (n:Nat),bJ xs us->bJ (xs.take n) (us.take n)
 | _,_,0,_=>.nil
 | _,_,_+1,.nil=>.nil
 | _,_,n+1,.cons r t=>.cons r (bJ.take n t)
theorem bJ.drop:∀ {xs:List V} {us:List am} (n:Nat),bJ xs us->bJ (xs.drop n) (us.drop n)
 | _,_,0,r=>r
 | _,_,_+1,.nil=>.nil
 | _,_,n+1,.cons _ t=>bJ.drop n t
def pi:Option V->Option am->Prop
 | some v,aa u=>RelV v u
 | none,ae=>True
 | _,_=>False
def KV{κ:Type}:List (κ×V)->List (κ×am)->Prop:=nX λ(p:κ×V) (q:κ×am)=>p.1=q.1/\RelV p.2 q.2
def kV:aJ->V
 | .inl i=>.int i
 | .inr x=>.str x
inductive HO where
 | lst (xs:List V)
 | tup (xs:List V)
 | dK (kvs:List (aJ×V)) | dT (kvs:List (List aJ×V))
 | set (S:Int->Bool) (n:Nat)
 | ins (C dx:af) (fs:List (Str×V))
 | own (x:af)
 | xd (fs:List (Str×V))
 | met (f x:af)
 | rng (lo hi:Int)
 | frz (o:Obj) (u:HO)
 | tbl (q:Str)
 | ext (φ:aF->Prop)
abbrev Hp:=af->Option HO
def upd(H:Hp)(a:af)(o:HO):Hp:=λb=>if b=a then aa o else H b
theorem cF{H:Hp}{a:af}{o:HO}:upd H a o a=aa o:=by unfold upd; rw[if_pos rfl]
theorem cu{H:Hp}{a b:af}{o:HO}(h:b≠a):upd H a o b=H b:=by unfold upd; rw[if_neg h]
theorem Lc{H:Hp}{a b:af}{o u:HO}(h:H a=aa o)(h':H b=aa u)(d:o≠u):a≠b:=by intro e; subst e; rw[h]at h'; exact d (eQ h')
theorem nB{H:Hp}{a b:af}{o:HO}(h:H a=aa o)(h':H b=ae):a≠b:=by
 intro e; subst e; rw[h]at h'; cases h'
def Ju(h:aF)(a:af)(items:Array am):Prop:=IsTup h a items/\∃ o,h.get? a=aa o/\o.dict=ae
theorem Ju.new(h:aF)(its:Array am):Ju (h.push { cls:=.type "tuple",data:=.seq its }) h.objs.size its:=⟨IsTup.new _ _,_,dG _ rfl,rfl⟩
section
variable(P:aX)(w:aN)
def ef(H:Hp)(h:aF)(a:af):HO->Prop
 | .lst xs=>xs.length<=bx/\∃ (its:List am) (n:Nat),bJ xs its/\h.get? a=aa { cls:=.type "list",data:=.seq its.toArray n }
 | .tup xs=>xs.length<=bx/\∃ its:List am,bJ xs its/\Ju h a its.toArray
 | .dK kvs=>kvs.length<=bx/\(a == nY)=ao/\∃ vs,KV kvs vs/\h.DictOf (gI P w) a vs
 | .dT kvs=>kvs.length<=bx/\(a == nY)=ao/\∃ xs:List (List aJ×af×am),
   nX (λ(p:List aJ×V) (q:List aJ×af×am)=>p.1=q.1/\H q.2.1=aa (.tup (p.1.map kV))/\RelV p.2 q.2.2) kvs xs /\
   ∃ o es ep,h.get? a=aa o/\o.ExactDict/\o.data = .dict es ep/\es.toList=xs.map (entryOfKey (vI (gI P w)))/\(xs.map (·.1)).Nodup
 | .set S n=>h.SetOf (intKind P w) a S n
 | .ins C dx fs=>H dx=aa (.own a)/\fs.length<=1000/\dx≠a/\h.get? a=aa (ti C dx) /\
   ∃ mA,h.Ns1 dx mA/\(∀ f,pi (fs.lookup f) (mA f))/\PySem.Within mA (fs.map (·.1))
 | .own _=>∃ o,h.get? a=aa o
 | .xd fs=>∃ mA,h.Ns1 a mA/\∀ f,pi (fs.lookup f) (mA f)
 | .rng lo hi=>∃ t u v,h.get? a=aa { cls:=.type "range",data:=.fields #[.int lo t,.int hi u,.int 1 v] }
 | .frz o u=>h.get? a=aa o/\ef H h a u
 | .tbl q=>∃ ps:Array am,h.get? a=aa { cls:=.none,data:=.fields ps }/\TriplesOk ps.toList/\∀ pos cv,vJ pos ps.toList=aa cv->∃ c,cv = .ref c/\H c=aa (.own a)/\h.CodeRec cv q
 | .met f x=>h.get? a=aa (Jw (.ref f) (.ref x))
 | .ext φ=>φ h/\(∃ o,h.get? a=aa o)/\∀ h1 h2:aF,φ h1->(∀ o,h1.get? a=aa o->h2.get? a=aa o)->φ h2
def eD(H:Hp)(h:aF):Prop:=∀ a o,H a=aa o->ef P w H h a o
end
section
variable{P:aX}{w:aN}{H H':Hp}{h h':aF}{a:af}{o:HO}
theorem ef.lt(x:ef P w H h a o):a<h.objs.size:=by
 cases o with
 | lst xs=>obtain⟨_,_,_,_,e⟩:=x; exact bE e
 | tup xs=>obtain⟨_,_,_,p,_⟩:=x; exact p.lt
 | dK kvs=>obtain⟨_,_,_,_,o,_,_,e,_⟩:=x; exact bE e
 | dT kvs=>obtain⟨_,_,_,_,o,_,_,e,_⟩:=x; exact bE e
 | set S n=>obtain⟨o,_,_,_,e,_⟩:=x; exact bE e
 | ins C dx fs=>obtain⟨_,_,_,e,_⟩:=x; exact bE e
 | own y=>obtain⟨_,e⟩:=x; exact bE e
 | xd fs=>obtain⟨_,⟨_,_,_,e,_⟩,_⟩:=x; exact bE e
 | rng lo hi=>obtain⟨_,_,_,e⟩:=x; exact bE e
 | frz ob u=>obtain⟨e,_⟩:=x; exact bE e
 | tbl q=>obtain⟨_,e,_⟩:=x; exact bE e
 | met f y=>exact bE (show h.get? a=aa _ from x)
 | ext φ=>obtain⟨_,⟨_,e⟩,_⟩:=x; exact bE e
theorem Paired.mapP{α β:Type}{F G:α->β->Prop}:∀ {l₁:List α} {l₂:List β},nX F l₁ l₂->(∀ a b,F a b->G a b)->nX G l₁ l₂
 | _,_,.nil,_=>.nil
 | _,_,.cons r t,f=>.cons (f _ _ r) (Paired.mapP t f)
theorem ef.stay(x:ef P w H h a o)(k:∀ b u,(b=a\/H b=aa (.own a))->h.get? b=aa u->h'.get? b=aa u)(ho:∀ b,H b=aa (.own a)->H' b=aa (.own a)) (ht:∀ b xs,H b=aa (.tup xs)->H' b=aa (.tup xs)):ef P w H' h' a o:=by
 induction o with
 | lst xs=>obtain⟨z,its,n,r,e⟩:=x; exact⟨z,its,n,r,k _ _ (.inl rfl) e⟩
 | tup xs=>obtain⟨z,its,r,⟨ob,e,c⟩,o2,e2,c2⟩:=x; exact⟨z,its,r,⟨ob,k _ _ (.inl rfl) e,c⟩,o2,k _ _ (.inl rfl) e2,c2⟩
 | dK kvs=>obtain⟨z,y,vs,r,ob,es,ep,e,c⟩:=x; exact⟨z,y,vs,r,ob,es,ep,k _ _ (.inl rfl) e,c⟩
 | dT kvs=>obtain⟨z,y,xs,r,ob,es,ep,e,c⟩:=x;exact⟨z,y,xs,Paired.mapP r λp q z=>⟨z.1,ht _ _ z.2.1,z.2.2⟩,ob,es,ep,k _ _ (.inl rfl) e,c⟩
 | set S n=>obtain⟨ob,es,ep,t,e,c⟩:=x; exact⟨ob,es,ep,t,k _ _ (.inl rfl) e,c⟩
 | ins C dx fs=>obtain⟨d,z,ne,e,mA,⟨od,es,ep,e2,c⟩,r⟩:=x;exact⟨ho _ d,z,ne,k _ _ (.inl rfl) e,mA,⟨od,es,ep,k _ _ (.inr d) e2,c⟩,r⟩
 | own y=>obtain⟨ob,e⟩:=x; exact⟨ob,k _ _ (.inl rfl) e⟩
 | xd fs=>obtain⟨mA,⟨od,es,ep,e,c⟩,r⟩:=x; exact⟨mA,⟨od,es,ep,k _ _ (.inl rfl) e,c⟩,r⟩
 | rng lo hi=>obtain⟨t,u,v,e⟩:=x; exact⟨t,u,v,k _ _ (.inl rfl) e⟩
 | frz ob u ih=>obtain⟨e,q⟩:=x; exact⟨k _ _ (.inl rfl) e,ih q⟩
 | tbl q=>
  obtain⟨ps,e,t,g⟩:=x;refine⟨ps,k a _ (.inl rfl) e,t,λpos cv hc=>?_⟩;obtain⟨c,rfl,h1,c2,o,vs,tk,e2,e3,r⟩:=g pos cv hc;cases e2;exact⟨c,rfl,ho c h1,c,o,vs,tk,rfl,k c _ (.inr h1) e3,r⟩
 | met f y=>have e:h.get? a=aa (Jw (.ref f) (.ref y)):=x;show h'.get? a=aa (Jw (.ref f) (.ref y));exact k a _ (.inl rfl) e
 | ext φ=>obtain⟨p,⟨o,e⟩,st⟩:=x; exact⟨st _ _ p λo q=>k _ _ (.inl rfl) q,⟨o,k _ _ (.inl rfl) e⟩,st⟩
theorem eD.lt(x:eD P w H h)(e:H a=aa o):a<h.objs.size:=(x a o e).lt
theorem eD.fresh(x:eD P w H h)(e:h.objs.size<=a):H a=ae:=by
 cases q:H a with
 | none=>rfl
 | some u=>exact absurd (fW (x.lt q) e) (fG _)
theorem eD.kept(x:eD P w H h)(k:∀ b u,h.get? b=aa u->h'.get? b=aa u):eD P w H h':=λa o e=>(x a o e).stay (λb u _ q=>k b u q) (λ_ q=>q) λ_ _ q=>q
theorem eD.laid(x:eD P w H h)(k:∀ b u,h.get? b=aa u->h'.get? b=aa u)(hp:h.objs.size<=a)(new:ef P w (upd H a o) h' a o):eD P w (upd H a o) h':=λb u e=>by
 have hn:=x.fresh hp;by_cases hb:b=a
 ·subst hb; rw[cF]at e; cases e; exact new
 ·rw[cu hb]at e;exact(x b u e).stay (λc v _ q=>k c v q) (λc q=>by rw[cu (nB q hn)]; exact q) λc xs q=>by rw[cu (nB q hn)]; exact q
end
def Rd(H:Hp)(a:af)(u:HO):Prop:=H a=aa u\/∃ o,H a=aa (.frz o u)
theorem Rd.ok{P:aX}{w:aN}{H:Hp}{h:aF}{a:af}{u:HO}(r:Rd H a u)(x:eD P w H h):ef P w H h a u:=by
 rcases r with r | ⟨o,r⟩
 ·exact x a u r
 ·obtain⟨_,q⟩:=x a _ r;exact q
def uH:Option HO->Prop
 | some (.lst _)=>True
 | some (.dK _)=>True
 | some (.dT _)=>True
 | some (.set _ _)=>True
 | some (.ins _ _ _)=>True
 | some (.ext _)=>True
 | _=>False
section
variable{P:aX}{w:aN}{H:Hp}{h h':aF}{x e:af}{o':HO}
theorem eD.write(ok:eD P w H h)(mu:uH (H x))(he:e=x\/H e=aa (.own x))(k:∀ b u,b≠e->h.get? b=aa u->h'.get? b=aa u)(t5:∃ u,h'.get? e=aa u)(new:ef P w (upd H x o') h' x o'):eD P w (upd H x o') h':=λb u q=>by
 have nown:∀ c y,H c=aa (.own y)->c≠x:=λc y r z=>by subst z; rw[r]at mu; exact mu
 have ntup:∀ c xs,H c=aa (.tup xs)->c≠x:=λc xs r z=>by subst z; rw[r]at mu; exact mu
 by_cases hb:b=x
 ·subst hb; rw[cF]at q; cases q; exact new
 ·rw[cu hb]at q;by_cases l_:b=e
  ·have q':H b=aa (.own x):=by
    rcases he with z | z
    ·exact absurd (l_.trans z) hb
    ·rw[l_]; exact z
   rw[q]at q'; cases q';obtain⟨v,hv⟩:=t5;exact⟨v,by rw[l_]; exact hv⟩
  ·refine(ok b u q).stay (λc v hc r=>k c v ?_ r) (λc r=>by rw[cu (nown c b r)]; exact r) λc xs r=>by rw[cu (ntup c xs r)]; exact r
   rcases hc with rfl | hc
   ·exact l_
   ·rintro rfl;rcases he with z | z
    ·exact nown c b hc z
    ·rw[hc]at z; cases z; exact hb rfl
end
structure Un(fs ex:List af)(H H':Hp)(h h':aF):Prop where
 keep:∀ b o,h.get? b=aa o->H b=ae->b∉fs->b∉ex->h'.get? b=aa o
 slot:∀ b o,h.get? b=aa o->H b=ae->b∈fs->b∉ex->∃ sl,h'.get? b=aa { o with slots:=sl }
 free:∀ b o,h.get? b=aa o->H b=ae->b∉ex->H' b=ae
 there:∀ b o,h.get? b=aa o->b∉ex->∃ o',h'.get? b=aa o'
 tups:∀ b xs,H b=aa (.tup xs)->H' b=aa (.tup xs)
 frzs:∀ b o u,H b=aa (.frz o u)->H' b=aa (.frz o u)
 tbls:∀ b q,H b=aa (.tbl q)->H' b=aa (.tbl q)
section
variable{fs fs' ex ex':List af}{H H1 H2:Hp}{h h1 h2 h':aF}{a x e:af}{o:HO}
theorem Un.any(u:Un fs ex H H1 h h1){b:af}{ob:Obj}(q:h.get? b=aa ob)(n:H b=ae)(hx:b∉ex):∃ sl,h1.get? b=aa { ob with slots:=sl }:=by
 by_cases hb:b∈fs
 ·exact u.slot b ob q n hb hx
 ·exact⟨ob.slots,u.keep b ob q n hb hx⟩
theorem Un.trans(a:Un fs ex H H1 h h1)(b:Un fs ex H1 H2 h1 h2):Un fs ex H H2 h h2 where
 keep:=λc ob q n hc hx=>b.keep c ob (a.keep c ob q n hc hx) (a.free c ob q n hx) hc hx
 slot:=λc ob q n hc hx=>by obtain⟨sl,e1⟩:=a.slot c ob q n hc hx;obtain⟨sl',e2⟩:=b.slot c _ e1 (a.free c ob q n hx) hc hx;exact⟨sl',e2⟩
 free:=λc ob q n hx=>by obtain⟨o',e1⟩:=a.there c ob q hx;exact b.free c o' e1 (a.free c ob q n hx) hx
 there:=λc ob q hx=>by obtain⟨o',e1⟩:=a.there c ob q hx;exact b.there c o' e1 hx
 tups:=λc xs q=>b.tups c xs (a.tups c xs q)
 frzs:=λc ob xs q=>b.frzs c ob xs (a.frzs c ob xs q)
 tbls:=λc ps q=>b.tbls c ps (a.tbls c ps q)
theorem Un.kept(k:∀ b u,h.get? b=aa u->h'.get? b=aa u):Un fs ex H H h h' :=⟨λb ob q _ _ _=>k b ob q,λb ob q _ _ _=>⟨ob.slots,k b ob q⟩,λ_ _ _ n _=>n,λb ob q _=>⟨ob,k b ob q⟩,λ_ _ q=>q,λ_ _ _ q=>q,λ_ _ q=>q⟩
theorem Un.refl:Un fs ex H H h h:=Un.kept λ_ _ q=>q
theorem Un.laid(k:∀ b u,h.get? b=aa u->h'.get? b=aa u)(hp:h.objs.size<=a)(hn:H a=ae):Un fs ex H (upd H a o) h h' where
 keep:=λb u q _ _ _=>k b u q
 slot:=λb u q _ _ _=>⟨u.slots,k b u q⟩
 free:=λb u q n _=>by rw[cu (c_ (fW (bE q) hp))]; exact n
 there:=λb u q _=>⟨u,k b u q⟩
 tups:=λb xs q=>by rw[cu (nB q hn)]; exact q
 frzs:=λb u xs q=>by rw[cu (nB q hn)]; exact q
 tbls:=λb ps q=>by rw[cu (nB q hn)]; exact q
theorem Un.write(mu:uH (H x))(he:e=x\/H e=aa (.own x))(k:∀ b u,b≠e->h.get? b=aa u->h'.get? b=aa u)(t5:∃ u,h'.get? e=aa u):Un fs ex H (upd H x o) h h':=by
 have hx:∀ b,H b=ae->b≠x:=λb n z=>by subst z; rw[n]at mu; exact mu
 have hb:∀ b,H b=ae->b≠e:=λb n z=>by
  subst z;rcases he with r | r
  ·exact hx b n r
  ·rw[n]at r; cases r
 have hm:∀ b u,H b=aa u->¬ uH (aa u)->b≠x:=λb u q nm z=>by subst z; rw[q]at mu; exact nm mu
 refine⟨λb u q n _ _=>k b u (hb b n) q,λb u q n _ _=>⟨u.slots,k b u (hb b n) q⟩,λb u q n _=>by rw[cu (hx b n)]; exact n,λb u q _=>?_,
  λb xs q=>by rw[cu (hm b _ q λz=>z)]; exact q,λb u xs q=>by rw[cu (hm b _ q λz=>z)]; exact q,λb ps q=>by rw[cu (hm b _ q λz=>z)]; exact q⟩
 by_cases l_:b=e
 ·subst l_; exact t5
 ·exact⟨u,k b u l_ q⟩
theorem Un.mono(u:Un fs ex H H1 h h1)(hs:∀ b∈fs,b∈fs')(hx:∀ b∈ex,b∈ex'):Un fs' ex' H H1 h h1 :=⟨λb ob q n hb he=>u.keep b ob q n (λz=>hb (hs b z)) λz=>he (hx b z),λ_ _ q n _ he=>u.any q n λz=>he (hx _ z),λb ob q n he=>u.free b ob q n λz=>he (hx b z),λb ob q he=>u.there b ob q λz=>he (hx b z),u.tups,u.frzs,u.tbls⟩
end
def yJ(h:aF)(H:Hp):List af:=(bQ h.objs.size).filter λa=>(H a).isSome
def nG(h:aF)(H:Hp):aF:=PySem.W.hideAll h (yJ h H)
theorem KG(h:aF)(H:Hp):(nG h H).objs.size=h.objs.size:=PySem.W.hideAll_size _ _
theorem Oz{h:aF}{H:Hp}{b:af}{o:Obj}(e:h.get? b=aa o)(n:H b=ae):(nG h H).get? b=aa o :=PySem.W.hideAll_get _ e λhm=>by have q:(H b).isSome=ai:=(kA.mp hm).2;rw[n]at q; simp at q
theorem Um{h:aF}{H:Hp}{b:af}{o:Obj}(e:(nG h H).get? b=aa o):h.get? b=aa o/\H b=ae:=by
 have e':h.get? b=aa o:=PySem.W.of_hideAll (yJ h H) e;refine⟨e',?_⟩;cases q:H b with
 | none=>rfl
 | some x=>
  have hm:b∈yJ h H:=kA.mpr ⟨nZ.mpr (bE e'),by simp[q]⟩;have z:(nG h H).get? b=ae:=PySem.W.hideAll_none (yJ h H) hm;rw[z]at e; cases e
def Qv(g h:aF)(L:af):List (af×Obj):=(bQ h.objs.size).filterMap λa=>if a=L\/(g.get? a).isSome=ai then ae else(h.get? a).map λo=>(a,o)
def rest(g h:aF)(L d:af):List (af×Obj):=(Qv g h L).filter λp=>decide (p.1≠d)
structure Mod(K:az)(mg:Str->Option am)(base:aF):Prop where
 kin:K.In base
 glob:base.Ns cG mg
 blt:∃ mb,base.Ns qJ mb/\∀ x:Str,x≠"__name__"->mb x=fM x
 nolimit:base.NoLimit
 bm:∃ bm ob,mg "__builtins__" = aa (.ref bm)/\bm≠qJ/\base.get? bm=aa ob/\ob.cls = .type "module"/\ob.dict=aa qJ/\ob.data = .plain
set_option genInjectivity false in
structure Cx where
 prog:aX
 w:aN
 K:az
 mg:Str->Option am
 base:aF
 A:be
 N:List Str
 s₀:aq
 H₀:Hp
 env:Env
 outer:List Env
 stack:List Env
 ex:List af
 fn:Str->Bool
 calm:Bool
 pn:List (af×Obj)
 xe:am->aq->Prop
def gG(l:List Env):List af:=l.filterMap (·.frame)
abbrev Cx.fs(X:Cx):List af:=gG X.outer
def ga(sc:eG)(x:Str):Prop:=sc.names.lookup x=aa .local\/sc.names.lookup x=aa .cell\/sc.names.lookup x=aa .free
def Loc(sc:eG)(x:Str):Prop:=sc.names.lookup x=aa .local\/sc.names.lookup x=aa .cell
def Look(env:Env)(h:aF)(m:Str->Option am)(x:Str)(u:am):Prop :=(env.kindOf x=aa .local/\m x=aa u)\/((env.kindOf x=aa .cell\/env.kindOf x=aa .free)/\∃ c,env.cells.lookup x=aa c/\h.IsCell c (aa u))
def vq:List Str:=["road"]
def xh(K:az)(H:Hp):Prop:=∀ x∈vq,∀ c P,lM K x=aa (c,P)->H P=aa (.tbl (x++".<locals>.<lambda>"))
set_option genInjectivity false in
structure Cx.Ok(X:Cx):Prop where
 mod:Mod X.K X.mg X.base
 kind:X.env.scope.kind = .function
 glob:X.env.globals=cG
 blt:X.env.builtins=qJ
 above:X.s₀.heap.objs.size<=X.env.locals
 inj:∀ x y c,X.env.cells.lookup x=aa c->X.env.cells.lookup y=aa c->x=y
 has:∀ x,(X.env.kindOf x=aa .cell\/X.env.kindOf x=aa .free)->∃ c,X.env.cells.lookup x=aa c
 cab:∀ x c,X.fn x=ai->X.env.cells.lookup x=aa c->X.s₀.heap.objs.size<=c
 hd:X.calm=ai->X.A.handled=ae
 frames:X.A.frames=aa X.stack
 stk:X.stack=X.outer\/(X.stack=X.env::X.outer/\X.env.frame=aa X.env.locals)
 exf:∀ b∈X.ex,b≠X.env.locals/\∀ x c,X.env.cells.lookup x=aa c->c≠b
 bs:∀ b o,X.base.get? b=aa o->X.s₀.heap.get? b=aa o/\X.H₀ b=ae
 bsz:X.base.objs.size<=X.s₀.heap.objs.size
 noex:∀ b o,X.base.get? b=aa o->b∉X.ex
 exfs:∀ b∈X.ex,b∉X.fs
 funs:X.s₀.heap.FunFrames X.base X.outer
 frf:∀ b∈X.fs,X.H₀ b=ae
 tab:xh X.K X.H₀
structure Inv(X:Cx)(ah:List (af×Obj))(σ:List (Option V))(H:Hp)(s:aq):Prop where
 ok:X.Ok
 os:s.os=X.s₀.os
 bare:n4 s.gens
 base:Un X.fs X.ex X.H₀ H X.s₀.heap s.heap
 loc:∃ m,s.heap.Ns X.env.locals m/\∀ (i:Nat) (x:Str) (v:V),X.N[i]?=aa x->σ[i]?=aa (aa v)->ga X.env.scope x->∃ u,RelV v u/\Look X.env s.heap m x u
 cell:∀ x c,X.env.cells.lookup x=aa c->∃ v,s.heap.IsCell c v
 free:H X.env.locals=ae
 freeC:∀ x c,X.env.cells.lookup x=aa c->H c=ae
 pin:∀ p∈X.pn++ah,s.heap.get? p.1=aa p.2/\H p.1=ae/\p.1≠X.env.locals/\p.1∉X.fs/\∀ v,p.2.data≠.cell v
 hok:eD X.prog X.w H s.heap
 len:σ.length=X.N.length
section
variable{X:Cx}{ah:List (af×Obj)}{σ:List (Option V)}{H H':Hp}{s:aq}{h':aF}
theorem Cx.Ok.nofr(ok:X.Ok){b:af}{o:Obj}(e:X.base.get? b=aa o):b∉X.fs:=λhb=>by
 have:=(ok.funs.mem hb).1;rw[e]at this; cases this
theorem Inv.bs(I:Inv X ah σ H s):∀ b o,X.base.get? b=aa o->s.heap.get? b=aa o/\H b=ae:=λb o e=>⟨I.base.keep b o (I.ok.bs b o e).1 (I.ok.bs b o e).2 (I.ok.nofr e) (I.ok.noex b o e),I.base.free b o (I.ok.bs b o e).1 (I.ok.bs b o e).2 (I.ok.noex b o e)⟩
theorem Inv.bk(I:Inv X ah σ H s):∀ b o,X.base.get? b=aa o->s.heap.get? b=aa o:=λb o e=>(I.bs b o e).1
theorem Inv.mod(I:Inv X ah σ H s):Mod X.K X.mg X.base:=I.ok.mod
theorem Inv.kIn(I:Inv X ah σ H s):X.K.In s.heap:=I.ok.mod.kin.keeps I.bk
theorem Inv.nolimit(I:Inv X ah σ H s):s.heap.NoLimit:=I.ok.mod.nolimit.keeps I.bk
theorem Inv.fr(I:Inv X ah σ H s):∃ m,Fr X.base X.env.locals s.heap m :=
 let ⟨m,hn,_⟩:=I.loc
 ⟨m,hn,I.bk,cL I.ok.bsz I.ok.above⟩
theorem Inv.lt(I:Inv X ah σ H s):X.env.locals<s.heap.objs.size:=let ⟨_,hn,_⟩:=I.loc; hn.lt
theorem Inv.sz(I:Inv X ah σ H s):X.s₀.heap.objs.size<=s.heap.objs.size:=cL I.ok.above (lN I.lt)
theorem Inv.nofs(I:Inv X ah σ H s){a:af}(h:s.heap.objs.size<=a):a∉X.fs:=λhb=>by obtain⟨_,o,ho,_⟩:=I.ok.funs.mem hb;exact absurd (fW (bE ho) (cL I.sz h)) (fG _)
theorem Inv.cne(I:Inv X ah σ H s):∀ x c,X.env.cells.lookup x=aa c->c≠X.env.locals:=λx c e z=>by
 obtain⟨v,o,ho,hd⟩:=I.cell x c e;obtain⟨m,⟨o',es,ep,jP,hd',_⟩,_⟩:=I.loc;rw[z,jP]at ho; cases ho; rw[hd']at hd; cases hd
theorem Inv.tab(I:Inv X ah σ H s):xh X.K H:=λx hx c P h=>I.base.tbls P _ (I.ok.tab x hx c P h)
theorem Inv.funs(I:Inv X ah σ H s):s.heap.FunFrames X.base X.outer:=by
 have all:∀ (l:List Env),(∀ b∈gG l,b∈X.fs)->X.s₀.heap.FunFrames X.base l->s.heap.FunFrames X.base l:=by
  intro l
  induction l with
  | nil=>intro _ _; trivial
  | cons env r ih=>intro hs hl;obtain⟨hk,⟨L,o,hf,hn,ho,hd⟩,hr⟩:=hl;have hL:L∈X.fs:=hs L (by unfold gG; rw[n5,hf]; exact n6);obtain⟨sl,e⟩:=I.base.slot L o ho (I.ok.frf L hL) hL λz=>I.ok.exfs L z hL;exact⟨hk,⟨L,_,hf,hn,e,hd⟩,ih (λb hb=>hs b (by unfold gG; rw[n5,hf]; exact lO _ hb)) hr⟩
 exact all X.outer (λ_ hb=>hb) I.ok.funs
theorem Inv.stack(I:Inv X ah σ H s):s.heap.FunFrames X.base X.stack:=by
 rcases I.ok.stk with e | ⟨e,hf⟩
 ·rw[e]; exact I.funs
 ·rw[e];obtain⟨m,hn,_⟩:=I.loc;refine .cons (by rw[I.ok.kind]; decide) hf hn ?_ I.funs;exact Jx (cL I.ok.bsz I.ok.above)
theorem Inv.stkSub(I:Inv X ah σ H s):∀ b∈gG X.stack,b∈X.env.locals::X.fs:=λb hb=>by
 rcases I.ok.stk with e | ⟨e,hf⟩
 ·rw[e]at hb; exact lO _ hb
 ·rw[e]at hb;unfold gG at hb;rw[n5,hf]at hb;exact hb
theorem Inv.stkFree(I:Inv X ah σ H s):∀ b∈gG X.stack,H b=ae:=λb hb=>by
 rcases ca.mp (I.stkSub b hb)with e | hb
 ·rw[e]; exact I.free
 ·obtain⟨_,o,ho,_⟩:=I.ok.funs.mem hb;exact I.base.free b o ho (I.ok.frf b hb) λz=>I.ok.exfs b z hb
theorem Inv.step{g':Array GenState}{t':Nat}{d':Drawn}{ch:List af}(I:Inv X ah σ H s)(nj:∀ b∈ch,(b∈X.ex\/X.s₀.heap.objs.size<=b)/\b≠X.env.locals/\(∀ x c,X.env.cells.lookup x=aa c->c≠b)/\∀ p∈X.pn++ah,p.1≠b)(keep:∀ b o,b≠X.env.locals->b∉X.fs->b∉ch->s.heap.get? b=aa o->H b=ae->h'.get? b=aa o)(slot:∀ b o,b≠X.env.locals->b∈X.fs->b∉ch->s.heap.get? b=aa o->H b=ae->∃ sl,h'.get? b=aa { o with slots:=sl }) (free:∀ b o,b∉ch->s.heap.get? b=aa o->H b=ae->H' b=ae)(there:∀ b o,b∉ch->s.heap.get? b=aa o->∃ o',h'.get? b=aa o')(tups:∀ b xs,H b=aa (.tup xs)->H' b=aa (.tup xs)) (frzs:∀ b o u,H b=aa (.frz o u)->H' b=aa (.frz o u)) (tbls:∀ b q,H b=aa (.tbl q)->H' b=aa (.tbl q))(ns:∀ m,s.heap.Ns X.env.locals m->h'.Ns X.env.locals m) (hok:eD X.prog X.w H' h') (hg:n4 g') : Inv X ah σ H' { s with heap:=h',gens:=g',drawn:=d',toks:=t' }:=by
 have neL:∀ b o,X.s₀.heap.get? b=aa o->b≠X.env.locals:=λb o e=>c_ (fW (bE e) I.ok.above);have neC:∀ b o,X.s₀.heap.get? b=aa o->b∉X.ex->b∉ch:=λb o e hx hb=>by
  rcases(nj b hb).1 with z | z
  ·exact hx z
  ·exact absurd (fW (bE e) z) (fG _)
 have cellK:∀ x c,X.env.cells.lookup x=aa c->∀ v,s.heap.IsCell c v->h'.IsCell c v:=λx c e v ⟨o,ho,hd⟩=>by
  have nch:c∉ch:=λz=>(nj c z).2.2.1 x c e rfl;by_cases hc:c∈X.fs
  ·obtain⟨sl,q⟩:=slot c o (I.cne x c e) hc nch ho (I.freeC x c e);exact⟨_,q,hd⟩
  ·exact⟨o,keep c o (I.cne x c e) hc nch ho (I.freeC x c e),hd⟩
 refine⟨I.ok,I.os,hg,⟨λb o e n hb hx=>?_,λb o e n hb hx=>?_,λb o e n hx=>?_,λb o e hx=>?_,λb xs e=>tups b xs (I.base.tups b xs e),λb o xs e=>frzs b o xs (I.base.frzs b o xs e),λb ps e=>?_⟩,?_,λx c e=>?_,?_,λx c e=>?_,λp hp=>?_,hok,I.len⟩
 ·exact keep b o (neL b o e) hb (neC b o e hx) (I.base.keep b o e n hb hx) (I.base.free b o e n hx)
 ·obtain⟨sl,e1⟩:=I.base.slot b o e n hb hx;obtain⟨sl',e2⟩:=slot b _ (neL b o e) hb (neC b o e hx) e1 (I.base.free b o e n hx);exact⟨sl',e2⟩
 ·obtain⟨o',e1⟩:=I.base.there b o e hx;exact free b o' (neC b o e hx) e1 (I.base.free b o e n hx)
 ·obtain⟨o',e1⟩:=I.base.there b o e hx;exact there b o' (neC b o e hx) e1
 ·exact tbls b _ (I.base.tbls b ps e)
 ·obtain⟨m,hn,hl⟩:=I.loc;refine⟨m,ns m hn,λi x v e1 e2 e3=>?_⟩;obtain⟨u,r,l⟩:=hl i x v e1 e2 e3;refine⟨u,r,?_⟩;rcases l with l | ⟨k,c,e,z⟩
  ·exact .inl l
  ·exact .inr ⟨k,c,e,cellK x c e _ z⟩
 ·obtain⟨v,z⟩:=I.cell x c e;exact⟨v,cellK x c e v z⟩
 ·obtain⟨m,⟨o,_,_,ho,_⟩,_⟩:=I.loc;exact free _ o (λz=>(nj _ z).2.1 rfl) ho I.free
 ·obtain⟨v,o,ho,hd⟩:=I.cell x c e;exact free c o (λz=>(nj c z).2.2.1 x c e rfl) ho (I.freeC x c e)
 ·obtain⟨e,n,ne,nf,d⟩:=I.pin p hp;have nch:p.1∉ch:=λz=>(nj p.1 z).2.2.2 p hp rfl;exact⟨keep p.1 p.2 ne nf nch e n,free p.1 p.2 nch e n,ne,nf,d⟩
theorem Inv.un{t':Nat}(I:Inv X ah σ H s)(u:Un X.fs [] H H' s.heap h')(hok:eD X.prog X.w H' h'):Inv X ah σ H' { s with heap:=h',toks:=t' }:=by
 obtain⟨m,⟨o,es,ep,ho,r⟩,_⟩:=id I.loc;obtain⟨sl,hL⟩:=u.any ho I.free (by simp);exact I.step (g':=s.gens) (d':=s.drawn) (ch:=[]) (λ_ z=>nomatch z) (λb o _ hb _ e n=>u.keep b o e n hb (by simp)) (λb o _ hb _ e n=>u.slot b o e n hb (by simp)) (λb o _ e n=>u.free b o e n (by simp)) (λb o _ e=>u.there b o e (by simp)) u.tups u.frzs u.tbls (λm' hm=>by
  obtain⟨o',es',ep',jP,r'⟩:=hm;rw[ho]at jP; cases jP;exact⟨_,es',ep',hL,r'⟩) hok I.bare
theorem Inv.call{g':Array GenState}{t':Nat}{d':Drawn}{ch:List af}(I:Inv X ah σ H s)(u:Un (gG X.stack) ch H H' s.heap h')(hok:eD X.prog X.w H' h')(hg:n4 g')(nj:∀ b∈ch,(b∈X.ex\/X.s₀.heap.objs.size<=b)/\b≠X.env.locals/\(∀ x c,X.env.cells.lookup x=aa c->c≠b)/\∀ p∈X.pn++ah,p.1≠b) : Inv X ah σ H' { s with heap:=h',gens:=g',drawn:=d',toks:=t' }:=by
 obtain⟨m,⟨o,es,ep,ho,r⟩,_⟩:=id I.loc;obtain⟨sl,hL⟩:=u.any ho I.free λz=>(nj _ z).2.1 rfl;exact I.step (ch:=ch) nj (λb o hL hb hc e n=>u.keep b o e n (λz=>(ca.mp (I.stkSub b z)).elim hL hb) hc) (λb o _ _ hc e n=>u.any e n hc) (λb o hc e n=>u.free b o e n hc) (λb o hc e=>u.there b o e hc) u.tups u.frzs u.tbls (λm' hm=>by
  obtain⟨o',es',ep',jP,r'⟩:=hm;rw[ho]at jP; cases jP;exact⟨_,es',ep',hL,r'⟩) hok hg
theorem Inv.turned{t':Nat}{it:af}(I:Inv X ah σ H s)(k:∀ b o,b≠it->s.heap.get? b=aa o->h'.get? b=aa o)(hn:H it=ae)(hL:it≠X.env.locals)(h1:it∈X.ex\/X.s₀.heap.objs.size<=it) (h2:∀ x c,X.env.cells.lookup x=aa c->c≠it) (h3:∀ p∈X.pn++ah,p.1≠it):Inv X ah σ H { s with heap:=h',toks:=t' }:=by
 have nit:∀ b u,H b=aa u->b≠it:=λb u e z=>by rw[z,hn]at e; cases e
 refine I.step (g':=s.gens) (d':=s.drawn) (ch:=[it]) (λb hb=>?_) (λb o _ _ hc e _=>k b o (λz=>hc (by simp[z])) e) (λb o _ _ hc e _=>⟨o.slots,k b o (λz=>hc (by simp[z])) e⟩) (λ_ _ _ _ n=>n)
  (λb o hc e=>⟨o,k b o (λz=>hc (by simp[z])) e⟩) (λ_ _ e=>e) (λ_ _ _ e=>e) (λ_ _ e=>e) (λm hm=>?_) (λb u e=>?_) I.bare
 ·have e:b=it:=by simpa using hb
  subst e;exact⟨h1,hL,h2,h3⟩
 ·obtain⟨o,es,ep,ho,r⟩:=hm;exact⟨o,es,ep,k _ o (g8 hL) ho,r⟩
 ·refine(I.hok b u e).stay (λc v hc q=>k c v ?_ q) (λ_ q=>q) λ_ _ q=>q;rcases hc with z | z
  ·rw[z]; exact nit b u e
  ·exact nit c _ z
theorem Inv.tok(I:Inv X ah σ H s)(t:Nat):Inv X ah σ H { s with toks:=t }:=I.un (h':=s.heap) (t':=t) Un.refl I.hok
theorem Inv.kept{t':Nat}(I:Inv X ah σ H s)(k:∀ b u,s.heap.get? b=aa u->h'.get? b=aa u):Inv X ah σ H { s with heap:=h',toks:=t' }:=I.un (Un.kept k) (I.hok.kept k)
theorem Inv.laid{a:af}{o:HO}{t':Nat}(I:Inv X ah σ H s)(k:∀ b u,s.heap.get? b=aa u->h'.get? b=aa u)(hp:s.heap.objs.size<=a)(new:ef X.prog X.w (upd H a o) h' a o) : Inv X ah σ (upd H a o) { s with heap:=h',toks:=t' }:=I.un (Un.laid k hp (I.hok.fresh hp)) (I.hok.laid k hp new)
theorem Inv.write{x e:af}{o:HO}{t':Nat}(I:Inv X ah σ H s)(mu:uH (H x))(he:e=x\/H e=aa (.own x))(k:∀ b u,b≠e->s.heap.get? b=aa u->h'.get? b=aa u)(t5:∃ u,h'.get? e=aa u)(new:ef X.prog X.w (upd H x o) h' x o):Inv X ah σ (upd H x o) { s with heap:=h',toks:=t' }:=I.un (Un.write mu he k t5) (I.hok.write mu he k t5 new)
theorem Inv.pins_of{pins':List (af×Obj)}(I:Inv X ah σ H s)(h:∀ p∈pins',s.heap.get? p.1=aa p.2/\H p.1=ae/\p.1≠X.env.locals/\p.1∉X.fs/\∀ v,p.2.data≠.cell v):Inv X pins' σ H s :=⟨I.ok,I.os,I.bare,I.base,I.loc,I.cell,I.free,I.freeC,λp hp=>(eY.mp hp).elim (λz=>I.pin p (zk _ z)) (h p),I.hok,I.len⟩
theorem EQ{N:List Str}(hN:N.Nodup){i j:Nat}{x:Str}(a:N[i]?=aa x)(b:N[j]?=aa x):i=j:=by obtain⟨h1,e1⟩:=eE.mp a;obtain⟨h2,e2⟩:=eE.mp b;exact(List.getElem_inj hN).mp (e1.trans e2.symm)
theorem HP{M:Model}{A:be}{E:am->aq->Prop}{i:Nat}{x:Str}{v:V}{u:am}{Q:Unit->aq->Prop}(I:Inv X ah σ H s)(hN:X.N.Nodup)(hi:X.N[i]?=aa x)(hx:Loc X.env.scope x)(r:RelV v u)(h:∀ s',Inv X ah (σ.set i (aa v)) H s'->(∃ a,jf a s.heap s'.heap/\(a=X.env.locals\/X.env.cells.lookup x=aa a))->Q () s') (hf:X.fn x=ai\/X.env.scope.names.lookup x=aa .local:=by first | exact .inl rfl | exact .inr rfl | assumption):ax M A (storeName X.env x u) Q E s:=by
 obtain⟨m,hn,hl⟩:=id I.loc;have DK:(X.env.scope.kind == .class || (X.env.scope.kind == .module && X.env.locals != X.env.globals))=ao:=by rw[I.ok.kind]; rfl
 have hiσ:i<σ.length:=by rw[I.len]; exact(eE.mp hi).1
 have cne:=I.cne;have tracked:∀ {a:af} {h':aF},(∃ o,s.heap.get? a=aa o/\H a=ae)->jf a s.heap h'->eD X.prog X.w H h':=λ{a h'} ha hs b ob e=>by
  obtain⟨_,_,wg⟩:=ha;refine(I.hok b ob e).stay (λc w' hc q=>(hs.2 c ?_).trans q) (λ_ q=>q) λ_ _ q=>q;rintro rfl;rcases hc with rfl | hc
  ·rw[wg]at e; cases e
  ·rw[wg]at hc; cases hc
 rcases hx with hk | hk
 ·refine wpAny_storeName_local hk hn (λh' hn' hs=>?_) DK;obtain⟨oL,_,_,ww,_⟩:=id hn;refine h _ ⟨I.ok,I.os,I.bare,⟨λb o e n hb hx=>?_,λb o e n hb hx=>?_,I.base.free,λb o e hx=>?_,I.base.tups,I.base.frzs,I.base.tbls⟩,⟨_,hn',λj y v' e1 e2 e3=>?_⟩,λy c e=>?_,I.free,I.freeC,λp hp=>?_,tracked ⟨oL,ww,I.free⟩ hs,by simpa using I.len⟩ ⟨_,hs,.inl rfl⟩
  ·exact(hs.2 b (c_ (fW (bE e) I.ok.above))).trans (I.base.keep b o e n hb hx)
  ·obtain⟨sl,e1⟩:=I.base.slot b o e n hb hx;exact⟨sl,(hs.2 b (c_ (fW (bE e) I.ok.above))).trans e1⟩
  ·obtain⟨o',e1⟩:=I.base.there b o e hx;exact⟨o',(hs.2 b (c_ (fW (bE e) I.ok.above))).trans e1⟩
  ·by_cases hj:j=i
   ·subst hj;rw[hi]at e1; cases e1;rw[ix hiσ]at e2;cases e2;exact⟨u,r,.inl ⟨hk,by simp⟩⟩
   ·rw[fN (g8 hj)]at e2;obtain⟨u',r',q⟩:=hl j y v' e1 e2 e3;refine⟨u',r',?_⟩;rcases q with⟨k,e⟩ | ⟨k,c,e,z⟩
    ·refine .inl ⟨k,?_⟩;have:y≠x:=λe=>hj (EQ hN e1 (e ▸ hi));simp[this,e]
    ·exact .inr ⟨k,c,e,z.sameBut hs (cne y c e)⟩
  ·obtain⟨w',z⟩:=I.cell y c e;exact⟨w',z.sameBut hs (cne y c e)⟩
  ·obtain⟨e,n,ne,nf,d⟩:=I.pin p hp;exact⟨(hs.2 p.1 ne).trans e,n,ne,nf,d⟩
 ·have hfn:X.fn x=ai:=by
   rcases hf with z | z
   ·exact z
   ·rw[z]at hk; cases hk
  obtain⟨c,hc⟩:=I.ok.has x (.inl hk);obtain⟨w',z⟩:=I.cell x c hc;refine wpAny_storeName_cell I.ok.kind hk hc z (λh' iF hs=>?_);obtain⟨oc,hoc,hocd⟩:=id z;refine h { s with heap:=h' } ⟨I.ok,I.os,I.bare,⟨λb o e n hb hx=>?_,λb o e n hb hx=>?_,I.base.free,λb o e hx=>?_,I.base.tups,I.base.frzs,I.base.tbls⟩,⟨m,hn.sameBut hs (g8 (cne x c hc)),λj y v' e1 e2 e3=>?_⟩,λy c' e=>?_,I.free,I.freeC,λp hp=>?_,tracked ⟨oc,hoc,I.freeC x c hc⟩ hs,by simpa using I.len⟩ ⟨c,hs,.inr hc⟩
  ·exact(hs.2 b (c_ (fW (bE e) (I.ok.cab x c hfn hc)))).trans (I.base.keep b o e n hb hx)
  ·obtain⟨sl,e1⟩:=I.base.slot b o e n hb hx;exact⟨sl,(hs.2 b (c_ (fW (bE e) (I.ok.cab x c hfn hc)))).trans e1⟩
  ·obtain⟨o',e1⟩:=I.base.there b o e hx;exact⟨o',(hs.2 b (c_ (fW (bE e) (I.ok.cab x c hfn hc)))).trans e1⟩
  ·by_cases hj:j=i
   ·subst hj;rw[hi]at e1; cases e1;rw[ix hiσ]at e2;cases e2;exact⟨u,r,.inr ⟨.inl hk,c,hc,iF⟩⟩
   ·rw[fN (g8 hj)]at e2;obtain⟨u',r',q⟩:=hl j y v' e1 e2 e3;refine⟨u',r',?_⟩;rcases q with q | ⟨k,c',e,z'⟩
    ·exact .inl q
    ·refine .inr ⟨k,c',e,z'.sameBut hs ?_⟩;rintro rfl;exact hj (EQ hN e1 (I.ok.inj _ _ _ e hc ▸ hi))
  ·by_cases hcc:c'=c
   ·subst hcc; exact⟨_,iF⟩
   ·obtain⟨w2,z2⟩:=I.cell y c' e;exact⟨w2,z2.sameBut hs hcc⟩
  ·obtain⟨e,n,ne,nf,d⟩:=I.pin p hp;refine⟨(hs.2 p.1 ?_).trans e,n,ne,nf,d⟩;intro q;rw[q,hoc]at e;have q':oc=p.2:=eQ e;exact d w' (by rw[← q']; exact hocd)
theorem yE{M:Model}{A:be}{E:am->aq->Prop}{i:Nat}{x:Str}{v:V}{u:am}{Q:Unit->aq->Prop}(I:Inv X ah σ H s)(hN:X.N.Nodup)(hi:X.N[i]?=aa x)(hx:Loc X.env.scope x)(r:RelV v u)(h:∀ s',Inv X ah (σ.set i (aa v)) H s'->Q () s') (hf:X.fn x=ai\/X.env.scope.names.lookup x=aa .local:=by first | exact .inl rfl | exact .inr rfl | assumption):ax M A (storeName X.env x u) Q E s :=HP I hN hi hx r (λs' I' _=>h s' I') hf
theorem Inv.call'{s':aq}{ch:List af}(I:Inv X ah σ H s)(ho:s'.os=s.os)(u:Un (gG X.stack) ch H H' s.heap s'.heap)(hok:eD X.prog X.w H' s'.heap)(hg:n4 s'.gens)(nj:∀ b∈ch,(b∈X.ex\/X.s₀.heap.objs.size<=b)/\b≠X.env.locals/\(∀ x c,X.env.cells.lookup x=aa c->c≠b)/\∀ p∈X.pn++ah,p.1≠b):Inv X ah σ H' s':=by obtain⟨h',g',d',t',o'⟩:=s';have e:o'=s.os:=ho;subst e;exact I.call (g':=g') (t':=t') (d':=d') u hok hg nj
end
abbrev XK:=am->Option af->Hp->Prop
abbrev St:=List (Option V)
abbrev VK:=V->Hp->Prop
abbrev TE:=St->Hp->VK->Prop
abbrev TT:=St->Hp->(Bool->Hp->Prop)->Prop
abbrev TA:=St->Hp->(List V->Hp->Prop)->Prop
structure lH where
 nx:St->Hp->Prop
 rt:VK
 bk:St->Hp->Prop:=λ_ _=>False
 ct:St->Hp->Prop:=λ_ _=>False
abbrev TS:=lH->St->Hp->Prop
def EP(X:Cx)(ah:List (af×Obj))(σ:St)(Q:VK)(u:am)(s':aq):Prop:=∃ v H',Inv X ah σ H' s'/\RelV v u/\Q v H'
def TP(X:Cx)(ah:List (af×Obj))(σ:St)(Q:Bool->Hp->Prop)(b:Bool)(s':aq):Prop:=∃ H',Inv X ah σ H' s'/\Q b H'
def AP(X:Cx)(ah:List (af×Obj))(σ:St)(Q:List V->Hp->Prop)(us:List am)(s':aq):Prop:=∃ vs H',Inv X ah σ H' s'/\bJ vs us/\Q vs H'
def SP(X:Cx)(ah:List (af×Obj))(D:lH)(f:Flow)(s':aq):Prop :=
 match f with
 | .next=>∃ σ' H',Inv X ah σ' H' s'/\D.nx σ' H'
 | .brk=>∃ σ' H',Inv X ah σ' H' s'/\D.bk σ' H'
 | .cont=>∃ σ' H',Inv X ah σ' H' s'/\D.ct σ' H'
 | .ret u=>∃ v σ' H',Inv X ah σ' H' s'/\RelV v u/\D.rt v H'
def PE(X:Cx)(e:aC)(t:TE):Prop :=
 ∀ (ah:List (af×Obj)) (s:aq) (σ:St) (H:Hp) (Q:VK),Inv X ah σ H s->t σ H Q->ax (ay X.prog X.w) X.A (bz e X.env) (EP X ah σ Q) X.xe s
def PT(X:Cx)(e:aC)(t:TT):Prop :=
 ∀ (ah:List (af×Obj)) (s:aq) (σ:St) (H:Hp) (Q:Bool->Hp->Prop),Inv X ah σ H s->t σ H Q->ax (ay X.prog X.w) X.A (n8 e X.env (bz e X.env)) (TP X ah σ Q) X.xe s
def PW(X:Cx)(e:aC)(t:TT):Prop :=
 ∀ (iT:Sem am) (ah:List (af×Obj)) (s:aq) (σ:St) (H:Hp) (Q:Bool->Hp->Prop),Inv X ah σ H s->t σ H Q->ax (ay X.prog X.w) X.A (n8 e X.env iT) (TP X ah σ Q) X.xe s
def PA(X:Cx)(es:List aC)(t:TA):Prop :=
 ∀ (pos:Pos) (ah:List (af×Obj)) (s:aq) (σ:St) (H:Hp) (Q:List V->Hp->Prop),Inv X ah σ H s->t σ H Q->ax (ay X.prog X.w) X.A (spliced (f7 pos (bu es X.env))) (AP X ah σ Q) X.xe s
def PS(X:Cx)(st:bf)(t:TS):Prop :=
 ∀ (ah:List (af×Obj)) (s:aq) (σ:St) (H:Hp) (D:lH),Inv X ah σ H s->t D σ H->ax (ay X.prog X.w) X.A (exec st X.env) (SP X ah D) X.xe s
def j1(X:Cx)(st:List bf)(t:TS):Prop :=
 ∀ (ah:List (af×Obj)) (s:aq) (σ:St) (H:Hp) (D:lH),Inv X ah σ H s->t D σ H->ax (ay X.prog X.w) X.A (execs st X.env) (SP X ah D) X.xe s
theorem aW{α:Type}{t:Sem α}{Q Q':α->aq->Prop}{M:Model}{A:be}{E:am->aq->Prop}{s:aq}(h:ax M A t Q E s)(hQ:∀ a s,Q a s->Q' a s):ax M A t Q' E s:=d_ h hQ λ_ _ x=>x
section
variable{X:Cx}
def Iz(i:Nat):TE:=λσ H Q=>∃ v,σ[i]?=aa (aa v)/\Q v H
def tC(v:V):TE:=λ_ H Q=>Q v H
theorem ip{i:Nat}{x:Str}{pos:Pos}(hN:X.N[i]?=aa x)(hv:ga X.env.scope x)(hd:(x == ("__debug__" : Str))=ao:=by decide)(bR:(x == ("__classdict__" : Str))=ao:=by decide):PE X (.Name x pos) (Iz i):=by
 intro ah s σ H Q I h;obtain⟨v,e,h⟩:=h;obtain⟨m,hn,hl⟩:=I.loc;obtain⟨u,r,l⟩:=hl i x v hN e hv;have fin:EP X ah σ Q u s:=⟨v,H,I,r,h⟩
 rcases l with⟨hk,hm⟩ | ⟨hk,c,hc,lZ⟩
 ·exact zm (wpAny_loadName_local I.ok.kind hk hn hm fin) hd
 ·rcases hk with hk | hk
  ·exact zm (wpAny_loadName_cell I.ok.kind hk hc lZ fin) hd
  ·exact zm (wpAny_loadName_free I.ok.kind hk hc lZ fin bR) hd
theorem IP{i j pos}:PE X (.Constant (.int i) j pos) (tC (.int i)):=λ_ _ _ H _ I h=>wpAny_Constant_int ⟨.int i,H,I.tok _,⟨_,rfl⟩,h⟩
theorem P5{b j pos}:PE X (.Constant (.bool b) j pos) (tC (.bl b)):=λ_ _ _ H _ I h=>Constant_bool ⟨.bl b,H,I,rfl,h⟩
theorem OJ{x j pos}:PE X (.Constant (.str x) j pos) (tC (.str x)):=λ_ _ _ H _ I h=>Calls.Constant_str ⟨.str x,H,I.tok _,⟨_,rfl⟩,h⟩
def Gl(X:Cx)(x:Str):Prop:=X.env.kindOf x=aa .globalImplicit
theorem Cp{E:am->aq->Prop}{ah:List (af×Obj)}{s:aq}{σ:St}{H:Hp}{x:Str}{u:am}{pos:Pos}{Q:am->aq->Prop}(I:Inv X ah σ H s)(hg:Gl X x)(hm:X.mg x=aa u)(h:Q u s)(hd:(x == ("__debug__" : Str))=ao:=by decide):ax (ay X.prog X.w) X.A (bz (.Name x pos) X.env) Q E s :=Calls.Name_function_global I.ok.kind hg (Calls.loadGlobal_global (by rw[I.ok.glob]; exact I.mod.glob.keeps I.bk) hm h) hd
theorem sR{E:am->aq->Prop}{ah:List (af×Obj)}{s:aq}{σ:St}{H:Hp}{x:Str}{u:am}{pos:Pos}{Q:am->aq->Prop}(I:Inv X ah σ H s)(hg:Gl X x)(hm:X.mg x=ae)(hv:fM x=aa u)(h:Q u s)(hn:x≠"__name__":=by decide) (hd:(x == ("__debug__" : Str))=ao:=by decide):ax (ay X.prog X.w) X.A (bz (.Name x pos) X.env) Q E s:=by obtain⟨mb,h1,h2⟩:=I.mod.blt;exact Calls.Name_function_global I.ok.kind hg (Calls.loadGlobal_builtin (by rw[I.ok.glob]; exact I.mod.glob.keeps I.bk) hm (by rw[I.ok.blt]; exact h1.keeps I.bk) ((h2 x hn).trans hv) h) hd
theorem Hq{x:Str}{v:V}{u:am}{pos:Pos}(hg:Gl X x)(hm:X.mg x=aa u)(r:RelV v u)(hd:(x == ("__debug__" : Str))=ao:=by decide):PE X (.Name x pos) (tC v) :=λ_ _ _ H _ I h=>Cp I hg hm ⟨v,H,I,r,h⟩ hd
theorem Of{x:Str}{v:V}{u:am}{pos:Pos}(hg:Gl X x)(hm:X.mg x=ae)(hv:fM x=aa u)(r:RelV v u)(hn:x≠"__name__":=by decide)(hd:(x == ("__debug__" : Str))=ao:=by decide):PE X (.Name x pos) (tC v) :=λ_ _ _ H _ I h=>sR I hg hm hv ⟨v,H,I,r,h⟩ hn hd
variable{a b:aC}{ta tb:TE}{pos:Pos}
def PC(X:Cx)(op:CmpOp)(a b:aC)(t:TE):Prop :=
 ∀ (ah:List (af×Obj)) (s:aq) (σ:St) (H:Hp) (Q:VK),Inv X ah σ H s->t σ H Q ->
  ax (ay X.prog X.w) X.A (bz a X.env) (λv s₁=>ax (ay X.prog X.w) X.A (bz b X.env) (λu s₂=>ax (ay X.prog X.w) X.A (ft op v u) (EP X ah σ Q) X.xe s₂) X.xe s₁) X.xe s
theorem Jc(b:aC){op:CmpOp}(h:op≠.In)(h2:op≠.NotIn):mU op b=ao:=by
 have e1:(op == CmpOp.In)=ao:=by cases op <;> first | rfl | exact absurd rfl h
 have e2:(op == CmpOp.NotIn)=ao:=by cases op <;> first | rfl | exact absurd rfl h2
 cases b <;> simp[mU,e1,e2]
def tB(t:TE):TT:=λσ H Q=>t σ H λx H1=>∃ c,x = .bl c/\Q c H1
theorem MO{op:CmpOp}{t:TE}(h:PC X op a b t)(h1:mU op b=ao:=by first | exact Jc _ (by decide) (by decide) | rfl):PE X (.Compare a [op] [b] pos) t:=λah s σ H Q I hw=>wpAny_Compare1 (h ah s σ H Q I hw) h1
theorem Il{op:CmpOp}{t:TE}(h:PC X op a b t)(h1:mU op b=ao:=by first | exact Jc _ (by decide) (by decide) | rfl):PT X (.Compare a [op] [b] pos) (tB t):=by
 intro ah s σ H Q I hw;refine wpAny_isTrue_Compare1 (aW (h ah s σ H _ I hw) λv s1 h1=>aW h1 λu s2 h2=>aW h2 λc s3 ⟨x,H1,I1,r1,q1⟩=>?_) h1;obtain⟨d,rfl,q⟩:=q1;cases r1;exact n9 ⟨H1,I1,q⟩
theorem Ru{e:aC}{t:TE}(h:PE X e t)(he:∀ iT,n8 e X.env iT=(do let v ← iT; standAt e.pos; holding [v] (truthy v)):=by intro _; rfl):PT X e (tB t):=by
 intro ah s σ H Q I hw;refine isTrue_plain (aW (h ah s σ H _ I hw) λv s1 ⟨x,H1,I1,r1,q1⟩=>?_) (he _);obtain⟨d,rfl,q⟩:=q1;cases r1;exact n9 ⟨H1,I1,q⟩
variable{tA tB':TT}{rest:List aC}
def LC(t u:TT):TT:=λσ H Q=>t σ H λc H1=>if c=ai then Q ai H1 else u σ H1 Q
def SX(t:TT):TT:=λσ H Q=>t σ H λc H1=>Q (!c) H1
theorem Ot(ha:PT X a tA):PW X (.BoolOp .Or [a] pos) tA:=by
 intro wh ah s σ H Q I h;refine isTrue_or (aW (ha ah s σ H Q I h) λc s1 e=>?_);cases c with
 | false=>exact isTrue_or_nil e
 | true=>exact e
theorem Qa(ha:PT X a tA)(hb:PW X (.BoolOp .Or (b::rest) pos) tB'):PW X (.BoolOp .Or (a::b::rest) pos) (LC tA tB'):=by
 intro wh ah s σ H Q I h;refine isTrue_or (aW (ha ah s σ H _ I h) λc s1 ⟨H1,I1,q1⟩=>?_);cases c with
 | true=>exact⟨H1,I1,q1⟩
 | false=>exact hb wh ah s1 σ H1 Q I1 q1
theorem MD(ha:PT X a tA):PT X (.UnaryOp .Not a pos) (SX tA):=by intro ah s σ H Q I h;exact isTrue_not (ha ah s σ H (λc H1=>Q (!c) H1) I h)
def Mu(ta tb:TE):TE:=λσ H Q=>ta σ H λx H1=>∃ c,x = .bl c/\if c=ai then tb σ H1 Q else Q (.bl ao) H1
def O3(ta:TE):TE:=λσ H Q=>ta σ H λx H1=>∃ c,x = .bl c/\Q (.bl (!c)) H1
theorem NB{op}{t:TE}(h:PE X a t):PE X (.BoolOp op [a] pos) t:=λah s σ H Q I hw=>BoolOp_one (h ah s σ H Q I hw)
theorem KU(ha:PE X a ta)(hb:PE X (.BoolOp .And (b::rest) pos) tb):PE X (.BoolOp .And (a::b::rest) pos) (Mu ta tb):=by
 intro ah s σ H Q I h;refine BoolOp_and (aW (ha ah s σ H _ I h) λv s1 ⟨x,H1,I1,r1,q1⟩=>?_);obtain⟨c,rfl,q1⟩:=q1;cases r1;refine n9 ?_;cases c with
 | true=>exact hb ah s1 σ H1 Q I1 q1
 | false=>exact⟨.bl ao,H1,I1,rfl,q1⟩
theorem RZ(ha:PE X a ta):PE X (.UnaryOp .Not a pos) (O3 ta):=by
 intro ah s σ H Q I h;refine UnaryOp_ (aW (ha ah s σ H _ I h) λv s1 ⟨x,H1,I1,r1,q1⟩=>?_);obtain⟨c,rfl,q1⟩:=q1;cases r1;exact not_of (n9 ⟨.bl (!c),H1,I1,rfl,q1⟩)
end
def cg(K:az)(H:Hp)(a:af)(xs:List V):Prop :=
 Rd H a (.lst xs) \/
  ∃ (o:Obj) (its:Array am) (n:Nat),K.lookup a=aa o/\o.cls = .type "list"/\o.dict=ae/\o.data = .seq its n/\its.size<=bx/\bJ xs its.toList
def dz(K:az)(H:Hp)(a:af)(xs:List V):Prop :=
 Rd H a (.tup xs) \/
  ∃ (o:Obj) (its:Array am) (n:Nat),K.lookup a=aa o/\o.cls = .type "tuple"/\o.data = .seq its n/\its.size<=bx/\bJ xs its.toList
def Us:am->Option V
 | .none=>aa .non
 | .bool b=>aa (.bl b)
 | .int i _=>aa (.int i)
 | .str x _=>aa (.str x)
 | .bytes b _=>aa (.byt b)
 | .float b _=>aa (.flt b)
 | .ref a=>aa (.ref a)
 | .type n=>aa (.ty n)
 | _=>ae
theorem RelV.abs{x:V}{u:am}(r:RelV x u):Us u=aa x:=by
 cases x with
 | non=>cases r; rfl
 | bl _=>cases r; rfl
 | int _=>obtain⟨t,rfl⟩:=r; rfl
 | str _=>obtain⟨t,rfl⟩:=r; rfl
 | byt _=>obtain⟨t,rfl⟩:=r; rfl
 | flt _=>obtain⟨t,rfl⟩:=r; rfl
 | ref _=>cases r; rfl
 | ty _=>cases r; rfl
theorem RelV.inj{x y:V}{u:am}(r:RelV x u)(q:RelV y u):x=y:=eQ (r.abs.symm.trans q.abs)
theorem bJ.inj:∀ {xs ys:List V} {us:List am},bJ xs us->bJ ys us->xs=ys
 | _,_,_,.nil,.nil=>rfl
 | _,_,_,.cons r t,.cons r' t'=>by rw[r.inj r',bJ.inj t t']
section
variable{X:Cx}{ah:List (af×Obj)}{σ:St}{H:Hp}{s:aq}{a:af}{xs ys:List V}
theorem cg.of{K:az}(h:H a=aa (.lst xs)):cg K H a xs:=.inl (.inl h)
theorem dz.of{K:az}(h:H a=aa (.tup xs)):dz K H a xs:=.inl (.inl h)
theorem Inv.list(I:Inv X ah σ H s)(h:cg X.K H a xs):∃ its:List am,bJ xs its/\PlainL s.heap a its.toArray/\xs.length<=bx:=by
 rcases h with h | ⟨o,its,n,hk,hc,hd,hs,hz,r⟩
 ·obtain⟨z,its,n,r,e⟩:=h.ok I.hok;exact⟨its,r,⟨_,n,e,rfl,rfl,rfl⟩,z⟩
 ·refine⟨its.toList,r,⟨o,n,I.kIn a o hk,hc,hd,by simpa using hs⟩,?_⟩;have e:=r.length;simp only[iz]at e;lia
theorem Inv.tuple(I:Inv X ah σ H s)(h:dz X.K H a xs):∃ its:List am,bJ xs its/\IsTup s.heap a its.toArray/\xs.length<=bx:=by
 rcases h with h | ⟨o,its,n,hk,hc,hs,hz,r⟩
 ·obtain⟨z,its,r,p,_⟩:=h.ok I.hok;exact⟨its,r,p,z⟩
 ·refine⟨its.toList,r,⟨o,I.kIn a o hk,hc,n,by simpa using hs⟩,?_⟩;have e:=r.length;simp only[iz]at e;lia
theorem Inv.list_inj(I:Inv X ah σ H s)(h:cg X.K H a xs)(h':cg X.K H a ys):xs=ys:=by
 obtain⟨its,r,⟨o,n,e,_,_,d⟩,_⟩:=I.list h;obtain⟨its',r',⟨o',n',e',_,_,d'⟩,_⟩:=I.list h';rw[e]at e'; cases e';rw[d]at d';injection d' with d1 _;have:its=its':=by simpa using congrArg Array.toList d1
 subst this;exact r.inj r'
theorem Inv.tuple_inj(I:Inv X ah σ H s)(h:dz X.K H a xs)(h':dz X.K H a ys):xs=ys:=by
 obtain⟨its,r,⟨o,e,_,n,d⟩,_⟩:=I.tuple h;obtain⟨its',r',⟨o',e',_,n',d'⟩,_⟩:=I.tuple h';rw[e]at e'; cases e';rw[d]at d';injection d' with d1 _;have:its=its':=by simpa using congrArg Array.toList d1
 subst this;exact r.inj r'
end
abbrev Cx.wish(X:Cx)(E:am->aq->Prop):Cx:={ X with xe:=E }
abbrev Cx.nox(X:Cx):Cx:=X.wish λ_ _=>False
theorem Cx.Ok.wish{X:Cx}(ok:X.Ok)(E:am->aq->Prop):(X.wish E).Ok :=⟨ok.mod,ok.kind,ok.glob,ok.blt,ok.above,ok.inj,ok.has,ok.cab,ok.hd,ok.frames,ok.stk,ok.exf,ok.bs,ok.bsz,ok.noex,ok.exfs,ok.funs,ok.frf,ok.tab⟩
theorem Cx.Ok.unwish{X:Cx}{E:am->aq->Prop}(ok:(X.wish E).Ok):X.Ok :=⟨ok.mod,ok.kind,ok.glob,ok.blt,ok.above,ok.inj,ok.has,ok.cab,ok.hd,ok.frames,ok.stk,ok.exf,ok.bs,ok.bsz,ok.noex,ok.exfs,ok.funs,ok.frf,ok.tab⟩
section
variable{X:Cx}{ah:List (af×Obj)}{σ:St}{H:Hp}{s:aq}{E:am->aq->Prop}
theorem Inv.wish(I:Inv X ah σ H s)(E:am->aq->Prop):Inv (X.wish E) ah σ H s:=⟨I.ok.wish E,I.os,I.bare,I.base,I.loc,I.cell,I.free,I.freeC,I.pin,I.hok,I.len⟩
theorem Inv.unwish(I:Inv (X.wish E) ah σ H s):Inv X ah σ H s:=⟨I.ok.unwish,I.os,I.bare,I.base,I.loc,I.cell,I.free,I.freeC,I.pin,I.hok,I.len⟩
theorem SP.unwish{D:lH}{f:Flow}{s':aq}(h:SP (X.wish E) ah D f s'):SP X ah D f s':=by
 cases f with
 | next=>obtain⟨σ',H',I,q⟩:=h; exact⟨σ',H',I.unwish,q⟩
 | brk=>obtain⟨σ',H',I,q⟩:=h; exact⟨σ',H',I.unwish,q⟩
 | cont=>obtain⟨σ',H',I,q⟩:=h; exact⟨σ',H',I.unwish,q⟩
 | ret u=>obtain⟨v,σ',H',I,r,q⟩:=h; exact⟨v,σ',H',I.unwish,r,q⟩
theorem PE.nox{e:aC}{t:TE}(h:PE X.nox e t):PE X e t:=λah s σ H Q I hw=>d_ (h ah s σ H Q (I.wish _) hw) (λ_ _ ⟨v,H',I',r,q⟩=>⟨v,H',I'.unwish,r,q⟩) λ_ _ z=>kB z
theorem PT.nox{e:aC}{t:TT}(h:PT X.nox e t):PT X e t:=λah s σ H Q I hw=>d_ (h ah s σ H Q (I.wish _) hw) (λ_ _ ⟨H',I',q⟩=>⟨H',I'.unwish,q⟩) λ_ _ z=>kB z
theorem j1.nox{st:List bf}{t:TS}(h:j1 X.nox st t):j1 X st t:=λah s σ H D I hw=>d_ (h ah s σ H D (I.wish _) hw) (λ_ _ q=>q.unwish) λ_ _ z=>kB z
end
section
variable{X:Cx}{st:bf}{rest:List bf}{t u:TS}{e:aC}{te:TE}{pos:Pos}
def NR:TS:=λD σ H=>D.nx σ H
def MA(t u:TS):TS:=λD σ H=>t { D with nx:=u D } σ H
theorem Mf:j1 X [] NR:=λ_ _ σ H _ I h=>CC ⟨σ,H,I,h⟩
theorem K4(h1:PS X st t)(h2:j1 X rest u):j1 X (st::rest) (MA t u):=by
 intro ah s σ H D I h;refine wpAny_execs_cons (aW (h1 ah s σ H { D with nx:=u D } I h) λf s1 q=>?_);cases f with
 | next=>obtain⟨σ',H',I',q⟩:=q;exact h2 ah s1 σ' H' D I' q
 | ret v=>exact q
 | brk=>exact q
 | cont=>exact q
theorem Mc(h1:PS X st t):j1 X [st] t:=by
 intro ah s σ H D I h;refine wpAny_execs_cons (aW (h1 ah s σ H D I h) λf s1 q=>?_);cases f with
 | next=>exact CC q
 | ret v=>exact q
 | brk=>exact q
 | cont=>exact q
theorem Inv.quiet{ah:List (af×Obj)}{σ:St}{H:Hp}{s:aq}(I:Inv X ah σ H s):interactive X.env=ao:=by simp[interactive,I.ok.kind]
def Po(te:TE):TS:=λD σ H=>te σ H λ_ H1=>D.nx σ H1
theorem Bj(he:PE X e te)(hs:mV e ae pos.line X.env=pure ao:=by rfl):PS X (.Expr e pos) (Po te):=by intro ah s σ H D I h;exact wpAny_Expr_any (aW (he ah s σ H _ I h) λv s1 ⟨x,H1,I1,r1,q1⟩=>⟨σ,H1,I1,q1⟩) I.quiet hs
def OV(te:TE):TS:=λD σ H=>te σ H D.rt
theorem xD(he:PE X e te):PS X (.Return (aa e) pos) (OV te):=by intro ah s σ H D I h;exact wpAny_Return_some (aW (he ah s σ H _ I h) λv s1 ⟨x,H1,I1,r1,q1⟩=>⟨x,σ,H1,I1,r1,q1⟩)
def RA:TS:=λD _ H=>D.rt .non H
theorem TF:PS X (.Return ae pos) RA:=λ_ _ σ H _ I h=>wpAny_Return_none ⟨.non,σ,H,I,rfl,h⟩
def Tt(c:TT)(t u:TS):TS:=λD σ H=>c σ H λb H1=>if b=ai then t D σ H1 else u D σ H1
theorem Td{c:aC}{a b:List bf}{tc:TT}(hc:PT X c tc)(ha:j1 X a t)(hb:j1 X b u):PS X (.If c a b pos) (Tt tc t u):=by
 intro ah s σ H D I h;refine wpAny_If (aW (hc ah s σ H _ I h) λd s1 ⟨H1,I1,q1⟩=>?_);cases d with
 | true=>exact ha ah s1 σ H1 D I1 q1
 | false=>exact hb ah s1 σ H1 D I1 q1
end
abbrev TG:=V->St->Hp->(St->Hp->Prop)->Prop
abbrev qp:=List V->St->Hp->(St->Hp->Prop)->Prop
def PG(X:Cx)(target:aC)(t:TG):Prop :=
 ∀ (ah:List (af×Obj)) (s:aq) (σ:St) (H:Hp) (v:V) (u:am) (Q:St->Hp->Prop),Inv X ah σ H s->RelV v u->t v σ H Q ->
  ax (ay X.prog X.w) X.A (assign target X.env u) (λ_ s'=>∃ σ' H',Inv X ah σ' H' s'/\Q σ' H') X.xe s
def xz(X:Cx)(ts:List aC)(t:qp):Prop :=
 ∀ (ah:List (af×Obj)) (s:aq) (σ:St) (H:Hp) (vs:List V) (us:List am) (Q:St->Hp->Prop),Inv X ah σ H s->bJ vs us->t vs σ H Q ->
  ax (ay X.prog X.w) X.A (assignInOrder ((vK ts X.env).map (·.2)) us) (λ_ s'=>∃ σ' H',Inv X ah σ' H' s'/\Q σ' H') X.xe s
section
variable{X:Cx}{pos:Pos}
def Ev(i:Nat):TG:=λv σ H Q=>Q (σ.set i (aa v)) H
theorem Cy{i:Nat}{x:Str}(hN:X.N.Nodup)(hi:X.N[i]?=aa x)(hx:Loc X.env.scope x)(hf:X.fn x=ai\/X.env.scope.names.lookup x=aa .local:=by first | exact .inl rfl | exact .inr rfl | assumption):PG X (.Name x pos) (Ev i):=by intro ah s σ H v u Q I r h;exact CD (yE I hN hi hx r (λs' I'=>⟨_,H,I',h⟩) hf)
def bN:qp:=λvs σ H Q=>vs=[]/\Q σ H
def OU(t:TG)(u:qp):qp:=λvs σ H Q=>∃ v r,vs=v::r/\t v σ H λσ' H'=>u r σ' H' Q
theorem Q2:xz X [] bN:=by
 intro ah s σ H vs us Q I r h;obtain⟨e,h⟩:=h;subst e;cases r;exact assignInOrder_nil ⟨σ,H,I,h⟩
theorem Je{e:aC}{es:List aC}{t:TG}{u:qp}(h1:PG X e t)(h2:xz X es u)(hs:(vK (e::es) X.env).map (·.2)=assign e X.env::(vK es X.env).map (·.2):=by rfl):xz X (e::es) (OU t u):=by
 intro ah s σ H vs us Q I r h;obtain⟨v,vr,e1,h⟩:=h;subst e1;cases r with
 | cons r rr=>rw[hs];refine assignInOrder_cons (aW (h1 ah s σ H _ _ _ I r h) λ_ s1 ⟨σ1,H1,I1,q1⟩=>?_);exact h2 ah s1 σ1 H1 _ _ Q I1 rr q1
def Q5(K:az)(n:Nat)(t:qp):TG:=λv σ H Q=>∃ a xs,v = .ref a/\dz K H a xs/\xs.length=n/\t xs σ H Q
theorem Q9{es:List aC}{k:Nat}{t:qp}{n:Nat}(hc:X.calm=ai)(h:xz X es t)(hn:(vK es X.env).length=n:=by rfl) (ma:(vK es X.env).findIdx? (·.1)=ae:=by rfl):PG X (.Tuple es k pos) (Q5 X.K n t):=by
 intro ah s σ H v u Q I r hw;obtain⟨a,xs,e1,hq,hl,hw⟩:=hw;subst e1;cases r;obtain⟨its,rv,ht,hz⟩:=I.tuple hq;refine assign_Tuple_tuple (I.ok.hd hc) ht (by simp[hn,← hl,rv.length]) ma λh' hx=>?_;have I1:Inv X ah σ H { s with heap:=h' }:=I.kept (t':=s.toks) λb o e=>hx b o (c_ (bE e)) e;exact h ah _ σ H xs _ Q I1 (by simpa using rv) hw
def Fc(te:TE)(g:TG):TS:=λD σ H=>te σ H λx H1=>g x σ H1 D.nx
theorem Og{tg e:aC}{te:TE}{g:TG}(he:PE X e te)(hg:PG X tg g)(hs:swapsWithSole [tg] e pos.line X.env=pure ao:=by rfl)(hw:swappedStores [tg] e X.env=pure ae:=by rfl)(h1:(vK [tg] X.env).map (·.2)=[assign tg X.env]:=by rfl):PS X (.Assign [tg] e pos) (Fc te g):=by intro ah s σ H D I h;refine wpAny_Assign_stores (aW (he ah s σ H _ I h) λv s1 ⟨x,H1,I1,r1,q1⟩=>?_) hs hw;rw[h1];exact aW (hg ah s1 σ H1 x v _ I1 r1 q1) λ_ s2 q=>q
theorem II{i:Nat}{x:Str}{e:aC}{te:TE}{pos':Pos}(hN:X.N.Nodup)(hi:X.N[i]?=aa x)(hx:Loc X.env.scope x)(he:PE X e te)(hs:mV e (aa (.Name x pos')) pos.line X.env=pure ao:=by rfl)(hf:X.fn x=ai\/X.env.scope.names.lookup x=aa .local:=by first | exact .inl rfl | exact .inr rfl | assumption) : PS X (.Assign [.Name x pos'] e pos) (Fc te (Ev i)):=by intro ah s σ H D I h;refine wpAny_Assign_Name (aW (he ah s σ H _ I h) λv s1 ⟨y,H1,I1,r1,q1⟩=>?_) hs;exact yE I1 hN hi hx r1 (λs2 I2=>⟨_,H1,I2,q1⟩) hf
def M8(c:TT)(tb:TS):TS:=λD σ H=>∃ W:Nat->St->Hp->Prop,(∃ m,W m σ H)/\∀ m σ H,W m σ H ->
 c σ H λb H1=>if b=ai then ∃ N:St->Hp->Prop,(∀ σ' H',N σ' H'->∃ m',m'<m/\W m' σ' H')/\tb { D with nx:=N,ct:=N,bk:=D.nx } σ H1 else D.nx σ H1
theorem Sz{c:aC}{body:List bf}{tc:TT}{tb:TS}(hp:CF (ay X.prog X.w) X.A X.env X.xe)(hc:PT X c tc)(hb:j1 X body tb):PS X (.While c body [] pos) (M8 tc tb):=by
 intro ah s σ H D I h;obtain⟨W,⟨m0,w0⟩,turn⟩:=h;refine wpAny_While (codeAny_whileLoop (λn s'=>∃ σ' H',Inv X ah σ' H' s'/\W n σ' H') ?_ m0 ⟨σ,H,I,w0⟩);rintro n s1 ⟨σ1,H1,I1,w1⟩;refine tj hp (aW (hc ah s1 σ1 H1 _ I1 (turn n σ1 H1 w1)) λb s2 ⟨H2,I2,q2⟩=>?_);cases b with
 | true=>
  obtain⟨N,hN,q2⟩:=q2;rw[if_pos rfl];refine tj hp (aW (hb ah s2 σ1 H2 _ I2 q2) λf s3 q3=>?_);cases f with
  | next=>obtain⟨σ3,H3,I3,n3⟩:=q3;obtain⟨m',hm,w3⟩:=hN σ3 H3 n3;exact⟨m',hm,σ3,H3,I3,w3⟩
  | cont=>obtain⟨σ3,H3,I3,n3⟩:=q3;obtain⟨m',hm,w3⟩:=hN σ3 H3 n3;exact⟨m',hm,σ3,H3,I3,w3⟩
  | brk=>exact q3
  | ret v=>exact q3
 | false=>rw[if_neg gu];exact CC ⟨σ1,H2,I2,q2⟩
end
structure It where
 go:Nat->Hp->Prop
 yld:Nat->Hp->V->Hp->Prop
 stop:Nat->Hp->Prop
def lh(X:Cx)(ah:List (af×Obj))(H:Hp)(b:af):Prop :=
 H b=ae/\b≠X.env.locals/\b∉X.fs/\(b∈X.ex\/X.s₀.heap.objs.size<=b)/\(∀ x c,X.env.cells.lookup x=aa c->c≠b)/\∀ p∈X.pn++ah,p.1≠b
theorem Inv.fpOk{X:Cx}{ah:List (af×Obj)}{σ:St}{H H':Hp}{s:aq}{b:af}(I:Inv X ah σ H s)(hb:s.heap.objs.size<=b)(hn:H' b=ae):lh X ah H' b:=by
 refine⟨hn,mW (fW I.lt hb),I.nofs hb,.inr (cL I.sz hb),λx c e z=>?_,λp hp z=>?_⟩
 ·obtain⟨v,q⟩:=I.cell x c e;exact absurd (fW q.lt (by rw[z]; exact hb)) (fG _)
 ·exact absurd (fW (bE (I.pin p hp).1) (by rw[z]; exact hb)) (fG _)
structure uG(P:aX)(w:aN)(K:az)(tg:aC)(J:It)(fp:List af)(it:af)(tn:Nat->aF->Prop):Prop where
 mem:it∈fp
 obj:∀ i h,tn i h->∀ b∈fp,∃ o,h.get? b=aa o/\∀ v,o.data≠.cell v
 keep:∀ i h h',tn i h->(∀ b∈fp,∀ o,h.get? b=aa o->h'.get? b=aa o)->tn i h'
 item:∀ (X:Cx),X.prog=P->X.w=w->X.K=K->X.calm=ai->∀ (i:Nat) (ah:List (af×Obj)) (s:aq) (σ:St) (H:Hp) (E:am->aq->Prop),Inv X ah σ H s->(∀ b∈fp,lh X ah H b)->tn i s.heap->J.go i H ->
  ax (ay P w) X.A (pyNext (.ref it)) (λr s1=>∃ u,r=aa u /\ ax (ay P w) X.A (CG tg (.ref it) u) (λ_ s2=>∃ x H',Inv X ah σ H' s2/\RelV x u/\J.yld i H x H'/\tn (i+1) s2.heap/\∀ b∈fp,H' b=ae) E s1) E s
 done:∀ (X:Cx),X.prog=P->X.w=w->X.K=K->X.calm=ai->∀ (i:Nat) (ah:List (af×Obj)) (s:aq) (σ:St) (H:Hp) (E:am->aq->Prop),Inv X ah σ H s->(∀ b∈fp,lh X ah H b)->tn i s.heap->J.stop i H ->
  ax (ay P w) X.A (pyNext (.ref it)) (λr s1=>r=ae/\Inv X ah σ H s1) E s
 self:∀ (A:be) (i:Nat) (s:aq) (Q:am->aq->Prop) (E:am->aq->Prop),tn i s.heap->Q (.ref it) s->ax (ay P w) A (pr (.ref it)) Q E s
abbrev TI:=St->Hp->(It->Hp->Prop)->Prop
def xp(X:Cx)(ah:List (af×Obj))(σ:St)(tg:aC)(R:It->Hp->Prop)(itv:am)(s2:aq):Prop :=
 ∃ (it:af) (fp:List af) (tn:Nat->aF->Prop) (J:It) (H':Hp),itv = .ref it/\Inv X ah σ H' s2/\uG X.prog X.w X.K tg J fp it tn/\tn 0 s2.heap/\(∀ b∈fp,lh X ah H' b)/\R J H'
def PI(X:Cx)(tg iter:aC)(wi:TI):Prop :=
 ∀ (ah:List (af×Obj)) (s:aq) (σ:St) (H:Hp) (R:It->Hp->Prop),Inv X ah σ H s->wi σ H R ->
  ax (ay X.prog X.w) X.A (bz iter X.env) (λv s1=>ax (ay X.prog X.w) X.A (pr v) (xp X ah σ tg R) X.xe s1) X.xe s
theorem xj{M:Model}{A:be}{E:am->aq->Prop}{s:aq}{tg:aC}{it:af}{u:am}{o:Obj}{n:String}{vs:Array am}{Q:Unit->aq->Prop}(ho:s.heap.get? it=aa o)(hc:o.cls = .type n)(hd:o.data = .fields vs)(hn:["enumerate","zip","dict_itemiterator","dict_reverseitemiterator","odict_iterator","itertools.zip_longest","itertools.pairwise"].contains n=ao) (hQ:Q () s):ax M A (CG tg (.ref it) u) Q E s:=by
 unfold CG;cases tg <;> first
  | exact aD hQ
  | (cases u <;> first
    | exact aD hQ
    | (refine ar (wpAny_load ho ?_)
       rw[hc,hd];show ax M A (if(["enumerate","zip","dict_itemiterator","dict_reverseitemiterator","odict_iterator","itertools.zip_longest","itertools.pairwise"].contains n && vs[0]? == aa (eZ _))=ai then _ else _) Q E s;rw[if_neg (by intro h; rw[hn,Bool.false_and]at h; cases h)];exact aD hQ))
def Aq(K:az)(a:af):It :=⟨λi H=>∃ xs x,cg K H a xs/\xs[i]?=aa x,λi H x H'=>H'=H/\∀ xs,cg K H a xs->xs[i]?=aa x,λi H=>∃ xs,cg K H a xs/\xs.length<=i⟩
def Bz(K:az)(a:af):It :=⟨λi H=>∃ xs x,dz K H a xs/\xs[i]?=aa x,λi H x H'=>H'=H/\∀ xs,dz K H a xs->xs[i]?=aa x,λi H=>∃ xs,dz K H a xs/\xs.length<=i⟩
def uV(lo:Int)(n:Nat):It:=⟨λi _=>i<n,λi H x H'=>H'=H/\x = .int (lo+i),λi _=>n<=i⟩
theorem O9{P:aX}{w:aN}{K:az}{tg:aC}(a it:af):uG P w K tg (Aq K a) [it] it (λi h=>h.IsListIter it a i) where
 mem:=by simp
 obj:=λi h st b hb=>by
  have e:b=it:=by simpa using hb
  subst e;obtain⟨o,e,c,d⟩:=st;exact⟨o,e,λv z=>by rw[d]at z; cases z⟩
 keep:=λi h h' st k=>st.at λo e=>k it (by simp) o e
 item:=by intro X hP hw hK hc i ah s σ H E I hf st hg;subst hP hw hK;obtain⟨xs,x,hq,hx⟩:=hg;obtain⟨its,rv,p,hz⟩:=I.list hq;obtain⟨u,hu,ru⟩:=rv.get hx;obtain⟨f0,f1,f2,f3,f4,f5⟩:=hf it (by simp);refine wpAny_pyNext_list_item st p.isList (x:=u) (by simpa using hu) λh' aA sb=>?_;have I1:Inv X ah σ H { s with heap:=h' }:=I.turned (t':=s.toks) (λb o hb e=>(sb.2 b hb).trans e) f0 f1 f3 f4 f5;obtain⟨o,e,c,d⟩:=id aA;exact⟨u,rfl,xj (s:={ s with heap:=h' }) e c d (by decide) ⟨x,H,I1,ru,⟨rfl,λys hy=>by rw[I.list_inj hy hq]; exact hx⟩,aA,λb hb=>(hf b hb).1⟩⟩
 done:=by intro X hP hw hK hc i ah s σ H E I hf st hg;subst hP hw hK;obtain⟨xs,hq,hx⟩:=hg;obtain⟨its,rv,p,hz⟩:=I.list hq;obtain⟨f0,f1,f2,f3,f4,f5⟩:=hf it (by simp);have hl:=rv.length;exact wpAny_pyNext_list_end (I.ok.hd hc) st p.isList (by simp; lia) λh' eb=>⟨rfl,I.turned (t':=s.toks) (λb o hb e=>eb b o hb e) f0 f1 f3 f4 f5⟩
 self:=λ_ _ _ _ _ st h=>wpAny_pyIter_listiter st h
theorem R6{P:aX}{w:aN}{K:az}{tg:aC}(a it:af):uG P w K tg (Bz K a) [it] it (λi h=>h.IsTupleIter it a i) where
 mem:=by simp
 obj:=λi h st b hb=>by
  have e:b=it:=by simpa using hb
  subst e;obtain⟨o,e,c,d⟩:=st;exact⟨o,e,λv z=>by rw[d]at z; cases z⟩
 keep:=λi h h' st k=>st.at λo e=>k it (by simp) o e
 item:=by intro X hP hw hK hc i ah s σ H E I hf st hg;subst hP hw hK;obtain⟨xs,x,hq,hx⟩:=hg;obtain⟨its,rv,p,hz⟩:=I.tuple hq;obtain⟨u,hu,ru⟩:=rv.get hx;obtain⟨f0,f1,f2,f3,f4,f5⟩:=hf it (by simp);refine wpAny_pyNext_tuple_item st (show s.heap.IsTuple a its.toArray from p) (x:=u) (by simpa using hu) λh' aA sb=>?_;have I1:Inv X ah σ H { s with heap:=h' }:=I.turned (t':=s.toks) (λb o hb e=>(sb.2 b hb).trans e) f0 f1 f3 f4 f5;obtain⟨o,e,c,d⟩:=id aA;exact⟨u,rfl,xj (s:={ s with heap:=h' }) e c d (by decide) ⟨x,H,I1,ru,⟨rfl,λys hy=>by rw[I.tuple_inj hy hq]; exact hx⟩,aA,λb hb=>(hf b hb).1⟩⟩
 done:=by intro X hP hw hK hc i ah s σ H E I hf st hg;subst hP hw hK;obtain⟨xs,hq,hx⟩:=hg;obtain⟨its,rv,p,hz⟩:=I.tuple hq;obtain⟨f0,f1,f2,f3,f4,f5⟩:=hf it (by simp);have hl:=rv.length;exact wpAny_pyNext_tuple_end (I.ok.hd hc) st (show s.heap.IsTuple a its.toArray from p) (by simp; lia) λh' eb=>⟨rfl,I.turned (t':=s.toks) (λb o hb e=>eb b o hb e) f0 f1 f3 f4 f5⟩
 self:=λ_ _ _ _ _ st h=>wpAny_pyIter_tupleiter st h
theorem N9{P:aX}{w:aN}{K:az}{tg:aC}(it:af)(lo:Int)(n:Nat):uG P w K tg (uV lo n) [it] it (λi h=>IsRangeIter h it (lo+(i:Nat) * 1) ((n:Int)-(i:Nat)) 1) where
 mem:=by simp
 obj:=λi h st b hb=>by
  have e:b=it:=by simpa using hb
  subst e;exact⟨_,st,λv z=>by
   have z':Data.fields _=Data.cell v:=z;cases z'⟩
 keep:=λi h h' st k=>k it (by simp) _ st
 item:=by intro X hP hw hK hc i ah s σ H E I hf st hg;subst hP hw hK;obtain⟨f0,f1,f2,f3,f4,f5⟩:=hf it (by simp);have W:=Walks.range (prog:=X.prog) (w:=X.w) (I.ok.hd hc) it lo 1 n;refine W.item i s _ _ hg st λv h' tk hv aA kk=>?_;obtain⟨t,rfl⟩:=hv;have I1:Inv X ah σ H { s with heap:=h',toks:=tk }:=I.turned (λb o hb e=>kk b o (by simpa using hb) e) f0 f1 f3 f4 f5;refine⟨_,rfl,xj (s:={ s with heap:=h',toks:=tk }) (n:="range_iterator") aA rfl rfl (by decide) ⟨.int (lo+i),H,I1,⟨t,?_⟩,⟨rfl,rfl⟩,aA,λb hb=>(hf b hb).1⟩⟩;rw[Int.mul_one]
 done:=by intro X hP hw hK hc i ah s σ H E I hf st hg;subst hP hw hK;obtain⟨f0,f1,f2,f3,f4,f5⟩:=hf it (by simp);exact wpAny_pyNext_range_end (I.ok.hd hc) st (by have:n<=i:=hg; lia) λh' eb=>⟨rfl,I.turned (t':=s.toks) (λb o hb e=>eb b o hb e) f0 f1 f3 f4 f5⟩
 self:=λ_ _ _ _ _ st h=>wpAny_pyIter_rangeiter st h
section
variable{X:Cx}{tg:aC}
theorem Ek{ah:List (af×Obj)}{σ:St}{H:Hp}{s:aq}{R:It->Hp->Prop}{E:am->aq->Prop}{lo hi:Int}{t u v:Tok}{tk:Nat}(I:Inv X ah σ H s)(h1 : -(2 ^ 62)<=lo)(h2:lo<2 ^ 62)(h3 : -(2 ^ 62)<=hi)(h4:hi<2 ^ 62)(q:R (uV lo (hi-lo).toNat) H):ax (ay X.prog X.w) X.A (pr (.ref s.heap.objs.size)) (xp X ah σ tg R) E { s with heap:=s.heap.push { cls:=.type "range",data:=.fields #[.int lo t,.int hi u,.int 1 v] },toks:=tk }:=by
 refine wpAny_pyIter_range (IsRange.new ..) (small_one h1 h2 h3 h4) ?_;have I1:Inv X ah σ H { s with heap:=s.heap.push { cls:=.type "range",data:=.fields #[.int lo t,.int hi u,.int 1 v] },toks:=tk }:=I.kept λb o e=>bK _ e;refine⟨(s.heap.push { cls:=.type "range",data:=.fields #[.int lo t,.int hi u,.int 1 v] }).objs.size,[(s.heap.push { cls:=.type "range",data:=.fields #[.int lo t,.int hi u,.int 1 v] }).objs.size],_,_,H,rfl,I1.kept (t':=tk) λb o e=>bK _ e,N9 _ lo (hi-lo).toNat,?_,λb hb=>?_,q⟩
 ·have e1:lo+((0:Nat):Int) * 1=lo:=by simp
  have e2:(((hi-lo).toNat:Nat):Int)-((0:Nat):Int)=Builtin.Range.rangeSize lo hi 1:=by rw[rangeSize_one]; split <;> lia
  show IsRangeIter _ _ (lo+((0:Nat):Int) * 1) ((((hi-lo).toNat:Nat):Int)-((0:Nat):Int)) 1;rw[e1,e2];exact dG _ rfl
 ·have e:b=(s.heap.push { cls:=.type "range",data:=.fields #[.int lo t,.int hi u,.int 1 v] }).objs.size:=by simpa using hb
  subst e;exact I1.fpOk (bo _) (I1.hok.fresh (bo _))
def Lh(ta:TA):TI:=λσ H R=>ta σ H λvs H1=>∃ j:Int,vs=[.int j]/\-(2 ^ 62)<=j/\j<2 ^ 62/\R (uV 0 j.toNat) H1
def Os(ta:TA):TI:=λσ H R=>ta σ H λvs H1=>∃ i j:Int,vs=[.int i,.int j]/\(-(2 ^ 62)<=i/\i<2 ^ 62/\-(2 ^ 62)<=j/\j<2 ^ 62)/\R (uV i (j-i).toNat) H1
theorem TK{a:aC}{ta:TA}{p pos:Pos}(hg:Gl X "range")(hm:X.mg "range" = ae)(ha:PA X [a] ta)(hs:bu [a] X.env=[(ao,bz a X.env)]:=by rfl):PI X tg (.Call (.Name "range" p) [a] [] pos) (Lh ta):=by
 intro ah s σ H R I h;refine Call_ (sR I hg hm boot_range (Jy (aW (ha pos ah s σ H _ I h) λus s1 ⟨vs,H1,I1,r1,q1⟩=>?_) hs rfl));obtain⟨j,e,q1,q2,q⟩:=q1;subst e;cases r1 with
 | cons r rr=>
  cases rr;obtain⟨t,rfl⟩:=r;exact call_range_1 (Ek I1 ∅ ∅ q1 q2 (by simpa using q))
theorem NF{a b:aC}{ta:TA}{p pos:Pos}(hg:Gl X "range")(hm:X.mg "range" = ae)(ha:PA X [a,b] ta)(hs:bu [a,b] X.env=[(ao,bz a X.env),(ao,bz b X.env)]:=by rfl)(nq:bu [b] X.env=[(ao,bz b X.env)]:=by rfl) : PI X tg (.Call (.Name "range" p) [a,b] [] pos) (Os ta):=by
 intro ah s σ H R I h;refine Call_ (sR I hg hm boot_range (Jy (aW (ha pos ah s σ H _ I h) λus s1 ⟨vs,H1,I1,r1,q1⟩=>?_) (by rw[hs,nq]) (by rw[nq]; rfl)));obtain⟨i,j,e,⟨q1,q2,q3,q4⟩,q⟩:=q1;subst e;cases r1 with
 | cons r rr=>
  cases rr with
  | cons r' rr=>
   cases rr;obtain⟨t,rfl⟩:=r;obtain⟨t',rfl⟩:=r';exact call_range_2 (Ek I1 q1 q2 q3 q4 q)
def RF(wi:TI)(g:TG)(tb:TS):TS:=λD σ H=>wi σ H λJ H1=>∃ W:Nat->Nat->St->Hp->Prop,(∃ m,W 0 m σ H1)/\∀ i m σ H,W i m σ H ->
 (J.stop i H/\D.nx σ H)\/(J.go i H/\∃ N:St->Hp->Prop,(∀ σ' H',N σ' H'->∃ m',m'<m/\W (i+1) m' σ' H')/\∀ x H',J.yld i H x H'->g x σ H' λσ2 H2=>tb { D with nx:=N,ct:=N,bk:=D.nx } σ2 H2)
def sO(fp:List af)(h:aF):List (af×Obj):=fp.filterMap λb=>(h.get? b).map λo=>(b,o)
theorem sK{fp:List af}{h:aF}{b:af}{o:Obj}(hb:b∈fp)(e:h.get? b=aa o):(b,o)∈sO fp h:=Jz.mpr ⟨b,hb,by rw[e]; rfl⟩
theorem Ol{fp:List af}{h:aF}{p:af×Obj}(hp:p∈sO fp h):p.1∈fp/\h.get? p.1=aa p.2:=by
 obtain⟨b,hb,e⟩:=Jz.mp hp;cases q:h.get? b with
 | none=>rw[q]at e; cases e
 | some o=>rw[q]at e;have e':(b,o)=p:=eQ e;subst e';exact⟨hb,q⟩
theorem Inv.pinned{ah:List (af×Obj)}{σ:St}{H:Hp}{s:aq}{fp:List af}(I:Inv X ah σ H s)(hf:∀ b∈fp,lh X ah H b)(ho:∀ b∈fp,∃ o,s.heap.get? b=aa o/\∀ v,o.data≠.cell v):Inv X (ah++sO fp s.heap) σ H s :=
 I.pins_of λp hp=>(eY.mp hp).elim (λz=>I.pin p (j2 _ z)) λz=>by
  obtain⟨hb,e⟩:=Ol z;obtain⟨f0,f1,f2,_⟩:=hf p.1 hb;obtain⟨o,e',d⟩:=ho p.1 hb;rw[e]at e'; cases e';exact⟨e,f0,f1,f2,d⟩
theorem Inv.unpinned{ah pl:List (af×Obj)}{σ:St}{H:Hp}{s:aq}(I:Inv X (ah++pl) σ H s):Inv X ah σ H s:=I.pins_of λp hp=>I.pin p (j2 _ (zk _ hp))
theorem OT{iter:aC}{body:List bf}{wi:TI}{g:TG}{tb:TS}{pos:Pos}(hp:CF (ay X.prog X.w) X.A X.env X.xe)(hc:X.calm=ai)(hi:PI X tg iter wi)(hg:PG X tg g)(hb:j1 X body tb)(hs:∀ x,vL iter X.env x=pure x:=by intro _; rfl):PS X (.For tg iter body [] pos) (RF wi g tb):=by
 intro ah s σ H D I h;refine wpAny_For (aW (hi ah s σ H _ I h) λv s1 h1=>aW h1 λitv s2 h2=>?_) hs;obtain⟨it,fp,tn,J,H2,e,I2,T,ba,f2,W,⟨m0,w0⟩,turn⟩:=h2;subst e;have stat:∀ {H':Hp},(∀ b∈fp,H' b=ae)->∀ b∈fp,lh X ah H' b:=λhn b hb=>⟨hn b hb,(f2 b hb).2⟩
 refine codeAny_forLoop_any (λn s'=>∃ i σ' H',Inv X ah σ' H' s'/\tn i s'.heap/\(∀ b∈fp,H' b=ae)/\W i n σ' H') ?_ m0 ⟨0,σ,H2,I2,ba,λb hb=>(f2 b hb).1,w0⟩;rintro n s3 ⟨i,σ3,H3,I3,bM,fr3,w3⟩;rcases turn i n σ3 H3 w3 with⟨stop,qn⟩ | ⟨go,N,hN,step⟩
 ·refine tj hp (aW (T.done X rfl rfl rfl hc i ah s3 σ3 H3 X.xe I3 (stat fr3) bM stop) λr s4 ⟨hr,I4⟩=>?_);subst hr;exact CC ⟨σ3,H3,I4,qn⟩
 ·refine tj hp (aW (T.item X rfl rfl rfl hc i ah s3 σ3 H3 X.xe I3 (stat fr3) bM go) λr s4 ⟨u,hr,h4⟩=>?_);subst hr;refine tj hp (aW h4 λ_ s5 ⟨x,H5,I5,r5,y5,cq,fr5⟩=>?_);have I5':=I5.pinned (stat fr5) (T.obj _ _ cq);refine tj hp (aW (hg _ s5 σ3 H5 x u _ I5' r5 (step x H5 y5)) λ_ s6 ⟨σ6,H6,I6,q6⟩=>?_);refine tj hp (aW (hb _ s6 σ6 H6 _ I6 q6) λf s7 q7=>?_);have again:∀ {σ7:St} {H7:Hp},Inv X (ah++sO fp s5.heap) σ7 H7 s7->N σ7 H7->∃ m,m<n/\∃ i σ' H',Inv X ah σ' H' s7/\tn i s7.heap/\(∀ b∈fp,H' b=ae)/\W i m σ' H':=λ{σ7 H7} I7 n7=>by obtain⟨m',hm,w7⟩:=hN σ7 H7 n7;refine⟨m',hm,i+1,σ7,H7,I7.unpinned,T.keep _ _ _ cq λb hb o e=>(I7.pin (b,o) (j2 _ (j2 _ (sK hb e)))).1,λb hb=>?_,w7⟩;obtain⟨o,e,d⟩:=T.obj _ _ cq b hb;exact(I7.pin (b,o) (j2 _ (j2 _ (sK hb e)))).2.1
  cases f with
  | next=>obtain⟨σ7,H7,I7,n7⟩:=q7; exact again I7 n7
  | cont=>obtain⟨σ7,H7,I7,n7⟩:=q7; exact again I7 n7
  | brk=>obtain⟨σ7,H7,I7,q7⟩:=q7; exact⟨σ7,H7,I7.unpinned,q7⟩
  | ret v=>obtain⟨x7,σ7,H7,I7,r7,q7⟩:=q7; exact⟨x7,σ7,H7,I7.unpinned,r7,q7⟩
end
abbrev R2:=V->V->Hp->VK->Prop
def cx(X:Cx)(f:am->am->Sem am)(r:R2):Prop :=
 ∀ (ah:List (af×Obj)) (s:aq) (σ:St) (H:Hp) (x y:V) (v u:am) (Q:VK),Inv X ah σ H s->RelV x v->RelV y u->r x y H Q ->
  ax (ay X.prog X.w) X.A (f v u) (EP X ah σ Q) X.xe s
def zg(X:Cx)(f:am->Sem am)(r:V->Hp->VK->Prop):Prop :=
 ∀ (ah:List (af×Obj)) (s:aq) (σ:St) (H:Hp) (x:V) (v:am) (Q:VK),Inv X ah σ H s->RelV x v->r x H Q ->
  ax (ay X.prog X.w) X.A (f v) (EP X ah σ Q) X.xe s
def im(X:Cx)(f:am)(r:List V->Hp->VK->Prop):Prop :=
 ∀ (ah:List (af×Obj)) (s:aq) (σ:St) (H:Hp) (xs:List V) (us:List am) (Q:VK),Inv X ah σ H s->bJ xs us->r xs H Q ->
  ax (ay X.prog X.w) X.A (call f us) (EP X ah σ Q) X.xe s
def xu(r:R2)(ta tb:TE):TE:=λσ H Q=>ta σ H λx H1=>tb σ H1 λy H2=>r x y H2 Q
def Rm(r:V->Hp->VK->Prop)(ta:TE):TE:=λσ H Q=>ta σ H λx H1=>r x H1 Q
def rI(C:Int->Int->Prop)(g:Int->Int->V):R2:=λx y H Q=>∃ i j,x = .int i/\y = .int j/\C i j/\Q (g i j) H
def mw(g:Int->Int->V):R2:=λx y H Q=>∃ i j,x = .int i/\y = .int j/\Q (g i j) H
def rU(g:Int->V):V->Hp->VK->Prop:=λx H Q=>∃ i,x = .int i/\Q (g i) H
section
variable{X:Cx}{a b c:aC}{ta tb tc:TE}{pos:Pos}
theorem B6(ha:PE X a ta)(hb:PE X b tb){ah:List (af×Obj)}{s:aq}{σ:St}{H:Hp}{R:V->V->Hp->Prop}(I:Inv X ah σ H s)(h:ta σ H λx H1=>tb σ H1 λy H2=>R x y H2) {Q:am->aq->Prop} {f:am->am->Sem am}(hf:∀ v u s2 x y H2,Inv X ah σ H2 s2->RelV x v->RelV y u->R x y H2->ax (ay X.prog X.w) X.A (f v u) Q X.xe s2) : ax (ay X.prog X.w) X.A (bz a X.env) (λv s₁=>ax (ay X.prog X.w) X.A (bz b X.env) (λu s₂=>ax (ay X.prog X.w) X.A (f v u) Q X.xe s₂) X.xe s₁) X.xe s:=by refine aW (ha ah s σ H _ I h) λv s1 ⟨x,H1,I1,r1,q1⟩=>?_;refine aW (hb ah s1 σ H1 _ I1 q1) λu s2 ⟨y,H2,I2,r2,q2⟩=>?_;exact hf v u s2 x y H2 I2 r1 r2 q2
theorem D9{op:Operator}{r:R2}(ho:cx X (jI op) r)(ha:PE X a ta)(hb:PE X b tb):PE X (.BinOp a op b pos) (xu r ta tb):=by intro ah s σ H Q I h;exact wpAny_BinOp (B6 ha hb I h λv u s2 x y H2 I2 rx ry q=>ho ah s2 σ H2 x y v u Q I2 rx ry q)
theorem RM{op:UnaryOp}{r:V->Hp->VK->Prop}(ho:zg X (unaryOp op) r)(ha:PE X a ta):PE X (.UnaryOp op a pos) (Rm r ta):=by intro ah s σ H Q I h;exact UnaryOp_ (aW (ha ah s σ H _ I h) λv s1 ⟨x,H1,I1,r1,q1⟩=>ho ah s1 σ H1 x v Q I1 r1 q1)
theorem BA{f:am->am->Sem am}{C:Int->Int->Prop}{g:Int->Int->Int}(rule:∀ (i j:Int) (t u:Tok) (s:aq) (Q:am->aq->Prop) (E:am->aq->Prop),C i j->Q (.int (g i j) s.toks) { s with toks:=s.toks+1 }->ax (ay X.prog X.w) X.A (f (.int i t) (.int j u)) Q E s) : cx X f (rI C λi j=>.int (g i j)):=by intro ah s σ H x y v u Q I rx ry h;obtain⟨i,j,rfl,rfl,hc,q⟩:=h;obtain⟨t,rfl⟩:=rx;obtain⟨t',rfl⟩:=ry;exact rule i j t t' s _ _ hc ⟨.int (g i j),H,I.tok _,⟨_,rfl⟩,q⟩
theorem GY{f:am->am->Sem am}{g:Int->Int->Int}(rule:∀ (i j:Int) (t u:Tok) (s:aq) (Q:am->aq->Prop) (E:am->aq->Prop),Q (.int (g i j) s.toks) { s with toks:=s.toks+1 }->ax (ay X.prog X.w) X.A (f (.int i t) (.int j u)) Q E s) : cx X f (mw λi j=>.int (g i j)):=by intro ah s σ H x y v u Q I rx ry h;obtain⟨i,j,rfl,rfl,q⟩:=h;obtain⟨t,rfl⟩:=rx;obtain⟨t',rfl⟩:=ry;exact rule i j t t' s _ _ ⟨.int (g i j),H,I.tok _,⟨_,rfl⟩,q⟩
theorem CA{f:am->am->Sem am}{g:Int->Int->Bool}(rule:∀ (i j:Int) (t u:Tok) (s:aq) (Q:am->aq->Prop) (E:am->aq->Prop),Q (.bool (g i j)) s->ax (ay X.prog X.w) X.A (f (.int i t) (.int j u)) Q E s) : cx X f (mw λi j=>.bl (g i j)):=by intro ah s σ H x y v u Q I rx ry h;obtain⟨i,j,rfl,rfl,q⟩:=h;obtain⟨t,rfl⟩:=rx;obtain⟨t',rfl⟩:=ry;exact rule i j t t' s _ _ ⟨.bl (g i j),H,I,rfl,q⟩
def FX(i j:Int):Prop:=0<=j/\j<=1000000/\i.natAbs<2 ^ 64
def Bv(i j:Int):Prop:=(-(2 ^ 64)<i/\i<2 ^ 64)\/(-(2 ^ 64)<j/\j<2 ^ 64)
theorem Bv.ok{i j:Int}(h:Bv i j):IntMulOk i j:=by
 rcases h with⟨h1,h2⟩ | ⟨h1,h2⟩
 ·exact .of_left (intBits_le_64 h1 h2)
 ·exact .of_right (intBits_le_64 h1 h2)
theorem UZ:cx X (jI .Add) (mw λi j=>.int (i+j)):=GY λ_ _ _ _ _ _ _ q=>add_int q
theorem iZ:cx X (jI .Sub) (mw λi j=>.int (i-j)):=GY λ_ _ _ _ _ _ _ q=>sub_int q
theorem UK:cx X (jI .Mult) (rI Bv λi j=>.int (i * j)):=BA λ_ _ _ _ _ _ _ hc q=>mul_int q hc.ok
theorem rN:cx X (jI .Mod) (rI (λ_ j=>0<j) λi j=>.int (i % j)):=BA λi j _ _ _ _ _ hc q=>by have h1:(0:Int)<j:=hc;exact mod_int' ∅ (by rw[Int.fmod_eq_emod_of_nonneg i ∅]; exact q)
theorem RN:cx X (jI .Pow) (rI FX λi j=>.int (i ^ j.toNat)):=BA λ_ _ _ _ _ _ _ hc q=>pow_int_small hc.1 hc.2.1 hc.2.2 q
theorem K6{f:am->Sem am}{g:Int->Int}(rule:∀ (i:Int) (t:Tok) (s:aq) (Q:am->aq->Prop) (E:am->aq->Prop),Q (.int (g i) s.toks) { s with toks:=s.toks+1 }->ax (ay X.prog X.w) X.A (f (.int i t)) Q E s) : zg X f (rU λi=>.int (g i)):=by intro ah s σ H x v Q I rx h;obtain⟨i,rfl,q⟩:=h;obtain⟨t,rfl⟩:=rx;exact rule i t s _ _ ⟨.int (g i),H,I.tok _,⟨_,rfl⟩,q⟩
theorem mE:zg X (unaryOp .USub) (rU λi=>.int (-i)):=K6 λ_ _ _ _ _ q=>neg_int q
end
def qm:V->V->Bool
 | .non,.non=>ai | .non,.int _=>ai | .int _,.non=>ai | .non,.bl _=>ai | .bl _,.non=>ai | .non,.str _=>ai | .str _,.non=>ai
 | .int _,.int _=>ai | .bl _,.bl _=>ai | .str _,.str _=>ai | .byt _,.byt _=>ai
 | .int _,.str _=>ai | .str _,.int _=>ai | .bl _,.str _=>ai | .str _,.bl _=>ai
 | _,_=>ao
def Hc:R2:=λx y H Q=>qm x y=ai/\Q (.bl (decide (x=y))) H
def Gg:R2:=λx y H Q=>qm x y=ai/\Q (.bl (!decide (x=y))) H
theorem G2{i j:Int}:decide (V.int i=V.int j)=(i == j):=by rw[pt];simp
theorem Go{i j:Bool}:decide (V.bl i=V.bl j)=(i == j):=by rw[pt];simp
theorem Fs{i j:Str}:decide (V.str i=V.str j)=(i == j):=by rw[pt];simp
theorem Jl{i j:Array UInt8}:decide (V.byt i=V.byt j)=(i.toList == j.toList):=by
 rw[pt];cases i;cases j;simp
section
variable{X:Cx}{a b c:aC}{ta tb tc:TE}{pos:Pos}
theorem eu{ah:List (af×Obj)}{σ:St}{H:Hp}{s:aq}{Q:VK}{k k':Bool}(I:Inv X ah σ H s)(q:Q (.bl k) H)(e:k=k'):EP X ah σ Q (.bool k') s:=by subst e;exact⟨.bl k,H,I,rfl,q⟩
theorem UV:cx X (ft .Eq) Hc:=by
 intro ah s σ H x y v u Q I rx ry h;obtain⟨hs,q⟩:=h;cases x with
 | non=>
  cases rx;cases y with
  | non=>cases ry; exact PySem.EqNone.eq_none_none (eu I q (by simp))
  | bl j=>cases ry; exact PySem.EqNone.eq_none_bool (eu I q (by simp))
  | int j=>obtain⟨t',rfl⟩:=ry; exact PySem.EqNone.eq_none_int (eu I q (by simp))
  | str j=>obtain⟨t',rfl⟩:=ry; exact PySem.EqNone.eq_none_str (eu I q (by simp))
  | _=>exact absurd (show ao=ai from hs) gu
 | bl i=>
  cases rx;cases y with
  | non=>cases ry; exact PySem.EqNone.eq_bool_none (eu I q (by simp))
  | bl j=>cases ry; exact eq_bool (eu I q Go)
  | str j=>obtain⟨t',rfl⟩:=ry; exact PySem.EqMixed.eq_bool_str (eu I q (by simp))
  | _=>exact absurd (show ao=ai from hs) gu
 | int i=>
  obtain⟨t,rfl⟩:=rx;cases y with
  | non=>cases ry; exact PySem.EqNone.eq_int_none (eu I q (by simp))
  | int j=>obtain⟨t',rfl⟩:=ry; exact eq_int (eu I q G2)
  | str j=>obtain⟨t',rfl⟩:=ry; exact PySem.EqMixed.eq_int_str (eu I q (by simp))
  | _=>exact absurd (show ao=ai from hs) gu
 | str i=>
  obtain⟨t,rfl⟩:=rx;cases y with
  | non=>cases ry; exact PySem.EqNone.eq_str_none (eu I q (by simp))
  | bl j=>cases ry; exact PySem.EqMixed.eq_str_bool (eu I q (by simp))
  | int j=>obtain⟨t',rfl⟩:=ry; exact PySem.EqMixed.eq_str_int (eu I q (by simp))
  | str j=>obtain⟨t',rfl⟩:=ry; exact eq_str (eu I q Fs)
  | _=>exact absurd (show ao=ai from hs) gu
 | byt i=>
  obtain⟨t,rfl⟩:=rx;cases y with
  | byt j=>obtain⟨t',rfl⟩:=ry; exact PySem.W.eq_bytes (eu I q Jl)
  | _=>exact absurd (show ao=ai from hs) gu
 | _=>cases y <;> exact absurd (show ao=ai from hs) gu
theorem U8:cx X (ft .NotEq) Gg:=by
 intro ah s σ H x y v u Q I rx ry h;obtain⟨hs,q⟩:=h;cases x with
 | non=>
  cases rx;cases y with
  | non=>cases ry; exact PySem.EqNone.ne_none_none (eu I q (by simp))
  | bl j=>cases ry; exact PySem.EqNone.ne_none_bool (eu I q (by simp))
  | int j=>obtain⟨t',rfl⟩:=ry; exact PySem.EqNone.ne_none_int (eu I q (by simp))
  | str j=>obtain⟨t',rfl⟩:=ry; exact PySem.EqNone.ne_none_str (eu I q (by simp))
  | _=>exact absurd (show ao=ai from hs) gu
 | bl i=>
  cases rx;cases y with
  | non=>cases ry; exact PySem.EqNone.ne_bool_none (eu I q (by simp))
  | bl j=>cases ry; exact ne_bool (eu I q (congrArg not Go))
  | str j=>obtain⟨t',rfl⟩:=ry; exact PySem.EqMixed.ne_bool_str (eu I q (by simp))
  | _=>exact absurd (show ao=ai from hs) gu
 | int i=>
  obtain⟨t,rfl⟩:=rx;cases y with
  | non=>cases ry; exact PySem.EqNone.ne_int_none (eu I q (by simp))
  | int j=>obtain⟨t',rfl⟩:=ry; exact ne_int (eu I q (congrArg not G2))
  | str j=>obtain⟨t',rfl⟩:=ry; exact PySem.EqMixed.ne_int_str (eu I q (by simp))
  | _=>exact absurd (show ao=ai from hs) gu
 | str i=>
  obtain⟨t,rfl⟩:=rx;cases y with
  | non=>cases ry; exact PySem.EqNone.ne_str_none (eu I q (by simp))
  | bl j=>cases ry; exact PySem.EqMixed.ne_str_bool (eu I q (by simp))
  | int j=>obtain⟨t',rfl⟩:=ry; exact PySem.EqMixed.ne_str_int (eu I q (by simp))
  | str j=>obtain⟨t',rfl⟩:=ry; exact ne_str (eu I q (congrArg not Fs))
  | _=>exact absurd (show ao=ai from hs) gu
 | byt i=>
  obtain⟨t,rfl⟩:=rx;cases y with
  | byt j=>obtain⟨t',rfl⟩:=ry; exact PySem.W.ne_bytes (eu I q (congrArg not Jl))
  | _=>exact absurd (show ao=ai from hs) gu
 | _=>cases y <;> exact absurd (show ao=ai from hs) gu
theorem Ig:cx X (ft .Lt) (mw λi j=>.bl (decide (i<j))):=CA λ_ _ _ _ _ _ _ q=>lt_int q
theorem oJ:cx X (ft .LtE) (mw λi j=>.bl (decide (i<=j))):=CA λ_ _ _ _ _ _ _ q=>le_int q
theorem N6:cx X (ft .Gt) (mw λi j=>.bl (decide (j<i))):=CA λ_ _ _ _ _ _ _ q=>gt_int q
theorem UQ:cx X (ft .In) (λx y H Q=>∃ i j,x = .str i/\y = .str j/\Q (.bl (!(JA j i 0 j.length 1).isEmpty)) H):=by intro ah s σ H x y v u Q I rx ry h;obtain⟨i,j,rfl,rfl,q⟩:=h;obtain⟨t,rfl⟩:=rx;obtain⟨t',rfl⟩:=ry;exact in_str (eu I q rfl)
theorem cx.or{f:am->am->Sem am}{r r':R2}(h:cx X f r)(h':cx X f r'):cx X f (λx y H Q=>r x y H Q\/r' x y H Q):=by
 intro ah s σ H x y v u Q I rx ry q;rcases q with q | q
 ·exact h ah s σ H x y v u Q I rx ry q
 ·exact h' ah s σ H x y v u Q I rx ry q
theorem Rh{op:CmpOp}{r:R2}(ho:cx X (ft op) r)(ha:PE X a ta)(hb:PE X b tb)(hm:mU op b=ao):PE X (.Compare a [op] [b] pos) (xu r ta tb):=by intro ah s σ H Q I h;exact wpAny_Compare1 (B6 ha hb I h λv u s2 x y H2 I2 rx ry q=>ho ah s2 σ H2 x y v u Q I2 rx ry q) hm
def Gx(t:TE):TT:=λσ H Q=>t σ H λx H'=>∃ k,x = .bl k/\Q k H'
theorem NK{op:CmpOp}{r:R2}(ho:cx X (ft op) r)(ha:PE X a ta)(hb:PE X b tb)(hm:mU op b=ao):PT X (.Compare a [op] [b] pos) (Gx (xu r ta tb)):=by
 intro ah s σ H Q I h;refine wpAny_isTrue_Compare1 (aW (ha ah s σ H _ I h) λv s1 ⟨x,H1,I1,r1,q1⟩=>aW (hb ah s1 σ H1 _ I1 q1) λu s2 ⟨y,H2,I2,r2,q2⟩=>aW (ho ah s2 σ H2 x y v u _ I2 r1 r2 q2) λc s3 ⟨z,H3,I3,r3,k,e,q3⟩=>?_) hm;subst e;cases r3;exact n9 ⟨H3,I3,q3⟩
def Au(r r':R2)(ta tb tc:TE):TE:=λσ H Q=>ta σ H λx H1=>tb σ H1 λy H2=>r x y H2 λz H3=>∃ k,z = .bl k /\
 (if k=ai then tc σ H3 λw' H4=>r' y w' H4 Q else Q (.bl ao) H3)
theorem Qb{op op':CmpOp}{r r':R2}(ho:cx X (ft op) r)(jP:cx X (ft op') r')(ha:PE X a ta)(hb:PE X b tb)(hc:PE X c tc)(hm:lastMarks [op,op'] [b,c]=ao:=by with_unfolding_all rfl):PE X (.Compare a [op,op'] [b,c] pos) (Au r r' ta tb tc):=by
 intro ah s σ H Q I h;refine Compare_chain (aW (ha ah s σ H _ I h) λv s1 ⟨x,H1,I1,r1,q1⟩=>chain_link (aW (hb ah s1 σ H1 _ I1 q1) λu s2 ⟨y,H2,I2,r2,q2⟩=>aW (ho ah s2 σ H2 x y v u _ I2 r1 r2 q2) λd s3 ⟨z,H3,I3,r3,k,e,q3⟩=>?_)) hm;subst e;cases r3;refine n9 ?_;cases k with
 | false=>exact ite_ff ⟨.bl ao,H3,I3,rfl,q3⟩
 | true=>exact ite_tt (chain_last (aW (hc ah s3 σ H3 _ I3 q3) λw' s4 ⟨z',H4,I4,r4,q4⟩=>jP ah s4 σ H4 y z' u w' Q I4 r2 r4 q4))
theorem QI{op op':CmpOp}{r r':R2}(ho:cx X (ft op) r)(jP:cx X (ft op') r')(ha:PE X a ta)(hb:PE X b tb)(hc:PE X c tc)(hm:lastMarks [op,op'] [b,c]=ao:=by with_unfolding_all rfl):PT X (.Compare a [op,op'] [b,c] pos) (Gx (Au r r' ta tb tc)):=by
 intro ah s σ H Q I h;refine isTrue_chain (aW (ha ah s σ H _ I h) λv s1 ⟨x,H1,I1,r1,q1⟩=>test_link (aW (hb ah s1 σ H1 _ I1 q1) λu s2 ⟨y,H2,I2,r2,q2⟩=>aW (ho ah s2 σ H2 x y v u _ I2 r1 r2 q2) λd s3 ⟨z,H3,I3,r3,k,e,q3⟩=>?_)) hm;subst e;cases r3;refine n9 ?_;cases k with
 | false=>
  obtain⟨k',e',q'⟩:=q3;cases e';exact ite_ff ⟨H3,I3,q'⟩
 | true=>
  refine ite_tt (test_last (aW (hc ah s3 σ H3 _ I3 q3) λw' s4 ⟨z',H4,I4,r4,q4⟩=>aW (jP ah s4 σ H4 y z' u w' _ I4 r2 r4 q4) λd' s5 ⟨z2,H5,I5,r5,k2,e2,q5⟩=>?_));subst e2;cases r5;exact n9 ⟨H5,I5,q5⟩
theorem xT:(bx:Nat)<2 ^ 63:=by rw[tm]; decide
theorem Nk:cx X (jI .Add) (λx y H Q=>∃ i j,x = .str i/\y = .str j/\i.length+j.length<=bx/\Q (.str (i++j)) H):=by intro ah s σ H x y v u Q I rx ry h;obtain⟨i,j,rfl,rfl,hz,q⟩:=h;obtain⟨t,rfl⟩:=rx;obtain⟨t',rfl⟩:=ry;exact add_str (λt' tk=>⟨.str (i++j),H,I.tok _,⟨_,rfl⟩,q⟩) hz
theorem vals1{x:V}{us:List am}(r:bJ [x] us):∃ u,us=[u]/\RelV x u:=by
 cases r with
 | cons r1 r2=>cases r2; exact⟨_,rfl,r1⟩
theorem vals2{x y:V}{us:List am}(r:bJ [x,y] us):∃ u w',us=[u,w']/\RelV x u/\RelV y w':=by
 cases r with
 | cons r1 r2=>
  cases r2 with
  | cons r3 r4=>cases r4; exact⟨_,_,rfl,r1,r3⟩
theorem O_(hc:X.calm=ai):im X (.builtin "max") (λxs H Q=>∃ i j,xs=[.int i,.int j]/\Q (.int (if j > i then j else i)) H):=by
 intro ah s σ H xs us Q I r h;obtain⟨i,j,rfl,q⟩:=h;obtain⟨u,w',rfl,⟨t,rfl⟩,⟨t',rfl⟩⟩:=vals2 r;refine max_two_ints (I.ok.hd hc) λh' tk k=>⟨_,H,I.kept k,?_,q⟩
 by_cases hj:j > i
 ·rw[if_pos hj,if_pos hj]; exact⟨_,rfl⟩
 ·rw[if_neg hj,if_neg hj]; exact⟨_,rfl⟩
def Fl(K:az)(x:V)(H:Hp)(n:Nat):Prop :=
 match x with
 | .str y=>y.length<=bx/\n=y.length
 | .byt y=>y.size<=bx/\n=y.size
 | .ref p=>(∃ xs,cg K H p xs/\n=xs.length)\/∃ xs,dz K H p xs/\n=xs.length
 | _=>False
theorem fj:im X (.builtin "len") (λxs H Q=>∃ x n,xs=[x]/\Fl X.K x H n/\Q (.int n) H):=by
 intro ah s σ H xs us Q I r h;obtain⟨x,n,rfl,e,q⟩:=h;obtain⟨u,rfl,rx⟩:=vals1 r;have hl:=xT;have hs:bx=16777216:=tm;cases x with
 | str y=>obtain⟨t,rfl⟩:=rx;obtain⟨hy,e'⟩:y.length<=bx/\n=y.length:=e;subst e';exact len_str ∅ ⟨.int _,H,I.tok _,⟨_,rfl⟩,q⟩
 | byt y=>obtain⟨t,rfl⟩:=rx;obtain⟨hy,e'⟩:y.size<=bx/\n=y.size:=e;subst e';exact PySem.W.len_bytes ∅ ⟨.int _,H,I.tok _,⟨_,rfl⟩,q⟩
 | ref p=>
  cases rx;have e':(∃ xs,cg X.K H p xs/\n=xs.length)\/∃ xs,dz X.K H p xs/\n=xs.length:=e;rcases e' with⟨xs,hx,e'⟩ | ⟨xs,hx,e'⟩
  ·subst e';obtain⟨its,r',pl,hz⟩:=I.list hx;have cb:=r'.length;exact Calls.call_len_list pl.isList (by simp only[dH]; lia) ⟨.int xs.length,H,I.tok _,⟨_,by simp only[dH]; rw[cb]⟩,q⟩
  ·subst e';obtain⟨its,r',pl,hz⟩:=I.tuple hx;have cb:=r'.length;exact len_tuple pl (by simp only[dH]; lia) ⟨.int xs.length,H,I.tok _,⟨_,by simp only[dH]; rw[cb]⟩,q⟩
 | _=>exact(show False from e).elim
end
structure Jg(h:aF)(x dx C:af)(mA:Str->Option am):Prop where
 obj:h.get? x=aa (ti C dx)
 ns:h.Ns1 dx mA
 ne:dx≠x
theorem Q7{h:aF}{dx:af}{mA:Str->Option am}(n:h.Ns1 dx mA):∃ od,h.get? dx=aa od/\∀ name,PySem.W.lookIn name od=aa (mA name):=by
 obtain⟨o,es,ep,ho,hd,hk,_,hm⟩:=n;refine⟨o,ho,λname=>?_⟩;have e:=hm name;unfold nsFind findBy at e;rw[← Array.find?_toList]at e;unfold PySem.W.lookIn;rw[hd];dsimp only;split
 ·rename_i y q;rw[q]at e;exact congrArg aa e
 ·rename_i q;rw[q]at e;have a:es.toList.any (·.refKey)=ao:=by rw[JB];intro y hy;obtain⟨z,t,jk⟩:=hk y (Array.mem_toList_iff.mp hy);simp[DictEntry.refKey,jk]
  have a':¬ es.toList.any (·.refKey)=ai:=by rw[a]; exact gu
  rw[if_neg a'];exact congrArg aa e
theorem Jg.look{h:aF}{x dx C:af}{mA:Str->Option am}(I:Jg h x dx C mA):∃ od,PySem.W.InstAt h x (ti C dx) C (aa od)/\∀ name,PySem.W.lookIn name od=aa (mA name) :=
 let ⟨od,ho,hl⟩:=Q7 I.ns
 ⟨od,⟨I.obj,rfl,rfl,ho⟩,hl⟩
theorem pi.some_of{v:V}{o:Option am}(r:pi (aa v) o):∃ u,o=aa u/\RelV v u:=by
 cases o with
 | none=>exact(show False from r).elim
 | some u=>exact⟨u,rfl,r⟩
section
variable{P:aX}{w:aN}{H H':Hp}{h h':aF}{a C dx:af}{fs fs':List (Str×V)}
theorem OO(hok:eD P w H h)(e:H a=aa (.ins C dx fs)):∃ mA,Jg h a dx C mA/\(∀ f,pi (fs.lookup f) (mA f))/\PySem.Within mA (fs.map (·.1))/\fs.length<=1000/\H dx=aa (.own a):=by
 obtain⟨d,z,ne,ob,mA,n,r,q⟩:=(show ef P w H h a (.ins C dx fs)from hok a _ e)
 exact⟨mA,⟨ob,n,ne⟩,r,q,z,d⟩
end
structure Hb(K:az)(C:af):Prop where
 pg:PySem.W.plainGet K C pA=ai
 hd:PySem.W.hasDictIn K C=ai
 po:PySem.W.plainOver K C=ai
 sa:zn K (.ref C) "__setattr__" = aa (aa (.builtin "object.__setattr__"))
theorem Hb.get{K:az}{C:af}(c:Hb K C)(f:Str):PySem.W.plainGet K C f=ai:=c.pg
section
variable{X:Cx}{ah:List (af×Obj)}{σ:St}{H:Hp}{s:aq}{a C dx:af}{fs:List (Str×V)}{f:Str}{v:V}{A:be}{E:am->aq->Prop}
theorem Inv.made(I:Inv X ah σ H s):Inv X ah σ (upd (upd H s.heap.objs.size (.own (s.heap.objs.size+1))) (s.heap.objs.size+1) (.ins C s.heap.objs.size [])) { s with heap:=(s.heap.push qK).push (ti C s.heap.objs.size) }:=by
 have e1:(s.heap.push qK).get? s.heap.objs.size=aa qK:=dG s.heap rfl;have e2:((s.heap.push qK).push (ti C s.heap.objs.size)).get? (s.heap.objs.size+1)=aa (ti C s.heap.objs.size):=by have:=dG (s.heap.push qK) (o:=ti C s.heap.objs.size) rfl;rwa[vM]at this
 have e3:(s.heap.push qK).Ns s.heap.objs.size (λ_=>ae):=⟨qK,#[],_,e1,rfl,(λe he=>absurd he (by simp)),λ_=>rfl⟩
 have I1:=I.laid (a:=s.heap.objs.size) (o:=.own (s.heap.objs.size+1)) (h':=s.heap.push qK) (t':=s.toks) (λb u q=>bK _ q) (bo _) ⟨_,e1⟩;refine I1.laid (a:=s.heap.objs.size+1) (o:=.ins C s.heap.objs.size []) (t':=s.toks) (λb u q=>bK _ q) (mX (vM _ _)) ?_;have ne:s.heap.objs.size≠s.heap.objs.size+1:=c_ (mY _);refine⟨by rw[cu ne,cF],lj _,ne,e2,λ_=>ae,(Heap.Ns1.of_empty e3).at λo q=>bK _ q,λ_=>True.intro,λy hy=>absurd rfl hy⟩
end
section
variable{X:Cx}{ah:List (af×Obj)}{σ:St}{H:Hp}{s:aq}{A:be}{E:am->aq->Prop}{Q:am->aq->Prop}{c:am}{b:Bool}
inductive jH(K:az)(H:Hp):V->am->Prop where
 | non:jH K H .non (.type "NoneType")
 | bl (x:Bool):jH K H (.bl x) (.type "bool")
 | int (i:Int):jH K H (.int i) (.type "int")
 | str (x:Str):jH K H (.str x) (.type "str")
 | flt (x:UInt64):jH K H (.flt x) (.type "float")
 | lst {a:af} {xs:List V} (e:H a=aa (.lst xs)):jH K H (.ref a) (.type "list")
 | frz {a:af} {o:Obj} {xs:List V} (e:H a=aa (.frz o (.lst xs))):jH K H (.ref a) (.type "list")
 | tup {a:af} {xs:List V} (e:H a=aa (.tup xs)):jH K H (.ref a) (.type "tuple")
 | dK {a:af} {kvs:List (aJ×V)} (e:H a=aa (.dK kvs)):jH K H (.ref a) (.type "dict")
 | dT {a:af} {kvs:List (List aJ×V)} (e:H a=aa (.dT kvs)):jH K H (.ref a) (.type "dict")
 | ins {a C dx:af} {fs:List (Str×V)} (e:H a=aa (.ins C dx fs)) (cl:Hb K C) (ha:zn K (.ref C) "__class__" = aa (aa (.builtin "object.__class__")))
   (hn:PySem.W.specialIn K (.builtin "object.__class__") "__get__" = aa (aa (.builtin "getset_descriptor.__get__"))) (wx:PySem.W.takesIn K (.builtin "object.__class__")=aa ai)
   (hm:PySem.W.mroIn K C (.type "object")=aa ai):jH K H (.ref a) (.ref C)
theorem NN{x:V}{u t:am}(I:Inv X ah σ H s)(rx:RelV x u)(ty:jH X.K H x t)(e:j3 X.K t c=aa b)(h:∀ tk,Q (.bool b) { s with toks:=tk }) : ax (ay X.prog X.w) A (call (.builtin "isinstance") [u,c]) Q E s:=by
 cases ty with
 | non=>cases (show u=Value.none from rx); exact mZ PySem.W.kitx_none I.kIn True.intro e (λz=>nomatch z) h
 | bl y=>cases (show u=Value.bool y from rx); exact mZ PySem.W.kitx_bool I.kIn True.intro e (λz=>nomatch z) h
 | int i=>obtain⟨t,q⟩:=(show ∃ t,u=Value.int i t from rx); cases q; exact mZ PySem.W.kitx_int I.kIn True.intro e (λz=>nomatch z) h
 | str y=>obtain⟨t,q⟩:=(show ∃ t,u=Value.str y t from rx); cases q; exact mZ PySem.W.kitx_str I.kIn True.intro e (λz=>nomatch z) h
 | flt y=>obtain⟨t,q⟩:=(show ∃ t,u=Value.float y t from rx); cases q; exact mZ PySem.W.kitx_float I.kIn True.intro e (λz=>nomatch z) h
 | @lst a xs ea=>
  cases (show u=Value.ref a from rx);obtain⟨_,_,n,_,h1⟩:=(show ef X.prog X.w H s.heap a (.lst xs)from I.hok a _ ea)
  exact mZ PySem.W.kitx_list I.kIn ⟨_,h1,rfl⟩ e (λz=>nomatch z) h
 | @frz a ob xs ea=>
  cases (show u=Value.ref a from rx);obtain⟨_,_,_,n,_,h1⟩:=(show ef X.prog X.w H s.heap a (.frz ob (.lst xs))from I.hok a _ ea)
  exact mZ PySem.W.kitx_list I.kIn ⟨_,h1,rfl⟩ e (λz=>nomatch z) h
 | @tup a xs ea=>
  cases (show u=Value.ref a from rx);obtain⟨_,_,_,p,_⟩:=(show ef X.prog X.w H s.heap a (.tup xs)from I.hok a _ ea)
  obtain⟨o,h1,h2,_⟩:=p;exact mZ PySem.W.kitx_tuple I.kIn ⟨o,h1,h2⟩ e (λz=>nomatch z) h
 | @dK a kvs ea=>
  cases (show u=Value.ref a from rx);obtain⟨_,_,vs,_,p⟩:=(show ef X.prog X.w H s.heap a (.dK kvs)from I.hok a _ ea)
  obtain⟨o,es,ep,h1,h2,_⟩:=p;exact mZ PySem.W.kitx_dict I.kIn ⟨o,h1,h2.1⟩ e (λz=>nomatch z) h
 | @dT a kvs ea=>
  cases (show u=Value.ref a from rx);obtain⟨_,_,xs,_,o,es,ep,h1,h2,_⟩:=(show ef X.prog X.w H s.heap a (.dT kvs)from I.hok a _ ea)
  exact mZ PySem.W.kitx_dict I.kIn ⟨o,h1,h2.1⟩ e (λz=>nomatch z) h
 | @ins a C dx fs ea cl ha hn wx hm=>
  cases (show u=Value.ref a from rx);obtain⟨mA,O,_⟩:=OO I.hok ea;obtain⟨od,J,_⟩:=O.look;exact mZ (PySem.W.kitx_own (cl.get _) cl.hd ha hn wx hm) I.kIn J e (λz=>nomatch z) h
end
structure Room(k:Nat)(A:be):Prop where
 hd:A.handled=ae
 dp:A.depth+3 * k+5<vN
 un:A.units+16 * k+200<cLine
theorem Room.mono{j k:Nat}{A:be}(r:Room k A)(h:j<=k):Room j A:=⟨r.hd,by have:=r.dp; lia,by have:=r.un; lia⟩
theorem Room.deeper{k:Nat}{A:be}(r:Room (k+1) A)(env:Env):Room k (A.deeper env) :=⟨r.hd,by have:=r.dp; show A.depth+1+3 * k+5<_; lia,by have:=r.un; show A.units+3+16 * k+200<_; lia⟩
theorem Room.in1{k:Nat}{A:be}(r:Room (k+1) A):Room k A.in1 :=⟨r.hd,by have:=r.dp; show A.depth+3 * k+5<_; lia,by have:=r.un; show A.units+1+16 * k+200<_; lia⟩
theorem Room.depth{k:Nat}{A:be}(r:Room k A):A.depth<vN:=by have:=r.dp; lia
theorem Room.units{k:Nat}{A:be}(r:Room k A):A.units+64<cLine:=by have:=r.un; lia
def NC:TA:=λ_ H Q=>Q [] H
def Nq(ta:TE)(tr:TA):TA:=λσ H Q=>ta σ H λx H1=>tr σ H1 λxs H2=>Q (x::xs) H2
section
variable{X:Cx}{e:aC}{es:List aC}{te:TE}{t:TA}{pos:Pos}
theorem nH:PA X [] NC:=λ_ _ _ _ H Q I h=>JC ⟨[],H,I,.nil,h⟩
theorem kX(ha:PE X e te)(hr:PA X es t)(hs:bu (e::es) X.env=(ao,bz e X.env)::bu es X.env:=by rfl):PA X (e::es) (Nq te t):=by intro pos ah s σ H Q I h;rw[hs];show ax _ _ (spliced ((ao,bz e X.env)::f7 pos (bu es X.env))) _ _ s;refine CH (aW (ha ah s σ H _ I h) λu s1 ⟨x,H1,I1,r1,q1⟩=>?_);exact aW (hr pos ah s1 σ H1 _ I1 q1) λus s2 ⟨xs,H2,I2,r2,q2⟩=>⟨x::xs,H2,I2,.cons r1 r2,q2⟩
def OW(t:TA):TE:=λσ H Q=>t σ H λxs H1=>xs.length<=bx/\∀ p,H1 p=ae->Q (.ref p) (upd H1 p (.tup xs))
def Le(t:TA):TE:=λσ H Q=>t σ H λxs H1=>xs.length<=bx/\∀ p,H1 p=ae->Q (.ref p) (upd H1 p (.lst xs))
theorem Ms{x1}(h:PA X es t):PE X (.Tuple es x1 pos) (OW t):=by intro ah s σ H Q I hq;refine wpAny_Tuple_spliced (aW (h pos ah s σ H _ I hq) λus s1 ⟨xs,H1,I1,r,z,q⟩=>⟨by rw[← r.length]; exact z,?_⟩);have hf:H1 s1.heap.objs.size=ae:=I1.hok.fresh (bo _);refine⟨.ref s1.heap.objs.size,upd H1 s1.heap.objs.size (.tup xs),I1.laid (t':=s1.toks) (λb u e=>bK _ e) (bo _) ?_,rfl,q _ hf⟩;exact⟨z,us,r,⟨⟨_,dG _ rfl,rfl,_,rfl⟩,_,dG _ rfl,rfl⟩⟩
theorem S5(h:PA X es t):PE X (.List es pos) (Le t):=by intro ah s σ H Q I hq;refine wpAny_List_spliced (aW (h pos ah s σ H _ I hq) λus s1 ⟨xs,H1,I1,r,z,q⟩=>⟨by rw[← r.length]; exact z,?_⟩);have hf:H1 s1.heap.objs.size=ae:=I1.hok.fresh (bo _);refine⟨.ref s1.heap.objs.size,upd H1 s1.heap.objs.size (.lst xs),I1.laid (t':=s1.toks) (λb u e=>bK _ e) (bo _) ?_,rfl,q _ hf⟩;exact⟨z,us,0,r,dG _ rfl⟩
end
abbrev Sp:=List V->Hp->VK->XK->Prop
abbrev fQ:=List Env->Hp->aq->XK->am->aq->Prop
structure sd(P:aX)(w:aN)(K:az)(mg:Str->Option am)(base:aF)(A:be)(outer:List Env)(s:aq)(H:Hp):Prop where
 frames:A.frames=aa outer
 mod:Mod K mg base
 bs:∀ b o,base.get? b=aa o->s.heap.get? b=aa o/\H b=ae
 bsz:base.objs.size<=s.heap.objs.size
 funs:s.heap.FunFrames base outer
 frf:∀ b∈gG outer,H b=ae
 hok:eD P w H s.heap
 bare:n4 s.gens
 tab:xh K H
def CE(outer:List Env)(P:aX)(w:aN)(H:Hp)(s:aq)(Q:VK)(u:am)(s':aq):Prop :=
 ∃ v H',s'.os=s.os/\n4 s'.gens/\Un (gG outer) [] H H' s.heap s'.heap/\eD P w H' s'.heap/\RelV v u/\Q v H'
def CR(CX:fQ)(outer:List Env)(P:aX)(w:aN)(H:Hp)(s:aq)(Q:VK)(E:XK)(r:Result)(s':aq):Prop :=
 match r with
 | .ok (.ret u)=>CE outer P w H s Q u s'
 | .ok _=>False
 | .error e=>CX outer H s E e s'
structure iM(P:aX)(w:aN)(K:az)(mg:Str->Option am)(base:aF)(CX:fQ)(k:Nat)(f:af)(fd:g9)(ps:List Str)(sp:Sp):Prop where
 len:∀ vs H Q E,sp vs H Q E->vs.length=ps.length
 run:∀ (A:be) (outer:List Env) (s:aq) (H:Hp) (args:Args) (us:List am) (vs:List V) (Q:VK) (E:XK),Room k A->sd P w K mg base A outer s H->BindsTo s fd args (ps.zip us)->bJ vs us->sp vs H Q E ->
  pB (ay P w) A (.call (.ref f) args) (CR CX outer P w H s Q E) s
theorem iM.mono{P:aX}{w:aN}{K:az}{mg:Str->Option am}{base:aF}{CX:fQ}{j k:Nat}{f:af}{fd:g9}{ps:List Str}{sp:Sp}(F:iM P w K mg base CX j f fd ps sp)(h:j<=k) : iM P w K mg base CX k f fd ps sp:=⟨F.len,λA outer s H args us vs Q E hr=>F.run A outer s H args us vs Q E (hr.mono h)⟩
theorem iM.imp{P:aX}{w:aN}{K:az}{mg:Str->Option am}{base:aF}{CX:fQ}{k:Nat}{f:af}{fd:g9}{ps:List Str}{sp sp':Sp}(F:iM P w K mg base CX k f fd ps sp)(h:∀ vs H Q E,sp' vs H Q E->sp vs H Q E):iM P w K mg base CX k f fd ps sp' :=⟨λvs H Q E q=>F.len vs H Q E (h _ _ _ _ q),λA outer s H args us vs Q E hr he hb hv hs=>F.run A outer s H args us vs Q E hr he hb hv (h _ _ _ _ hs)⟩
theorem sd.in1{P:aX}{w:aN}{K:az}{mg:Str->Option am}{base:aF}{A:be}{outer:List Env}{s:aq}{H:Hp}(e:sd P w K mg base A outer s H) : sd P w K mg base A.in1 outer s H:=⟨e.frames,e.mod,e.bs,e.bsz,e.funs,e.frf,e.hok,e.bare,e.tab⟩
section
variable{X:Cx}{ah:List (af×Obj)}{σ:St}{H:Hp}{s s':aq}
theorem Inv.env0(I:Inv X ah σ H s):sd X.prog X.w X.K X.mg X.base X.A X.stack s H :=⟨I.ok.frames,I.ok.mod,I.bs,cL I.ok.bsz I.sz,I.stack,I.stkFree,I.hok,I.bare,I.tab⟩
theorem Inv.after{Q:VK}{u:am}(I:Inv X ah σ H s)(h:CE X.stack X.prog X.w H s Q u s'):EP X ah σ Q u s':=by obtain⟨v,H',os,bare,un,hok,r,q⟩:=h;obtain⟨hh,g,d,t,os'⟩:=s';obtain rfl:os'=s.os:=os;exact⟨v,H',I.call (h':=hh) (g':=g) (d':=d) (t':=t) (ch:=[]) un hok bare (λb z=>absurd z (by simp)),r,q⟩
end
def MQ(sp:Sp)(dvs:List V)(E:XK)(t:TA):TE:=λσ H Q=>t σ H λvs H1=>sp (vs++dvs) H1 Q E
def Binds(K:az)(fd:g9)(ps:List Str)(ds:List am):Prop :=
 ∀ (s:aq) (us:List am),K.In s.heap->(us++ds).length=ps.length->BindsTo s fd ⟨us,[]⟩ (ps.zip (us++ds))
theorem Binds.all{K:az}{fd:g9}{ps:List Str}(h:∀ us:List am,us.length=ps.length->gM fd ⟨us,[]⟩=pure (ps.zip us)):Binds K fd ps []:=λs us _ hl=>by rw[jg]at hl ⊢;exact .of_eq (h us hl)
def sD(CX:fQ)(X:Cx)(E:XK):Prop:=∀ (ah:List (af×Obj)) (σ:St) (H:Hp) (s:aq) (e:am) (s':aq),Inv X ah σ H s->CX X.stack H s E e s'->X.xe e s'
section
variable{X:Cx}{CX:fQ}{k:Nat}{f C:af}{fd:g9}{ps:List Str}{sp:Sp}{dvs:List V}{ds:List am}{E:XK}{x m:Str}{p pos apos:Pos}{e o:aC}{es:List aC}{ta:TE}{t:TA}
theorem Ul{ah:List (af×Obj)}{σ:St}{H:Hp}{s:aq}{Q:VK}{us:List am}{vs:List V}(F:iM X.prog X.w X.K X.mg X.base CX k f fd ps sp)(hr:Room k X.A)(hb:Binds X.K fd ps ds)(hd:bJ dvs ds)(hx:sD CX X E)(I:Inv X ah σ H s) (r:bJ vs us) (h:sp (vs++dvs) H Q E):ax (ay X.prog X.w) X.A (call (.ref f) us) (EP X ah σ Q) X.xe s:=by
 have r2:bJ (vs++dvs) (us++ds):=r.append hd;have hl:(us++ds).length=ps.length:=by rw[← r2.length]; exact F.len _ _ _ _ h
 refine wpAny_call (zo (F.run X.A X.stack s H ⟨us,[]⟩ (us++ds) (vs++dvs) Q E hr I.env0 (hb s us I.kIn hl) r2 h) λr s' hq=>?_);cases r with
 | error e=>exact hx ah σ H s e s' I hq
 | ok fl=>
  cases fl with
  | ret u=>exact I.after hq
  | next=>exact kB hq
  | brk=>exact kB hq
  | cont=>exact kB hq
theorem Fv(F:iM X.prog X.w X.K X.mg X.base CX k f fd ps sp)(hr:Room k X.A)(hg:Gl X x)(hm:X.mg x=aa (.ref f))(hk:tq X.K (.ref f)=ai)(hb:Binds X.K fd ps ds)(hd:bJ dvs ds)(hx:sD CX X E)(ha:PA X (e::es) t) (jQ:(x == ("__debug__" : Str))=ao:=by decide) (he:bu (e::es) X.env=(ao,bz e X.env)::bu es X.env:=by rfl) (df:(f7 pos (bu es X.env)).any (·.1)=ao:=by rfl) : PE X (.Call (.Name x p) (e::es) [] pos) (MQ sp dvs E t):=by intro ah s σ H Q I h;refine CI (Cp I hg hm ?_ jQ);refine PySem.W.callWith_K (h₀:=X.base) I.ok.mod.kin hk (aW (ha pos ah s σ H _ I h) λus s1 ⟨vs,H1,I1,r,q⟩=>⟨I1.kIn,?_⟩) he df;exact Ul F hr hb hd hx I1 r q
end
structure b_(N P:List Str)(sc:eG):Prop where
 kind:sc.kind = .function
 co:sc.isCoroutine=ao
 gen:sc.isGenerator=ao
 nd:N.Nodup
 pre:N.take P.length=P
 par:∀ x∈P,sc.names.lookup x=aa .local\/sc.names.lookup x=aa .cell
 nofree:∀ y∈sc.names,y.2≠.free
theorem Hg{kindOf:Str->Option g_}{x:Str}:∀ {binds:List (Str×am)} {m:Str->Option am},(∀ v,(x,v)∉binds)->bindL kindOf binds m x=m x
 | [],_,_=>rfl
 | (n,v)::r,m,h=>by
  unfold bindL;rw[Hg λw hw=>h w (lO _ hw)];split
  ·have:x≠n:=by rintro rfl; exact h v n6
   simp[this]
  ·rfl
theorem Jm{kindOf:Str->Option g_}{x:Str}:∀ {binds:List (Str×am)} {m:Str->Option am},(∀ v,(x,v)∉binds)->bindC kindOf binds m x=m x
 | [],_,_=>rfl
 | (n,v)::r,m,h=>by
  unfold bindC;rw[Jm λw hw=>h w (lO _ hw)];split
  ·rfl
  ·have:x≠n:=by rintro rfl; exact h v n6
   simp[this]
theorem Fi{kindOf:Str->Option g_}{x:Str}{v:am}:∀ {P:List Str} {vs:List am} {i:Nat} {m:Str->Option am},P.Nodup->P[i]?=aa x->vs[i]?=aa v->kindOf x=aa .local -> bindL kindOf (P.zip vs) m x=aa v
 | [],_,_,_,_,h,_,_=>by simp at h
 | _::_,[],_,_,_,_,h,_=>by simp at h
 | p::P,w::vs,0,m,nd,h1,h2,hk=>by simp at h1 h2; subst h1; subst h2;show bindL kindOf ((p,w)::P.zip vs) m p=_;unfold bindL;rw[Hg λv hv=>(jJ.mp nd).1 (List.of_mem_zip hv).1,if_pos hk];simp
 | p::P,w::vs,i+1,m,nd,h1,h2,hk=>by show bindL kindOf ((p,w)::P.zip vs) m x=_;unfold bindL;exact Fi (i:=i) (jJ.mp nd).2 (by simpa using h1) (by simpa using h2) hk
theorem Jd{kindOf:Str->Option g_}{x:Str}{v:am}:∀ {P:List Str} {vs:List am} {i:Nat} {m:Str->Option am},P.Nodup->P[i]?=aa x->vs[i]?=aa v->kindOf x≠aa .local -> bindC kindOf (P.zip vs) m x=aa v
 | [],_,_,_,_,h,_,_=>by simp at h
 | _::_,[],_,_,_,_,h,_=>by simp at h
 | p::P,w::vs,0,m,nd,h1,h2,hk=>by simp at h1 h2; subst h1; subst h2;show bindC kindOf ((p,w)::P.zip vs) m p=_;unfold bindC;rw[Jm λv hv=>(jJ.mp nd).1 (List.of_mem_zip hv).1,if_neg hk];simp
 | p::P,w::vs,i+1,m,nd,h1,h2,hk=>by show bindC kindOf ((p,w)::P.zip vs) m x=_;unfold bindC;exact Jd (i:=i) (jJ.mp nd).2 (by simpa using h1) (by simpa using h2) hk
def start(N:List Str)(vs:List V):St:=vs.map aa++bH (N.length-vs.length) ae
def i8(CX:fQ)(P:aX)(w:aN)(K:az)(mg:Str->Option am)(base:aF)(N:List Str)(qual:Str)(scope:eG)(f:af)(cd:am)(A:be)(outer:List Env)(s:aq)(H:Hp)(E:XK):Cx where
 prog:=P
 w:=w
 K:=K
 mg:=mg
 base:=base
 A:=A.deeper (j4 qual scope s.heap.objs.size f cd)
 N:=N
 s₀:=s
 H₀:=H
 env:=j4 qual scope s.heap.objs.size f cd
 outer:=outer
 stack:=j4 qual scope s.heap.objs.size f cd::outer
 ex:=[]
 calm:=ai
 fn:=λ_=>ai
 pn:=[]
 xe:=λe s'=>ax (ay P w) (A.deeper (j4 qual scope s.heap.objs.size f cd)) (leaving (j4 qual scope s.heap.objs.size f cd) e) (λ_ s''=>CX outer H s E e s'') (λe' s''=>CX outer H s E e' s'') s'
theorem E9{sc:eG}{n:Nat}{x:Str}(h:sc.names.lookup x=aa .cell):∃ c,(gw n sc.names []).lookup x=aa c:=by have q:=PySem.W.cellsFrom_some sc.names n [] (.inl h);exact Option.isSome_iff_exists.mp q
theorem OD{CX:fQ}{P:aX}{w:aN}{K:az}{mg:Str->Option am}{base:aF}{N ps:List Str}{qual:Str}{scope:eG}{f:af}{cd:am}{A:be}{outer:List Env}{s s1:aq}{H:Hp}{E:XK}{us:List am}{vs:List V}(S:b_ N ps scope) (hd:A.handled=ae) (e0:sd P w K mg base A outer s H) (hl:vs.length=ps.length) (r:bJ vs us)(x:InCallC s s.heap.objs.size (bindL (j4 qual scope s.heap.objs.size f cd).kindOf (ps.zip us) λ_=>ae) (gw (s.heap.objs.size+1) scope.names []) (bindC (j4 qual scope s.heap.objs.size f cd).kindOf (ps.zip us) λ_=>ae) s1) : Inv (i8 CX P w K mg base N qual scope f cd A outer s H E) [] (start N vs) H s1:=by
 have df:ps.length<=N.length:=by have:=congrArg vO S.pre; rw[j5]at this; lia
 obtain⟨h1,tk,rfl,hk⟩:=x.done;have noA:∀ b:af,b∉(i8 CX P w K mg base N qual scope f cd A outer s H E).ex:=λb z=>absurd (show b∈([]:List af)from z) (by simp);refine⟨⟨e0.mod,S.kind,rfl,rfl,bo _,λy z c h1 h2=>?_,λy hy=>?_,λy c _ h=>?_,λ_=>hd,Around.frames_deeper e0.frames,.inr ⟨rfl,rfl⟩,λb z=>absurd z (noA b),e0.bs,e0.bsz,λb _ _=>noA b,λb z=>absurd z (noA b),e0.funs,e0.frf,e0.tab⟩,rfl,e0.bare,Un.kept hk,⟨_,x.toInCall.ns,λi y v h1 h2 h3=>?_⟩,λy c h=>⟨_,x.cell y c h⟩,e0.hok.fresh (bo _),λy c h=>?_,λp hp=>absurd (show p∈([]:List (af×Obj))from hp) (by simp),e0.hok.kept hk,?_⟩
 ·exact name_of_addr x.apart (lQ h1) (lQ h2)
 ·have hy:scope.names.lookup y=aa .cell\/scope.names.lookup y=aa .free:=hy;rcases hy with hy | hy
  ·exact E9 hy
  ·exact absurd rfl (S.nofree _ (lQ hy))
 ·exact lN (x.above y c (lQ h))
 ·have hi:i<vs.length:=by
   unfold start at h2;by_cases hi:i<vs.length
   ·exact hi
   ·rw[jK (by simpa using hi)]at h2;rw[List.getElem?_replicate]at h2;split at h2 <;> cases h2
  have ha:vs[i]?=aa v:=by
   unfold start at h2;rw[fO (by simpa using hi),jh]at h2;cases e:vs[i]? with
   | none=>rw[e]at h2; cases h2
   | some a=>rw[e]at h2; cases h2; rfl
  obtain⟨u,hu,rv⟩:=r.get ha;have hp:ps[i]?=aa y:=by rw[← S.pre,zp ∅]; exact h1
  have ndP:ps.Nodup:=by rw[← S.pre]; exact S.nd.sublist (List.take_sublist _ _)
  refine⟨u,rv,?_⟩;rcases S.par y (vP hp)with k | k
  ·exact .inl ⟨k,Fi ndP hp hu k⟩
  ·obtain⟨c,e⟩:=E9 (n:=s.heap.objs.size+1) k;refine .inr ⟨.inl k,c,e,?_⟩;have q:=x.cell y c e;rw[Jd ndP hp hu (by show scope.names.lookup y≠_; rw[k]; decide)]at q;exact q
 ·exact e0.hok.fresh (lN (x.above y c (lQ h)))
 ·unfold start;show _=N.length;rw[cZ,cD,List.length_replicate];lia
theorem Ee{CX:fQ}{P:aX}{w:aN}{K:az}{mg:Str->Option am}{base:aF}{k:Nat}{f:af}{name qual:Str}{params:tt}{body:List bf}{scope:eG}{dV kV doc pm aQ ct oc:am}{an od:Option af}{osl:Array (Option am)} {N ps:List Str} {sp:Sp} (lk:K.lookup f=aa ⟨oc,od,.func (kC name qual params body scope dV kV doc pm an aQ ct),osl⟩) (bR:zq K aQ qual=ai) (S:b_ N ps scope)(len:∀ vs H Q E,sp vs H Q E->vs.length=ps.length)(jO:∀ (A:be) (outer:List Env) (s:aq) (H:Hp) (vs:List V) (Q:VK) (E:XK),Room k (A.deeper (j4 qual scope s.heap.objs.size f aQ))->sp vs H Q E -> ∃ t,j1 (i8 CX P w K mg base N qual scope f aQ A outer s H E) body t/\t { nx:=λ_ H'=>Q .non H',rt:=Q } (start N vs) H) : iM P w K mg base CX (k+1) f (kC name qual params body scope dV kV doc pm an aQ ct) ps sp:=by
 refine⟨len,λA outer s H args us vs Q E hr e0 hb r nr=>?_⟩;have hl:=len _ _ _ _ nr;have KX:K.In s.heap:=e0.mod.kin.keeps λb o e=>(e0.bs b o e).1;have lim:s.heap.NoLimit:=e0.mod.nolimit.keeps λb o e=>(e0.bs b o e).1;have UB:∀ y∈ps.zip us,scope.names.lookup y.1=aa .local\/(scope.names.lookup y.1=aa .cell/\((gw (s.heap.objs.size+1) scope.names []).lookup y.1).isSome=ai):=λ⟨n,v⟩ hy=>by
  rcases S.par n (List.of_mem_zip hy).1 with q | q
  ·exact .inl q
  ·exact .inr ⟨q,PySem.W.cellsFrom_some _ _ _ (.inl q)⟩
 refine codeAny_call_function hr.depth (KX _ _ lk) rfl S.co S.gen rfl (PySem.W.codeRec_of KX bR) (hb _ _ _ _ ?_);refine wpAny_newFunctionEnv_cells S.kind UB λenv he s1 x=>?_;subst he;refine⟨lim.keeps x.toInCall.keep,codeAny_func ?_⟩;obtain⟨t,ht,hq⟩:=jO A outer s H vs Q E (hr.deeper _) nr;have I:Inv (i8 CX P w K mg base N qual scope f aQ A outer s H E) [] (start N vs) H s1:=OD S hr.hd e0 hl r x;refine d_ (ht [] s1 (start N vs) H _ I hq) (λfl s' hs=>?_) λe s' hs=>hs;have fin:∀ {σ':St} {H':Hp} {v:V} {u:am},Inv (i8 CX P w K mg base N qual scope f aQ A outer s H E) [] σ' H' s'->RelV v u->Q v H'->CE outer P w H s Q u s' :=λ{σ' H' v u} J rv q=>⟨v,H',J.os,J.bare,J.base,J.hok,rv,q⟩
 cases fl with
 | ret u=>obtain⟨v,σ',H',J,rv,q⟩:=hs;exact fin J rv q
 | next=>obtain⟨σ',H',J,q⟩:=hs;exact fin (v:=V.non) (u:=Value.none) J rfl q
 | brk=>obtain⟨_,_,_,q⟩:=hs;exact kB q
 | cont=>obtain⟨_,_,_,q⟩:=hs;exact kB q
section
variable{X:Cx}{x:Str}{p pos:Pos}{e:aC}{es:List aC}{t:TA}{id T:String}{r:List V->Hp->VK->Prop}
def HV(r:List V->Hp->VK->Prop)(t:TA):TE:=λσ H Q=>t σ H λvs H1=>r vs H1 Q
theorem sW(hc:im X (.builtin id) r)(hg:Gl X x)(hm:X.mg x=ae)(hv:fM x=aa (.builtin id))(ha:PA X (e::es) t)(hn:x≠"__name__":=by decide)(jQ:(x == ("__debug__" : Str))=ao:=by decide)(he:bu (e::es) X.env=(ao,bz e X.env)::bu es X.env:=by rfl) (df:(f7 pos (bu es X.env)).any (·.1)=ao:=by rfl):PE X (.Call (.Name x p) (e::es) [] pos) (HV r t):=by intro ah s σ H Q I h;refine CI (sR I hg hm hv ?_ hn jQ);exact PyProof.Rows.callWith_builtin1 (aW (ha pos ah s σ H _ I h) λus s1 ⟨vs,H1,I1,r1,q1⟩=>hc ah s1 σ H1 vs us Q I1 r1 q1) he df
theorem vg(hc:im X (.type T) r)(hg:Gl X x)(hm:X.mg x=ae)(hv:fM x=aa (.type T))(ha:PA X (e::es) t)(hn:x≠"__name__":=by decide)(jQ:(x == ("__debug__" : Str))=ao:=by decide)(he:bu (e::es) X.env=(ao,bz e X.env)::bu es X.env:=by rfl) (df:(f7 pos (bu es X.env)).any (·.1)=ao:=by rfl):PE X (.Call (.Name x p) (e::es) [] pos) (HV r t):=by intro ah s σ H Q I h;refine CI (sR I hg hm hv ?_ hn jQ);exact Jy (aW (ha pos ah s σ H _ I h) λus s1 ⟨vs,H1,I1,r1,q1⟩=>hc ah s1 σ H1 vs us Q I1 r1 q1) he df
end
end L2
namespace HT
section
open PySem.SeqAt
open PySem.AutoSeq1 (wpAny_loadPart')
open PySem.MeetsSeq PySem.MeetsSeq2 PySem.MeetsSeq3
end
section
variable{prog:aX}{w:aN}{A:be}{E:am->aq->Prop}{s:aq}
theorem cat_tup{t b:af}{vs ws:List am}{Q:am->aq->Prop}(ht:IsTup s.heap t vs.toArray)(hb:IsTup s.heap b ws.toArray)(hv:vs≠[])(h1:ws=[]->Q (.ref t) s) (h2:ws≠[]->Q (.ref s.heap.objs.size) { s with heap:=s.heap.push { cls:=.type "tuple",data:=.seq (vs++ws).toArray } })(hsz:vs.length+ws.length<=bx):ax (ay prog w) A (jI .Add (.ref t) (.ref b)) Q E s:=by
 obtain⟨⟨cls,dd,data,sl⟩,ho,hc,n,hd⟩:=id ht;obtain⟨⟨cls2,dd2,data2,sl2⟩,pK,hc2,n2,wy⟩:=id hb;simp only at hc hd hc2 wy;subst hc hd hc2 wy;have e:vs.toArray++ws.toArray=(vs++ws).toArray:=by simp
 by_cases hw:ws=[]
 ·exact concat_meets ⟨_,ho,rfl⟩ ⟨_,pK,rfl⟩ noFill_tuple_add seq_tuple_add PySem.F.slot_tuple_add PySem.F.entry_tuple_add (PySem.F.args_tuple_add_2 _ _)
   (tuple_addW1 t b vs.toArray ws.toArray n n2 dd dd2 sl sl2 (by simpa using hv) (by simp[hw])) ⟨ho,pK,h1 hw⟩
 ·refine concat_meets ⟨_,ho,rfl⟩ ⟨_,pK,rfl⟩ noFill_tuple_add seq_tuple_add PySem.F.slot_tuple_add PySem.F.entry_tuple_add (PySem.F.args_tuple_add_2 _ _)
   (tuple_addW2 t b vs.toArray ws.toArray n n2 dd dd2 sl sl2 (by simpa using hv) (by simpa using hw) (by rw[dH,dH]; exact hsz)) ⟨ho,pK,?_⟩
  rw[e];exact h2 hw
def sIx(n d:Nat):Option Int->Nat
 | none=>d
 | some v=>if v<0 then(v+(n:Int)).toNat else min v.toNat n
theorem sIx_nat(n d k:Nat):sIx n d (aa (k:Int))=min k n:=by show(if(k:Int)<0 then((k:Int)+(n:Int)).toNat else min (k:Int).toNat n)=min k n;rw[if_neg ∅,lR]
theorem sIx_le(n d:Nat)(hd:d<=n)(o:Option Int):sIx n d o<=n:=by
 cases o with
 | none=>exact hd
 | some v=>
  show(if v<0 then(v+(n:Int)).toNat else min v.toNat n)<=n;by_cases hv:v<0
  ·rw[if_pos hv]; lia
  ·rw[if_neg hv]; exact Nat.min_le_right _ _
theorem ES(v:Int)(n d:Nat):(if v<0 then max (v+(n:Int)) 0 else min v (n:Int))=((sIx n d (aa v):Nat):Int):=by
 show(if v<0 then max (v+(n:Int)) 0 else min v (n:Int))=(((if v<0 then(v+(n:Int)).toNat else min v.toNat n):Nat):Int)
 by_cases hv:v<0
 ·simp only[if_pos hv]; lia
 ·simp only[if_neg hv]; lia
theorem NA(lo hi:Option Int)(n:Nat):JD lo hi 1 (n:Int)=(((sIx n 0 lo:Nat):Int),((sIx n n hi:Nat):Int)):=by
 have h1:¬ ((1:Int)<0):=∅
 unfold JD;simp only[h1,if_false];refine Prod.ext ?_ ?_
 ·cases lo with
  | none=>rfl
  | some v=>exact ES v n 0
 ·cases hi with
  | none=>rfl
  | some v=>exact ES v n n
theorem QB(i j:Nat):CJ (i:Int) (j:Int) 1=j-i:=by
 unfold CJ;have h1:(1:Int) > 0:=∅
 simp only[h1,if_true,Int.ediv_one];split <;> lia
theorem ID{v:am}{o:Option Int}{Q:Option Int->aq->Prop}(p:n_ v o)(h:Q o s):ax (ay prog w) A (Builtin.Slice.slicePartIndex v) Q E s:=by
 cases p with
 | none=>exact slicePart_none h
 | int i t=>exact slicePart_int h
theorem Rx{sl:af}{vl vu:am}{lo hi:Option Int}{n:Nat}{Q:Int×Int×Nat->aq->Prop}(hs:s.heap.IsSliceOf sl vl vu .none)(pl:n_ vl lo)(pu:n_ vu hi)(h:Q (((sIx n 0 lo:Nat):Int),1,sIx n n hi-sIx n 0 lo) s):ax (ay prog w) A (Builtin.Slice.sliceApplied (.ref sl) (pure (n:Int))) Q E s:=by
 obtain⟨os,wz,hcs,hds⟩:=id hs;unfold Builtin.Slice.sliceApplied Builtin.Slice.sliceFields;refine ar (ar (tu wz hds (x:=vl) rfl (ar (tu wz hds (x:=vu) rfl (ar (tu wz hds (x:=.none) rfl (aD ?_)))))));refine ar (slicePart_none ?_);show ax _ _ (if((1:Int) == 0)=ai then _ else _) _ _ s;rw[if_neg (by decide)];refine ar (ID pl (ar (ID pu (ar (aD ?_)))));show ax _ _ (match JD lo hi 1 (n:Int)with | (lo,hi)=>pure (lo,(1:Int),CJ lo hi 1)) _ _ s;rw[NA lo hi n];show ax _ _ (pure (((sIx n 0 lo:Nat):Int),(1:Int),CJ ((sIx n 0 lo:Nat):Int) ((sIx n n hi:Nat):Int) 1)) _ _ s;rw[QB];exact aD h
theorem Pz(xs:Array am)(i k:Nat):((bQ k).filterMap λ(m:Nat)=>xs[((i:Int)+(m:Int) * 1).toNat]?).toArray=((xs.toList.drop i).take k).toArray:=by
 have e:(λ(m:Nat)=>xs[((i:Int)+(m:Int) * 1).toNat]?)=λm=>xs[i+m]?:=by
  funext m;have:((i:Int)+(m:Int) * 1).toNat=i+m:=∅
  rw[this]
 rw[e];have:=pick_run xs i k;rw[JE]at this;have e2:((λx=>xs[x]?) ∘ λx=>i+x)=λm=>xs[i+m]?:=rfl;rw[e2]at this;rw[this]
theorem getItem_tuple_cut{t sl:af}{items:Array am}{vl vu:am}{lo hi:Option Int}{Q:am->aq->Prop}(ht:IsTup s.heap t items)(hs:s.heap.IsSliceOf sl vl vu .none)(pl:n_ vl lo)(pu:n_ vu hi)(hw:¬ (sIx items.size 0 lo=0/\sIx items.size items.size hi=items.size))(h:Q (.ref s.heap.objs.size) { s with heap:=s.heap.push { cls:=.type "tuple",data:=.seq ((items.toList.drop (sIx items.size 0 lo)).take (sIx items.size items.size hi-sIx items.size 0 lo)).toArray } })(hsz:items.size<=bx):ax (ay prog w) A (qL (.ref t) (.ref sl)) Q E s:=by
 have zU:sizeOk (.seq ((items.toList.drop (sIx items.size 0 lo)).take (sIx items.size items.size hi-sIx items.size 0 lo)).toArray):=by show((items.toList.drop (sIx items.size 0 lo)).take (sIx items.size items.size hi-sIx items.size 0 lo)).toArray.size<=bx;rw[dH,j5,j6,iz];lia
 have hj:sIx items.size items.size hi<=items.size:=sIx_le _ _ (bo _) hi;obtain⟨os,wz,hcs,hds⟩:=id hs;have hTs:s.TypeIs (.ref sl) "slice":=⟨os,wz,hcs⟩
 unfold qL
 try with_reducible refine lS ?_
 first | refine ar (aD ?_) | skip
 refine ar (wpAny_sequenceKey ht.typeIs (by decide) ?_);refine ar (wpAny_callSpecial?_slot (name:=CK "__getitem__") ht.typeIs Ut (vQ Ut ht.typeIs entry_tuple_getitem ?_ (args_tuple_getitem _ _)));show ax _ _ (Builtin.Tuple.tupleItemsOf (.ref t) >>= _) _ _ s;refine ar (tupleItemsOf_ ht ?_);refine ar (wpAny_typeOf hTs ?_);rw[if_pos (by decide)];refine ar (Rx hs pl pu ?_);have hno:¬ ((((sIx items.size 0 lo:Nat):Int) == 0 && (1:Int) == 1 && (sIx items.size items.size hi-sIx items.size 0 lo) == items.size)=ai):=by intro q;rw[iA,iA]at q;have q1:((sIx items.size 0 lo:Nat):Int)=0:=eq_of_beq q.1.1;have q2:sIx items.size items.size hi-sIx items.size 0 lo=items.size:=eq_of_beq q.2;exact hw ⟨∅,∅⟩
 show ax _ _ (if(((sIx items.size 0 lo:Nat):Int) == 0 && (1:Int) == 1 && (sIx items.size items.size hi-sIx items.size 0 lo) == items.size)=ai then _ else _) _ _ s;rw[if_neg hno,Pz]
 first
  | exact ar (m:=CL _) (m8 (aD ⟨_,rfl,aD h⟩) zU)
  | exact ar (m:=CL _) (m8 (ar (aD (aD ⟨_,rfl,aD h⟩))) zU)
  | exact ar (ar (m:=CL _) (m8 (aD (aD ⟨_,rfl,aD h⟩)) zU))
  | exact ar (ar (m:=CL _) (m8 (aD ⟨_,rfl,aD h⟩) zU))
end
end HT
namespace L2
abbrev TO:=St->Hp->(Option Int->Hp->Prop)->Prop
def PO(X:Cx)(e:Option aC)(t:TO):Prop :=
 ∀ (ah:List (af×Obj)) (s:aq) (σ:St) (H:Hp) (Q:Option Int->Hp->Prop),Inv X ah σ H s->t σ H Q ->
  ax (ay X.prog X.w) X.A (evalPart e X.env) (λu s'=>∃ o H',Inv X ah σ H' s'/\n_ u o/\Q o H') X.xe s
def R_:TO:=λ_ H Q=>Q ae H
def M5(t:TE):TO:=λσ H Q=>t σ H λx H1=>∃ i,x = .int i/\Q (aa i) H1
section
variable{X:Cx}{e:aC}{te:TE}{lo hi:Option aC}{tl th:TO}{pos p2:Pos}
theorem N1:PO X ae R_:=by intro ah s σ H Q I h;rw[evalPart_none];exact aD ⟨ae,H,I,.none,h⟩
theorem PU(h:PE X e te):PO X (aa e) (M5 te):=by intro ah s σ H Q I hw;rw[evalPart_some];refine aW (h ah s σ H _ I hw) λu s1 ⟨x,H1,I1,r1,q1⟩=>?_;obtain⟨i,rfl,q⟩:=q1;obtain⟨t,rfl⟩:=r1;exact⟨aa i,H1,I1,.int i t,q⟩
def nD(X:Cx)(r:V->Option Int->Option Int->Hp->VK->Prop):Prop :=
 ∀ (ah:List (af×Obj)) (s:aq) (σ:St) (H:Hp) (x:V) (v vl vu:am) (lo hi:Option Int) (sl:af) (Q:VK),Inv X ah σ H s->RelV x v->s.heap.IsSliceOf sl vl vu .none->n_ vl lo->n_ vu hi->r x lo hi H Q ->
  ∃ T id,typeLookup (.type T) "__getitem__" = pure (aa (.builtin id))/\s.TypeIs v T/\ax (ay X.prog X.w) X.A (qL v (.ref sl)) (EP X ah σ Q) X.xe s
theorem nD.or{r r':V->Option Int->Option Int->Hp->VK->Prop}(h:nD X r)(h':nD X r'):nD X (λx lo hi H Q=>r x lo hi H Q\/r' x lo hi H Q):=by
 intro ah s σ H x v vl vu lo hi sl Q I rx hs pl pu q;rcases q with q | q
 ·exact h ah s σ H x v vl vu lo hi sl Q I rx hs pl pu q
 ·exact h' ah s σ H x v vl vu lo hi sl Q I rx hs pl pu q
def QZ(r:V->Option Int->Option Int->Hp->VK->Prop)(te:TE)(tl th:TO):TE:=λσ H Q=>te σ H λx H1=>tl σ H1 λl H2=>th σ H2 λu H3=>r x l u H3 Q
theorem OP{r:V->Option Int->Option Int->Hp->VK->Prop}(hr:nD X r)(he:PE X e te)(hl:PO X lo tl)(hu:PO X hi th):PE X (.Subscript e (.Slice lo hi ae p2) pos) (QZ r te tl th):=by intro ah s σ H Q I h;refine Subscript_ (aW (he ah s σ H _ I h) λv s1 ⟨x,H1,I1,r1,q1⟩=>?_);refine wpAny_Slice (aW (hl ah s1 σ H1 _ I1 q1) λvl s2 ⟨l,H2,I2,pl,q2⟩=>aW (hu ah s2 σ H2 _ I2 q2) λvu s3 ⟨u,H3,I3,pu,q3⟩=>?_);rw[evalPart_none];refine aD ?_;have I4:Inv X ah σ H3 { s3 with heap:=s3.heap.push { cls:=.type "slice",data:=.fields #[vl,vu,.none] } }:=I3.kept (t':=s3.toks) λb ob q=>bK _ q;obtain⟨T,id,hT,ht,hg⟩:=hr ah { s3 with heap:=s3.heap.push { cls:=.type "slice",data:=.fields #[vl,vu,.none] } } σ H3 x v vl vu l u s3.heap.objs.size Q I4 r1 (Heap.IsSliceOf.new ..) pl pu q3;show ax (ay X.prog X.w) X.A (subscriptTail e (.Slice lo hi ae p2) v (.ref s3.heap.objs.size)) (EP X ah σ Q) X.xe { s3 with heap:=s3.heap.push { cls:=.type "slice",data:=.fields #[vl,vu,.none] } };exact tail_any (ops:=[.ref s3.heap.objs.size,v]) ht hT hg (by with_unfolding_all rfl)
def oR(xs:List V)(lo hi:Option Int):List V:=(xs.drop (HT.sIx xs.length 0 lo)).take (HT.sIx xs.length xs.length hi-HT.sIx xs.length 0 lo)
theorem ER(xs:List V)(lo hi:Option Int):(oR xs lo hi).length<=xs.length:=by unfold oR;rw[j5,j6];lia
def HF(K:az):V->Option Int->Option Int->Hp->VK->Prop:=λx lo hi H Q=>∃ a xs,x = .ref a/\dz K H a xs /\
 ¬ (HT.sIx xs.length 0 lo=0/\HT.sIx xs.length xs.length hi=xs.length)/\∀ p,H p=ae->Q (.ref p) (upd H p (.tup (oR xs lo hi)))
theorem NI:nD X (HF X.K):=by
 intro ah s σ H x v vl vu lo hi sl Q I rx hs pl pu h;obtain⟨a,xs,rfl,hx,hw,q⟩:=h;cases rx;obtain⟨its,r,ht,hz⟩:=I.tuple hx;have cb:its.toArray.size=xs.length:=by rw[dH]; exact r.length.symm
 refine⟨"tuple",_,PyProof.Rows.slot_tuple_getitem.lookup,ht.typeIs,?_⟩;refine HT.getItem_tuple_cut ht hs pl pu (by rw[cb]; exact hw) ?_ (by rw[cb]; exact hz);rw[cb];refine⟨.ref s.heap.objs.size,_,I.laid (t':=s.toks) (o:=.tup (oR xs lo hi)) (λb ob q=>bK _ q) (bo _) ?_,rfl,q _ (I.hok.fresh (bo _))⟩;exact⟨cL (ER xs lo hi) hz,_,(r.drop (HT.sIx xs.length 0 lo)).take (HT.sIx xs.length xs.length hi-HT.sIx xs.length 0 lo),Ju.new _ _⟩
def Fy(K:az):R2:=λx y H Q=>∃ a b xs ys,x = .ref a/\y = .ref b/\dz K H a xs/\dz K H b ys/\xs≠[]/\xs.length+ys.length<=bx /\
 (ys=[]->Q (.ref a) H)/\(ys≠[]->∀ p,H p=ae->Q (.ref p) (upd H p (.tup (xs++ys))))
theorem bJ.nil_iff{xs:List V}{us:List am}(r:bJ xs us):us=[]↔xs=[]:=by
 cases r with
 | nil=>simp
 | cons _ _=>simp
theorem UT:cx X (jI .Add) (Fy X.K):=by
 intro ah s σ H x y v u Q I rx ry h;obtain⟨a,b,xs,ys,rfl,rfl,ha,hb,hx,hz,q1,q2⟩:=h;cases rx;cases ry;obtain⟨its,r1,p1,_⟩:=I.tuple ha;obtain⟨its2,r2,p2,_⟩:=I.tuple hb;refine HT.cat_tup p1 p2 (λz=>hx (r1.nil_iff.mp z)) (λz=>⟨.ref a,H,I,rfl,q1 (r2.nil_iff.mp z)⟩) (λz=>?_) (by rw[← r1.length,← r2.length]; exact hz);refine⟨.ref s.heap.objs.size,_,I.laid (t':=s.toks) (o:=.tup (xs++ys)) (λb ob q=>bK _ q) (bo _) ?_,rfl,q2 (λw=>z (r2.nil_iff.mpr w)) _ (I.hok.fresh (bo _))⟩;exact⟨by rw[cZ]; exact hz,_,r1.append r2,Ju.new _ _⟩
end
def jv(n:Nat)(i:Int):Option Nat:=if 0<=i then(if i<n then aa i.toNat else ae)else if -(n:Int)<=i then aa (i+n).toNat else ae
def eh{α:Type}(xs:List α)(i:Int):Option α:=(jv xs.length i).bind λj=>xs[j]?
theorem Nb{n:Nat}{i:Int}{j:Nat}(h:jv n i=aa j):seqIndex? i n=aa j/\j<n/\-(n:Int)<=i/\i<n:=by
 unfold jv at h;by_cases h0:0<=i
 ·rw[if_pos h0]at h;by_cases h1:i<n
  ·rw[if_pos h1]at h;have e:i.toNat=j:=eQ h;exact⟨by rw[seqIndex_of h0 h1,e],∅,∅,h1⟩
  ·rw[if_neg h1]at h; cases h
 ·rw[if_neg h0]at h;by_cases h1 : -(n:Int)<=i
  ·rw[if_pos h1]at h;have e:(i+n).toNat=j:=eQ h;exact⟨by rw[seqIndex_neg ∅ h1,e],∅,h1,∅⟩
  ·rw[if_neg h1]at h; cases h
theorem Ap{α:Type}{xs:List α}{i:Int}{v:α}(h:eh xs i=aa v):∃ j,seqIndex? i xs.length=aa j/\xs[j]?=aa v/\j<xs.length/\-(xs.length:Int)<=i/\i<xs.length:=by
 unfold eh at h;cases e:jv xs.length i with
 | none=>rw[e]at h; cases h
 | some j=>rw[e]at h;obtain⟨h1,h2,h3,h4⟩:=Nb e;exact⟨j,h1,h,h2,h3,h4⟩
theorem Rb{α:Type}{xs:List α}{j:Nat}{v:α}(h:xs[j]?=aa v):eh xs (j:Int)=aa v:=by
 have hj:j<xs.length:=(eE.mp h).1;have e:jv xs.length (j:Int)=aa j:=by unfold jv;rw[if_pos ∅,if_pos ∅]; simp
 unfold eh; rw[e]; exact h
def Bi(b:aC):Prop:=∀ o i,CM b ao o i=operate [o,i] (qL o i)
def mn(X:Cx)(r:R2):Prop :=
 ∀ (value slice:aC) (ah:List (af×Obj)) (s:aq) (σ:St) (H:Hp) (x y:V) (v u:am) (Q:VK),Inv X ah σ H s->RelV x v->RelV y u->r x y H Q ->
  CM slice ao v u=operate [v,u] (qL v u)->ax (ay X.prog X.w) X.A (subscriptTail value slice v u) (EP X ah σ Q) X.xe s
def Cw(X:Cx)(id:String)(r:V->List V->Hp->VK->Prop):Prop :=
 ∀ (ah:List (af×Obj)) (s:aq) (σ:St) (H:Hp) (x:V) (xs:List V) (v:am) (us:List am) (Q:VK),Inv X ah σ H s->RelV x v->bJ xs us->r x xs H Q ->
  ax (ay X.prog X.w) X.A (call (.builtin id) (v::us)) (EP X ah σ Q) X.xe s
section
variable{X:Cx}{a b:aC}{ta tb:TE}{pos:Pos}
theorem mn.or{r r':R2}(h:mn X r)(h':mn X r'):mn X (λx y H Q=>r x y H Q\/r' x y H Q):=by
 intro value slice ah s σ H x y v u Q I rx ry q hs;rcases q with q | q
 ·exact h value slice ah s σ H x y v u Q I rx ry q hs
 ·exact h' value slice ah s σ H x y v u Q I rx ry q hs
theorem Gp{r:R2}(hr:mn X r)(ha:PE X a ta)(hb:PE X b tb)(hs:Bi b):PE X (.Subscript a b pos) (xu r ta tb):=by intro ah s σ H Q I h;exact Subscript_ (B6 ha hb I h λv u s2 x y H2 I2 rx ry q=>hr a b ah s2 σ H2 x y v u Q I2 rx ry q (hs _ _))
def Hr(K:az):R2:=λx y H Q=>∃ p xs i v,x = .ref p/\y = .int i/\cg K H p xs/\eh xs i=aa v/\Q v H
def Ef(K:az):R2:=λx y H Q=>∃ p xs i v,x = .ref p/\y = .int i/\dz K H p xs/\eh xs i=aa v/\Q v H
def Et:R2:=λx y H Q=>∃ z i c,x = .str z/\y = .int i/\z.length<=bx/\eh z.cps.toList i=aa c/\Q (.str ⟨#[c]⟩) H
theorem UW:mn X (Hr X.K):=by
 intro value slice ah s σ H x y v u Q I rx ry h hs;obtain⟨p,xs,i,z,rfl,rfl,hq,he,q⟩:=h;cases rx;obtain⟨t,rfl⟩:=ry;obtain⟨its,r,pl,hz⟩:=I.list hq;obtain⟨j,h1,h2,h3,h4,h5⟩:=Ap he;obtain⟨w,ew,rw'⟩:=r.get h2;have hl:=r.length;have hn:=xT;have fin:EP X ah σ Q w s:=⟨z,H,I,rw',q⟩
 by_cases h0:0<=i
 ·have hj:i.toNat=j:=by
   rw[seqIndex_of h0 h5]at h1;exact eQ h1
  exact item_listR pl.isList h0 ∅ (by rw[hj]; simpa using ew) fin hs
 ·have hj:(i+(its.toArray.size:Int)).toNat=j:=by
   rw[seqIndex_neg ∅ h4]at h1;rw[dH,← hl];exact eQ h1
  exact subscriptTail_builtinR (x:=w) pl.isList.typeIs slot_list_getitem.lookup
   (wpAny_getItem_list_neg (Q:=λr s'=>r=w/\EP X ah σ Q r s') pl.isList ∅ (by rw[dH] <;> lia) ∅ (by rw[hj]; simpa using ew) ⟨rfl,fin⟩) hs
theorem U1:mn X (Ef X.K):=by
 intro value slice ah s σ H x y v u Q I rx ry h hs;obtain⟨p,xs,i,z,rfl,rfl,hq,he,q⟩:=h;cases rx;obtain⟨t,rfl⟩:=ry;obtain⟨its,r,pl,hz⟩:=I.tuple hq;obtain⟨j,h1,h2,h3,h4,h5⟩:=Ap he;obtain⟨w,ew,rw'⟩:=r.get h2;have hl:=r.length;have hn:=xT;have fin:EP X ah σ Q w s:=⟨z,H,I,rw',q⟩
 exact subscriptTail_builtinR (x:=w) pl.typeIs slot_tuple_getitem.lookup
  (getItem_tuple (j:=j) (Q:=λr s'=>r=w/\EP X ah σ Q r s') pl ∅ ∅ (by rw[dH,← hl]; exact h1) (by simpa using ew) ⟨rfl,fin⟩) hs
theorem OM:mn X Et:=by
 intro value slice ah s σ H x y v u Q I rx ry h hs;obtain⟨z,i,c,rfl,rfl,hz,he,q⟩:=h;obtain⟨t,rfl⟩:=rx;obtain⟨t',rfl⟩:=ry;obtain⟨j,h1,h2,h3,h4,h5⟩:=Ap he;have hl:z.cps.toList.length=z.length:=by simp[Str.length]
 rw[hl]at h1 h4 h5;have hn:=xT;exact tail_any (typeIs_str s z t) slot_str_getitem.lookup (getItem_str (c:=c) (by have e1:decide (i < -(2 ^ 63:Int))=ao:=decide_eq_false ∅;have e2:decide (i ≥ 2 ^ 63)=ao:=decide_eq_false ∅;rw[e1,e2,Bool.or_false]) (by rw[h1]; simpa using h2) ⟨.str ⟨#[c]⟩,H,I.tok _,⟨_,rfl⟩,q⟩) hs
def Ii(K:az):R2:=λx y H Q=>Hr K x y H Q\/Ef K x y H Q\/Et x y H Q
theorem dZ:mn X (Ii X.K):=UW.or (U1.or OM)
theorem Inv.lst{ah:List (af×Obj)}{σ:St}{H:Hp}{s:aq}{p:af}{xs:List V}(I:Inv X ah σ H s)(h:H p=aa (.lst xs)) : ∃ (its:List am) (n:Nat),bJ xs its/\s.heap.get? p=aa { cls:=.type "list",data:=.seq its.toArray n }/\xs.length<=bx:=by obtain⟨z,its,n,r,e⟩:=I.hok p _ h;exact⟨its,n,r,e,z⟩
theorem P7(lo hi:Option Int)(n:Nat):(tw lo hi ae n).1=((HT.sIx n 0 lo:Nat):Int)/\(tw lo hi ae n).2.1=((HT.sIx n n hi:Nat):Int)/\(tw lo hi ae n).2.2=1:=by
 refine⟨?_,?_,rfl⟩
 ·cases lo with
  | none=>simp[tw,HT.sIx]
  | some i=>
   simp only[tw,HT.sIx,JF,show(1:Int) > 0 by decide,if_true];by_cases h:i<0
   ·simp only[h,if_true] <;> lia
   ·simp only[h,if_false] <;> lia
 ·cases hi with
  | none=>simp[tw,HT.sIx]
  | some i=>
   simp only[tw,HT.sIx,JF,show(1:Int) > 0 by decide,if_true];by_cases h:i<0
   ·simp only[h,if_true] <;> lia
   ·simp only[h,if_false] <;> lia
theorem LJ(its:List am)(lo hi:Option Int):slicePick its.toArray lo hi ae=((its.drop (HT.sIx its.length 0 lo)).take (HT.sIx its.length its.length hi-HT.sIx its.length 0 lo)).toArray:=by obtain⟨h1,h2,h3⟩:=P7 lo hi its.toArray.size;unfold slicePick;rw[h1,h2,h3];simp only[sliceRange_one,pick_run,dH] <;> rfl
def Gi(K:az):V->Option Int->Option Int->Hp->VK->Prop:=λx lo hi H Q=>∃ a xs,x = .ref a/\cg K H a xs/\∀ p,H p=ae->Q (.ref p) (upd H p (.lst (oR xs lo hi)))
theorem UN:nD X (Gi X.K):=by
 intro ah s σ H x v vl vu lo hi sl Q I rx hs pl pu h;obtain⟨a,xs,rfl,hx,q⟩:=h;cases rx;obtain⟨its,r,ht,hz⟩:=I.list hx;have cb:=r.length;refine⟨"list",_,slot_list_getitem.lookup,ht.isList.typeIs,?_⟩;refine wpAny_getItem_list_slice ht.isList hs pl pu .none (by simp) ?_ (by rw[dH] <;> lia);rw[LJ,← cb];refine⟨.ref s.heap.objs.size,_,I.laid (t':=s.toks) (o:=.lst (oR xs lo hi)) (λb ob q=>bK _ q) (bo _) ?_,rfl,q _ (I.hok.fresh (bo _))⟩;exact⟨cL (ER xs lo hi) hz,_,0,(r.drop (HT.sIx xs.length 0 lo)).take (HT.sIx xs.length xs.length hi-HT.sIx xs.length 0 lo),dG _ rfl⟩
def ku:V->Bool
 | .non=>ai
 | .bl _=>ai
 | .int _=>ai
 | .str _=>ai
 | _=>ao
def jX:V->V->Bool
 | .non,.non=>ai
 | .bl a,.bl b=>a == b
 | .bl a,.int b=>(if a then 1 else 0) == b
 | .int a,.bl b=>a == (if b then 1 else 0)
 | .int a,.int b=>a == b
 | .str a,.str b=>a == b
 | _,_=>ao
theorem Gm{A:be}{s:aq}{y x:V}{u v:am}(ry:RelV y u)(rx:RelV x v)(fy:ku y=ai)(fx:ku x=ai):zr A s u v (jX y x):=by
 cases y with
 | non=>
  cases ry;cases x with
  | non=>cases rx; exact SeqAt.EqAt.same _
  | bl b=>cases rx; exact SeqAt.EqAt.none_bool b
  | int b=>obtain⟨t,rfl⟩:=rx; exact SeqAt.EqAt.none_int b t
  | str b=>obtain⟨t,rfl⟩:=rx; exact SeqAt.EqAt.none_str b t
  | _=>exact absurd (show ao=ai from fx) gu
 | bl a=>
  cases ry;cases x with
  | non=>cases rx; exact SeqAt.EqAt.bool_none a
  | bl b=>cases rx; exact SeqAt.EqAt.bool_bool a b
  | int b=>obtain⟨t,rfl⟩:=rx; exact SeqAt.EqAt.bool_int a b t
  | str b=>obtain⟨t,rfl⟩:=rx; exact SeqAt.EqAt.bool_str a b t
  | _=>exact absurd (show ao=ai from fx) gu
 | int a=>
  obtain⟨t',rfl⟩:=ry;cases x with
  | non=>cases rx; exact SeqAt.EqAt.int_none a t'
  | bl b=>cases rx; exact SeqAt.EqAt.int_bool a t' b
  | int b=>obtain⟨t,rfl⟩:=rx; exact SeqAt.EqAt.int_int a t' b t
  | str b=>obtain⟨t,rfl⟩:=rx; exact SeqAt.EqAt.int_str a t' b t
  | _=>exact absurd (show ao=ai from fx) gu
 | str a=>
  obtain⟨t',rfl⟩:=ry;cases x with
  | non=>cases rx; exact SeqAt.EqAt.str_none a t'
  | bl b=>cases rx; exact SeqAt.EqAt.str_bool a t' b
  | int b=>obtain⟨t,rfl⟩:=rx; exact SeqAt.EqAt.str_int a t' b t
  | str b=>obtain⟨t,rfl⟩:=rx; exact SeqAt.EqAt.str_str a t' b t
  | _=>exact absurd (show ao=ai from fx) gu
 | _=>exact absurd (show ao=ai from fy) gu
def nM(x:V)(u:am):Bool:=match u with
 | .none=>jX .non x
 | .bool b=>jX (.bl b) x
 | .int i _=>jX (.int i) x
 | .str z _=>jX (.str z) x
 | _=>ao
theorem Fw{x y:V}{u:am}(r:RelV y u)(f:ku y=ai):nM x u=jX y x:=by
 cases y with
 | non=>cases r; rfl
 | bl b=>cases r; rfl
 | int i=>obtain⟨t,rfl⟩:=r; rfl
 | str z=>obtain⟨t,rfl⟩:=r; rfl
 | _=>exact absurd (show ao=ai from f) gu
theorem A5{x:V}:∀ {xs:List V} {us:List am},bJ xs us->xs.all ku=ai->us.any (nM x)=xs.any λy=>jX y x
 | _,_,.nil,_=>rfl
 | y::xs,u::us,.cons r t,f=>by rw[vR,iA]at f;rw[og,og,Fw r f.1,A5 t f.2]
theorem An{A:be}{s:aq}{x:V}{v:am}(rx:RelV x v)(fx:ku x=ai):∀ {xs:List V} {us:List am},bJ xs us->xs.all ku=ai->∀ u∈us,zr A s u v (nM x u)
 | _,_,.nil,_=>λu hu=>by cases hu
 | y::xs,u::us,.cons r t,f=>λu' hu=>by
  rw[vR,iA]at f;rcases ca.mp hu with rfl | hu
  ·rw[Fw r f.1]; exact Gm r rx f.1 fx
  ·exact An rx fx t f.2 u' hu
def uN(x:V)(xs:List V):Bool:=xs.any λy=>jX y x
def A4(K:az)(neg:Bool):R2:=λx y H Q=>∃ p xs,y = .ref p/\(cg K H p xs\/dz K H p xs)/\ku x=ai/\xs.all ku=ai/\Q (.bl (if neg then !uN x xs else uN x xs)) H
theorem Se:cx X (ft .In) (A4 X.K ao):=by
 intro ah s σ H x y v u Q I rx ry h;obtain⟨p,xs,rfl,hq,fx,fs,q⟩:=h;cases ry;rcases hq with hq | hq
 ·obtain⟨its,r,pl,hz⟩:=I.list hq;refine SeqAt.in_listAt (nM x) pl.isList (λw hw=>An rx fx r fs w (by simpa using hw)) ⟨.bl _,H,I,rfl,?_⟩;rw[show its.toArray.any (nM x)=its.any (nM x) by simp,A5 r fs];exact q
 ·obtain⟨its,r,pl,hz⟩:=I.tuple hq;refine SeqAt.in_tupleAt (nM x) pl (λw hw=>An rx fx r fs w (by simpa using hw)) ⟨.bl _,H,I,rfl,?_⟩;rw[show its.toArray.any (nM x)=its.any (nM x) by simp,A5 r fs];exact q
theorem TQ:im X (.type "list") (λxs H Q=>∃ p ys,xs=[.ref p]/\(cg X.K H p ys\/dz X.K H p ys)/\∀ l,H l=ae->Q (.ref l) (upd H l (.lst ys))):=by
 intro ah s σ H xs us Q I r h;obtain⟨p,ys,rfl,hq,q⟩:=h;obtain⟨u,rfl,rx⟩:=vals1 r;cases rx;have fin:∀ (its:List am),bJ ys its->ys.length<=bx->∀ (h':aF) (c':Nat),(∀ b o',s.heap.get? b=aa o'->h'.get? b=aa o') ->
   h'.get? s.heap.objs.size=aa { cls:=.type "list",dict:=ae,data:=.seq its.toArray c',slots:=#[] }->EP X ah σ Q (.ref s.heap.objs.size) { s with heap:=h' }:=λits r' hz h' c' kp e=>
  ⟨.ref s.heap.objs.size,_,I.laid (t':=s.toks) kp (bo _) (show ef X.prog X.w _ h' _ (.lst ys)from⟨hz,its,c',r',e⟩),rfl,q _ (I.hok.fresh (bo _))⟩
 rcases hq with hq | hq
 ·obtain⟨its,r',pl,hz⟩:=I.list hq;have cb:=r'.length;obtain⟨o,ho,hc,n,hd⟩:=pl.isList;exact call_list_seq p (.inl rfl) ho hc hd (λh' c' kp e=>fin its r' hz h' c' kp e) (by simp only[dH] <;> lia)
 ·obtain⟨its,r',pl,hz⟩:=I.tuple hq;have cb:=r'.length;obtain⟨o,ho,hc,n,hd⟩:=pl;exact call_list_seq p (.inr rfl) ho hc hd (λh' c' kp e=>fin its r' hz h' c' kp e) (by simp only[dH] <;> lia)
theorem RQ:im X (.type "tuple") (λxs H Q=>∃ p ys,xs=[.ref p]/\((cg X.K H p ys/\∀ l,H l=ae->Q (.ref l) (upd H l (.tup ys)))\/(dz X.K H p ys/\Q (.ref p) H))):=by
 intro ah s σ H xs us Q I r h;obtain⟨p,ys,rfl,h⟩:=h;obtain⟨u,rfl,rx⟩:=vals1 r;cases rx;rcases h with⟨hq,q⟩ | ⟨hq,q⟩
 ·obtain⟨its,r',pl,hz⟩:=I.list hq;have cb:=r'.length;refine call_tuple_list pl.isList (λh' kp=>?_) (by simp only[dH] <;> lia);have I1:Inv X ah σ H { s with heap:=h' }:=I.kept (t':=s.toks) kp;have I2:Inv X ah σ (upd H h'.objs.size (.tup ys)) { s with heap:=h'.push { cls:=.type "tuple",data:=.seq its.toArray } } :=I1.laid (t':=s.toks) (λb o e=>bK _ e) (bo _) (show ef X.prog X.w _ _ _ (.tup ys)from⟨hz,its,r',Ju.new _ _⟩);exact⟨.ref h'.objs.size,_,I2,rfl,q _ (I1.hok.fresh (bo _))⟩
 ·obtain⟨its,r',pl,hz⟩:=I.tuple hq;exact call_tuple_same pl ⟨.ref p,H,I,rfl,q⟩
def Cj(K:az)(T:String)(x:V)(H:Hp):Prop:=match x with
 | .str _=>T = "str"
 | .int _=>T = "int"
 | .ref p=>(T = "list"/\∃ xs,cg K H p xs)\/(T = "tuple"/\∃ o,K.lookup p=aa o/\o.cls = .type "tuple"/\o.dict=ae) \/
   (T = "dict"/\((∃ kvs,H p=aa (.dK kvs))\/∃ kvs,H p=aa (.dT kvs)))\/(T = "set"/\∃ S n,H p=aa (.set S n))
 | _=>False
theorem FE{ah:List (af×Obj)}{σ:St}{H:Hp}{s:aq}{T:String}{x:V}{v:am}(I:Inv X ah σ H s)(r:RelV x v)(ty:Cj X.K T x H) : s.TypeIs v T/\∀ a,v = .ref a->∃ ob,s.heap.get? a=aa ob/\ob.dict=ae:=by
 cases x with
 | str z=>
  obtain⟨t,rfl⟩:=r;cases (show T = "str" from ty);exact⟨typeIs_str s z t,λ_ e=>nomatch e⟩
 | int i=>
  obtain⟨t,rfl⟩:=r;cases (show T = "int" from ty);exact⟨typeIs_int s i t,λ_ e=>nomatch e⟩
 | ref p=>
  cases r;rcases ty with⟨rfl,xs,hq⟩ | ⟨rfl,o,hk,hc,hd⟩ | ⟨rfl,hk⟩ | ⟨rfl,S,n,hk⟩
  ·obtain⟨its,_,pl,_⟩:=I.list hq;refine⟨pl.isList.typeIs,λa e=>?_⟩;cases e;obtain⟨o,n,e,c,hd,_⟩:=pl;exact⟨o,e,hd⟩
  ·refine⟨⟨o,I.kIn p o hk,hc⟩,λa e=>?_⟩;cases e;exact⟨o,I.kIn _ o hk,hd⟩
  ·have z:∃ o,s.heap.get? p=aa o/\o.ExactDict:=by
    rcases hk with⟨kvs,hk⟩ | ⟨kvs,hk⟩
    ·obtain⟨_,_,_,_,o,_,_,e,ex,_⟩:=I.hok p _ hk;exact⟨o,e,ex⟩
    ·obtain⟨_,_,_,_,o,_,_,e,ex,_⟩:=I.hok p _ hk;exact⟨o,e,ex⟩
   obtain⟨o,e,ex⟩:=z;refine⟨⟨o,e,ex.1⟩,λa e2=>?_⟩;cases e2;exact⟨o,e,ex.2.1⟩
  ·obtain⟨o,_,_,_,e,ex,_⟩:=I.hok p _ hk;refine⟨⟨o,e,ex.1⟩,λa e2=>?_⟩;cases e2;exact⟨o,e,ex.2.1⟩
 | _=>exact kB ty
def Ra(K:az)(T:String)(r:V->List V->Hp->VK->Prop)(to:TE):TE:=λσ H Q=>to σ H λx H1=>Cj K T x H1/\r x [] H1 Q
def MU(K:az)(T:String)(r:V->List V->Hp->VK->Prop)(to:TE)(t:TA):TE:=λσ H Q=>to σ H λx H1=>Cj K T x H1/\t σ H1 λxs H2=>r x xs H2 Q
variable{o e:aC}{es:List aC}{to:TE}{t:TA}{name:Str}{apos cpos:Pos}{T id:String}{r:V->List V->Hp->VK->Prop}
theorem MY(pa:PlainAttrs T)(slot:Slot T name id)(t6:typeOf (.builtin id)=pure (.type "method_descriptor"))(hm:Cw X id r)(ho:PE X o to)(wj:tz o name X.env (bz o X.env)=bz o X.env:=by rfl) (wl:(apos.endLine == cpos.line)=ai:=by rfl):PE X (.Call (.Attribute o name apos) [] [] cpos) (Ra X.K T r to):=by intro ah s σ H Q I h;refine wpAny_Call_method0_late wj wl (aW (ho ah s σ H _ I h) λv s1 ⟨x,H1,I1,r1,ty,q1⟩=>?_);obtain⟨h1,h2⟩:=FE I1 r1 ty;exact⟨T,id,pa,slot,t6,h1,h2,JG rfl (PySem.evalArgs_none (hm ah s1 σ H1 x [] v [] Q I1 r1 .nil q1))⟩
theorem Ij(pa:PlainAttrs T)(slot:Slot T name id)(t6:typeOf (.builtin id)=pure (.type "method_descriptor"))(hm:Cw X id r)(ho:PE X o to)(ha:PA X (e::es) t)(wj:tz o name X.env (bz o X.env)=bz o X.env:=by rfl)(Kr:((f7 cpos (bu (e::es) X.env)).all (λx=>!x.1) && (backToKw cpos (CN [] X.env)).all (λx=>x.1.isSome) && decide ((e::es).length+([]:List qM).length+(if([]:List qM).isEmpty then 0 else 1)<30))=ai:=by rfl)(wl:(apos.endLine == cpos.line)=ai:=by rfl) (hs:bu (e::es) X.env=(ao,bz e X.env)::bu es X.env:=by rfl) (zT:(f7 cpos (bu es X.env)).any (·.1)=ao:=by rfl) : PE X (.Call (.Attribute o name apos) (e::es) [] cpos) (MU X.K T r to t):=by intro ah s σ H Q I h;refine wpAny_Call_method_late wj Kr wl rfl (aW (ho ah s σ H _ I h) λv s1 ⟨x,H1,I1,r1,ty,q1⟩=>?_);obtain⟨h1,h2⟩:=FE I1 r1 ty;refine⟨T,id,pa,slot,t6,h1,h2,?_⟩;have hA:=ha cpos ah s1 σ H1 _ I1 q1;rw[hs]at hA ⊢;refine JG (by show(ao || (f7 cpos (bu es X.env)).any (·.1))=ao; rw[zT] <;> rfl) (JH ?_);exact aW hA λus s2 ⟨vs,H2,I2,r2,q2⟩=>hm ah s2 σ H2 x vs v us Q I2 r1 r2 q2
end
def Jr(X:Cx)(id:String)(r:V->List V->Hp->VK->Prop):Prop :=
 ∀ (ah:List (af×Obj)) (s:aq) (σ:St) (H:Hp) (x:V) (xs:List V) (v:am) (us:List am) (Q:VK),Inv X ah σ H s->RelV x v->bJ xs us->r x xs H Q ->
  ax (ay X.prog X.w) X.A (call (.builtin id) (v::us)) (EP X ah σ Q) X.xe s
theorem bJ.one:∀ {x:V} {us:List am},bJ [x] us->∃ u,us=[u]/\RelV x u
 | _,_,.cons r .nil=>⟨_,rfl,r⟩
theorem bJ.two:∀ {x y:V} {us:List am},bJ [x,y] us->∃ u v,us=[u,v]/\RelV x u/\RelV y v
 | _,_,_,.cons r (.cons q .nil)=>⟨_,_,rfl,r,q⟩
theorem bJ.zero:∀ {us:List am},bJ [] us->us=[]
 | _,.nil=>rfl
theorem bJ.dropLast{xs:List V}{us:List am}(h:bJ xs us):bJ xs.dropLast us.dropLast:=by
 induction h with
 | nil=>exact .nil
 | cons r t ih=>
  cases t with
  | nil=>exact .nil
  | cons q t'=>exact .cons r ih
theorem bJ.eraseIdx:∀ {xs:List V} {us:List am} (i:Nat),bJ xs us->bJ (xs.eraseIdx i) (us.eraseIdx i)
 | _,_,_,.nil=>.nil
 | _,_,0,.cons _ t=>t
 | _,_,i+1,.cons r t=>.cons r (bJ.eraseIdx i t)
theorem bJ.reverse{xs:List V}{us:List am}(h:bJ xs us):bJ xs.reverse us.reverse:=by
 induction h with
 | nil=>exact .nil
 | cons r t ih=>rw[List.reverse_cons,List.reverse_cons]; exact bJ.append ih (.cons r .nil)
section
variable{X:Cx}{ah:List (af×Obj)}{σ:St}{H:Hp}{s:aq}{l b:af}{xs ys zs:List V}
theorem Inv.lset{its its':List am}{n:Nat}{f:Array am->Array am}{t':Nat}(I:Inv X ah σ H s)(hH:H l=aa (.lst xs))(e:s.heap.get? l=aa { cls:=.type "list",data:=.seq its.toArray n }) (hf:f its.toArray=its'.toArray) (hv:bJ ys its') (hz:ys.length<=bx) : Inv X ah σ (upd H l (.lst ys)) { s with heap:=s.heap.update l (pC f),toks:=t' }:=by have q:=PySem.IsL.update e f;rw[hf]at q;refine I.write (x:=l) (e:=l) (by rw[hH]; exact trivial) (.inl rfl) (λb' u hb hu=>(tD s.heap (pC f) (g8 hb)).trans hu) ⟨_,q⟩ ?_;exact⟨hz,its',_,hv,q⟩
theorem Inv.lnew{its:List am}{t':Nat}(I:Inv X ah σ H s)(hv:bJ ys its)(hz:ys.length<=bx) : Inv X ah σ (upd H s.heap.objs.size (.lst ys)) { s with heap:=s.heap.push { cls:=.type "list",data:=.seq its.toArray },toks:=t' } :=I.laid (λ_ _ q=>bK _ q) (bo _) ⟨hz,its,0,hv,dG _ rfl⟩
theorem Inv.fresh(I:Inv X ah σ H s):H s.heap.objs.size=ae:=I.hok.fresh (bo _)
theorem Inv.lstM(I:Inv X ah σ H s)(hH:H l=aa (.lst xs)):xs.length<=bx/\∃ (its:List am) (n:Nat),bJ xs its/\xs.length=its.length/\s.heap.get? l=aa { cls:=.type "list",data:=.seq its.toArray n }:=by obtain⟨z,its,n,r,e⟩:=I.hok l _ hH;exact⟨z,its,n,r,r.length,e⟩
theorem Rt{n:Nat}(h:n<=bx):JI n=ao:=by unfold JI;exact decide_eq_false ∅
end
section
variable{X:Cx}
def Pq:V->List V->Hp->VK->Prop:=λx vs H Q=>∃ l xs y,x = .ref l/\vs=[y]/\H l=aa (.lst xs)/\xs.length<bx/\Q .non (upd H l (.lst (xs++[y])))
theorem Bh:Jr X "list.append" Pq:=by
 intro ah s σ H x vs v us Q I rx rv h;obtain⟨l,xs,y,rfl,rfl,hH,hz,q⟩:=h;cases rx;obtain⟨u,rfl,ru⟩:=rv.one;obtain⟨z,its,n,r,hl,e⟩:=I.lstM hH;refine call_meets F.slot_list_append ⟨_,e,rfl⟩ F.entry_list_append (F.args_list_append_2 _ _) (PySem.list_append l its.toArray n u (by rw[dH]; lia)) ⟨e,?_⟩;refine⟨.non,_,I.lset (its':=its++[u]) hH e (by simp) (r.append (.cons ru .nil)) ?_,rfl,q⟩;rw[cZ,pD];lia
theorem OS{α:Type}(xs:List α)(k:Nat):(bH k xs).flatten.length=k * xs.length:=by
 induction k with
 | zero=>simp
 | succ k ih=>rw[CO,JJ,cZ,ih,Nat.succ_mul,Nat.add_comm]
end
section
variable{κ:Type}[DecidableEq κ]
def iP(kvs:List (κ×V))(k:κ):Option V:=(kvs.find? λkv=>decide (kv.1=k)).map (·.2)
def gX(kvs:List (κ×V))(k:κ)(v:V):List (κ×V) :=if(kvs.any λkv=>decide (kv.1=k))=ai then kvs.map (λkv=>if kv.1=k then(kv.1,v)else kv)else kvs++[(k,v)]
def Eg(kvs:List (κ×V))(k:κ):List (κ×V):=kvs.filter λkv=>decide (kv.1≠k)
theorem vd{p:κ×V}{r:List (κ×V)}{k:κ}(e:p.1=k):iP (p::r) k=aa p.2:=by simp[iP,fX,e]
theorem uL{p:κ×V}{r:List (κ×V)}{k:κ}(e:¬ p.1=k):iP (p::r) k=iP r k:=by simp[iP,fX,e]
theorem Fq(k:κ):∀ kvs:List (κ×V),(kvs.any λkv=>decide (kv.1=k))=(iP kvs k).isSome
 | []=>rfl
 | p::r=>by
  rw[og];by_cases e:p.1=k
  ·simp only[vd e,decide_eq_true e,Bool.true_or,Option.isSome_some]
  ·rw[uL e,decide_eq_false e,Bool.false_or]; exact Fq k r
theorem Cg(kvs:List (κ×V))(k:κ)(v:V):(gX kvs k v).length<=kvs.length+1:=by
 unfold gX;split
 ·rw[cD]; lia
 ·rw[cZ,eI,tE]; lia
theorem pi.isSome_eq{o:Option V}{u:Option am}(r:pi o u):o.isSome=u.isSome:=by
 cases o with
 | none=>cases u with
  | none=>rfl
  | some _=>exact(show False from r).elim
 | some _=>cases u with
  | none=>exact(show False from r).elim
  | some _=>rfl
theorem pi.getD{o:Option V}{u:Option am}{d:V}{d':am}(r:pi o u)(rd:RelV d d'):RelV (o.getD d) (u.getD d'):=by
 cases o with
 | none=>cases u with
  | none=>exact rd
  | some _=>exact(show False from r).elim
 | some _=>cases u with
  | none=>exact(show False from r).elim
  | some _=>exact r
theorem KV.val{kvs:List (κ×V)}{vs:List (κ×am)}(r:KV kvs vs)(k:κ):pi (iP kvs k) (pE vs k):=by
 unfold KV at r
 induction r with
 | nil=>exact True.intro
 | @cons p q ps qs h t ih=>
  obtain⟨h1,h2⟩:=h;by_cases e:p.1=k
  ·have e':q.1=k:=h1.symm.trans e;have b:pE (q::qs) k=aa q.2:=by simp[pE,fX,e']
   rw[vd e,b]; exact h2
  ·have e':¬ q.1=k:=λz=>e (h1.trans z);have b:pE (q::qs) k=pE qs k:=by simp[pE,fX,e']
   rw[uL e,b]; exact ih
theorem KV.any{kvs:List (κ×V)}{vs:List (κ×am)}(r:KV kvs vs)(k:κ):(kvs.any λkv=>decide (kv.1=k))=vs.any λkv=>decide (kv.1=k):=by
 unfold KV at r
 induction r with
 | nil=>rfl
 | cons h t ih=>rw[og,og,ih,h.1]
theorem KV.repl{kvs:List (κ×V)}{vs:List (κ×am)}(r:KV kvs vs)(k:κ){y:V}{u:am}(ry:RelV y u) : KV (kvs.map λkv=>if kv.1=k then(kv.1,y)else kv) (vs.map λkv=>if kv.1=k then(kv.1,u)else kv):=by
 unfold KV at r ⊢
 induction r with
 | nil=>exact .nil
 | @cons p q ps qs h t ih=>
  rw[eC,eC];refine .cons ?_ ih;obtain⟨h1,h2⟩:=h;by_cases e:p.1=k
  ·rw[if_pos e,if_pos (h1.symm.trans e)]; exact⟨h1,ry⟩
  ·rw[if_neg e,if_neg (λz=>e (h1.trans z))]; exact⟨h1,h2⟩
theorem KV.put{kvs:List (κ×V)}{vs:List (κ×am)}(r:KV kvs vs)(k:κ){y:V}{u:am}(ry:RelV y u):KV (gX kvs k y) (stored vs k u):=by
 unfold gX stored;rw[r.any k];by_cases e:(vs.any λkv=>decide (kv.1=k))=ai
 ·rw[if_pos e,if_pos e]; exact r.repl k ry
 ·rw[if_neg e,if_neg e]; exact CP r ⟨rfl,ry⟩
theorem KV.drop{kvs:List (κ×V)}{vs:List (κ×am)}(r:KV kvs vs)(k:κ):KV (Eg kvs k) (without vs k):=by
 unfold KV at r ⊢;unfold Eg without
 induction r with
 | nil=>exact .nil
 | @cons p q ps qs h t ih=>
  obtain⟨h1,h2⟩:=h;rw[pF,pF];by_cases e:p.1=k
  ·have a:¬ decide (p.1≠k)=ai:=by simp[e]
   have b:¬ decide (q.1≠k)=ai:=by simp[h1.symm.trans e]
   rw[if_neg a,if_neg b]; exact ih
  ·have e':¬ q.1=k:=λz=>e (h1.trans z);have a:decide (p.1≠k)=ai:=by simp[e]
   have b:decide (q.1≠k)=ai:=by simp[e']
   rw[if_pos a,if_pos b]; exact .cons ⟨h1,h2⟩ ih
theorem KV.keys{kvs:List (κ×V)}{vs:List (κ×am)}(r:KV kvs vs):kvs.map (·.1)=vs.map (·.1):=by
 unfold KV at r
 induction r with
 | nil=>rfl
 | cons h t ih=>rw[eC,eC,ih,h.1]
theorem KV.length{kvs:List (κ×V)}{vs:List (κ×am)}(r:KV kvs vs):kvs.length=vs.length:=Paired.length r
end
theorem ph{P:aX}{w:aN}{k:aJ}{u:am}(r:RelV (kV k) u):(gI P w).is k u=ai:=by
 cases k with
 | inl i=>obtain⟨t,e⟩:=(show ∃ t,u=Value.int i t from r); subst e; exact K2 P w i t
 | inr x=>obtain⟨t,e⟩:=(show ∃ t,u=Value.str x t from r); subst e; exact Nf P w x t
theorem Fd{P:aX}{w:aN}:∀ {ks:List aJ} {us:List am},bJ (ks.map kV) us->ItemsAre (gI P w) ks us
 | [],_,r=>by rw[vS]at r; cases r; exact .nil
 | k::ks,_,r=>by
  rw[eC]at r;cases r with
  | cons h t=>exact .cons (ph h) (Fd t)
abbrev KT(H:Hp):List (List aJ×V)->List (List aJ×af×am)->Prop:=nX λp q=>p.1=q.1/\H q.2.1=aa (.tup (p.1.map kV))/\RelV p.2 q.2.2
theorem KT.val{H:Hp}{kvs:List (List aJ×V)}{xs:List (List aJ×af×am)}(r:KT H kvs xs)(k:List aJ):pi (iP kvs k) ((atKey xs k).map (·.2)):=by
 induction r with
 | nil=>exact True.intro
 | @cons p q ps qs h t ih=>
  obtain⟨h1,_,h2⟩:=h;by_cases e:p.1=k
  ·have e':q.1=k:=h1.symm.trans e;have b:atKey (q::qs) k=aa q.2:=by simp[atKey,fX,e']
   rw[vd e,b]; exact h2
  ·have e':¬ q.1=k:=λz=>e (h1.trans z);have b:atKey (q::qs) k=atKey qs k:=by simp[atKey,fX,e']
   rw[uL e,b]; exact ih
theorem KT.repl{H:Hp}{kvs:List (List aJ×V)}{xs:List (List aJ×af×am)}(r:KT H kvs xs)(k:List aJ){y:V}{u:am}(ry:RelV y u) : KT H (kvs.map λkv=>if kv.1=k then(kv.1,y)else kv) (xs.map (putAt k u)):=by
 induction r with
 | nil=>exact .nil
 | @cons p q ps qs h t ih=>
  rw[eC,eC];refine .cons ?_ ih;obtain⟨h1,h2,h3⟩:=h;unfold putAt;by_cases e:p.1=k
  ·rw[if_pos e,if_pos (h1.symm.trans e)]; exact⟨h1,h2,ry⟩
  ·rw[if_neg e,if_neg (λz=>e (h1.trans z))]; exact⟨h1,h2,h3⟩
theorem KT.put{H:Hp}{kvs:List (List aJ×V)}{xs:List (List aJ×af×am)}(r:KT H kvs xs)(k:List aJ){b:af}{y:V}{u:am}(hb:H b=aa (.tup (k.map kV)))(ry:RelV y u) : KT H (gX kvs k y) (storedH xs k b u):=by
 have e:(kvs.any λkv=>decide (kv.1=k))=(atKey xs k).isSome:=by rw[Fq,(r.val k).isSome_eq,CQ]
 unfold gX storedH;rw[e];by_cases q:(atKey xs k).isSome=ai
 ·rw[if_pos q,if_pos q]; exact r.repl k ry
 ·rw[if_neg q,if_neg q]; exact CP r ⟨rfl,hb,ry⟩
theorem KT.keeps{H H':Hp}{kvs:List (List aJ×V)}{xs:List (List aJ×af×am)}(r:KT H kvs xs)(ht:∀ b ys,H b=aa (.tup ys)->H' b=aa (.tup ys)):KT H' kvs xs :=Paired.mapP r λ_ _ z=>⟨z.1,ht _ _ z.2.1,z.2.2⟩
section
variable{P:aX}{w:aN}{H:Hp}{h:aF}{a:af}
theorem HN{u:HO}(ok:eD P w H h)(e:Rd H a u):ef P w H h a u:=e.ok ok
theorem qH{kvs:List (aJ×V)}(ok:eD P w H h)(e:Rd H a (.dK kvs)):kvs.length<=bx/\(a == nY)=ao/\∃ vs,KV kvs vs/\h.DictOf (gI P w) a vs :=show ef P w H h a (.dK kvs)from HN ok e
theorem yB{kvs:List (aJ×V)}(ok:eD P w H h)(e:H a=aa (.dK kvs)):kvs.length<=bx/\(a == nY)=ao/\∃ vs,KV kvs vs/\h.DictOf (gI P w) a vs:=qH ok (.inl e)
theorem sI{ks:List aJ}(ok:eD P w H h)(e:H a=aa (.tup (ks.map kV))):(vI (gI P w)).is h ks a:=by
 obtain⟨_,its,r,⟨o,h1,h2,n,h3⟩,_⟩:=(show ef P w H h a (.tup (ks.map kV))from ok a _ e)
 exact⟨o,its.toArray,n,h1,h2,h3,by simpa using Fd r⟩
theorem qz{kvs:List (List aJ×V)}(ok:eD P w H h)(e:Rd H a (.dT kvs)):kvs.length<=bx/\(a == nY)=ao /\ ∃ xs,KT H kvs xs/\h.DictOfH (vI (gI P w)) a xs:=by
 obtain⟨z,y,xs,r,o,es,ep,h1,h2,h3,h4,h5⟩:=(show ef P w H h a (.dT kvs)from HN ok e)
 refine⟨z,y,xs,r,o,es,ep,h1,h2,h3,h4,λx hx=>?_,h5⟩;have all:∀ {l:List (List aJ×V)} {m:List (List aJ×af×am)},KT H l m->∀ x∈m,(vI (gI P w)).is h x.1 x.2.1:=by
  intro l m q
  induction q with
  | nil=>intro x hx; exact nomatch hx
  | @cons p q ps qs hq t ih=>
   intro x hx;rcases ca.mp hx with e | hx
   ·subst e;exact sI ok (by rw[← hq.1]; exact hq.2.1)
   ·exact ih x hx
 exact all r x hx
theorem Ll{kvs:List (List aJ×V)}(ok:eD P w H h)(e:H a=aa (.dT kvs)):kvs.length<=bx/\(a == nY)=ao /\ ∃ xs,KT H kvs xs/\h.DictOfH (vI (gI P w)) a xs:=qz ok (.inl e)
end
def kR(H:Hp)(a:af)(y:V)(r:Option V):Prop :=(∃ kvs k,Rd H a (.dK kvs)/\y=kV k/\r=iP kvs k)\/∃ kvs k b,Rd H a (.dT kvs)/\y = .ref b/\H b=aa (.tup (k.map kV))/\r=iP kvs k
def zj(H:Hp)(a:af)(y v:V)(H':Hp):Prop :=
 (∃ kvs k,H a=aa (.dK kvs)/\y=kV k/\kvs.length<bx/\H'=upd H a (.dK (gX kvs k v))) \/
 ∃ kvs k b,H a=aa (.dT kvs)/\y = .ref b/\H b=aa (.tup (k.map kV))/\kvs.length<bx/\H'=upd H a (.dT (gX kvs k v))
theorem kR.k{H:Hp}{a:af}{kvs:List (aJ×V)}{k:aJ}(e:H a=aa (.dK kvs)):kR H a (kV k) (iP kvs k):=.inl ⟨kvs,k,.inl e,rfl,rfl⟩
theorem kR.t{H:Hp}{a b:af}{kvs:List (List aJ×V)}{k:List aJ}(e:H a=aa (.dT kvs))(eb:H b=aa (.tup (k.map kV))):kR H a (.ref b) (iP kvs k):=.inr ⟨kvs,k,b,.inl e,rfl,eb,rfl⟩
theorem zj.k{H:Hp}{a:af}{kvs:List (aJ×V)}{k:aJ}{v:V}(e:H a=aa (.dK kvs))(hl:kvs.length<bx):zj H a (kV k) v (upd H a (.dK (gX kvs k v))):=.inl ⟨kvs,k,e,rfl,hl,rfl⟩
theorem zj.t{H:Hp}{a b:af}{kvs:List (List aJ×V)}{k:List aJ}{v:V}(e:H a=aa (.dT kvs))(eb:H b=aa (.tup (k.map kV)))(hl:kvs.length<bx) : zj H a (.ref b) v (upd H a (.dT (gX kvs k v))):=.inr ⟨kvs,k,b,e,rfl,eb,hl,rfl⟩
section
variable{X:Cx}{ah:List (af×Obj)}{σ:St}{H:Hp}{s:aq}{a:af}{y v:V}{u r:am}{o:Option V}{A:be}{E:am->aq->Prop}
theorem Inv.big(I:Inv X ah σ H s):nY<s.heap.objs.size:=by have h:cG<s.heap.objs.size:=(I.mod.glob.keeps I.bk).lt;exact oh (by decide) h
theorem OH{Q:am->aq->Prop}(hu:A.units+1<cLine)(I:Inv X ah σ H s)(g:kR H a y (aa v))(ry:RelV y u)(h:∀ w' s',Inv X ah σ H s'->RelV v w'->Q w' s') : ax (ay X.prog X.w) A (qL (.ref a) u) Q E s:=by
 rcases g with⟨kvs,k,e,ey,l⟩ | ⟨kvs,k,b,e,ey,eb,l⟩
 ·subst ey;obtain⟨z,hd,vs,rel,dd⟩:=qH I.hok e;obtain⟨w',hw,rw'⟩:=pi.some_of (v:=v) (o:=pE vs k) (by rw[l]; exact rel.val k);exact wpAny_getItem_of (ph ry) dd.mapOf hw (h w' _ (I.tok _) rw')
 ·subst ey;cases (show u=Value.ref b from ry);obtain⟨z,hd,xs,rel,dd⟩:=qz I.hok e;obtain⟨w',hw,rw'⟩:=pi.some_of (v:=v) (o:=(atKey xs k).map (·.2)) (by rw[l]; exact rel.val k);obtain⟨p,hp,fH⟩:=tF.mp hw;refine wpAny_getItem_heap (zt hu) (sI I.hok eb) dd hp ?_;rw[fH];exact h w' _ (I.tok _) rw'
theorem TN{Q:am->aq->Prop}(hu:A.units+1<cLine)(I:Inv X ah σ H s)(g:kR H a y o)(ry:RelV y u)(h:∀ s',Inv X ah σ H s'->Q (.bool o.isSome) s') : ax (ay X.prog X.w) A (ft .In u (.ref a)) Q E s:=by
 rcases g with⟨kvs,k,e,ey,l⟩ | ⟨kvs,k,b,e,ey,eb,l⟩
 ·subst ey;obtain⟨z,hd,vs,rel,dd⟩:=qH I.hok e;refine wpAny_in_of (ph ry) hd dd.mapOf ?_;rw[← (rel.val k).isSome_eq,← l];exact h _ (I.tok _)
 ·subst ey;cases (show u=Value.ref b from ry);obtain⟨z,hd,xs,rel,dd⟩:=qz I.hok e;refine wpAny_in_heap (zt hu) (sI I.hok eb) hd dd ?_;have q:=(rel.val k).isSome_eq;rw[CQ]at q;rw[← q,← l];exact h _ (I.tok _)
theorem Rp{Q:am->aq->Prop}(hu:A.units+1<cLine)(I:Inv X ah σ H s)(g:kR H a y o)(ry:RelV y u)(h:∀ s',Inv X ah σ H s'->Q (.bool (!o.isSome)) s') : ax (ay X.prog X.w) A (ft .NotIn u (.ref a)) Q E s:=by
 rcases g with⟨kvs,k,e,ey,l⟩ | ⟨kvs,k,b,e,ey,eb,l⟩
 ·subst ey;obtain⟨z,hd,vs,rel,dd⟩:=qH I.hok e;refine wpAny_notIn_of (ph ry) hd dd.mapOf ?_;rw[← (rel.val k).isSome_eq,← l];exact h _ (I.tok _)
 ·subst ey;cases (show u=Value.ref b from ry);obtain⟨z,hd,xs,rel,dd⟩:=qz I.hok e;refine wpAny_notIn_heap (zt hu) (sI I.hok eb) hd dd ?_;have q:=(rel.val k).isSome_eq;rw[CQ]at q;rw[← q,← l];exact h _ (I.tok _)
theorem Ai{h':aF}{t':Nat}{ob:HO}(I:Inv X ah σ H s)(mu:uH (H a))(hs:jf a s.heap h')(he:∃ q,h'.get? a=aa q)(new:ef X.prog X.w (upd H a ob) h' a ob) : Inv X ah σ (upd H a ob) { s with heap:=h',toks:=t' } :=I.write (x:=a) (e:=a) mu (.inl rfl) (λb q hb z=>(hs.2 b hb).trans z) he new
theorem Ey{P:aX}{w:aN}{H':Hp}{h':aF}{kvs:List (aJ×V)}{vs:List (aJ×am)}(z:kvs.length<=bx)(hd:(a == nY)=ao)(rel:KV kvs vs)(dd:h'.DictOf (gI P w) a vs) : ef P w H' h' a (.dK kvs):=⟨z,hd,vs,rel,dd⟩
theorem Np{H':Hp}{Q:Unit->aq->Prop}(hu:A.units+1<cLine)(I:Inv X ah σ H s)(g:zj H a y v H')(ry:RelV y u)(rv:RelV v r)(h:∀ s',Inv X ah σ H' s'->Q () s') : ax (ay X.prog X.w) A (setItem (.ref a) u r) Q E s:=by
 rcases g with⟨kvs,k,e,ey,l,eH⟩ | ⟨kvs,k,b,e,ey,eb,l,eH⟩
 ·subst ey eH;obtain⟨z,hd,vs,rel,dd⟩:=yB I.hok e;have hz:vs.length<=bx:=by rw[← rel.length]; exact z
  have hl:(gX kvs k v).length<=bx:=by have:=Cg kvs k v; lia
  refine wpAny_setItem_pairs (hsz:=hz) (ph ry) dd λh' dd' hs=>h _ ?_;have he:∃ q,h'.get? a=aa q:=let ⟨q,_,_,hq,_⟩:=dd'; ⟨q,hq⟩
  exact Ai I (by rw[e]; exact True.intro) hs he (Ey hl hd (rel.put k rv) dd')
 ·subst ey eH;cases (show u=Value.ref b from ry);obtain⟨z,hd,xs,rel,dd⟩:=Ll I.hok e;have hz:xs.length<=bx:=by rw[← Paired.length rel]; exact z
  have hl:(gX kvs k v).length<=bx:=by have:=Cg kvs k v; lia
  refine wpAny_setItem_heap (hsz:=hz) (zt hu) (sI I.hok eb) dd λh' dd' hs=>h _ ?_;obtain⟨q,es,ep,hq,h2,h3,h4,_,h5⟩:=dd';refine Ai I (by rw[e]; exact True.intro) hs ⟨q,hq⟩ ⟨hl,hd,_,(rel.put k eb rv).keeps λc ys ec=>?_,q,es,ep,hq,h2,h3,h4,h5⟩;rw[cu (Lc ec e (λz=>nomatch z))];exact ec
end
def Bd(i:aC):Prop:=∀ ov iv,CM i ao ov iv=operate [ov,iv] (qL ov iv)
theorem IN{prog:aX}{w:aN}{A:be}{E:am->aq->Prop}{s:aq}{env:Env}{value slice:aC}{pos:Pos}{T id:String}{Q:am->aq->Prop}(hl:typeLookup (.type T) "__getitem__" = pure (aa (.builtin id))) (hs:Bd slice)(h:ax (ay prog w) A (bz value env) (λo s₁=>ax (ay prog w) A (bz slice env) (λi s₂=>s₂.TypeIs o T/\ax (ay prog w) A (qL o i) Q E s₂) E s₁) E s) : ax (ay prog w) A (bz (.Subscript value slice pos) env) Q E s:=by
 refine Subscript_ (d_ h (λo s₁ h₁=>d_ h₁ (λi s₂ h₂=>?_) λ_ _ x=>x) λ_ _ x=>x);obtain⟨hT,h₂⟩:=h₂;unfold subscriptTail;refine ar ?_;rw[getitemInPython_of_ne hT.not_modules];refine ar (wpAny_specialOf hT hl ?_);have fin:ax (ay prog w) A (CM slice ao o i) (λr s₃=>ax (ay prog w) A (letTemporaryGo value o r >>= λ_=>pure r) Q E s₃) E s₂:=by rw[hs o i];exact wpAny_operating (d_ h₂ (λr s₃ h₃=>ar (wpAny_letTemporaryGo (aD h₃))) λ_ _ x=>x)
 first
  | exact aD (ar fin)
  | exact ar (aD (ar fin))
  | exact ar fin
theorem Ow{X:Cx}{ah:List (af×Obj)}{σ:St}{H:Hp}{s:aq}{a:af}{y:V}{o:Option V}(I:Inv X ah σ H s)(g:kR H a y o):s.TypeIs (.ref a) "dict":=by
 rcases g with⟨kvs,k,e,_,_⟩ | ⟨kvs,k,b,e,_,_,_⟩
 ·obtain⟨_,_,vs,_,dd⟩:=qH I.hok e;exact dd.typeIs
 ·obtain⟨_,_,xs,_,dd⟩:=qz I.hok e;exact dd.typeIs
def MV(td ty:TE):TE:=λσ H Q=>td σ H λx H1=>ty σ H1 λy H2=>∃ a v,x = .ref a/\kR H2 a y (aa v)/\Q v H2
def Tc(ty td:TE):TE:=λσ H Q=>ty σ H λy H1=>td σ H1 λx H2=>∃ a o,x = .ref a/\kR H2 a y o/\Q (.bl o.isSome) H2
def MN(ty td:TE):TE:=λσ H Q=>ty σ H λy H1=>td σ H1 λx H2=>∃ a o,x = .ref a/\kR H2 a y o/\Q (.bl (!o.isSome)) H2
def MK(td ty tv:TE):TS:=λD σ H=>tv σ H λv H1=>td σ H1 λx H2=>ty σ H2 λy H3=>∃ a H4,x = .ref a/\zj H3 a y v H4/\D.nx σ H4
section
variable{X:Cx}{o i e value:aC}{pos pos' tpos:Pos}{td ty tv:TE}
theorem KJ(hu:X.A.units+1<cLine)(ho:PE X o td)(hi:PE X i ty)(hs:Bd i):PE X (.Subscript o i pos) (MV td ty):=by intro ah s σ H Q I h;refine IN PySem.F.slot_dict_getitem.lookup hs (aW (ho ah s σ H _ I h) λu s1 ⟨x,H1,I1,rx,q1⟩=>aW (hi ah s1 σ H1 _ I1 q1) λiv s2 ⟨y,H2,I2,ry,a,v,ex,g,q2⟩=>?_);subst ex;obtain rfl:u=Value.ref a:=rx;exact⟨Ow I2 g,OH hu I2 g ry λw' s3 I3 rw'=>⟨v,H2,I3,rw',q2⟩⟩
theorem GQ(hu:X.A.units+1<cLine)(hi:PE X i ty)(ho:PE X o td):PC X .In i o (Tc ty td):=by intro ah s σ H Q I h;refine aW (hi ah s σ H _ I h) λiv s1 ⟨y,H1,I1,ry,q1⟩=>aW (ho ah s1 σ H1 _ I1 q1) λu s2 ⟨x,H2,I2,rx,a,ov,ex,g,q2⟩=>?_;subst ex;obtain rfl:u=Value.ref a:=rx;exact TN hu I2 g ry λs3 I3=>⟨.bl ov.isSome,H2,I3,rfl,q2⟩
theorem QP(hu:X.A.units+1<cLine)(hi:PE X i ty)(ho:PE X o td):PC X .NotIn i o (MN ty td):=by intro ah s σ H Q I h;refine aW (hi ah s σ H _ I h) λiv s1 ⟨y,H1,I1,ry,q1⟩=>aW (ho ah s1 σ H1 _ I1 q1) λu s2 ⟨x,H2,I2,rx,a,ov,ex,g,q2⟩=>?_;subst ex;obtain rfl:u=Value.ref a:=rx;exact Rp hu I2 g ry λs3 I3=>⟨.bl (!ov.isSome),H2,I3,rfl,q2⟩
theorem Md(hu:X.A.units+1<cLine)(ho:PE X o td)(hi:PE X i ty)(hv:PE X value tv)(hs:mV value (aa (.Subscript o i pos')) pos.line X.env=pure ao) : PS X (.Assign [.Subscript o i pos'] value pos) (MK td ty tv):=by intro ah s σ H D I h;refine wpAny_Assign_Subscript (aW (hv ah s σ H _ I h) λr s1 ⟨v,H1,I1,rv,q1⟩=>aW (ho ah s1 σ H1 _ I1 q1) λu s2 ⟨x,H2,I2,rx,q2⟩=>aW (hi ah s2 σ H2 _ I2 q2) λiv s3 ⟨y,H3,I3,ry,a,H4,ex,g,q3⟩=>?_) hs;subst ex;obtain rfl:u=Value.ref a:=rx;exact Np hu I3 g ry rv λs4 I4=>⟨σ,H4,I4,q3⟩
end
theorem FQ{P:aX}{w:aN}{H:Hp}(h:aF)(hb:nY<h.objs.size):ef P w H (h.push { cls:=.type "dict",data:=.dict #[] }) h.objs.size (.dK []) :=⟨lj _,beq_eq_false_iff_ne.mpr (g8 (c_ hb)),[],.nil,Heap.DictOf.new h⟩
def Qq:TE:=λ_ H Q=>∀ p,H p=ae->Q (.ref p) (upd H p (.dK []))
section
variable{X:Cx}{pos:Pos}
theorem Ni:PE X (.Dict [] [] pos) Qq:=λah s σ H Q I h=>wpAny_Dict_empty ⟨.ref s.heap.objs.size,_,I.laid (a:=s.heap.objs.size) (o:=.dK []) (t':=s.toks) (λ_ _ q=>bK _ q) (bo _) (FQ s.heap I.big),rfl,h _ (I.hok.fresh (bo _))⟩
end
def A6:List (TE×TE)->St->Hp->(List (V×V)->Hp->Prop)->Prop
 | [],_,H,Q=>Q [] H
 | (tk,tv)::r,σ,H,Q=>tk σ H λx H1=>tv σ H1 λy H2=>A6 r σ H2 λps H3=>Q ((x,y)::ps) H3
abbrev VV:List (V×V)->List (am×am)->Prop:=nX λp q=>RelV p.1 q.1/\RelV p.2 q.2
def yM(X:Cx)(pos:Pos)(keys:List (Option aC))(values:List aC)(trs:List (TE×TE)):Prop :=
 ∀ (ah:List (af×Obj)) (s:aq) (σ:St) (H:Hp) (Q:List (V×V)->Hp->Prop),Inv X ah σ H s->A6 trs σ H Q ->
  ax (ay X.prog X.w) X.A (evalPairs (pairTrees keys values X.env pos)) (λvs s'=>∃ ps H',Inv X ah σ H' s'/\VV ps vs/\Q ps H') X.xe s
theorem SF{X:Cx}{pos:Pos}:yM X pos [] [] []:=λah s σ H Q I h=>pairTrees_nil_walk ⟨[],H,I,.nil,h⟩
theorem Pe{X:Cx}{pos:Pos}{k v:aC}{ks:List (Option aC)}{vs:List aC}{tk tv:TE}{trs:List (TE×TE)}(hk:PE X k tk)(hv:PE X v tv)(hr:yM X pos ks vs trs) : yM X pos (aa k::ks) (v::vs) ((tk,tv)::trs):=λah s σ H Q I h=>pairTrees_cons_walk (aW (hk ah s σ H _ I h) λu s1 ⟨x,H1,I1,rx,q1⟩=>aW (hv ah s1 σ H1 _ I1 q1) λw2 s2 ⟨y,H2,I2,ry,q2⟩=>aW (hr ah s2 σ H2 _ I2 q2) λws s3 ⟨ps,H3,I3,rel,q3⟩=>⟨(x,y)::ps,H3,I3,.cons ⟨rx,ry⟩ rel,q3⟩)
def s_(kvs more:List (aJ×V)):List (aJ×V):=more.foldl (λau kv=>gX au kv.1 kv.2) kvs
theorem KV.merge:∀ {more:List (aJ×V)} {rs:List (aJ×am)} {kvs:List (aJ×V)} {vs:List (aJ×am)},KV more rs->KV kvs vs->KV (s_ kvs more) (merged vs rs):=by
 intro more rs kvs vs r;unfold KV at r
 induction r generalizing kvs vs with
 | nil=>intro q; exact q
 | @cons p q ps qs h t ih=>
  intro r0;have e:KV (gX kvs p.1 p.2) (stored vs q.1 q.2):=by have:=r0.put p.1 h.2;rw[← h.1]; exact this
  exact ih e
theorem HM:∀ (more kvs:List (aJ×V)),(s_ kvs more).length<=kvs.length+more.length
 | [],kvs=>by show kvs.length<=kvs.length+0; lia
 | p::r,kvs=>by have h1:=HM r (gX kvs p.1 p.2);have h2:=Cg kvs p.1 p.2;show(s_ (gX kvs p.1 p.2) r).length<=_;rw[eI]; lia
theorem EL{P:aX}{w:aN}:∀ {kvs:List (aJ×V)} {ws:List (am×am)},VV (kvs.map λkv=>(kV kv.1,kv.2)) ws->∃ rs,Carries (gI P w) ws rs/\KV kvs rs
 | [],_,r=>by rw[vS]at r; cases r; exact⟨[],True.intro,.nil⟩
 | p::kvs,_,r=>by
  rw[eC]at r;cases r with
  | @cons a b as bs h t=>obtain⟨rs,c,q⟩:=EL (P:=P) (w:=w) t;obtain⟨b1,b2⟩:=b;exact⟨(p.1,b2)::rs,⟨ph h.1,rfl,c⟩,.cons ⟨rfl,h.2⟩ q⟩
def TC(trs:List (TE×TE)):TE:=λσ H Q=>∀ p,H p=ae->A6 trs σ (upd H p (.dK [])) λps H2=>H2 p=aa (.dK [])/\∃ kvs:List (aJ×V),ps=kvs.map (λkv=>(kV kv.1,kv.2))/\kvs.length<=15/\Q (.ref p) (upd H2 p (.dK (s_ [] kvs)))
theorem LW{X:Cx}{pos:Pos}{keys:List (Option aC)}{values:List aC}{trs:List (TE×TE)}(h:yM X pos keys values trs)(t4:keys.all (·.isSome)=ai)(hl:keys.length=values.length)(h0:keys≠[])(h15:keys.length<=15):PE X (.Dict keys values pos) (TC trs):=by
 intro ah s σ H Q I q;have hn:=I.hok.fresh (bo s.heap.objs.size);have I1:=I.laid (a:=s.heap.objs.size) (o:=.dK []) (h':=s.heap.push { cls:=.type "dict",data:=.dict #[] }) (t':=s.toks) (λ_ _ q=>bK _ q) (bo _) (FQ s.heap I.big);refine wpAny_Dict_walk (knd:=gI X.prog X.w) t4 hl h0 h15 (aW (h ah _ σ _ _ I1 (q _ hn)) λws s2 ⟨ps,H2,I2,rel,e,kvs,ep,lk,q2⟩=>?_);subst ep;obtain⟨rs,c,rk⟩:=EL (P:=X.prog) (w:=X.w) rel;obtain⟨z,hd,vs0,r0,dd⟩:=yB I2.hok e;cases r0;refine⟨rs,c,dd,λh' dd' hs=>⟨.ref s.heap.objs.size,_,?_,rfl,q2⟩⟩;have hz:(s_ [] kvs).length<=bx:=by have h1:=HM kvs [];rw[tE]at h1;rw[tm]; lia
 have he:∃ q,h'.get? s.heap.objs.size=aa q:=let ⟨q,_,_,hq,_⟩:=dd'; ⟨q,hq⟩
 exact Ai I2 (by rw[e]; exact True.intro) hs he (Ey hz hd (rk.merge .nil) dd')
structure M2(X:Cx)(o:aC)(m:Str)(apos:Pos)(e f:aC)(cpos:Pos):Prop where
 base:tz o m X.env (bz o X.env)=bz o X.env
 few:((f7 cpos (bu [e,f] X.env)).all (λx=>!x.1) && (backToKw cpos (CN [] X.env)).all (λx=>x.1.isSome) && decide (([e,f]:List aC).length+([]:List qM).length+(if([]:List qM).isEmpty then 0 else 1)<30))=ai
 line:(apos.endLine == cpos.line)=ai
 trees:f7 cpos (bu [e,f] X.env)=[(ao,bz e X.env),(ao,bz f X.env)]
def Fa(H:Hp)(a:af):Prop:=(∃ kvs,Rd H a (.dK kvs))\/∃ kvs,Rd H a (.dT kvs)
theorem P0{X:Cx}{ah:List (af×Obj)}{σ:St}{H:Hp}{s:aq}{a:af}(I:Inv X ah σ H s)(d:Fa H a) : s.TypeIs (.ref a) "dict"/\(∀ b,Value.ref a = .ref b->∃ ob,s.heap.get? b=aa ob/\ob.dict=ae)/\(a == nY)=ao:=by
 rcases d with⟨kvs,e⟩ | ⟨kvs,e⟩
 ·obtain⟨_,hd,vs,_,dd⟩:=qH I.hok e;refine⟨dd.typeIs,λb q=>?_,hd⟩;cases q;obtain⟨ob,_,_,h1,h2,_⟩:=dd;exact⟨ob,h1,h2.2.1⟩
 ·obtain⟨_,hd,xs,_,dd⟩:=qz I.hok e;refine⟨dd.typeIs,λb q=>?_,hd⟩;cases q;obtain⟨ob,_,_,h1,h2,_⟩:=dd;exact⟨ob,h1,h2.2.1⟩
section
variable{X:Cx}{ah:List (af×Obj)}{σ:St}{H:Hp}{s:aq}{a:af}{y d:V}{u r:am}{o:Option V}{A:be}{E:am->aq->Prop}
theorem MC{Q:am->aq->Prop}(hu:A.units+1<cLine)(I:Inv X ah σ H s)(g:kR H a y o)(ry:RelV y u)(rd:RelV d r)(h:∀ w' s',Inv X ah σ H s'->RelV (o.getD d) w'->Q w' s') : ax (ay X.prog X.w) A (call (.builtin "dict.get") [.ref a,u,r]) Q E s:=by
 rcases g with⟨kvs,k,e,ey,l⟩ | ⟨kvs,k,b,e,ey,eb,l⟩
 ·subst ey;obtain⟨z,hd,vs,rel,dd⟩:=qH I.hok e;refine call_meetsIn JK dd.typeIs PySem.F.entry_dict_get (PySem.F.args_dict_get_3 _ _ _) (meets_dict_get_default (gI X.prog X.w) a (ph ry) hd r) ⟨_,dd.mapOf,h _ _ (I.tok _) ?_⟩;rw[l];exact(rel.val k).getD rd
 ·subst ey;cases (show u=Value.ref b from ry);obtain⟨z,hd,xs,rel,dd⟩:=qz I.hok e;refine call_meetsIn JK dd.typeIs PySem.F.entry_dict_get (PySem.F.args_dict_get_3 _ _ _) (meetsH_dict_get_default (vI (gI X.prog X.w)) a b hd r) ⟨zt hu,k,xs,sI I.hok eb,dd,h _ _ (I.tok _) ?_⟩;rw[l];exact(rel.val k).getD rd
end
def Rf(td ty tx:TE):TE:=λσ H Q=>td σ H λx H1=>∃ a,x = .ref a/\Fa H1 a/\ty σ H1 λy H2=>tx σ H2 λz H3=>∃ o,kR H3 a y o/\Q (o.getD z) H3
section
variable{X:Cx}{o e f:aC}{apos cpos:Pos}{td ty tx:TE}
theorem Nn(hu:X.A.units+1<cLine)(ho:PE X o td)(he:PE X e ty)(hf:PE X f tx)(m:M2 X o "get" apos e f cpos):PE X (.Call (.Attribute o "get" apos) [e,f] [] cpos) (Rf td ty tx):=by intro ah s σ H Q I h;refine wpAny_Call_method m.base m.few m.line PySem.F.plainAttrs_dict JK PySem.F.type_dict_get (aW (ho ah s σ H _ I h) λu s1 ⟨x,H1,I1,rx,a,ex,d,q1⟩=>?_);subst ex;obtain rfl:u=Value.ref a:=rx;obtain⟨t1,t2,_⟩:=P0 I1 d;refine⟨t1,t2,?_⟩;rw[m.trees];refine JG rfl (JH (CH (aW (he ah s1 σ H1 _ I1 q1) λiv s2 ⟨y,H2,I2,ry,q2⟩=>CH (aW (hf ah s2 σ H2 _ I2 q2) λfv s3 ⟨z,H3,I3,rz,ov,g,q3⟩=>JC ?_))));exact MC hu I3 g ry rz λw' s4 I4 rw'=>⟨_,H3,I4,rw',q3⟩
end
end L2
namespace Att
open PySem PySem.W PySem.Calls PyProof.Rows
theorem Si{P:Params}{h:aF}:∀ (ns:List Int) (vs:List am),WellAll P h vs (ns.map WData.int)->IntsAre vs ns:=by
 intro ns
 induction ns with
 | nil=>
  intro vs w;rw[vS]at w;cases w;exact .nil
 | cons n ns ih=>
  intro vs w;rw[eC]at w;cases w with
  | cons a b=>
   cases a;exact .cons _ _ (ih _ b)
theorem TJ{l:OpenLaw}{n:Nat}(hn:l.most=aa n){P:Params}{h:aF}{args:List WData}{vals:List am}(zX:l.row.toRowW.claim.pre args=ai) (hwl:WellAll P h vals args) : ∃ a vs ns,vals=[Value.ref a]/\args=[WData.list (ns.map WData.int)]/\h.get? a=aa { cls:=.type "list",data:=.seq vs.toArray }/\IntsAre vs ns/\ns.length<=n:=by
 have hsh:WShape.hasAll [] args [.list .int]=ai:=(pre_splitW zX).1;have hc:l.pre.holds [] { args:=args }=ai:=(pre_splitW zX).2;obtain⟨d,r,rfl,h1,h2⟩:=hasAllW_cons hsh;obtain rfl:=hasAllW_nil h2;obtain⟨xs,rfl,h3⟩:=hasW_list h1;obtain⟨ns,rfl⟩:=items_int h3;have cb:ns.length<=n:=by
  unfold OpenLaw.pre at hc;have h4:(WTm.not (.lt (.lit (.int (n:Int))) (.len (.arg 0)))).holds [] { args:=[.list (ns.map .int)] }=ai:=by have h4:=(holds_andW hc).1;rw[hn]at h4;exact h4
  have h5:=condW_of h4 (w_not (w_lt w_lit (w_len_list (w_arg rfl))));rw[cD]at h5;refine Nat.le_of_not_lt λq=>?_;have q':(n:Int)<((ns.length:Nat):Int):=∅
  first
   | (rw[decide_eq_true q']at h5; exact absurd h5 (by decide))
   | (simp at h5; lia)
 cases hwl with
 | cons w1 w2=>
  cases w2;cases w1 with
  | list ho t4=>exact⟨_,_,ns,rfl,rfl,ho,Si ns _ t4,cb⟩
theorem Px(l:OpenLaw)(args:List WData):l.row.toRowW.claim.post args (.bool ai) args=ai :=
 postW_of (r:=l.row.toRowW) (X:=(ai == ai))
  (show WShape.has [] (.bool ai) .bool=ai by first | rfl | decide | simp[WShape.has,WShape.arms,WShape.armsAll])
  (show(WTm.eq .res (.lit (.bool ai))).value [] { args:=args,res:=aa (.bool ai),after:=args }=aa (.bool (ai == ai))from w_eq_bool (w_res rfl) w_lit) rfl
theorem attach_call{l:OpenLaw}{n:Nat}{q:aX}{loose:List Str}{XP:(Str->Option am)->aF->Prop}{YP:aN->aF->Prop}{d:DefRec}(hn:l.most=aa n) (qW:d.params.defaults=[])(call:∀ (w:aN) (s₀ s₁:aq) (mg mb:Str->Option am) (fa:af) (o:Obj) (pm cd doc:am) (a:af) (vs:List am) (ns:List Int),Ground q loose [] XP w s₀ mg mb s₁.heap->YP w s₁.heap -> s₁.heap.get? fa=aa o->o.data = .func (docDef d.name d.params d.body d.scope pm cd doc)->s₁.heap.CodeRec cd d.name->mg d.name=aa (.ref fa) -> s₁.heap.get? a=aa { cls:=.type "list",data:=.seq vs.toArray }->IntsAre vs ns->ns.length<=n->s₁.gens = #[] -> pB (ay l.prog w) tG (.call (.ref fa) ⟨[.ref a],[]⟩) (λr s'=>r = .ok (.ret (.bool ai))/\OldK s₁.heap s'.heap/\s'.os=s₁.os/\n4 s'.gens) s₁) : WalkO q loose XP YP l.row.toRowW d [] (λf vs=>PySem.call f vs):=by intro w s₀ s₁ mg mb G Y fa o pm cd doc dV kV ho hd bR hD wA hg args vals as zX hlay hrd hwl hlo;obtain rfl:dV = .none:=Dflts.none hD qW;obtain rfl:kV = .none:=Dflts.noKw hD;obtain⟨a,vs,ns,rfl,rfl,DP,Dy,cb⟩:=TJ hn zX hwl;refine enter_call (zo (call w s₀ s₁ mg mb fa o pm cd doc a vs ns G Y ho (fd_plain hd) bR wA DP Dy cb hg) λr s' hq=>?_);obtain⟨rfl,h2,h3,h4⟩:=hq;exact⟨.inl ⟨.bool ai,.bool ai,[],rfl,λ_=>rfl,.bool ai,Px l _,λ_=>⟨List.Pairwise.nil,λ_ hm=>(nomatch hm)⟩⟩,h2,h3,h4⟩
section
variable{prog:aX}{w:aN}{A:be}{E:am->aq->Prop}{s:aq}{K:Frag}
def yY(h:aF):aF:={ h with objs:=#[] }
theorem Jo(h:aF)(b:af):(yY h).get? b=ae:=by
 cases e:(yY h).get? b with
 | none=>rfl
 | some o=>exact absurd (bE e) (zu _)
def BK(h:aF)(L d:af):List (af×Obj):=(bQ h.objs.size).filterMap λa=>if a=L\/a=d then ae else(h.get? a).map λo=>(a,o)
theorem O0{h:aF}{L d a:af}{o:Obj}:(a,o)∈BK h L d↔a≠L/\a≠d/\h.get? a=aa o:=by
 unfold BK;rw[Jz];constructor
 ·rintro⟨b,_,e⟩;split at e
  ·cases e
  ·rename_i hb;obtain⟨o',ho,e'⟩:=tF.mp e;cases e';exact⟨λq=>hb (.inl q),λq=>hb (.inr q),ho⟩
 ·rintro⟨n1,n2,ho⟩;refine⟨a,nZ.mpr (bE ho),?_⟩;rw[if_neg (show ¬ (a=L\/a=d)from λq=>q.elim n1 n2),ho] <;> rfl
theorem RV{h:aF}{L:af}{m:Str->Option am}(n:h.Ns L m):Fr (yY h) L h m :=
 ⟨n,λb o e=>(by rw[Jo]at e; cases e),lj _⟩
end
end Att
namespace L2
theorem En:∀ {vs:List am} {ns:List Int},IntsAre vs ns->bJ (ns.map V.int) vs
 | _,_,.nil=>.nil
 | _,_,.cons n t h=>.cons ⟨t,rfl⟩ (En h)
def BU(H:Hp):Prop:=∀ b,H b=ae\/(∃ o xs,H b=aa (.frz o (.lst xs)))\/∃ q,H b=aa (.tbl q)
def kn(K:az):Hp:=λb=>match lM K "road" with
 | some (_,P)=>if b=P then aa (.tbl "road.<locals>.<lambda>")else ae
 | none=>ae
theorem qf{K:az}{b:af}{u:HO}(h:kn K b=aa u):u = .tbl "road.<locals>.<lambda>"/\∃ c,lM K "road" = aa (c,b):=by
 unfold kn at h;split at h
 ·rename_i c P e;split at h
  ·rename_i hb;subst hb;cases h;exact⟨rfl,c,e⟩
  ·cases h
 ·cases h
theorem Ff{K:az}{c P:af}(h:lM K "road" = aa (c,P)):kn K P=aa (.tbl "road.<locals>.<lambda>"):=by unfold kn;rw[h];exact if_pos rfl
def EH(K:az)(h:aF):Prop:=∀ c P,lM K "road" = aa (c,P)->zv K c P=ai/\K.lookup P=ae/\h.get? P=aa { cls:=.none,data:=.fields #[] }
theorem Pi{P:aX}{w:aN}{K:az}{mg mb:Str->Option am}{CX:fQ}{k:Nat}{fa a:af}{fd:g9}{x:Str}{sp:Sp}{s₁:aq}{vs:List am}{ns:List Int}(KX:K.In s₁.heap) (kH:s₁.heap.Ns cG mg) (hb:s₁.heap.Ns qJ mb) (hbb:∀ x:Str,x≠"__name__"->mb x=fM x) (hlim:s₁.heap.NoLimit) (hbm:∃ bm ob,mg "__builtins__" = aa (.ref bm)/\bm≠qJ/\s₁.heap.get? bm=aa ob/\ob.cls = .type "module"/\ob.dict=aa qJ/\ob.data = .plain) (pL:EH K s₁.heap) (hg:s₁.gens = #[])(ha:s₁.heap.get? a=aa { cls:=.type "list",data:=.seq vs.toArray }) (hi:IntsAre vs ns) (hl:ns.length<=bx) (hr:Room k tG)(F:∀ base:aF,K.In base->base.Ns cG mg->iM P w K mg base CX k fa fd [x] sp) (UC:∀ (s:aq) (u:am),BindsTo s fd ⟨[u],[]⟩ [(x,u)])(nr:∀ H:Hp,BU H->cg K H a (ns.map V.int)->sp [.ref a] H (λv _=>v = .bl ai) λ_ _ _=>False)(hCX:∀ H e s',CX [] H s₁ (λ_ _ _=>False) e s'->False) : pB (ay P w) tG (.call (.ref fa) ⟨[.ref a],[]⟩) (λr s'=>r = .ok (.ret (.bool ai))/\OldK s₁.heap s'.heap/\s'.os=s₁.os/\n4 s'.gens) s₁:=by
 have rv:=En hi;have lenV:=hi.length;have core:∀ H:Hp,BU H->cg K H a (ns.map V.int)->eD P w H s₁.heap->(∀ b,H b≠ae->b=a\/∃ c,lM K "road" = aa (c,b))->(H a≠ae->K.lookup a=ae)->xh K H ->
   pB (ay P w) tG (.call (.ref fa) ⟨[.ref a],[]⟩) (λr s'=>r = .ok (.ret (.bool ai))/\OldK s₁.heap s'.heap/\s'.os=s₁.os/\n4 s'.gens) s₁:=by
  intro H hO hS hok hA hK hTH;have base_of:∀ {b:af} {o:Obj},s₁.heap.get? b=aa o->H b=ae->(nG s₁.heap H).get? b=aa o:=λe n=>Oz e n;have noA:∀ {b:af} {o:Obj} {es:Array DictEntry} {ep:Nat},s₁.heap.get? b=aa o->o.data = .dict es ep->H b=ae:=λ{b o es ep} e d=>by
   cases q:H b with
   | none=>rfl
   | some u=>
    rcases hA b (by rw[q]; simp)with e' | ⟨c,e'⟩
    ·subst e';rw[ha]at e; cases e;have d':Data.seq vs.toArray _=Data.dict es ep:=d;cases d'
    ·rw[(pL c b e').2.2]at e; cases e;cases d
  have nsK:∀ {b:af} {m:Str->Option am},s₁.heap.Ns b m->(nG s₁.heap H).Ns b m:=λ{b m} ⟨o,es,ep,e,d,r⟩=>⟨o,es,ep,base_of e (noA e d),d,r⟩
  have hKb:K.In (nG s₁.heap H):=λb o e=>base_of (KX b o e) (by
   cases q:H b with
   | none=>rfl
   | some u=>
    rcases hA b (by rw[q]; simp)with e' | ⟨c,e'⟩
    ·subst e';rw[hK (by rw[q]; simp)]at e; cases e
    ·rw[(pL c b e').2.1]at e; cases e)
  have hM:Mod K mg (nG s₁.heap H):=⟨hKb,nsK kH,⟨mb,nsK hb,hbb⟩,(let ⟨mc,h1,h2⟩:=hlim; ⟨mc,nsK h1,h2⟩),by
   obtain⟨bm,ob,b1,b2,b3,b4,b5,b6⟩:=hbm;refine⟨bm,ob,b1,b2,base_of b3 ?_,b4,b5,b6⟩;cases q:H bm with
   | none=>rfl
   | some u=>
    rcases hA bm (by rw[q]; simp)with e' | ⟨c,e'⟩
    ·subst e'; rw[ha]at b3; cases b3; simp at b4
    ·rw[(pL c bm e').2.2]at b3; cases b3; simp at b4⟩
  have e0:sd P w K mg (nG s₁.heap H) tG [] s₁ H:=⟨rfl,hM,λb o e=>Um e,mX (KG _ _),trivial,λb hb=>absurd (show b∈([]:List af)from hb) (by simp),hok,.of_eq hg,hTH⟩
  refine zo ((F _ hKb (nsK kH)).run tG [] s₁ H ⟨[.ref a],[]⟩ [.ref a] [.ref a] _ _ hr e0 (UC s₁ (.ref a)) (.cons rfl .nil) (nr H hO hS)) λr s' h=>?_;cases r with
  | error e=>exact(hCX H e s' h).elim
  | ok fl=>
   cases fl with
   | next=>exact kB h
   | brk=>exact kB h
   | cont=>exact kB h
   | ret u=>
    obtain⟨v,H',os,bare,un,Kt,r',q⟩:=h;have q':v = .bl ai:=q;subst q';obtain rfl:u=Value.bool ai:=r';refine⟨rfl,⟨λb o e=>?_,λb o e=>un.there b o e (by simp)⟩,os,bare⟩;cases q:H b with
    | none=>exact .inl (un.keep b o e q (by intro z; exact absurd (show b∈([]:List af)from z) (by simp)) (by simp))
    | some u=>
     rcases hO b with z | ⟨ob,xs,z⟩ | ⟨qn,z⟩
     ·rw[q]at z; cases z
     ·have z2:=un.frzs b ob _ z;obtain⟨e1,_⟩:=hok b _ z;obtain⟨e2,_⟩:=Kt b _ z2;rw[e]at e1; cases e1;exact .inl e2
     ·rcases hA b (by rw[q]; simp)with e' | ⟨c,e'⟩
      ·subst e';obtain⟨ps,e1,_⟩:=hok b _ z;rw[ha]at e1; cases e1
      ·obtain⟨k1,k2,k3⟩:=pL c b e';rw[k3]at e; cases e;obtain⟨oc,vs',_,_,_,_,_,_,_,f1,f2,f3,f4,_⟩:=PySem.W.codeHd_of_K KX k1;obtain⟨ps,e1,_⟩:=Kt b _ (un.tbls b _ z);exact .inr (.inl ⟨⟨c,oc,vs',f1,f2,f3,f4⟩,rfl,#[],ps,rfl,by rw[e1]; simp⟩)
 cases hk:K.lookup a with
 | some o=>
  have e:=KX a o hk;rw[ha]at e;cases e;have tH:∀ b u,kn K b=aa u->ef P w (kn K) s₁.heap b u:=λb u z=>by
   obtain⟨rfl,c,e⟩:=qf z;exact⟨#[],(pL c b e).2.2,trivial,λpos cv h=>by cases h⟩
  refine core (kn K) (λb=>?_) (.inr ⟨_,vs.toArray,_,hk,rfl,rfl,rfl,by rw[dH,lenV]; exact hl,by simpa using rv⟩) tH (λb z=>?_) (λz=>?_) λx hx c P e=>?_
  ·cases q:kn K b with
   | none=>exact .inl rfl
   | some u=>exact .inr (.inr ⟨_,congrArg aa (qf q).1⟩)
  ·cases q:kn K b with
   | none=>exact absurd q z
   | some u=>exact .inr (qf q).2
  ·cases q:kn K a with
   | none=>exact absurd q z
   | some u=>
    obtain⟨_,c,e'⟩:=qf q;rw[(pL c a e').2.2]at ha; cases ha
  ·obtain rfl:x = "road":=by simpa[vq]using hx
   exact Ff e
 | none=>
  have ta:∀ c P,lM K "road" = aa (c,P)->P≠a:=λc P e z=>by subst z; rw[(pL c P e).2.2]at ha; cases ha
  refine core (λb=>if b=a then aa (.frz { cls:=.type "list",data:=.seq vs.toArray } (.lst (ns.map V.int)))else kn K b) (λb=>?_) (.inl (.inr ⟨{ cls:=.type "list",data:=.seq vs.toArray },if_pos rfl⟩)) (λb u z=>?_) (λb z=>?_) (λ_=>hk) λx hx c P e=>?_
  ·by_cases hb:b=a
   ·exact .inr (.inl ⟨_,_,if_pos hb⟩)
   ·cases q:kn K b with
    | none=>exact .inl ((if_neg hb).trans q)
    | some u=>exact .inr (.inr ⟨_,(if_neg hb).trans (q.trans (congrArg aa (qf q).1))⟩)
  ·by_cases hb:b=a
   ·have z':=(if_pos hb).symm.trans z;cases z';subst hb;exact⟨ha,by rw[cD]; exact hl,vs,_,rv,ha⟩
   ·obtain⟨rfl,c,e⟩:=qf ((if_neg hb).symm.trans z);exact⟨#[],(pL c b e).2.2,trivial,λpos cv h=>by cases h⟩
  ·by_cases hb:b=a
   ·exact .inl hb
   ·cases q:kn K b with
    | none=>exact absurd ((if_neg hb).trans q) z
    | some u=>exact .inr (qf q).2
  ·obtain rfl:x = "road":=by simpa[vq]using hx
   exact(if_neg (ta c P e)).trans (Ff e)
theorem U9{l:CS}{n k:Nat}{q:aX}{loose:List Str}{XP:(Str->Option am)->aF->Prop}{YP:aN->aF->Prop}{d:DefRec}{K:Params->az}{CX:aN->fQ}{sp:aN->Sp}{x:Str}(hn:l.most=aa n) (hn2:n<=bx) (qW:d.params.defaults=[]) (hr:Room k tG)(hY:∀ (w:aN) (h:aF),YP w h->(K w.params).In h/\EH (K w.params) h)(F:∀ (w:aN) (mg:Str->Option am) (fa:af) (h:aF),(K w.params).In h->h.Ns cG mg->mg d.name=aa (.ref fa) -> ∃ fd:g9,(∀ (s:aq) (u:am),BindsTo s fd ⟨[u],[]⟩ [(x,u)]) /\ ∀ base:aF,(K w.params).In base->base.Ns cG mg->iM l.prog w (K w.params) mg base (CX w) k fa fd [x] (sp w))(nr:∀ (w:aN) (H:Hp) (a:af) (ns:List Int),ns.length<=n->BU H->cg (K w.params) H a (ns.map V.int)->sp w [.ref a] H (λv _=>v = .bl ai) λ_ _ _=>False)(hCX:∀ (w:aN) (H:Hp) (s:aq) (e:am) (s':aq),CX w [] H s (λ_ _ _=>False) e s'->False) : PySem.W.WalkO q loose XP YP l.row.toRowW d [] (λf vs=>PySem.call f vs):=by refine Att.attach_call hn qW λw s₀ s₁ mg mb fa o pm cd doc a vs ns G Y ho hd bR wA DP Dy cb hg=>?_;have KX:=(hY w _ Y).1;obtain⟨fd,hb,hF⟩:=F w mg fa _ KX G.T.g wA;exact Pi KX G.T.g G.T.b G.T.builtins G.T.nolimit G.T.bmain (hY w _ Y).2 hg DP Dy (cL cb hn2) hr hF hb (λH hO hS=>nr w H a ns cb hO hS) λH e s'=>hCX w H s₁ e s'
def kU(s:bf):tt:=match s with
 | .FunctionDef _ a _ _ _ _ _ _ _ _=>a
 | _=>{ posonlyargs:=[],args:=[],vararg:=ae,kwonlyargs:=[],kw_defaults:=[],kwarg:=ae,defaults:=[] }
def gY(s:bf):List bf:=match s with
 | .FunctionDef _ _ b _ _ _ _ _ _ _=>b
 | _=>[]
def aZ(s:bf):eG:=match s with
 | .FunctionDef _ _ _ _ _ _ sc _ _ _=>sc
 | _=>{ kind:=.function,names:=[],isGenerator:=ao,isCoroutine:=ao }
abbrev AR:fQ:=λ_ _ _ _ _ _=>False
abbrev E0:XK:=λ_ _ _=>False
structure oW(K:az)(x qual:Str)(st:bf)(f:af)(fd:g9):Prop where
 ex:∃ (oc:am) (od:Option af) (kV doc pm:am) (an:Option af) (aQ ct:am) (osl:Array (Option am)),
  fd=kC x qual (kU st) (gY st) (aZ st) .none kV doc pm an aQ ct/\K.lookup f=aa ⟨oc,od,.func fd,osl⟩/\zq K aQ qual=ai
 kp:tq K (.ref f)=ai
section
variable{P:aX}{w:aN}{K:az}{mg:Str->Option am}{base:aF}
theorem oW.ok{x qual:Str}{st:bf}{f:af}{fd:g9}{N ps:List Str}{k:Nat}{sp:Sp}(F:oW K x qual st f fd)(S:b_ N ps (aZ st))(len:∀ vs H Q E,sp vs H Q E->vs.length=ps.length)(jO:∀ (aQ:am) (A:be) (outer:List Env) (s:aq) (H:Hp) (vs:List V) (Q:VK) (E:XK),Room k (A.deeper (j4 qual (aZ st) s.heap.objs.size f aQ))->sp vs H Q E -> ∃ t,j1 (i8 AR P w K mg base N qual (aZ st) f aQ A outer s H E).nox (gY st) t/\t { nx:=λ_ H'=>Q .non H',rt:=Q } (start N vs) H):iM P w K mg base AR (k+1) f fd ps sp:=by obtain⟨oc,od,kV,doc,pm,an,aQ,ct,osl,rfl,lk,bR⟩:=F.ex;refine Ee lk bR S len λA outer s H vs Q E hr nr=>?_;obtain⟨t,h,q⟩:=jO aQ A outer s H vs Q E hr nr;exact⟨t,h.nox,q⟩
theorem oW.binds{x qual:Str}{st:bf}{f:af}{fd:g9}{ps:List Str}(F:oW K x qual st f fd)(h:∀ (kV doc pm:am) (an:Option af) (aQ ct:am) (us:List am),us.length=ps.length->gM (kC x qual (kU st) (gY st) (aZ st) .none kV doc pm an aQ ct) ⟨us,[]⟩=pure (ps.zip us)):Binds K fd ps []:=by obtain⟨oc,od,kV,doc,pm,an,aQ,ct,osl,rfl,lk,bR⟩:=F.ex;exact .all (h kV doc pm an aQ ct)
theorem HR{x qual:Str}{st:bf}{f:af}{oc:am}{od an:Option af}{osl:Array (Option am)}{kV doc pm aQ ct:am}(l:K.lookup f=aa ⟨oc,od,.func (kC x qual (kU st) (gY st) (aZ st) .none kV doc pm an aQ ct),osl⟩)(c:zq K aQ qual=ai) (k:tq K (.ref f)=ai):oW K x qual st f (kC x qual (kU st) (gY st) (aZ st) .none kV doc pm an aQ ct):=⟨⟨oc,od,kV,doc,pm,an,aQ,ct,osl,rfl,l,c⟩,k⟩
end
theorem HH{n:Nat}(h:n<=1000):n<bx:=qN h (by decide)
section
variable{X:Cx}
theorem pv(i:Nat){x:Str}{pos:Pos}(hN:X.N[i]?=aa x:=by rfl)(hv:ga X.env.scope x:=by first | exact Or.inl rfl | exact Or.inr (Or.inl rfl) | exact Or.inr (Or.inr rfl))(hd:(x == ("__debug__" : Str))=ao:=by decide)(bR:(x == ("__classdict__" : Str))=ao:=by decide):PE X (.Name x pos) (Iz i):=ip hN hv hd bR
end
theorem rY{A B:Prop}(h:B):if ao=ai then A else B:=by rw[if_neg gu];exact h
theorem sE{A B:Prop}(h:A):if ai=ai then A else B:=by rw[if_pos rfl];exact h
def Same(H H':Hp):Prop:=∀ b o,H b=aa o->H' b=aa o
theorem Same.refl(H:Hp):Same H H:=λ_ _ h=>h
theorem Same.trans{H H1 H2:Hp}(a:Same H H1)(b:Same H1 H2):Same H H2:=λc o h=>b c o (a c o h)
theorem Same.free{H H':Hp}(e:Same H H'){l:af}(h:H' l=Option.none):H l=Option.none:=by
 cases q:H l with
 | none=>rfl
 | some o=>
  rw[e l o q]at h;cases h
theorem Same.seq{K:az}{H H':Hp}{a:af}{xs:List V}(e:Same H H')(h:cg K H a xs):cg K H' a xs:=by
 rcases h with(h | ⟨o,h⟩) | h
 ·exact .inl (.inl (e _ _ h))
 ·exact .inl (.inr ⟨o,e _ _ h⟩)
 ·exact .inr h
end L2
set_option maxHeartbeats 4000000
namespace L2
def iO(env:Env):List (Str×g_)->List (Str×af)->List (Str×af)
 | [],cs=>cs
 | (n,k)::r,cs=>if k == .free then iO env r ((n,(env.cells.lookup n).getD 0)::cs)else iO env r cs
theorem SH{env:Env}{y:Str}{c:af}(names:List (Str×g_))(cs:List (Str×af))(hh:∀ x∈names,x.2 = .free->∃ c,env.cells.lookup x.1=aa c)(h:(iO env names cs).lookup y=aa c):cs.lookup y=aa c\/env.cells.lookup y=aa c:=by
 induction names generalizing cs with
 | nil=>exact .inl h
 | cons a r ih=>
  obtain⟨n,k⟩:=a;unfold iO at h;have hr:∀ x∈r,x.2 = .free->∃ c,env.cells.lookup x.1=aa c:=λx hx=>hh x (lO _ hx);split at h
  ·rename_i hk;obtain⟨c',iF⟩:=hh (n,k) (n6 ..) (by simpa using hk);rcases ih _ hr h with q | q
   ·rw[lm]at q;split at q
    ·rename_i hb;have e:y=n:=by simpa using hb
     subst e;rw[iF]at q;exact .inr (by rw[iF]; exact q)
    ·exact .inl q
   ·exact .inr q
  ·exact ih _ hr h
theorem HJ{α:Type}{n:Str}{v:α}{l:List (Str×α)}:((n,v)::l).lookup n=aa v:=by rw[lm]; simp
theorem G8{α:Type}{n y:Str}{v:α}{l:List (Str×α)}(h:∃ c,l.lookup y=aa c):∃ c,((n,v)::l).lookup y=aa c:=by
 rw[lm];split
 ·exact⟨_,rfl⟩
 ·exact h
theorem Bw{env:Env}{y:Str}:∀ (names:List (Str×g_)) (cs:List (Str×af)),(∃ c,cs.lookup y=aa c)->∃ c,(iO env names cs).lookup y=aa c
 | [],cs,h=>h
 | (n,k)::r,cs,h=>by
  unfold iO;split
  ·exact Bw r _ (G8 h)
  ·exact Bw r _ h
theorem z7{env:Env}{y:Str}:∀ (names:List (Str×g_)) (cs:List (Str×af)),(∃ x∈names,x.1=y/\x.2 = .free)->∃ c,(iO env names cs).lookup y=aa c
 | [],cs,⟨_,h,_⟩=>by simp at h
 | (n,k)::r,cs,⟨x,hx,e1,e2⟩=>by
  unfold iO;rcases ca.mp hx with e | hx
  ·subst e;simp only at e1 e2;subst e1 e2;simp only[beq_self_eq_true,if_true];exact Bw r _ ⟨_,HJ⟩
  ·split
   ·exact z7 r _ ⟨x,hx,e1,e2⟩
   ·exact z7 r _ ⟨x,hx,e1,e2⟩
theorem BP{env:Env}:∀ (names:List (Str×g_)) (cs:List (Str×af)),(∀ x∈names,x.2 = .free->∃ c,env.cells.lookup x.1=aa c) -> (forIn (m:=Sem) names cs λx r=>match x with | (name,kind)=>if(kind == NameKind.free)=ai then do let c ← cellOf env name; pure (ForInStep.yield ((name,c)::r))else pure (ForInStep.yield r))=pure (iO env names cs)
 | [],cs,_=>rfl
 | (n,k)::r,cs,h=>by
  have hr:∀ x∈r,x.2 = .free->∃ c,env.cells.lookup x.1=aa c:=λx hx=>h x (lO _ hx);rw[List.forIn_cons];unfold iO;by_cases hk:(k == NameKind.free)=ai
  ·obtain⟨c,hc⟩:=h (n,k) (n6 ..) (by simpa using hk);simp only[hk,if_true];have e:cellOf env n=pure c:=by unfold cellOf; rw[hc]
   rw[e];simp only[pure_bind];rw[BP r _ hr,hc];rfl
  ·simp only[hk,if_false,pure_bind];exact BP r _ hr
theorem IJ{scope:eG}{env:Env}(h:∀ x∈scope.names,x.2 = .free->∃ c,env.cells.lookup x.1=aa c):zw scope env=pure (iO env scope.names []):=by unfold zw;have q:=BP scope.names [] h;simp only[bind_pure_comp]at q ⊢;rw[q];rfl
theorem vo{n c:Nat}(h1:n+1<=c)(h2:c<n):False:=∅
theorem Ag:∀ (names:List (Str×g_)) (n:Nat) (a b:List (Str×af)),gw n names (a++b)=gw n names a++b
 | [],_,_,_=>rfl
 | (x,k)::r,n,a,b=>by
  unfold gw;split
  ·exact Ag r (n+1) ((x,n)::a) b
  ·exact Ag r n a b
theorem xq{y:Str}{c:af}:∀ (names:List (Str×g_)) (n:Nat) (a:List (Str×af)),(y,c)∈gw n names a->(y,c)∈a\/(y,.cell)∈names
 | [],_,_,h=>.inl h
 | (x,k)::r,n,a,h=>by
  unfold gw at h;split at h
  ·rename_i hk;rcases xq r _ _ h with z | z
   ·rcases ca.mp z with z | z
    ·cases z;have e:k = .cell:=by simpa using hk
     subst e;exact .inr (n6 ..)
    ·exact .inl z
   ·exact .inr (lO _ z)
  ·rcases xq r _ _ h with z | z
   ·exact .inl z
   ·exact .inr (lO _ z)
theorem Ca{y:Str}:∀ (names:List (Str×g_)) (n:Nat) (a:List (Str×af)),(∃ c,a.lookup y=aa c)->∃ c,(gw n names a).lookup y=aa c
 | [],_,_,h=>h
 | (x,k)::r,n,a,h=>by
  unfold gw;split
  ·exact Ca r _ _ (G8 h)
  ·exact Ca r _ _ h
theorem zi{y:Str}:∀ (names:List (Str×g_)) (n:Nat) (a:List (Str×af)),(y,.cell)∈names->∃ c,(gw n names a).lookup y=aa c
 | (x,k)::r,n,a,h=>by
  unfold gw;rcases ca.mp h with e | h
  ·cases e;exact Ca r _ _ ⟨_,HJ⟩
  ·split
   ·exact zi r _ _ h
   ·exact zi r _ _ h
def lz(X:Cx)(scope:eG)(C:af):List (Str×af):=gw (C+1) scope.names (iO X.env scope.names [])
theorem Bm(X:Cx)(scope:eG)(C:af):lz X scope C=gw (C+1) scope.names []++iO X.env scope.names []:=Ag scope.names (C+1) [] _
theorem GV{M:Model}{A:be}{E:am->aq->Prop}{s:aq}{scope:eG}{globals:af}{cl:List (Str×af)}{qual:Str}{env:Env}{Q:Env->aq->Prop}(hQ:Q (newEnv scope s.heap.objs.size globals (gw (s.heap.objs.size+1) scope.names cl) qual ae .none (aa env) qJ) { s with heap:=zx (s.heap.push { cls:=.type "dict",data:=.dict #[] }) scope.names }) : ax M A (newFunctionEnv scope globals cl [] qual ae .none (aa env)) Q E s:=by
 simp only[newFunctionEnv,Option.isSome_some,if_true];refine ar (CT ?_);refine ar (wpAny_layCells _ (λname kind cells=>by cases hkc:kind == NameKind.cell <;> simp[hkc]) _ _ _ _ ?_);rw[show({ s with heap:=s.heap.push { cls:=.type "dict",data:=.dict #[] } }:aq).heap.objs.size=s.heap.objs.size+1 from vM ..];refine ar ?_;rw[List.forIn_nil];exact aD (aD hQ)
theorem AE{s:aq}{names:List (Str×g_)}{y:Str}{c:af}(h:(y,c)∈gw (s.heap.objs.size+1) names []) : (zx (s.heap.push { cls:=.type "dict",data:=.dict #[] }) names).IsCell c ae/\s.heap.objs.size+1<=c/\∀ z,(z,c)∈gw (s.heap.objs.size+1) names []->y=z:=by have ok:=cellsFrom_ok names (s.heap.push { cls:=.type "dict",data:=.dict #[] }) (s.heap.objs.size+1) [] ⟨λ_ _ hm=>(nomatch hm),List.Pairwise.nil⟩ (by rw[vM]; exact bo _);rw[vM]at ok;exact⟨(ok.empty y c h).1,(ok.empty y c h).2,λz hz=>name_of_addr ok.apart h hz⟩
def cV(X:Cx)(scope:eG)(N':List Str)(C:af)(s₀:aq)(H₀:Hp)(ex:List af)(pn:List (af×Obj)):Cx where
 prog:=X.prog
 w:=X.w
 K:=X.K
 mg:=X.mg
 base:=X.base
 A:=X.A
 N:=N'
 s₀:=s₀
 H₀:=H₀
 env:=compEnvC scope (lz X scope C) C X.env
 outer:=X.stack
 stack:=X.stack
 ex:=ex
 fn:=λy=>scope.names.lookup y == aa .cell
 calm:=X.calm
 pn:=X.pn++pn
 xe:=λ_ _=>False
def jw(σ:St)(cap:List Nat):St:=cap.map λi=>(σ[i]?).join
structure mG(X:Cx)(scope:eG)(x:Str)(N':List Str)(cap:List Nat):Prop where
 kind:scope.kind = .function
 cells:∀ y∈scope.names,y.2 = .cell->scope.names.lookup y.1=aa .cell
 names:∀ y∈scope.names,y.2 = .local->scope.names.lookup y.1=aa .local
 loc:scope.names.lookup x=aa .local\/scope.names.lookup x=aa .cell
 free:∀ y∈scope.names,y.2 = .free->X.env.kindOf y.1=aa .cell\/X.env.kindOf y.1=aa .free
 nd:N'.Nodup
 hd:N'.head?=aa x
 len:N'.length=cap.length+1
 caps:∀ i j y,N'[i+1]?=aa y->cap[i]?=aa j->X.N[j]?=aa y/\scope.names.lookup y=aa .free
theorem PQ{names:List (Str×g_)}{y:Str}{k:g_}(h:names.lookup y=aa k):∃ x∈names,x.1=y/\x.2=k:=⟨(y,k),lQ h,rfl,rfl⟩
theorem A0{env:Env}{x:Str}:∀ {names:List (Str×g_)} {k:g_}, (names.map λ(n,k)=>if(k == NameKind.free && env.scope.kind == .function && env.kindOf n == aa .cell)then(n,NameKind.cell)else(n,k)).lookup x=aa k -> ∃ k',names.lookup x=aa k'/\(k=k'\/(k' = .free/\k = .cell))
 | [],_,h=>by simp at h
 | (n,k0)::r,k,h=>by
  change zy x ((if(k0 == NameKind.free && env.scope.kind == .function && env.kindOf n == aa .cell)=ai then(n,NameKind.cell)else(n,k0))::_)=_ at h;rw[lm];by_cases hc:(k0 == NameKind.free && env.scope.kind == .function && env.kindOf n == aa .cell)=ai
  ·rw[if_pos hc,lm]at h;split at h
   ·rename_i hb;cases h;have:k0 = .free:=by simp at hc; exact hc.1.1
    exact⟨k0,rfl,.inr ⟨this,rfl⟩⟩
   ·exact A0 h
  ·rw[if_neg hc,lm]at h;split at h
   ·rename_i hb;cases h;exact⟨k0,rfl,.inl rfl⟩
   ·exact A0 h
theorem Cc{env:Env}{x:Str}:∀ {names:List (Str×g_)},names.lookup x=aa .free -> let q:=(names.map λ(n,k)=>if(k == NameKind.free && env.scope.kind == .function && env.kindOf n == aa .cell)then(n,NameKind.cell)else(n,k)).lookup x
  q=aa .cell\/q=aa .free
 | [],h=>by simp at h
 | (n,k0)::r,h=>by
  show zy x ((if(k0 == NameKind.free && env.scope.kind == .function && env.kindOf n == aa .cell)=ai then(n,NameKind.cell)else(n,k0))::_)=_\/zy x ((if(k0 == NameKind.free && env.scope.kind == .function && env.kindOf n == aa .cell)=ai then(n,NameKind.cell)else(n,k0))::_)=_;rw[lm]at h;by_cases hc:(k0 == NameKind.free && env.scope.kind == .function && env.kindOf n == aa .cell)=ai
  ·rw[if_pos hc,lm];cases hb:x == n with
   | true=>exact .inl rfl
   | false=>rw[hb]at h; exact Cc h
  ·rw[if_neg hc,lm];cases hb:x == n with
   | true=>rw[hb]at h; cases h; exact .inr rfl
   | false=>rw[hb]at h; exact Cc h
theorem x_{env:Env}{x:Str}:∀ {names:List (Str×g_)},names.lookup x=aa .cell -> (names.map λ(n,k)=>if(k == NameKind.free && env.scope.kind == .function && env.kindOf n == aa .cell)then(n,NameKind.cell)else(n,k)).lookup x=aa .cell
 | [],h=>by simp at h
 | (n,k0)::r,h=>by
  show zy x ((if(k0 == NameKind.free && env.scope.kind == .function && env.kindOf n == aa .cell)=ai then(n,NameKind.cell)else(n,k0))::_)=_;rw[lm]at h;by_cases hc:(k0 == NameKind.free && env.scope.kind == .function && env.kindOf n == aa .cell)=ai
  ·rw[if_pos hc,lm];cases hb:x == n with
   | true=>rfl
   | false=>rw[hb]at h; exact x_ h
  ·rw[if_neg hc,lm];cases hb:x == n with
   | true=>rw[hb]at h; cases h; rfl
   | false=>rw[hb]at h; exact x_ h
section
variable{X:Cx}{ah:List (af×Obj)}{σ:St}{H:Hp}{s:aq}{scope:eG}{x:Str}{N':List Str}{cap:List Nat}
theorem Inv.freeHas(I:Inv X ah σ H s)(B:mG X scope x N' cap):∀ y∈scope.names,y.2 = .free->∃ c,X.env.cells.lookup y.1=aa c:=λy hy e=>I.ok.has y.1 (B.free y hy e)
theorem Inv.clIn(I:Inv X ah σ H s)(B:mG X scope x N' cap){y:Str}{c:af}(h:(iO X.env scope.names []).lookup y=aa c):X.env.cells.lookup y=aa c:=by
 rcases SH scope.names [] (I.freeHas B) h with q | q
 ·simp at q
 ·exact q
theorem Inv.cbIn(I:Inv X ah σ H s)(B:mG X scope x N' cap){C:af}{y:Str}{c:af}(h:(lz X scope C).lookup y=aa c):((y,c)∈gw (C+1) scope.names []/\scope.names.lookup y=aa .cell)\/((iO X.env scope.names []).lookup y=aa c/\X.env.cells.lookup y=aa c):=by
 rw[Bm,JL]at h;cases e:(gw (C+1) scope.names []).lookup y with
 | none=>rw[e]at h; exact .inr ⟨h,I.clIn B h⟩
 | some c'=>
  rw[e]at h;cases h;have m:=lQ e;rcases xq _ _ _ m with z | z
  ·cases z
  ·exact .inl ⟨m,B.cells _ z rfl⟩
theorem Inv.cbOld(I:Inv X ah σ H s)(B:mG X scope x N' cap){C:af}{y:Str}{c:af}(h:(iO X.env scope.names []).lookup y=aa c)(hk:scope.names.lookup y=aa .free):(lz X scope C).lookup y=aa c:=by
 rw[Bm,JL];cases e:(gw (C+1) scope.names []).lookup y with
 | none=>exact h
 | some c'=>
  rcases xq _ _ _ (lQ e)with z | z
  ·cases z
  ·have:=B.cells _ z rfl;rw[hk]at this; cases this
theorem Inv.block{fp:List af}{h₁:aF}{m:Str->Option am}{t':Nat}(hh:h₁=zx (s.heap.push { cls:=.type "dict",data:=.dict #[] }) scope.names)(I:Inv X ah σ H s)(B:mG X scope x N' cap)(wD:∀ b∈fp,lh X ah H b)(hfo:∀ b∈fp,∃ o,s.heap.get? b=aa o)(kH:h₁.Ns s.heap.objs.size m)(old:∀ b o,s.heap.get? b=aa o->h₁.get? b=aa o):Inv (cV X scope N' s.heap.objs.size s H fp ah) [] (ae::jw σ cap) H { s with heap:=h₁,toks:=t' }:=by
 have ltC:∀ x c,X.env.cells.lookup x=aa c->c<s.heap.objs.size:=λx c e=>(I.cell x c e).elim λv q=>q.lt;have ncell:∀ {y:Str} {c:af},(y,c)∈gw (s.heap.objs.size+1) scope.names []->h₁.IsCell c ae/\s.heap.objs.size+1<=c/\∀ z,(z,c)∈gw (s.heap.objs.size+1) scope.names []->y=z:=λh=>by rw[hh]; exact AE h
 have lk:∀ y k,(compEnvC scope (lz X scope s.heap.objs.size) s.heap.objs.size X.env).kindOf y=aa k->∃ k',scope.names.lookup y=aa k'/\(k=k'\/(k' = .free/\k = .cell)):=λy k h=>A0 h;have fhas:∀ y,scope.names.lookup y=aa .free->∃ c,(iO X.env scope.names []).lookup y=aa c:=λy h=>z7 scope.names [] (PQ h);have nfs:∀ b∈gG X.stack,b≠s.heap.objs.size:=λb hb e=>by
  rcases ca.mp (I.stkSub b hb)with z | z
  ·exact absurd I.lt (by rw[← z,e]; exact fG _)
  ·exact I.nofs (mX e.symm) z
 refine⟨⟨I.ok.mod,B.kind,I.ok.glob,I.ok.blt,bo _,λy z c h1 h2=>?_,λy hy=>?_,λy c h jR=>?_,I.ok.hd,I.ok.frames,.inl rfl,λb hb=>?_,λb o e=>I.bs b o e,cL I.ok.bsz I.sz,λb o e hb=>?_,λb hb hf=>?_,I.stack,(λb hb=>I.stkFree b hb),I.tab⟩,rfl,I.bare,Un.kept old,⟨m,kH,λi y v e1 e2 e3=>?_⟩,λy c h=>?_,I.hok.fresh (bo _),λy c h=>?_,λp hp=>?_,I.hok.kept old,?_⟩
 ·-- inj
  rcases I.cbIn B h1 with⟨a1,a2⟩ | ⟨a1,a2⟩ <;> rcases I.cbIn B h2 with⟨b1,b2⟩ | ⟨b1,b2⟩
  ·exact(ncell a1).2.2 z b1
  ·exact(vo (ncell a1).2.1 (ltC _ _ b2)).elim
  ·exact(vo (ncell b1).2.1 (ltC _ _ a2)).elim
  ·exact I.ok.inj y z c a2 b2
 ·-- has
  show ∃ c,(lz X scope s.heap.objs.size).lookup y=aa c;have kI:scope.names.lookup y=aa .free->∃ c,(lz X scope s.heap.objs.size).lookup y=aa c:=λq=>(fhas y q).imp λc hc=>I.cbOld B hc q;rcases hy with hy | hy
  ·obtain⟨k',q,z | ⟨z,_⟩⟩:=lk y _ hy
   ·subst z; exact zi _ _ _ (lQ q)
   ·subst z; exact kI q
  ·obtain⟨k',q,z | ⟨_,z⟩⟩:=lk y _ hy
   ·subst z; exact kI q
   ·cases z
 ·-- cab
  have hk:scope.names.lookup y=aa .cell:=by simpa using(show(scope.names.lookup y == aa .cell)=ai from h)
  show s.heap.objs.size<=c;rcases I.cbIn B jR with⟨a1,a2⟩ | ⟨a1,a2⟩
  ·have:=(ncell a1).2.1; lia
  ·obtain⟨c',iF⟩:=zi (n:=s.heap.objs.size+1) (a:=[]) _ (lQ hk);have e:(lz X scope s.heap.objs.size).lookup y=aa c':=by rw[Bm,JL,iF]; rfl
   have e2:(lz X scope s.heap.objs.size).lookup y=aa c:=jR;rw[e]at e2; cases e2;have:=(ncell (lQ iF)).2.1; lia
 ·-- exf
  obtain⟨f0,f1,f2,f3,f4,f5⟩:=wD b hb;obtain⟨o,ho⟩:=hfo b hb;refine⟨λe=>absurd (bE ho) (by rw[e]; exact fG _),λy c h=>?_⟩;rcases I.cbIn B h with⟨a1,a2⟩ | ⟨a1,a2⟩
  ·rintro rfl;exact vo (ncell a1).2.1 (bE ho)
  ·exact f4 y c a2
 ·-- noex
  obtain⟨f0,f1,f2,f3,f4,f5⟩:=wD b hb;rcases f3 with z | z
  ·exact I.ok.noex b o e z
  ·exact absurd (fW (bE e) (cL I.ok.bsz z)) (fG _)
 ·-- exfs
  obtain⟨f0,f1,f2,f3,f4,f5⟩:=wD b hb;rcases ca.mp (I.stkSub b hf)with z | z
  ·exact f1 z
  ·exact f2 z
 ·-- loc
  cases i with
  | zero=>simp at e2
  | succ i=>
   have me:(jw σ cap)[i]?=aa (aa v):=by simpa using e2
   unfold jw at me;rw[jh]at me;cases hj:cap[i]? with
   | none=>rw[hj]at me; cases me
   | some j=>
    rw[hj]at me;have e4:(σ[j]?).join=aa v:=eQ me;have e5:σ[j]?=aa (aa v):=by
     cases hq:σ[j]? with
     | none=>rw[hq]at e4; cases e4
     | some o=>rw[hq]at e4; exact congrArg aa e4
    obtain⟨b1,b2⟩:=B.caps i j y e1 hj;obtain⟨mm,hn,hl⟩:=I.loc;have wg:=B.free _ (lQ b2) rfl;have vis:ga X.env.scope y:=by
     rcases wg with z | z
     ·exact .inr (.inl z)
     ·exact .inr (.inr z)
    obtain⟨u,r,l⟩:=hl j y v b1 e5 vis;refine⟨u,r,.inr ⟨Cc b2,?_⟩⟩;rcases l with⟨l,_⟩ | ⟨_,c,hc,lZ⟩
    ·rcases wg with z | z
     ·rw[l]at z; cases z
     ·rw[l]at z; cases z
    ·obtain⟨c',iF⟩:=fhas y b2;have e6:=I.clIn B iF;rw[hc]at e6;cases e6;obtain⟨oo,ho,hd⟩:=lZ;exact⟨c,I.cbOld B iF b2,oo,old c oo ho,hd⟩
 ·rcases I.cbIn B h with⟨a1,a2⟩ | ⟨a1,a2⟩
  ·exact⟨ae,(ncell a1).1⟩
  ·obtain⟨v,oo,ho,hd⟩:=I.cell y c a2;exact⟨v,oo,old c oo ho,hd⟩
 ·rcases I.cbIn B h with⟨a1,a2⟩ | ⟨a1,a2⟩
  ·exact I.hok.fresh (cL (zz _) (ncell a1).2.1)
  ·exact I.freeC y c a2
 ·have iU:p∈X.pn++ah:=by simpa[cV]using hp
  obtain⟨e,n,ne,nf,d⟩:=I.pin p iU;refine⟨old _ _ e,n,c_ (bE e),λhf=>?_,d⟩;rcases ca.mp (I.stkSub p.1 hf)with z | z
  ·exact ne z
  ·exact nf z
 ·show(ae::jw σ cap).length=N'.length;rw[B.len]; simp[jw]
end
def yz(X:Cx)(ifs:List aC)(t:TT):Prop :=
 ∀ (ah:List (af×Obj)) (s:aq) (σ:St) (H:Hp) (Q:Bool->Hp->Prop),Inv X ah σ H s->t σ H Q ->
  ax (ay X.prog X.w) X.A (forIn ifs ai λc r=>if r=ai then do let ok ← n8 c X.env (bz c X.env); pure (ForInStep.yield ok)else pure (ForInStep.yield r)) (TP X ah σ Q) X.xe s
theorem FH{P:aX}{w:aN}{A:be}{R:Result->aq->Prop}{s:aq}{elt tg iter:aC}{ifs:List aC}{scope:eG}{pos:Pos}{it au:am}{env:Env}(J:Nat->aq->Prop)(turn:∀ k s1,J k s1->ax (ay P w) A (pyNext it) (λr s2=>match r with
   | none=>R (.ok .next) s2
   | some v=>ax (ay P w) A (CG tg it v) (λ_ s3=>ax (ay P w) A (assign tg env v) (λ_ s4=>ax (ay P w) A (forIn ifs ai λc r=>if r=ai then do let ok ← n8 c env (bz c env); pure (ForInStep.yield ok)else pure (ForInStep.yield r)) (λb s5=>if b=ai then ax (ay P w) A (bz elt env) (λy s6=>ax (ay P w) A (call (.builtin "list.append") [au,y]) (λ_ s7=>∃ j,j<k/\J j s7) (λ_ _=>False) s6) (λ_ _=>False) s5 else ∃ j,j<k/\J j s5) (λ_ _=>False) s4) (λ_ _=>False) s3) (λ_ _=>False) s2) (λ_ _=>False) s1) (k:Nat) (h:J k s) :
  pB (ay P w) A (.compLoop (.ListComp elt [⟨tg,iter,ifs,0⟩] scope pos) 0 it au env) R s:=by
 refine codeAny_loop rfl J (λj s1 hJ=>?_) k h;show ax _ A (Sem.onRaise (compTurn (.ListComp elt [⟨tg,iter,ifs,0⟩] scope pos) 0 it au env) (λx=>do noteFrame x env; theTreesLotGoes x)) _ _ s1;refine wpAny_noted ?_;rw[compTurn_list];have no:∀ (E':am->aq->Prop) (a:am) (b:aq),False->E' a b:=λ_ _ _ f=>f.elim;refine ar (wpAny_standAt (ar (d_ (turn j s1 hJ) (λr s2 h2=>?_) (no _))));cases r with
 | none=>exact aD h2
 | some v=>
  refine ar (d_ h2 (λ_ s3 h3=>ar (d_ h3 (λ_ s4 h4=>ar (d_ h4 (λb s5 h5=>?_) (no _))) (no _))) (no _));cases b with
  | true=>exact ar (ar (d_ h5 (λy s6 h6=>ar (d_ h6 (λ_ s7 h7=>aD (aD ⟨rfl,h7⟩)) (no _))) (no _)))
  | false=>exact aD ⟨rfl,h5⟩
def ML:TT:=λ_ H Q=>Q ai H
theorem NV{X:Cx}:yz X [] ML:=λ_ _ _ H _ I h=>wpAny_tests_nil ⟨H,I,h⟩
theorem Ud{X:Cx}{c:aC}{t:TT}(h:PT X c t):yz X [c] t:=λah s σ H Q I hw=>wpAny_tests_one (h ah s σ H Q I hw)
def Cr(wi:TI)(ts:TT)(te:TE)(cap:List Nat):TE:=λσ H Q=>wi σ H λJ H1=>∀ l,H1 l=ae->∃ W:Nat->Nat->List V->Hp->Prop,(∃ m,W 0 m [] (upd H1 l (.lst [])))/\∀ i m ys H,W i m ys H ->
 (J.stop i H/\Q (.ref l) H)\/(J.go i H/\∀ v H',J.yld i H v H'->ts (aa v::jw σ cap) H' λb H2=>if b=ai then te (aa v::jw σ cap) H2 λy H3=>H3 l=aa (.lst ys)/\ys.length<bx/\∃ m',m'<m/\W (i+1) m' (ys++[y]) (upd H3 l (.lst (ys++[y]))) else ∃ m',m'<m/\W (i+1) m' ys H2)
section
variable{X:Cx}{ah:List (af×Obj)}{σ:St}{H:Hp}{s:aq}{scope:eG}{x:Str}{N':List Str}{cap:List Nat}
theorem Inv.unblock{fp:List af}{H':Hp}{σ':St}{s':aq}{ig:aF}(I:Inv X ah σ H s)(wD:∀ b∈fp,lh X ah H b)(I':Inv (cV X scope N' s.heap.objs.size s H fp ah) [] σ' H' s') (sb:jf s.heap.objs.size s'.heap ig):Inv X ah σ H' { s' with heap:=ig }:=by
 have k:∀ b o,b≠s.heap.objs.size->s'.heap.get? b=aa o->ig.get? b=aa o:=λb o hb e=>(sb.2 b hb).trans e;have nC:∀ b o,s.heap.get? b=aa o->b≠s.heap.objs.size:=λb o e=>c_ (bE e);have un:Un (gG X.stack) fp H H' s.heap ig:=by
  refine⟨λb o e n hb hx=>k b o (nC b o e) (I'.base.keep b o e n hb hx),λb o e n hb hx=>?_,λb o e n hx=>I'.base.free b o e n hx,λb o e hx=>?_,I'.base.tups,I'.base.frzs,I'.base.tbls⟩
  ·obtain⟨sl,q⟩:=I'.base.slot b o e n hb hx;exact⟨sl,k b _ (nC b o e) q⟩
  ·obtain⟨o',q⟩:=I'.base.there b o e hx;exact⟨o',k b o' (nC b o e) q⟩
 have hok:eD X.prog X.w H' ig:=λb u e=>by
  have hCn:H' s.heap.objs.size=ae:=I'.free;refine(I'.hok b u e).stay (λc v hc q=>k c v ?_ q) (λ_ q=>q) λ_ _ q=>q;rintro rfl;rcases hc with z | z
  ·rw[← z,hCn]at e; cases e
  ·rw[hCn]at z; cases z
 refine I.call' (s':={ s' with heap:=ig }) (ch:=fp) I'.os un hok I'.bare λb hb=>?_;obtain⟨f0,f1,f2,f3,f4,f5⟩:=wD b hb;exact⟨f3,f1,f4,f5⟩
theorem OA{elt iter:aC}{px pos:Pos}{ifs:List aC}{wi:TI}{ts:TT}{te:TE}(B:mG X scope x N' cap)(hc:X.calm=ai)(hi:PI X (.Name x px) iter wi)(ht:∀ C s₀ H₀ ex pn,yz (cV X scope N' C s₀ H₀ ex pn) ifs ts) (he:∀ C s₀ H₀ ex pn,PE (cV X scope N' C s₀ H₀ ex pn) elt te) (hs:∀ x,vL iter X.env x=pure x:=by intro _; rfl) : PE X (.ListComp elt [⟨.Name x px,iter,ifs,0⟩] scope pos) (Cr wi ts te cap):=by
 intro ah s σ H Q I h;rw[eval_ListComp];refine wpAny_comprehension_free (use:=ae) rfl hs (IJ (I.freeHas B)) B.kind B.names (aW (hi ah s σ H _ I h) λv s1 h1=>aW h1 λitv s2 h2=>?_);obtain⟨it,fp,tn,J,H2,e,I2,T,ba,f2,h2⟩:=h2;subst e;refine m8 ?_;have I3:Inv X ah σ (upd H2 s2.heap.objs.size (.lst [])) { s2 with heap:=s2.heap.push { cls:=.type "list",data:=.seq ([]:List am).toArray },toks:=s2.toks }:=I2.lnew (its:=[]) (t':=s2.toks) .nil (lj _);obtain⟨W,⟨m0,w0⟩,turn⟩:=h2 s2.heap.objs.size I2.fresh;generalize mf:({ s2 with heap:=s2.heap.push { cls:=.type "list",data:=.seq ([]:List am).toArray },toks:=s2.toks }:aq)=s3 at I3;have hs3':({ s2 with heap:=s2.heap.push { cls:=.type "list",data:=.seq ([]:List am).toArray } }:aq)=s3:=mf;generalize hH3:upd H2 s2.heap.objs.size (.lst [])=H3 at I3 w0;have nl:∀ b∈fp,b≠s2.heap.objs.size:=λb hb e=>by obtain⟨o,ho,_⟩:=T.obj _ _ ba b hb;exact absurd (bE ho) (by rw[e]; exact fG _)
 have k3:∀ b o,s2.heap.get? b=aa o->s3.heap.get? b=aa o:=λb o e=>by rw[← mf]; exact bK _ e
 have f3:∀ b∈fp,lh X ah H3 b:=λb hb=>⟨by rw[← hH3,cu (nl b hb)]; exact(f2 b hb).1,(f2 b hb).2⟩
 have bM:tn 0 s3.heap:=T.keep _ _ _ ba λb _ o e=>k3 b o e;have fo3:∀ b∈fp,∃ o,s3.heap.get? b=aa o:=λb hb=>(T.obj _ _ bM b hb).imp λo q=>q.1;refine GV ?_;generalize hh:zx (s3.heap.push { cls:=.type "dict",data:=.dict #[] }) scope.names=h₁;have old:∀ b o,s3.heap.get? b=aa o->h₁.get? b=aa o:=λb o e=>hh ▸ CU _ _ b o (bK _ e);have kH:h₁.Ns s3.heap.objs.size (λ_=>ae):=hh ▸ (Heap.Ns.new s3.heap (.type "dict")).keeps (CU _ _);have I4:=Inv.block (t':=s3.toks) hh.symm I3 B f3 fo3 kH old;have bX:tn 0 h₁:=T.keep _ _ _ bM λb _ o e=>old b o e;have statB:∀ {H':Hp},(∀ b∈fp,H' b=ae)->∀ b∈fp,lh (cV X scope N' s3.heap.objs.size s3 H3 fp ah) [] H' b:=λhn b hb=>by
  obtain⟨f0,f1,f2',f3',f4,f5⟩:=f3 b hb;refine⟨hn b hb,λe=>?_,λhf=>?_,.inl hb,λy c h=>?_,λp hp=>f5 p (by simpa[cV]using hp)⟩
  ·obtain⟨o,ho⟩:=fo3 b hb;exact absurd (bE ho) (by rw[show b=s3.heap.objs.size from e]; exact fG _)
  ·rcases ca.mp (I3.stkSub b hf)with z | z
   ·exact f1 z
   ·exact f2' z
  ·rcases I3.cbIn B h with⟨a1,a2⟩ | ⟨a1,a2⟩
   ·rintro rfl;obtain⟨o,ho⟩:=fo3 _ hb;exact vo (AE a1).2.1 (bE ho)
   ·exact f4 y c a2
 have Dz:Loc (cV X scope N' s3.heap.objs.size s3 H3 fp ah).env.scope x:=B.loc.elim (λh=>.inl (CV h)) (λh=>.inr (x_ h));have DQ:(cV X scope N' s3.heap.objs.size s3 H3 fp ah).fn x=ai\/(cV X scope N' s3.heap.objs.size s3 H3 fp ah).env.scope.names.lookup x=aa .local:=B.loc.elim (λh=>.inr (CV h)) (λh=>.inl (by show(scope.names.lookup x == aa .cell)=ai; rw[h]; rfl));have hN0:(cV X scope N' s3.heap.objs.size s3 H3 fp ah).N[0]?=aa x:=by show N'[0]?=aa x;rw[← List.head?_eq_getElem?]; exact B.hd
 have loop:pB (ay X.prog X.w) X.A (.compLoop (.ListComp elt [⟨.Name x px,iter,ifs,0⟩] scope pos) 0 (.ref it) (.ref s2.heap.objs.size) (compEnvC scope (lz X scope s3.heap.objs.size) s3.heap.objs.size X.env))
   (compPost (ay X.prog X.w) X.A X.xe ae (EP X ah σ Q) (.ref s2.heap.objs.size) s3.heap.objs.size) { s3 with heap:=h₁,toks:=s3.toks }:=by
  refine FH (λn s'=>∃ i ys σ' H',(∃ v0,σ'=v0::jw σ cap)/\Inv (cV X scope N' s3.heap.objs.size s3 H3 fp ah) [] σ' H' s'/\tn i s'.heap/\(∀ b∈fp,H' b=ae)/\W i n ys H') ?_ m0
   ⟨0,[],_,H3,⟨ae,rfl⟩,I4,bX,λb hb=>(f3 b hb).1,w0⟩
  rintro n s5 ⟨i,ys,σ5,H5,⟨v0,rfl⟩,I5,cq,fr5,w5⟩;rcases turn i n ys H5 w5 with⟨stop,q⟩ | ⟨go,step⟩
  ·refine d_ (T.done (cV X scope N' s3.heap.objs.size s3 H3 fp ah) rfl rfl rfl hc i [] s5 _ H5 (λ_ _=>False) I5 (statB fr5) cq stop) (λr s6 ⟨hr,I6⟩=>?_) (λ_ _ f=>f.elim);subst hr;obtain⟨mm,hn6,_⟩:=I6.loc;exact⟨mm,hn6,λig sb=>⟨.ref s2.heap.objs.size,H5,I3.unblock f3 I6 sb,rfl,q⟩⟩
  ·refine d_ (T.item (cV X scope N' s3.heap.objs.size s3 H3 fp ah) rfl rfl rfl hc i [] s5 _ H5 (λ_ _=>False) I5 (statB fr5) cq go) (λr s6 ⟨u,hr,h6⟩=>?_) (λ_ _ f=>f.elim);subst hr;refine d_ h6 (λ_ s7 ⟨v,H7,I7,r7,y7,qX,fr7⟩=>?_) (λ_ _ f=>f.elim);have I7':=I7.pinned (statB fr7) (T.obj _ _ qX);have back:∀ {σ8:St} {H8:Hp} {s8:aq},Inv (cV X scope N' s3.heap.objs.size s3 H3 fp ah) ([]++sO fp s7.heap) σ8 H8 s8->tn (i+1) s8.heap/\(∀ b∈fp,H8 b=ae):=λ{σ8 H8 s8} I8=>⟨T.keep _ _ _ qX λb hb o e=>(I8.pin (b,o) (j2 _ (j2 _ (sK hb e)))).1,λb hb=>by obtain⟨o,e,d⟩:=T.obj _ _ qX b hb;exact(I8.pin (b,o) (j2 _ (j2 _ (sK hb e)))).2.1⟩
   refine CD (yE (v:=v) I7' B.nd hN0 Dz r7 (λs8 I8=>?_) DQ);refine aW (ht _ _ _ _ _ _ s8 _ H7 _ I8 (step v H7 y7)) λb s9 ⟨H9,I9,q9⟩=>?_;cases b with
   | false=>
    obtain⟨m',hm,w9⟩:=(show ∃ m',m'<n/\W (i+1) m' ys H9 from q9)
    exact⟨m',hm,i+1,ys,_,H9,⟨aa v,rfl⟩,I9.unpinned,(back I9).1,(back I9).2,w9⟩
   | true=>refine aW (he _ _ _ _ _ _ s9 _ H9 _ I9 q9) λu10 s10 ⟨y,H10,I10,r10,DU,DV,m',hm,w10⟩=>?_;refine aW (Bh _ s10 _ H10 (.ref s2.heap.objs.size) [y] _ [u10] (λz H11=>H11=upd H10 s2.heap.objs.size (.lst (ys++[y]))) I10 rfl (.cons r10 .nil) ⟨_,ys,y,rfl,rfl,DU,DV,rfl⟩) λ_ s11 ⟨_,H11,I11,_,e11⟩=>?_;subst e11;exact⟨m',hm,i+1,ys++[y],_,_,⟨aa v,rfl⟩,I11.unpinned,(back I11).1,(back I11).2,w10⟩
 exact codeAny_compStart_list loop (T.self _ 0 _ _ _ bX loop)
end
def Walk(J:It)(xs:List V)(R:Hp->Prop):Prop :=
 ∀ H,R H->∀ i,(∀ x,xs[i]?=aa x->J.go i H/\∀ y H',J.yld i H y H'->H'=H/\y=x)/\(i=xs.length->J.stop i H)
theorem Pr{K:az}{a:af}{xs:List V}:Walk (Aq K a) xs (λH=>cg K H a xs):=λH h i=>⟨λx hx=>⟨⟨xs,x,h,hx⟩,λy H' z=>⟨z.1,by have:=z.2 xs h; rw[hx]at this; exact(eQ this).symm⟩⟩,λhi=>⟨xs,h,mX hi.symm⟩⟩
theorem Ld{K:az}{a:af}{xs:List V}:Walk (Bz K a) xs (λH=>dz K H a xs):=λH h i=>⟨λx hx=>⟨⟨xs,x,h,hx⟩,λy H' z=>⟨z.1,by have:=z.2 xs h; rw[hx]at this; exact(eQ this).symm⟩⟩,λhi=>⟨xs,h,mX hi.symm⟩⟩
def sh(lo:Int)(n:Nat):List V:=(bQ n).map λi=>V.int (lo+(i:Nat))
theorem xI(lo:Int)(n:Nat):(sh lo n).length=n:=by simp[sh]
theorem Gf{lo:Int}{n:Nat}:Walk (uV lo n) (sh lo n) (λ_=>True):=λH _ i=>by
 refine⟨λx hx=>?_,λhi=>by rw[xI]at hi; exact mX hi.symm⟩;have bv:i<n:=by have:=(eE.mp hx).1; rw[xI]at this; exact this
 refine⟨bv,λy H' z=>⟨z.1,?_⟩⟩;unfold sh at hx;rw[jh,CW bv]at hx;have wE:V.int (lo+(i:Nat))=x:=eQ hx;rw[z.2,← wE]
def sg(c:Nat):V:=.str ⟨#[c]⟩
def vt(z:Str):It:=⟨λi _=>i<z.cps.size,λi H x H'=>H'=H/\∃ c,z.cps[i]?=aa c/\x=sg c,λi _=>i=z.cps.size⟩
theorem Ql{z:Str}:Walk (vt z) (z.cps.toList.map sg) (λ_=>True):=λH _ i=>by
 refine⟨λx hx=>?_,λhi=>by show i=z.cps.size; simpa using hi⟩;rw[jh]at hx;cases e:z.cps.toList[i]? with
 | none=>rw[e]at hx; cases hx
 | some c=>
  rw[e]at hx;have bv:i<z.cps.size:=by have:=(eE.mp e).1; simpa using this
  refine⟨bv,λy H' w=>⟨w.1,?_⟩⟩;obtain⟨c',e',rfl⟩:=w.2;have:z.cps[i]?=aa c:=by simpa using e
  rw[this]at e';cases e';exact(eQ hx)
theorem Same.upd{H H':Hp}{l:af}{o:HO}(h:Same H H')(hl:H l=ae):Same H (upd H' l o):=λb u e=>by rw[cu (nB e hl)]; exact h b u e
theorem Same.tup{K:az}{H H':Hp}{a:af}{xs:List V}(e:Same H H')(h:dz K H a xs):dz K H' a xs:=by
 rcases h with(h | ⟨o,h⟩) | h
 ·exact .inl (.inl (e _ _ h))
 ·exact .inl (.inr ⟨o,e _ _ h⟩)
 ·exact .inr h
section
variable{X:Cx}{tg:aC}
theorem RI{P:aX}{w:aN}{K:az}{z:Str}{it:af}{St':Nat->aF->Prop} (t6:∀ i h,St' i h->∃ o n vs,h.get? it=aa o/\o.cls = .type n/\o.data = .fields vs /\ ["enumerate","zip","dict_itemiterator","dict_reverseitemiterator","odict_iterator","itertools.zip_longest","itertools.pairwise"].contains n=ao)(UD:∀ (A:be) (i:Nat) (s:aq) (Q:am->aq->Prop) (E:am->aq->Prop),St' i s.heap->Q (.ref it) s->ax (ay P w) A (pr (.ref it)) Q E s)(hW:∀ A:be,A.handled=ae->Walks P w A it [it] [it] z.cps.size (SignAt z) St'):uG P w K tg (vt z) [it] it St' where
 mem:=by simp
 obj:=λi h st b hb=>by
  have e:b=it:=by simpa using hb
  subst e;obtain⟨o,n,vs,h1,_,h3,_⟩:=t6 i h st;exact⟨o,h1,λv q=>by rw[h3]at q; cases q⟩
 keep:=λi h h' st k=>by exact(hW ({}:be) rfl).frame i h h' st k
 item:=by intro X hP hw hK hc i ah s σ H E I hf st hg;subst hP hw hK;obtain⟨f0,f1,f2,f3,f4,f5⟩:=hf it (by simp);refine(hW X.A (I.ok.hd hc)).item i s _ _ hg st λv h' tk hv aA k=>?_;have I1:Inv X ah σ H { s with heap:=h',toks:=tk }:=I.turned (t':=tk) (λb o hb e=>k b o (by simpa using hb) e) f0 f1 f3 f4 f5;obtain⟨o,n,vs,h1,h2,h3,h4⟩:=t6 _ _ aA;obtain⟨c,u,e1,rfl⟩:=hv;exact⟨_,rfl,xj (s:={ s with heap:=h',toks:=tk }) h1 h2 h3 h4 ⟨sg c,H,I1,⟨u,rfl⟩,⟨rfl,c,e1,rfl⟩,aA,λb hb=>(hf b hb).1⟩⟩
 done:=by intro X hP hw hK hc i ah s σ H E I hf st hg;subst hP hw hK;obtain⟨f0,f1,f2,f3,f4,f5⟩:=hf it (by simp);have mh:i=z.cps.size:=hg;subst mh;exact(hW X.A (I.ok.hd hc)).done s _ _ st λh' tk k=>⟨rfl,I.turned (t':=tk) (λb o hb e=>k b o (by simpa using hb) e) f0 f1 f3 f4 f5⟩
 self:=UD
theorem QX{J:It}{xs:List V}{R:Hp->Prop}{g:TG}{tb:TS}{D:lH}{σ:St}{H:Hp}(hJ:Walk J xs R)(Pv:Nat->St->Hp->Prop)(h0:Pv 0 σ H)(hl:∀ i σ H,i<=xs.length->Pv i σ H->R H)(hs:∀ i x σ H,xs[i]?=aa x->Pv i σ H->g x σ H λσ2 H2=>tb { D with nx:=Pv (i+1),ct:=Pv (i+1),bk:=D.nx } σ2 H2) (hd:∀ σ H,Pv xs.length σ H->D.nx σ H) : ∃ W:Nat->Nat->St->Hp->Prop,(∃ m,W 0 m σ H)/\∀ i m σ H,W i m σ H -> (J.stop i H/\D.nx σ H)\/(J.go i H/\∃ N:St->Hp->Prop,(∀ σ' H',N σ' H'->∃ m',m'<m/\W (i+1) m' σ' H')/\∀ x H',J.yld i H x H'->g x σ H' λσ2 H2=>tb { D with nx:=N,ct:=N,bk:=D.nx } σ2 H2):=by
 refine⟨λi m σ H=>m=xs.length-i/\i<=xs.length/\Pv i σ H,⟨xs.length,by simp,lj _,h0⟩,?_⟩;rintro i m σ H ⟨rfl,hi,p⟩;have q:=hJ H (hl i σ H hi p) i;by_cases bv:i<xs.length
 ·have hx:xs[i]?=aa xs[i]:=by simp[bv]
  obtain⟨go,yl⟩:=q.1 xs[i] hx;refine .inr ⟨go,Pv (i+1),λσ' H' p'=>⟨xs.length-(i+1),∅,rfl,bv,p'⟩,λx H' y=>?_⟩;obtain⟨rfl,rfl⟩:=yl x H' y;exact hs i _ σ _ hx p
 ·have e:i=xs.length:=∅
  subst e;exact .inl ⟨q.2 rfl,hd σ H p⟩
theorem Tq{α:Type}(l:List α)(f:α->Bool)(d:Nat->Bool)(hd:∀ i x,l[i]?=aa x->d i=f x):(bQ l.length).all d=l.all f:=by
 induction l generalizing d with
 | nil=>rfl
 | cons x r ih=>rw[eI,qO,vR,CY,vR,hd 0 x rfl];congr 1;exact ih _ λi y h=>hd (i+1) y (by simpa using h)
theorem Jj{bs:List Bool}{us:List am}(r:bJ (bs.map V.bl) us){i:Nat}{v:am}(h:us.toArray[i]?=aa v):v = .bool (bs.getD i ao):=by
 have hl:=r.length;rw[cD]at hl;have hi:i<us.length:=by have:=(tI.mp h).1; simpa using this
 have e:(bs.map V.bl)[i]?=aa (.bl (bs.getD i ao)):=by rw[jh,iB ∅];simp[List.getD,iB (show i<bs.length by lia)]
 obtain⟨u,e1,e2⟩:=r.get e;have:us[i]?=aa v:=by simpa using h
 rw[this]at e1;cases e1;exact e2
theorem w_{A:be}(h:A.handled=ae):A.in1.handled=ae:=h
theorem Ix(hc:X.calm=ai):im X (.builtin "all") (λxs H Q=>∃ (p:af) (bs:List Bool),xs=[.ref p]/\cg X.K H p (bs.map V.bl)/\Q (.bl (bs.all id)) H):=by
 intro ah s σ H xs us Q I r h;obtain⟨p,bs,rfl,hq,q⟩:=h;obtain⟨u,rfl,ru⟩:=vals1 r;cases ru;obtain⟨its,rv,pl,hz⟩:=I.list hq;have hl:=rv.length;rw[cD]at hl;refine call_all_walk (CZ pl.isList ?_);have cO:p≠s.heap.objs.size:=by obtain⟨o,ho,_⟩:=pl.isList;exact c_ (bE ho)
 refine⟨s.heap.objs.size,_,_,_,_,_,λi=>bs.getD i ao,rfl,Walks.list (w_ (I.ok.hd hc)) s.heap.objs.size p cO its.toArray,⟨⟨_,dG _ rfl,rfl,rfl⟩,?_⟩,λi v s' Q' E' hv hQ=>?_,λh' tk k=>?_⟩
 ·obtain⟨o,ho,hc,hd⟩:=pl.isList;exact⟨o,bK _ ho,hc,hd⟩
 ·rw[Jj rv hv];exact n9 hQ
 ·have e:(bQ its.toArray.size).all (λi=>bs.getD i ao)=bs.all id:=by
   rw[dH,← hl];exact Tq bs id _ λi x hx=>by simp[List.getD,hx]
  rw[e];have I1:Inv X ah σ H { s with heap:=s.heap.push { cls:=.type "list_iterator",data:=.fields #[.ref p,.int 0 0] },toks:=s.toks }:=I.kept (t':=s.toks) λb o e=>bK _ e;exact⟨.bl _,H,Inv.turned (t':=tk) I1 (it:=s.heap.objs.size) (λb o hb e=>k b o (by simpa using hb) e) I.fresh (mW I.lt) (.inr I.sz) (λx c e z=>by obtain⟨v,qq⟩:=I.cell x c e;exact absurd qq.lt (by rw[z]; exact fG _)) (λpp hp z=>absurd (bE (I.pin pp hp).1) (by rw[z]; exact fG _)),rfl,q⟩
end
section
variable{X:Cx}
def mD(z:Str)(lo hi:Option Int):Str:=⟨((z.cps.toList.drop (HT.sIx z.length 0 lo)).take (HT.sIx z.length z.length hi-HT.sIx z.length 0 lo)).toArray⟩
theorem QV(a b:Nat):sliceRange (a:Int) (b:Int) 1=(bQ (b-a)).map λk=>a+k:=by
 unfold sliceRange;have e:(if(1:Int) > 0 then(if(a:Int)<(b:Int)then((b:Int)-a+1-1) / 1 else 0)else(if(a:Int) > b then((a:Int)-b-1-1) / (-1)else 0)).toNat=b-a:=by
  rw[if_pos (by decide)];split
  ·rw[Int.ediv_one]; lia
  ·have:b-a=0:=∅
   rw[this]; rfl
 show(bQ (if(1:Int) > 0 then(if(a:Int)<(b:Int)then((b:Int)-a+1-1) / 1 else 0)else(if(a:Int) > b then((a:Int)-b-1-1) / (-1)else 0)).toNat).map _=_;rw[e];refine gP λk _=>?_;lia
theorem L_(lo hi:Option Int)(n:Nat):Builtin.Str.strSliceIndices lo hi 1 n=(bQ (HT.sIx n n hi-HT.sIx n 0 lo)).map λk=>HT.sIx n 0 lo+k:=by
 rw[← QV];have p:(1:Int) > 0:=by decide
 cases lo <;> cases hi <;> (unfold Builtin.Str.strSliceIndices HT.sIx; simp only[p,if_true]; congr 1 <;> (try split) <;> lia)
theorem Ny{α:Type}(l:List α)(a k:Nat):((bQ k).map λj=>a+j).filterMap (λi=>l[i]?)=(l.drop a).take k:=by
 induction k with
 | zero=>simp
 | succ k ih=>
  rw[tJ,oi,List.filterMap_append,ih,List.take_succ];congr 1;simp[n5];cases l[a+k]? <;> rfl
theorem Nv(z:Str)(t:Tok)(l u:Option (Int×Tok)):∃ m,sliceMade z t l u ae=m/\(m = .val (.str z t)/\mD z (l.map (·.1)) (u.map (·.1))=z\/m = .str (mD z (l.map (·.1)) (u.map (·.1)))):=by
 refine⟨_,rfl,?_⟩;unfold sliceMade slicePicked;have e:=L_ (l.map (·.1)) (u.map (·.1)) z.length;simp only[C0,JF];rw[e];have pk:=Ny z.cps.toList (HT.sIx z.length 0 (l.map (·.1))) (HT.sIx z.length z.length (u.map (·.1))-HT.sIx z.length 0 (l.map (·.1)));have pk':(((bQ (HT.sIx z.length z.length (u.map (·.1))-HT.sIx z.length 0 (l.map (·.1)))).map λk=>HT.sIx z.length 0 (l.map (·.1))+k).filterMap (z.cps[·]?)).toArray=(mD z (l.map (·.1)) (u.map (·.1))).cps:=by unfold mD;rw[← pk];simp
 split
 ·rename_i h;left;refine⟨rfl,?_⟩;simp only[beq_self_eq_true,C1,cD,List.length_range,beq_iff_eq]at h;have h0:HT.sIx z.length z.length (u.map (·.1))<=z.length:=HT.sIx_le _ _ (bo _) _;have hl:z.cps.toList.length=z.length:=by simp[Str.length]
  have h1:HT.sIx z.length 0 (l.map (·.1))=0\/z.length=0:=∅
  unfold mD;rw[h];rcases h1 with h1 | h1
  ·rw[h1,C3,lT ∅]
  ·have:z.cps.toList=[]:=zA ∅;rw[this];cases z;rename_i c;simp at this;subst this;simp
 ·right;rw[show(⟨(((bQ (HT.sIx z.length z.length (u.map (·.1))-HT.sIx z.length 0 (l.map (·.1)))).map λk=>HT.sIx z.length 0 (l.map (·.1))+k).filterMap (z.cps[·]?)).toArray⟩:Str)=mD z (l.map (·.1)) (u.map (·.1))from by rw[pk']]
def GS:V->Option Int->Option Int->Hp->VK->Prop:=λx lo hi H Q=>∃ z,x = .str z/\z.length<=bx/\Q (.str (mD z lo hi)) H
theorem SV(z:Str)(lo hi:Option Int):(mD z lo hi).length<=z.length:=by unfold mD Str.length;simp;lia
theorem part_of{v:am}{o:Option Int}(p:n_ v o):∃ q:Option (Int×Tok),v=partValue q/\q.map (·.1)=o:=by
 cases p with
 | none=>exact⟨ae,rfl,rfl⟩
 | int i t=>exact⟨aa (i,t),rfl,rfl⟩
theorem UJ:nD X GS:=by
 intro ah s σ H x v vl vu lo hi sl Q I rx hs pl pu h;obtain⟨z,rfl,hz,q⟩:=h;obtain⟨t,rfl⟩:=rx;obtain⟨l,rfl,rfl⟩:=part_of pl;obtain⟨u,rfl,rfl⟩:=part_of pu;refine⟨"str",_,F.slot_str_getitem.lookup,typeIs_str s z t,?_⟩;obtain⟨m,em,hm⟩:=Nv z t l u;refine getItem_meets (typeIs_str s z t) (by decide) F.slot_str_getitem F.entry_str_getitem (F.args_str_getitem_2 _ _) (meets_str_getitem_slice z t sl l u ae (by decide)) ⟨hs,?_⟩;rw[em];rcases hm with⟨rfl,e⟩ | rfl
 ·exact⟨.str z,H,I,⟨t,rfl⟩,by rw[e]at q; exact q⟩
 ·exact⟨cL (SV z _ _) hz,⟨.str _,H,I.tok _,⟨_,rfl⟩,q⟩⟩
def i6(K:az)(H:Hp)(d:Nat)(x y:V)(k:Bool):Prop :=
 ∀ (X:Cx),X.K=K->∀ (ah:List (af×Obj)) (σ:St) (s:aq) (u v:am) (A:be),Inv X ah σ H s->RelV x u->RelV y v->A.units+d<cLine->zr A s u v k
theorem Mb{K:az}{H:Hp}{d:Nat}{x y:V}(fx:ku x=ai)(fy:ku y=ai):i6 K H d x y (jX x y):=λ_ _ _ _ _ _ _ _ _ rx ry _=>Gm rx ry fx fy
def gH(e:Nat->Bool)(n m:Nat):Bool:=(bQ (min n m)).all e && n == m
theorem Jn{A:be}:A.in1.units=A.units+1:=rfl
theorem A9{H:Hp}{d:Nat}{a b:af}{xs ys:List V}{e:Nat->Bool}{ah:List (af×Obj)}{σ:St}{s:aq}{A:be}(I:Inv X ah σ H s)(ha:cg X.K H a xs)(hb:cg X.K H b ys)(he:∀ (j:Nat) x y,xs[j]?=aa x->ys[j]?=aa y->i6 X.K H d x y (e j)) (hu:A.units+(d+1)<cLine):SeqAt.RcAt A s (.ref a) (.ref b) (gH e xs.length ys.length)/\SeqAt.RcNeAt A s (.ref a) (.ref b) (!gH e xs.length ys.length):=by
 obtain⟨us,ru,pu,_⟩:=I.list ha;obtain⟨vs,rv,pv',_⟩:=I.list hb;have wF:=ru.length;have kJ:=rv.length;have hE:∀ j (h1:j<us.toArray.size) (h2:j<vs.toArray.size),zr A.in1 s us.toArray[j] vs.toArray[j] (e j):=λj h1 h2=>by
  have iV:j<us.length:=by simpa using h1
  have iW:j<vs.length:=by simpa using h2
  have e1:xs[j]?=aa xs[j]:=iB ∅;have e2:ys[j]?=aa ys[j]:=iB ∅;obtain⟨u,q1,r1⟩:=ru.get e1;obtain⟨v,q2,r2⟩:=rv.get e2;have f1:us[j]=u:=by rw[iB iV]at q1; exact eQ q1
  have f2:vs[j]=v:=by rw[iB iW]at q2; exact eQ q2
  have:=he j xs[j] ys[j] e1 e2 X rfl ah σ s u v A.in1 I r1 r2 (by rw[Jn]; lia);simpa[f1,f2]using this
 by_cases hsz:xs.length=ys.length
 ·have hs:us.toArray.size=vs.toArray.size:=by simp; lia
  have e1:gH e xs.length ys.length=(bQ us.toArray.size).all e:=by unfold gH;rw[hsz,Nat.min_self,beq_self_eq_true,Bool.and_true,dH,← wF,hsz]
  rw[e1];exact⟨.lists pu.isList pv'.isList hs ∅ hE,.lists pu.isList pv'.isList hs ∅ hE⟩
 ·have e1:gH e xs.length ys.length=ao:=by
   unfold gH;rw[beq_false_of_ne hsz,C4]
  have hs:(us.toArray.size != vs.toArray.size)=ai:=by simp; lia
  rw[e1];exact⟨.lists_lengths pu.isList pv'.isList hs ∅,.lists_lengths pu.isList pv'.isList hs ∅⟩
theorem Cd{H:Hp}{d:Nat}{a b:af}{xs ys:List V}{e:Nat->Bool}{ah:List (af×Obj)}{σ:St}{s:aq}{A:be}(I:Inv X ah σ H s)(ha:dz X.K H a xs)(hb:dz X.K H b ys)(he:∀ (j:Nat) x y,xs[j]?=aa x->ys[j]?=aa y->i6 X.K H d x y (e j)) (hu:A.units+(d+1)<cLine):SeqAt.RcAt A s (.ref a) (.ref b) (gH e xs.length ys.length)/\SeqAt.RcNeAt A s (.ref a) (.ref b) (!gH e xs.length ys.length):=by
 obtain⟨us,ru,pu,_⟩:=I.tuple ha;obtain⟨vs,rv,pv',_⟩:=I.tuple hb;have wF:=ru.length;have kJ:=rv.length;have hE:∀ j (h1:j<us.toArray.size) (h2:j<vs.toArray.size),zr A.in1 s us.toArray[j] vs.toArray[j] (e j):=λj h1 h2=>by
  have iV:j<us.length:=by simpa using h1
  have iW:j<vs.length:=by simpa using h2
  have e1:xs[j]?=aa xs[j]:=iB ∅;have e2:ys[j]?=aa ys[j]:=iB ∅;obtain⟨u,q1,r1⟩:=ru.get e1;obtain⟨v,q2,r2⟩:=rv.get e2;have f1:us[j]=u:=by rw[iB iV]at q1; exact eQ q1
  have f2:vs[j]=v:=by rw[iB iW]at q2; exact eQ q2
  have:=he j xs[j] ys[j] e1 e2 X rfl ah σ s u v A.in1 I r1 r2 (by rw[Jn]; lia);simpa[f1,f2]using this
 have e1:gH e xs.length ys.length=((bQ (min us.toArray.size vs.toArray.size)).all e && us.toArray.size == vs.toArray.size):=by unfold gH;rw[dH,dH,← wF,← kJ]
 rw[e1];exact⟨.tuples pu pv' ∅ hE,.tuples pu pv' ∅ hE⟩
theorem KS{K:az}{H:Hp}{d:Nat}{a b:af}{xs ys:List V}{e:Nat->Bool}(ha:cg K H a xs)(hb:cg K H b ys)(cO:a≠b)(he:∀ (j:Nat) x y,xs[j]?=aa x->ys[j]?=aa y->i6 K H d x y (e j)) : i6 K H (d+1) (.ref a) (.ref b) (gH e xs.length ys.length):=λX hK ah σ s u v A I ru rv hu=>by
 subst hK;cases ru;cases rv;exact .of_refs cO (A9 I ha hb he hu).1
theorem M3{K:az}{H:Hp}{d:Nat}{a b:af}{xs ys:List V}{e:Nat->Bool}(ha:dz K H a xs)(hb:dz K H b ys)(cO:a≠b)(he:∀ (j:Nat) x y,xs[j]?=aa x->ys[j]?=aa y->i6 K H d x y (e j)) : i6 K H (d+1) (.ref a) (.ref b) (gH e xs.length ys.length):=λX hK ah σ s u v A I ru rv hu=>by
 subst hK;cases ru;cases rv;exact .of_refs cO (Cd I ha hb he hu).1
theorem EK{K:az}{H:Hp}{d:Nat}{a:af}:i6 K H d (.ref a) (.ref a) ai:=λX hK ah σ s u v A I ru rv hu=>by
 cases ru;cases rv;exact .same _
def uC(K:az)(neg:Bool):R2:=λx y H Q=>∃ a b xs ys d e,x = .ref a/\y = .ref b/\((cg K H a xs/\cg K H b ys)\/(dz K H a xs/\dz K H b ys))/\d<=8 /\
 (∀ (j:Nat) x y,xs[j]?=aa x->ys[j]?=aa y->i6 K H d x y (e j))/\Q (.bl (if neg then !gH e xs.length ys.length else gH e xs.length ys.length)) H
theorem K8(hu:X.A.units+64<cLine):cx X (ft .Eq) (uC X.K ao):=by
 intro ah s σ H x y v u Q I rx ry h;obtain⟨a,b,xs,ys,d,e,rfl,rfl,hs,hd,he,q⟩:=h;cases rx;cases ry;rcases hs with⟨h1,h2⟩ | ⟨h1,h2⟩
 ·exact(A9 I h1 h2 he ∅).1 _ _ _ _ ⟨.bl _,H,I,rfl,q⟩
 ·exact(Cd I h1 h2 he ∅).1 _ _ _ _ ⟨.bl _,H,I,rfl,q⟩
theorem QH(hu:X.A.units+64<cLine):cx X (ft .NotEq) (uC X.K ai):=by
 intro ah s σ H x y v u Q I rx ry h;obtain⟨a,b,xs,ys,d,e,rfl,rfl,hs,hd,he,q⟩:=h;cases rx;cases ry;rcases hs with⟨h1,h2⟩ | ⟨h1,h2⟩
 ·exact(A9 I h1 h2 he ∅).2 _ _ _ _ ⟨.bl _,H,I,rfl,q⟩
 ·exact(Cd I h1 h2 he ∅).2 _ _ _ _ ⟨.bl _,H,I,rfl,q⟩
end
abbrev Tx:=List Nat
def tS(l:Tx):Str:=⟨l.toArray⟩
def tV(l:Tx):V:=.str (tS l)
def d8(ls:List Tx):List V:=ls.map tV
theorem o_(l:Tx):(tS l).cps.toList=l:=by simp[tS]
theorem mH(l:Tx):(tS l).length=l.length:=by simp[tS,Str.length]
theorem Ba(z:Str):tS z.cps.toList=z:=by cases z; simp[tS]
theorem p7{a b:Tx}(h:tS a=tS b):a=b:=by rw[← o_ a,h,o_]
theorem NP{a b:Tx}(h:tV a=tV b):a=b:=p7 (V.str.inj h)
theorem yR(ls:List Tx):(d8 ls).length=ls.length:=cD _
def fL(a b:Tx):Bool:=decide (a<=b)
def bD(ls:List Tx):List Tx:=ls.mergeSort fL
theorem F8(a b c:Tx)(h1:fL a b=ai)(h2:fL b c=ai):fL a c=ai:=by simp only[fL,decide_eq_true_eq]at *;exact List.le_trans h1 h2
theorem Nr(a b:Tx):(fL a b || fL b a)=ai:=by simp only[fL,zB,decide_eq_true_eq];exact List.le_total a b
theorem QM{a b:Tx}(h1:fL a b=ai)(h2:fL b a=ai):a=b:=by simp only[fL,decide_eq_true_eq]at *;exact List.le_antisymm h1 h2
theorem js(ls:List Tx):(bD ls).Perm ls:=List.mergeSort_perm _ _
theorem vi(ls:List Tx):(bD ls).Pairwise (λa b=>fL a b=ai):=List.pairwise_mergeSort F8 Nr _
theorem BI(ls:List Tx):(bD ls).length=ls.length:=(js ls).length_eq
theorem qx{ls ms:List Tx}(hp:ms.Perm ls)(hs:ms.Pairwise (λa b=>fL a b=ai)):ms=bD ls :=List.Perm.eq_of_pairwise (le:=λa b=>fL a b=ai) (λ_ _ _ _ h1 h2=>QM h1 h2) hs (vi ls) (hp.trans (js ls).symm)
theorem Rz{ls:List Tx}(hs:ls.Pairwise (λa b=>fL a b=ai)):bD ls=ls:=(qx (m9 ls) hs).symm
theorem FY:∀ (p:Str) (l:List Str),risingS p l=ai->(p::l).Pairwise (λa b=>fL a.cps.toList b.cps.toList=ai)
 | p,[],_=>List.pairwise_singleton _ _
 | p,x::r,h=>by
  have h':(!ltCps x.cps.toList p.cps.toList && risingS x r)=ai:=h;rw[iA,ltCps_eq]at h';have q:=FY x r h'.2;have px:fL p.cps.toList x.cps.toList=ai:=by simp only[fL,decide_eq_true_eq];intro bv;simp[bv]at h'
  refine List.pairwise_cons.mpr ⟨λy hy=>?_,q⟩;rcases ca.mp hy with rfl | hy
  ·exact px
  ·exact F8 _ _ _ px (List.rel_of_pairwise_cons q hy)
theorem IV{ss:List Str}(h:sortedS ss=ai):(ss.map λz=>z.cps.toList).Pairwise (λa b=>fL a b=ai):=by
 rw[C5];cases ss with
 | nil=>exact List.Pairwise.nil
 | cons x r=>exact FY x r h
theorem z8:∀ {ls:List Tx} {us:List am},bJ (d8 ls) us->eT us (ls.map tS)
 | [],_,.nil=>.nil
 | l::ls,_::_,.cons ⟨t,e⟩ r=>by subst e; exact .cons _ t (z8 (ls:=ls) r)
theorem Bk:∀ {ss:List Str} {us:List am},eT us ss->bJ (d8 (ss.map λz=>z.cps.toList)) us
 | _,_,.nil=>.nil
 | _,_,.cons y t h=>.cons ⟨t,by rw[Ba]⟩ (Bk h)
section
variable{X:Cx}
theorem Inv.sorted{ah:List (af×Obj)}{σ:St}{H:Hp}{s1:aq}{ls:List Tx}{ss aR:List Str}{h':aF}{out:Array am}{e:Nat}(I:Inv X ah σ H s1)(hl:ss=ls.map tS)(iX:ls.length<64)(k:∀ b o,s1.heap.get? b=aa o->h'.get? b=aa o) (ho:h'.get? s1.heap.objs.size=aa (lU "list" out e)) (a1:eT out.toList aR) (a2:aR.Perm ss) (a3:sortedS aR=ai) : Inv X ah σ (upd H s1.heap.objs.size (.lst (d8 (bD ls)))) { s1 with heap:=h' }:=by
 have e1:aR.map (λz=>z.cps.toList)=bD ls:=by
  refine qx ?_ (IV a3);have:=a2.map λz=>z.cps.toList;rw[hl,eJ]at this;have e2:(ls.map ((λz:Str=>z.cps.toList) ∘ tS))=ls:=by simp[JM,o_]
  rw[e2]at this;exact this
 have hv:bJ (d8 (bD ls)) out.toList:=by rw[← e1]; exact Bk a1
 refine I.laid (t':=s1.toks) k (bo _) ⟨?_,out.toList,e,hv,?_⟩
 ·rw[yR,BI];exact lN (HH ∅)
 ·rw[Array.toArray_toList]; exact ho
theorem Oh(z:Tx)(n:Nat):Txt.mul (tS z) (n:Int)=tS (bH n z).flatten:=by
 unfold Txt.mul;cases n with
 | zero=>simp[tS,pA]
 | succ n=>
  rw[if_neg ∅];split
  ·rename_i h;simp only[zB,beq_iff_eq]at h;rcases h with h | h
   ·have:n=0:=∅
    subst this;simp
   ·rw[mH]at h;have:z=[]:=zA h;subst this;simp
  ·unfold tS;congr 1;have gen:∀ (k:Nat) (au:Array Nat),(bH k z.toArray).foldl (·++·) au=au++(bH k z).flatten.toArray:=by
    intro k
    induction k with
    | zero=>intro au; simp
    | succ k ih=>intro au; rw[CO,jL,ih,CO,JJ]; simp[Array.append_assoc]
   have e:=gen (n+1) #[];simp only[lR];simpa using e
theorem P_:cx X (jI .Mult) (λx y H Q=>∃ (z:Tx) (n:Nat),x=tV z/\y = .int n/\n<=100/\z.length<=100/\Q (tV (bH n z).flatten) H):=by
 intro ah s σ H x y v u Q I rx ry h;obtain⟨z,n,rfl,rfl,hn,hz,q⟩:=h;obtain⟨t,rfl⟩:=rx;obtain⟨t',rfl⟩:=ry;refine SB.mul ?_ λt2 k=>?_
 ·have hp:z.length * n<=10000:=cL (C6 hz hn) (by decide);refine⟨by rw[Bool.or_eq_false_iff]; constructor <;> (apply decide_eq_false; lia),λh1 _=>?_,λh1 _=>?_⟩
  ·rw[mH];intro hgt;have h2:(2 ^ 63-1:Int) / n ≥ (2 ^ 63-1) / 100:=by
    have hn0:(0:Int)<n:=∅
    apply (Int.le_ediv_iff_mul_le hn0).mpr;have:((2 ^ 63-1:Int) / 100) * n<=((2 ^ 63-1) / 100) * 100:=Int.mul_le_mul_of_nonneg_left ∅ (by decide);refine Int.le_trans this (by decide)
   have h3:((2 ^ 63-1:Int) / 100) > 1000:=by decide
   lia
  ·rw[mH,lR];unfold Builtin.Str.tooLong;apply decide_eq_false;have:10000<bx:=by rw[tm]; decide
   lia
 ·rw[Oh];exact⟨tV _,H,I.tok _,⟨_,rfl⟩,q⟩
end
theorem Oq(t:gQ)(j:Nat):(t.put j).1.led=t.led/\(t.put j).1.plain=t.plain:=⟨rfl,rfl⟩
theorem K0(t:gQ)(n:Nat):(t.orStandIn n).led=t.led/\((t.orStandIn n).plain=t.plain\/(t.orStandIn n).plain=ao):=by
 unfold SetTable.orStandIn;split
 ·exact⟨rfl,.inl rfl⟩
 ·exact⟨rfl,.inr rfl⟩
theorem L1(t:gQ)(es:Array (Int×am))(h:Int)(x:am):(layNew t es h x).2.1.led=t.led/\((layNew t es h x).2.1.plain=t.plain\/(layNew t es h x).2.1.plain=ao):=by
 unfold layNew;split
 ·rename_i slot wasDummy _;have h1:=Oq t slot;have h2:=K0 (t.put slot).1 (JN es (t.put slot).2 (h,x)).size;exact⟨h2.1.trans h1.1,by rw[← h1.2]; exact h2.2⟩
 ·exact⟨rfl,.inr rfl⟩
theorem PP(t:gQ)(es:Array (Int×am))(wanted:Nat)(hp:t.plain=ao):(tK t es wanted).2.1.led=t.led/\(tK t es wanted).2.1.plain=ao:=by
 unfold tK;split
 ·rename_i t' order e;have q:t'.led=t.led/\t'.plain=t.plain:=by
   unfold SetTable.relaid SetTable.laid at e;cases q:JO (oj wanted-1) (es.map (·.1))with
   | none=>rw[q]at e; cases e
   | some ow=>rw[q]at e; cases e; exact⟨rfl,rfl⟩
  dsimp only;split
  ·exact⟨q.1,q.2.trans hp⟩
  ·exact⟨rfl,rfl⟩
 ·exact⟨rfl,rfl⟩
def dw(w:aN):Bool:=w.params.followText "set-order"
structure b7(P:aX)(w:aN)(h:aF)(a:af)(ks:List Str):Prop where
 ex:∃ (es:Array (Int×am)) (ep:Nat) (t:gQ) (ss:List Str),h.get? a=aa { cls:=.type "set",dict:=ae,data:=.set es ep t }/\eT (es.toList.map (·.2)) ss/\ss.Perm ks/\ElemsOf (dP P w) es.toList /\
  es.size<4090/\t.fits es.size=ai/\t.led=(!dw w)/\(ks≠[]->t.plain=ao)
theorem b7.at{P:aX}{w:aN}{h h':aF}{a:af}{ks:List Str}(S:b7 P w h a ks)(k:∀ o,h.get? a=aa o->h'.get? a=aa o):b7 P w h' a ks:=by obtain⟨es,ep,t,ss,e,r⟩:=S.ex;exact⟨es,ep,t,ss,k _ e,r⟩
theorem yI:∀ {vs:List am} {ss:List Str},eT vs ss->∀ x,x∈ss↔∃ t,Value.str x t∈vs
 | _,_,.nil,x=>by simp
 | _,_,.cons y t h,x=>by
  rw[ca,yI h x];constructor
  ·rintro(rfl | ⟨t',q⟩)
   ·exact⟨t,n6 ..⟩
   ·exact⟨t',lO _ q⟩
  ·rintro⟨t',q⟩;rcases ca.mp q with q | q
   ·cases q; exact .inl rfl
   ·exact .inr ⟨t',q⟩
theorem uE:∀ {us vs:List am},us.Perm vs->∀ {ss:List Str},eT vs ss->∃ aR,eT us aR/\aR.Perm ss:=by intro us vs p ss h;refine⟨us.map strOf,strsAre_map us λv hv=>h.all v (p.mem_iff.mp hv),?_⟩;have:=p.map strOf;rwa[h.strs]at this
section
variable{P:aX}{w:aN}{A:be}{E:am->aq->Prop}{s:aq}
def jz(ks:List Str)(x:Str):List Str:=if x∈ks then ks else ks++[x]
theorem b7.put{h:aF}{a:af}{es es':Array (Int×am)}{ep:Nat}{t t':gQ}(e:h.get? a=aa { cls:=.type "set",dict:=ae,data:=.set es ep t }) : (h.update a (Obj.putSet es' t')).get? a=aa { cls:=.type "set",dict:=ae,data:=.set es' (ep+1) t' }:=by have:=tL (Obj.putSet es' t') e (by rw[putSet_of es' t' rfl]; rfl);rw[putSet_of es' t' rfl]at this;exact this
theorem E4{a:af}{ks:List Str}{x:Str}{tk:Tok}{Q:Bool->aq->Prop}(S:b7 P w s.heap a ks)(hn:ks.length<4000)(h:∀ h' b,jf a s.heap h'->b7 P w h' a (jz ks x)->Q b { s with heap:=h' }) : ax (ay P w) A (setAddHashed a (.str x tk) ((dP P w).hash x)) Q E s:=by
 obtain⟨es,ep,t,ss,ho,hS,hp,fY,hsz,hf,ie,df⟩:=S.ex;have isD:∀ y t',(dP P w).is x (.str y t')=decide (y=x):=λy t'=>by
  show qI x (.str y t')=_;rw[pt];simp[qI]
  try exact eq_comm
 have jk:(dP P w).is x (.str x tk)=ai:=by rw[isD]; simp
 have hb:es.size<scanBound:=oh hsz (by decide);unfold setAddHashed setAddHashedIn;refine lS (ar (iC ho rfl hf ?_));dsimp only;rw[byScan_of (knd:=dP P w) (x:=.str x tk) rfl hb fY];simp only[if_true];unfold setAddByScan;refine ar (ar (ln (ar (JP jk ho rfl hf fY ?_))));have memx:x∈ks↔∃ e∈es.toList,(dP P w).is x e.2=ai:=by
  rw[← hp.mem_iff,yI hS x];constructor
  ·rintro⟨t',q⟩;obtain⟨e,he,ee⟩:=cM.mp q;exact⟨e,he,by rw[ee,isD]; simp⟩
  ·rintro⟨e,he,q⟩;obtain⟨y,t',ey⟩:=hS.all e.2 (cM.mpr ⟨e,he,rfl⟩);rw[ey,isD]at q;have:y=x:=of_decide_eq_true q;subst this;exact⟨t',cM.mpr ⟨e,he,ey⟩⟩
 have klen:ks.length=es.size:=by
  have e1:=hp.length_eq;have e2:ss.length=es.size:=by rw[← hS.strs]; simp
  lia
 cases hr:List.findIdx? (λe=>(dP P w).is x e.2) es.toList with
 | some j=>dsimp only;obtain⟨hj,wG,_⟩:=JQ.mp hr;have hx:x∈ks:=memx.mpr ⟨_,C7 hj,wG⟩;refine aD (aD ?_);exact h s.heap _ (vT a s.heap) (by unfold jz; rw[if_pos hx]; exact S)
 | none=>
  dsimp only;have hx:¬ x∈ks:=λhm=>by obtain⟨e,he,q⟩:=memx.mp hm;have:=JR.mp hr e he;rw[q]at this;exact Bool.noConfusion this
  have hgw:∀ (b:Bool) {s₁:aq} {Q':Unit->aq->Prop},Q' () s₁->ax (ay P w) A (match b with | ai=>rule "set.scan.the-table-gave-way" | ao=>pure ()) Q' E s₁ :=
   λb s₁ Q' hq=>by cases b <;> first | exact aD hq | exact ln hq
  have zV:=layNew_perm t es ((dP P w).hash x) (.str x tk);have zW:=layNew_fits t es ((dP P w).hash x) (.str x tk);have hmk:=L1 t es ((dP P w).hash x) (.str x tk);generalize hL:layNew t es ((dP P w).hash x) (.str x tk)=L at zV zW hmk ⊢;obtain⟨es1,t1,wasDummy,gave⟩:=L;dsimp only at zV zW hmk ⊢;rw[vU]at zV;have hel1:ElemsOf (dP P w) es1.toList:=(fY.push jk rfl).perm zV;have hsz1:es1.size=es.size+1:=by have:=zV.length_eq;simpa using this
  have hS1:∃ jl,eT (es1.toList.map (·.2)) jl/\jl.Perm (jz ks x):=by
   have p1:=zV.map (λe:Int×am=>e.2);rw[oi]at p1;have q1:eT (es.toList.map (·.2)++[Value.str x tk]) (ss++[x]):=by
    have gen:∀ {vs:List am} {zs:List Str},eT vs zs->eT (vs++[Value.str x tk]) (zs++[x]):=by
     intro vs zs hh
     induction hh with
     | nil=>exact .cons x tk .nil
     | cons y t _ ih=>exact .cons y t ih
    exact gen hS
   obtain⟨jl,r1,r2⟩:=uE p1 q1;refine⟨jl,r1,r2.trans ?_⟩;unfold jz;rw[if_neg hx];exact hp.append_right _
  obtain⟨jl,r1,r2⟩:=hS1;have cO:jz ks x≠[]:=by unfold jz; rw[if_neg hx]; simp
  have tail:∀ t2:gQ,t2.fits es1.size=ai->t2.led=(!dw w)->t2.plain=ao->ax (ay P w) A (do
    storeSet a es1 t2
    if(!wasDummy && t2.tooFull)=ai then do
      (match (tK t2 es1 (tN es1.size)).2.2 with | ai=>rule "set.scan.the-table-gave-way" | ao=>pure ())
      storeSet a (tK t2 es1 (tN es1.size)).1 (tK t2 es1 (tN es1.size)).2.1
      pure (aa ai)
     else pure (aa ai)) (λr s'=>∃ h',r=aa ai/\s'={ s with heap:=h' }/\jf a s.heap h'/\b7 P w h' a (jz ks x)) E s:=by
   intro t2 qY kJ fH;refine ar (tO ho rfl ?_ (vV (oh (show es1.size<4090 by lia) (by decide))));have o1:=b7.put (es':=es1) (t':=t2) ho;have jS:=om s.heap a (Obj.putSet es1 t2);split
   ·have gA:=relayAll_perm t2 es1 (tN es1.size);have hf3:=relayAll_fits t2 es1 (tN es1.size);have hm3:=PP t2 es1 (tN es1.size) fH;generalize hRl:tK t2 es1 (tN es1.size)=Rl at gA hf3 hm3 ⊢;obtain⟨es2,t3,gave2⟩:=Rl;dsimp only at gA hf3 hm3 ⊢;have hsz2:es2.size=es1.size:=by have:=gA.length_eq; simpa using this
    refine ar (hgw _ ?_);refine ar (tO o1 rfl ?_ (vV (oh (show es2.size<4090 by lia) (by decide))));obtain⟨j_,u1,u2⟩:=uE (gA.map (λe:Int×am=>e.2)) r1;refine aD ⟨_,rfl,rfl,jS.trans (om _ a _),⟨es2,_,t3,j_,b7.put o1,u1,u2.trans r2,hel1.perm gA,∅,hf3,hm3.1.trans kJ,λ_=>hm3.2⟩⟩
   ·exact aD ⟨_,rfl,rfl,jS,⟨es1,_,t2,jl,o1,r1,r2,hel1,∅,qY,kJ,λ_=>fH⟩⟩
  have Km:t1.led=(!dw w):=hmk.1.trans ie;refine ar (hgw _ ?_);split
  ·refine ar ?_;rw[hashByValue_scannable 8 (x:=.str x tk) rfl];refine aD ?_;have hk:plainKind (.str x tk)=ao:=rfl;rw[hk];simp only[pG,if_false];refine aW (tail { t1 with plain:=ao } (SetTable.fits_plain_off zW) Km rfl) λr s' ⟨h',e1,e2,e3,e4⟩=>?_;subst e1 e2;exact aD (h h' _ e3 e4)
  ·rename_i hpl1;refine ar (aD ?_);simp only[if_true];refine aW (tail t1 zW Km (by simpa using hpl1)) λr s' ⟨h',e1,e2,e3,e4⟩=>?_;subst e1 e2;exact aD (h h' _ e3 e4)
end
def met(val:Nat->Str)(i:Nat):List Str:=((bQ i).map val).foldl jz []
theorem HC(val:Nat->Str)(i:Nat):met val (i+1)=jz (met val i) (val i):=by unfold met; rw[tJ,oi,List.foldl_append]; rfl
theorem Gu(val:Nat->Str){i:Nat}:∀ {j:Nat},i<=j->(met val i).length<=(met val j).length
 | 0,h=>by rw[show i=0 by lia]; exact bo _
 | j+1,h=>by
  by_cases e:i=j+1
  ·subst e; exact bo _
  ·refine cL (Gu val (j:=j) ∅) ?_;rw[HC];unfold jz;split
   ·exact bo _
   ·simp
section
variable{P:aX}{w:aN}{A:be}{R:Result->aq->Prop}{I:af}{fp wr:List af}{G:Array GenState->Array GenState->Prop}{n:Nat}{Pv:Nat->am->Prop}{St:Nat->aq->Prop}
theorem MI(W:WalksS P w A.in1 I fp wr G n Pv St)(S:af)(hSf:S∉fp)(val:Nat->Str)(DY:∀ i v,Pv i v->∃ t,v = .str (val i) t)(hb:∀ i,i<=n->(met val i).length<4000) : ∀ (k i:Nat) (s:aq),n-i=k->i<=n->St i s->b7 P w s.heap S (met val i) -> (∀ s',Moved (S::wr) G s s'->b7 P w s'.heap S (met val n)->R (.ok (.ret .none)) s')->pB (ay P w) A (.builtin "set.update.loop" ⟨[.ref S,.ref I],[]⟩) R s:=by
 have hSw:S∉wr:=λh=>hSf (W.sub _ h);have j9:∀ b∈wr,b∈S::wr:=λb hb=>lO _ hb;intro k
 induction k with
 | zero=>
  intro i s hk hi ma hS hR;obtain rfl:i=n:=∅
  refine vW Uu ?_;rw[zC JS _];show ax _ A.in1 (pyNext (.ref I) >>= _) _ _ s;refine ar (W.done s _ _ ma λs' hm=>?_);show ax _ A.in1 (ret Value.none) _ _ s';exact aD (hR s' (hm.mono j9) (hS.at λo e=>hm.heap S o hSw e))
 | succ k ih=>
  intro i s hk hi ma hS hR;have bv:i<n:=∅
  refine vW Uu ?_;rw[zC JS _];show ax _ A.in1 (pyNext (.ref I) >>= _) _ _ s;refine ar (W.item i s _ _ bv ma λv s' hP hst' hm=>?_);obtain⟨t,rfl⟩:=DY i v hP;have wH:b7 P w s'.heap S (met val i):=hS.at λo e=>hm.heap S o hSw e;show ax _ A.in1 (holding [Value.str (val i) t] (setAdd S (.str (val i) t)) >>= _) _ _ s';refine ar (lS ?_);unfold setAdd;refine lS ?_;have jk:(dP P w).is (val i) (.str (val i) t)=ai:=by show qI (val i) (.str (val i) t)=ai;simp[qI]
  refine ar ((dP P w).pyHash (k:=val i) jk ?_);have wm:(met val i).length<4000:=hb i (lN bv);refine E4 (s:={ s' with toks:=s'.toks+1 }) wH wm λh' b jm t7=>?_;rw[← HC]at t7;refine aD ⟨C8 JS _,ih (i+1) _ ∅ bv (W.frame _ s' _ _ hst' (zz _) λb hb o e=>?_) t7 λs'' hm'' hS''=>?_⟩
  ·rw[jm.2 b (λh:b=S=>hSf (by rw[← h]; exact hb))]; exact e
  ·refine hR s'' (Moved.trans W.gtrans ((hm.mono j9).then_heap (zz _) λb o hb e=>?_) hm'') hS'';rw[jm.2 b (λh:b=S=>hb (by rw[h]; exact n6))]; exact e
end
section
variable{P:aX}{w:aN}{A:be}{E:am->aq->Prop}{s:aq}
theorem N0(a:am){Q:am->aq->Prop} (h:b7 P w (s.heap.push { cls:=.type "set",dict:=ae,data:=.set #[] 0 (.fresh 0 0 (!dw w)) }) s.heap.objs.size [] -> Q (.ref s.heap.objs.size) { s with heap:=s.heap.push { cls:=.type "set",dict:=ae,data:=.set #[] 0 (.fresh 0 0 (!dw w)) } }) : pB (ay P w) A (.call (.builtin "set.__new__") ⟨[.type "set",a],[]⟩) (wants Q E) s:=by
 refine codeAny_of_tree ?_;show ax _ A.in1 (do checkBuiltinCall "set.__new__" ⟨[.type "set",a],[]⟩; again (.builtin "set.__new__" ⟨[.type "set",a],[]⟩)) _ _ s;refine ar (wpAny_of_eq (PySem.F.newCall_set_1 a) (aD ⟨C8 F.plain_set_new _,vW F.entry_set_new ?_⟩));rw[zC F.plain_set_new _];unfold Builtin.«set.__new__» Builtin.Frozenset.newClass;have j9:=C9;obtain⟨hp,g,d,tk,os⟩:=s;dsimp only
 wp_walk
 refine lp (aD ?_);dsimp only;simp only[newObj];refine ar (CT (aD ?_));refine aD (h ⟨#[],0,_,[],dG _ rfl,.nil,m9 _,λe he=>by simp at he,by decide,rfl,rfl,λh=>absurd rfl h⟩)
end
end L2
set_option maxHeartbeats 8000000
namespace L2
theorem KW:entryFor table "set.__iter__" = aa Builtin.«frozenset.__iter__»:=entryFor_alias (id':="frozenset.__iter__") (by kernel_rfl) rfl (by decide +kernel) (by kernel_rfl)
theorem FC:Slot "set_iterator" "__next__" "set_iterator.__next__" :=
 .of (owner:="set_iterator") (n:="__next__") (by rw[typeLookup_type,builtinLookup_eq_fast]; kernel_rfl) (by decide +kernel) (by decide +kernel) (by decide +kernel) (by first | exact .inl (by decide +kernel) | exact .inr (by decide +kernel)) (by rw[isSubtype_type]; kernel_rfl)
theorem Od:entryFor table "set_iterator.__next__" = aa Builtin.«set_iterator.__next__»:=entryFor_of_fast (by kernel_rfl)
theorem O8(a:am):argsOk "set_iterator.__next__" ⟨[a],[]⟩:=by unfold argsOk; kernel_rfl
theorem Ed:Slot "set_iterator" "__iter__" "set_iterator.__iter__" :=
 .of (owner:="set_iterator") (n:="__iter__") (by rw[typeLookup_type,builtinLookup_eq_fast]; kernel_rfl) (by decide +kernel) (by decide +kernel) (by decide +kernel) (by first | exact .inl (by decide +kernel) | exact .inr (by decide +kernel)) (by rw[isSubtype_type]; kernel_rfl)
theorem O7:entryFor table "set_iterator.__iter__" = aa Builtin.«dict_keyiterator.__iter__»:=entryFor_alias (id':="dict_keyiterator.__iter__") (by kernel_rfl) rfl (by decide +kernel) (by kernel_rfl)
theorem KB(a:am):argsOk "set_iterator.__iter__" ⟨[a],[]⟩:=by unfold argsOk; kernel_rfl
def ju(first:am)(i:Nat)(a:af)(n ep:Nat):Obj:={ cls:=.type "set_iterator",data:=.fields #[first,.int i 0,.ref a,.int n 0,.int ep 0] }
section
variable{P:aX}{w:aN}{A:be}{E:am->aq->Prop}{s:aq}
theorem w6{I a:af}{first:am}{i n ep:Nat}{Q:am->aq->Prop}(h:s.heap.get? I=aa (ju first i a n ep))(hQ:Q (.ref I) s):ax (ay P w) A (pr (.ref I)) Q E s:=by
 have hT:s.TypeIs (.ref I) "set_iterator":=⟨_,h,rfl⟩
 refine wpAny_pyIter_slot hT Ed (vQ Ed hT O7 ?_ (KB _));show ax _ _ (ret (.ref I)) _ _ s;exact aD ⟨_,rfl,"set_iterator",_,hT,FC.lookup,hQ⟩
theorem p8{I a:af}{first:am}{i:Nat}{es:Array (Int×am)}{ep:Nat}{t:gQ}{Q:Option am->aq->Prop}(ha:s.heap.get? a=aa { cls:=.type "set",dict:=ae,data:=.set es ep t })(hf:t.fits es.size=ai)(hI:s.heap.get? I=aa (ju first i a es.size ep))(h:ax (ay P w) A.in1 (if let .int slot _:=first then do
    match ← oq a slot.toNat (i:Int).toNat (ep:Int).toNat with
    | some (x,next)=>do
     ot (.ref I) 0 (eZ next)
     ot (.ref I) 1 (eZ ((i:Int)+1))
     ret x
    | none=>do ot (.ref I) 2 .none; raiseNew (← newExc (.type "StopIteration") [])
   else do
    let aa places ← seqItems? first | unsupported "internal:set_iterator"
    match places[(i:Int).toNat]? with
    | some (.int place _)=>do
     let x ← setNextDrawn a place.toNat (ep:Int).toNat
     ot (.ref I) 1 (eZ ((i:Int)+1))
     ret x
    | some _=>unsupported "internal:set_iterator"
    | none=>do ot (.ref I) 0 (eZ 0); ot (.ref I) 2 .none; raiseNew (← newExc (.type "StopIteration") []))
   (λfin s'=>∃ r,fin = .done (.ret r)/\Q (aa r) s') (λe s'=>ax (ay P w) A (do if ← isInstance e (.type "StopIteration")then pure ae else throw e) Q E s') s) :
  ax (ay P w) A (pyNext (.ref I)) Q E s:=by
 have hT:s.TypeIs (.ref I) "set_iterator":=⟨_,hI,rfl⟩
 unfold pyNext;refine ar (wpAny_attempt (wpAny_callSpecial?_slot (name:=CK "__next__") hT FC (vQ FC hT Od ?_ (O8 _))));unfold Builtin.«set_iterator.__next__» slotArgs;refine ar (aD ?_);refine ar (wpAny_fieldsOf hI rfl ?_);show ax _ _ (setEntries a >>= _) _ _ s;refine ar (C_ ha rfl hf ?_);have e0:(((es.size:Nat):Int) != ((es.size:Nat):Int))=ao:=by simp
 rw[e0];simp only[pG,if_false];refine d_ ?_ (λfin s' q=>?_) (λe s' q=>q) (Q:=λfin s'=>∃ r,fin = .done (.ret r)/\Q (aa r) s') (E:=λe s'=>ax (ay P w) A (do if ← isInstance e (.type "StopIteration")then pure ae else throw e) Q E s')
 ·exact h
 ·obtain⟨r,e1,e2⟩:=q;exact⟨r,e1,aD e2⟩
end
theorem B7{α:Type}:∀ {l:List α} {i:Nat} (h:i<l.length),(l[i]::l.eraseIdx i).Perm l
 | [],i,h=>by simp at h
 | x::r,0,h=>by simp
 | x::r,i+1,h=>by have q:=B7 (l:=r) (i:=i) (by simpa using h);simp only[List.getElem_cons_succ,List.eraseIdx_cons_succ];exact(List.Perm.swap x _ _).trans (List.Perm.cons x q)
theorem F9{α:Type}(next:Nat->Nat):∀ (bp k:Nat) (left:List α) (out:Array α),bp=left.length->(pickOrder.go next bp k left out).toList.Perm (out.toList++left)
 | 0,k,left,out,h=>by have:left=[]:=zA h.symm;subst this;simp[pickOrder.go]
 | bp+1,k,left,out,h=>by
  have bv:next k % left.length<left.length:=qP _ ∅
  unfold pickOrder.go;rw[iB bv];dsimp only;have ih:=F9 next bp (k+1) (left.eraseIdx (next k % left.length)) (out.push left[next k % left.length]) (by rw[Da,if_pos bv]; lia)
  refine ih.trans ?_;rw[vU,gx];exact JT _ (B7 bv)
theorem AJ{α:Type}(next:Nat->Nat)(xs:Array α):(vX next xs).toList.Perm xs.toList:=by
 have:=F9 next xs.size 0 xs.toList #[] (by simp)
 simpa[vX]using this
section
variable{P:aX}{w:aN}{A:be}{E:am->aq->Prop}{s:aq}
theorem QA{src:Source}{n:Nat}{Q:Nat->aq->Prop}(hn:n≠0)(h:∀ k d,k<n->Q k { s with drawn:=d }):ax (ay P w) A (choose src n) Q E s:=λΓ p hΓ=>by unfold choose;rw[Sem.wp_choose];refine⟨hn,?_⟩;exact h _ _ (qP _ (Nat.pos_of_ne_zero hn))
theorem FV{α:Type}:∀ (n:Nat) (xs:List α) (s:aq) (Q:List α->aq->Prop),n=xs.length->(∀ ys d,ys.Perm xs->Q ys { s with drawn:=d })->ax (ay P w) A (drawOrder n xs) Q E s
 | 0,[],s,Q,_,h=>by unfold drawOrder;exact aD (h [] s.drawn (m9 _))
 | 0,x::xs,s,Q,hn,h=>by simp at hn
 | n+1,[],s,Q,hn,h=>by simp at hn
 | n+1,x::xs,s,Q,hn,h=>by unfold drawOrder;refine ar (QA (by simp) λk d hk=>?_);rw[iB hk];dsimp only;refine ar (FV n ((x::xs).eraseIdx k) _ _ (by rw[Da,if_pos hk]; lia) λys d' hy=>?_);refine aD (h _ d' ?_);exact(List.Perm.cons _ hy).trans (B7 hk)
theorem xk{Q:Option am->aq->Prop}{R:Fin->aq->Prop}(hh:A.handled=ae)(hQ:∀ h',(∀ b o,s.heap.get? b=aa o->h'.get? b=aa o)->Q ae { s with heap:=h' }) : ax (ay P w) A.in1 (do raiseNew (← newExc (.type "StopIteration") [])) R (λe s'=>ax (ay P w) A (do if ← isInstance e (.type "StopIteration")then pure ae else throw e) Q E s') s:=by
 refine ar ?_;simp only[newExc,newTuple];refine ar (m8 ?_ (by size_fits)); refine ar (m:=firstArgMember _ _) (wpAny_of_eq (a:=Value.none) (by first | rfl | (simp only[firstArgMember]; rfl)) ?_);refine m8 ?_ (by size_fits); simp only[raiseNew];refine ar (wpAny_handled ?_); rw[show A.in1.handled=ae from hh];refine ar (aD (wpAny_throw ?_)); refine ar (zD (T:="StopIteration") (b:=ai) ⟨_,dG _ rfl,rfl⟩ isSubtype_stop ?_);exact aD (hQ _ λb o e=>bK _ (bK _ e))
theorem BB{I a:af}{first f':am}{i n ep:Nat}{Q:Unit->aq->Prop}(hI:s.heap.get? I=aa (ju first i a n ep))(h:∀ h',jf I s.heap h'->h'.get? I=aa (ju f' i a n ep)->Q () { s with heap:=h' }) : ax (ay P w) A (ot (.ref I) 0 f') Q E s:=by refine vY hI rfl (by simp[ju]) (h _ (om ..) ?_);rw[tL _ hI (by rfl)];rfl
theorem AI{I a:af}{first:am}{i n ep:Nat}{Q:Unit->aq->Prop}(hI:s.heap.get? I=aa (ju first i a n ep))(h:∀ h',jf I s.heap h'->h'.get? I=aa (ju first (i+1) a n ep)->Q () { s with heap:=h' }) : ax (ay P w) A (ot (.ref I) 1 (eZ ((i:Int)+1))) Q E s:=by refine vY hI rfl (by simp[ju]) (h _ (om ..) ?_);rw[tL _ hI (by rfl)];rfl
theorem xU{I a:af}{first:am}{i n ep:Nat}{Q:Unit->aq->Prop}(hI:s.heap.get? I=aa (ju first i a n ep))(h:∀ h',jf I s.heap h'->(∃ o,h'.get? I=aa o)->Q () { s with heap:=h' }) : ax (ay P w) A (ot (.ref I) 2 .none) Q E s:=by refine vY hI rfl (by simp[ju]) (h _ (om ..) ⟨_,tL _ hI (by rfl)⟩)
abbrev qr(es:Array (Int×am))(ep:Nat)(t:gQ):Obj:={ cls:=.type "set",dict:=ae,data:=.set es ep t }
theorem Qd{I a:af}{es:Array (Int×am)}{ep:Nat}{t:gQ}(cO:a≠I)(hf:t.fits es.size=ai)(hb:dw w=ai)(hh:A.handled=ae) : Walks P w A I [I,a] [I] es.size (λi v=>((vX (w.params.setOrder a ep) es).toList.map (·.2))[i]?=aa v) (λi h=>h.get? I=aa (ju (eZ 0) i a es.size ep)/\h.get? a=aa (qr es ep t)):=by
 have hsz:(vX (w.params.setOrder a ep) es).size=es.size:=by have:=(AJ (w.params.setOrder a ep) es).length_eq; simpa using this
 have body:∀ (s:aq) (i:Nat) (Q:Option (am×Nat)->aq->Prop) (E:am->aq->Prop),s.heap.get? a=aa (qr es ep t) ->
   Q (((vX (w.params.setOrder a ep) es)[i]?).map λe=>(e.2,0)) s->ax (ay P w) A.in1 (oq a (0:Int).toNat (i:Int).toNat (ep:Int).toNat) Q E s:=λs i Q E ha hq=>by
  unfold oq;refine ar (iC ha rfl hf ?_);unfold ou;refine ar (ar (lp (aD ?_)));show ax _ _ (if dw w=ai then _ else _) _ _ s;rw[if_pos hb];simp only[lR,bne_self_eq_false,pG,if_false];unfold setWalk;refine ar (ar (iC ha rfl hf ?_));unfold ou;refine ar (ar (lp (aD ?_)));show ax _ _ (if dw w=ai then _ else _) _ _ s;rw[if_pos hb];refine ar (lp (aD (aD ?_)));exact hq
 refine⟨λb hb=>by simp at hb; simp[hb],λi h h' st k=>⟨k I (by simp) _ st.1,k a (by simp) _ st.2⟩,λi s Q E hi st hQ=>?_,λs Q E st hQ=>?_,λi s Q E st hQ=>w6 st.1 hQ⟩
 ·refine p8 st.2 hf st.1 ?_;refine ar (body s i _ _ st.2 ?_);have bv:i<(vX (w.params.setOrder a ep) es).size:=∅
  rw[zE bv];dsimp only[lV];refine ar (BB st.1 λh1 jS e1=>?_);refine ar (AI (s:={ s with heap:=h1 }) e1 λh2 fP e2=>?_);refine aD ⟨_,rfl,hQ _ h2 s.toks ?_ ⟨e2,?_⟩ λb o hb e=>?_⟩
  ·rw[jh];simp[zE bv]
  ·exact(fP.2 a cO).trans ((jS.2 a cO).trans st.2)
  ·exact(fP.2 b (by simpa using hb)).trans ((jS.2 b (by simpa using hb)).trans e)
 ·refine p8 st.2 hf st.1 ?_;refine ar (body s es.size _ _ st.2 ?_);rw[Array.getElem?_eq_none ∅];dsimp only[C0];refine ar (xU st.1 λh1 jS _=>?_);exact xk (s:={ s with heap:=h1 }) hh λh2 k2=>hQ h2 s.toks λb o hb e=>k2 b o ((jS.2 b (by simpa using hb)).trans e)
theorem Uc{I a T:af}{es:Array (Int×am)}{ep:Nat}{t:gQ}{ord:List Nat}(cO:a≠I)(hT:T≠I)(hf:t.fits es.size=ai)(hp:ord.Perm (bQ es.size))(hh:A.handled=ae) : Walks P w A I [I,a,T] [I] es.size (λi v=>(ord.filterMap λj=>(es[j]?).map (·.2))[i]?=aa v) (λi h=>h.get? I=aa (ju (.ref T) i a es.size ep)/\h.get? a=aa (qr es ep t)/\h.get? T=aa { cls:=.type "tuple",data:=.seq (ord.map λ(k:Nat)=>eZ k).toArray }):=by
 have t8:ord.length=es.size:=by simpa using hp.length_eq
 have pJ:∀ j∈ord,j<es.size:=λj hj=>by simpa using hp.mem_iff.mp hj
 have fm:∀ (l:List Nat),(∀ j∈l,j<es.size)->∀ (i j:Nat),l[i]?=aa j->∃ e:Int×am,es[j]?=aa e/\(l.filterMap λj=>(es[j]?).map (·.2))[i]?=aa e.2:=by
  intro l
  induction l with
  | nil=>intro _ i j h; simp at h
  | cons x r ih=>
   intro hl i j h;have hx:x<es.size:=hl x (n6 ..);have ex:es[x]?=aa es[x]:=zE hx;cases i with
   | zero=>simp at h;subst h;exact⟨_,ex,by rw[n5,ex]; rfl⟩
   | succ i=>obtain⟨e,q1,q2⟩:=ih (λj hj=>hl j (lO _ hj)) i j (by simpa using h);exact⟨e,q1,by rw[n5,ex]; simpa using q2⟩
 have tupR:∀ (s:aq) (Q:Option (Array am)->aq->Prop) (E:am->aq->Prop),s.heap.get? T=aa { cls:=.type "tuple",data:=.seq (ord.map λ(k:Nat)=>eZ k).toArray }->Q (aa (ord.map λ(k:Nat)=>eZ k).toArray) s->ax (ay P w) A.in1 (seqItems? (.ref T)) Q E s:=λs Q E ht hq=>by exact wpAny_seqItems ht rfl hq
 refine⟨λb hb=>by simp at hb; simp[hb],λi h h' st k=>⟨k I (by simp) _ st.1,k a (by simp) _ st.2.1,k T (by simp) _ st.2.2⟩,λi s Q E hi st hQ=>?_,λs Q E st hQ=>?_,λi s Q E st hQ=>w6 st.1 hQ⟩
 ·refine p8 st.2.1 hf st.1 ?_;refine ar (tupR s _ _ st.2.2 ?_);have bv:i<ord.length:=∅
  have e1:((ord.map λ(k:Nat)=>eZ k).toArray)[(i:Int).toNat]?=aa (eZ (ord[i]:Nat)):=by simp[bv]
  dsimp only;rw[e1];obtain⟨e,q1,q2⟩:=fm ord pJ i ord[i] (iB bv);show ax _ _ (setNextDrawn a _ _ >>= _) _ _ s;refine ar ?_;unfold setNextDrawn;refine ar (iC st.2.1 rfl hf ?_);simp only[lR,bne_self_eq_false,pG,if_false];rw[q1];refine aD ?_;refine ar (AI st.1 λh2 fP e2=>?_);refine aD ⟨_,rfl,hQ _ h2 s.toks q2 ⟨e2,(fP.2 a cO).trans st.2.1,(fP.2 T hT).trans st.2.2⟩ λb o hb e=>(fP.2 b (by simpa using hb)).trans e⟩
 ·refine p8 st.2.1 hf st.1 ?_;refine ar (tupR s _ _ st.2.2 ?_);have e1:((ord.map λ(k:Nat)=>eZ k).toArray)[(es.size:Int).toNat]?=ae:=by simp[t8]
  dsimp only;rw[e1];refine ar (BB st.1 λh1 jS e1=>?_);refine ar (xU (s:={ s with heap:=h1 }) e1 λh2 fP _=>?_);exact xk (s:={ s with heap:=h2 }) hh λh3 k3=>hQ h3 s.toks λb o hb e=>k3 b o ((fP.2 b (by simpa using hb)).trans ((jS.2 b (by simpa using hb)).trans e))
theorem LH(j k:Nat):JU #[j] k=if j<k then 1 else 0:=by
 unfold JU;simp only[dH,eI,tE];unfold JV;simp;split
 ·rename_i h;unfold JV;simp
 ·unfold JV;simp
theorem L7{I a:af}{es:Array (Int×am)}{ep:Nat}{t:gQ}(cO:a≠I)(hf:t.fits es.size=ai)(hb:dw w=ao)(ie:t.led=ai)(h1:es.size=1)(hh:A.handled=ae) : Walks P w A I [I,a] [I] 1 (λi v=>(es.toList.map (·.2))[i]?=aa v) (λi h=>h.get? I=aa (ju (eZ (if i=0 then 0 else((t.place.getD 0 0:Nat):Int)+1)) i a es.size ep)/\h.get? a=aa (qr es ep t)):=by
 have t9:t.place.size=1:=by simp only[tP,iA,beq_iff_eq]at hf;lia
 obtain⟨j,hj⟩:∃ j,t.place = #[j]:=by
  match hq:t.place,t9 with
  | ⟨[j]⟩,_=>exact⟨j,rfl⟩
 have gj:((t.place.getD 0 0:Nat):Int)=(j:Int):=by rw[hj]; rfl
 obtain⟨e,he⟩:∃ e,es = #[e]:=by
  match hq:es,h1 with
  | ⟨[e]⟩,_=>exact⟨e,rfl⟩
 have body:∀ (s:aq) (slot:Nat) (i:Nat) (Q:Option (am×Nat)->aq->Prop) (E:am->aq->Prop),s.heap.get? a=aa (qr es ep t) ->
   Q (if j<slot then ae else aa (e.2,j+1)) s->ax (ay P w) A.in1 (oq a slot i ep) Q E s:=λs slot i Q E ha hq=>by
  unfold oq;refine ar (iC ha rfl hf ?_);unfold ou;refine ar (ar (lp (aD ?_)));show ax _ _ (if dw w=ai then _ else _) _ _ s;rw[if_neg (by rw[hb]; decide)];refine gy (λhc=>absurd (show(!t.plain && decide (es.size > 1))=ai from hc) (by rw[h1]; simp)) (λ_=>?_);refine ar ?_;refine d_ (Q:=λ_ s'=>s'=s) (E:=E) ?_ (λ_ s' wI=>?_) (λ_ _ x=>x)
  ·refine gy (λhc=>absurd (show(!t.led && !es.isEmpty)=ai from hc) (by rw[ie]; simp)) (λ_=>aD rfl)
  ·subst wI;rw[hj,LH,he];by_cases bv:j<slot
   ·rw[if_pos bv]at hq ⊢;exact aD hq
   ·rw[if_neg bv]at hq ⊢;exact aD hq
 refine⟨λb hb=>by simp at hb; simp[hb],λi h h' st k=>⟨k I (by simp) _ st.1,k a (by simp) _ st.2⟩,λi s Q E hi st hQ=>?_,λs Q E st hQ=>?_,λi s Q E st hQ=>w6 st.1 hQ⟩
 ·obtain rfl:i=0:=∅
  refine p8 st.2 hf st.1 ?_;show ax _ _ (oq a (0:Int).toNat ((0:Nat):Int).toNat (ep:Int).toNat >>= _) _ _ s;simp only[lR,Int.toNat_zero];refine ar (body s 0 0 _ _ st.2 ?_);rw[if_neg (zu j)];dsimp only;refine ar (BB st.1 λh1 jS e1=>?_);refine ar (AI (s:={ s with heap:=h1 }) e1 λh2 fP e2=>?_);refine aD ⟨_,rfl,hQ _ h2 s.toks ?_ ⟨?_,?_⟩ λb o hb e=>?_⟩
  ·rw[he]; rfl
  ·rw[e2,if_neg (by decide),gj]; rfl
  ·exact(fP.2 a cO).trans ((jS.2 a cO).trans st.2)
  ·exact(fP.2 b (by simpa using hb)).trans ((jS.2 b (by simpa using hb)).trans e)
 ·refine p8 st.2 hf st.1 ?_;rw[if_neg (by decide),gj];show ax _ _ (oq a ((j:Int)+1).toNat ((1:Nat):Int).toNat (ep:Int).toNat >>= _) _ _ s;have e1:((j:Int)+1).toNat=j+1:=∅
  rw[e1,lR,lR];refine ar (body s (j+1) 1 _ _ st.2 ?_);rw[if_pos (mY j)];dsimp only;refine ar (xU st.1 λh1 jS _=>?_);exact xk (s:={ s with heap:=h1 }) hh λh2 k2=>hQ h2 s.toks λb o hb e=>k2 b o ((jS.2 b (by simpa using hb)).trans e)
theorem Hj:∀ {vs:List am} {ss:List Str} (i:Nat) (v:am),eT vs ss->vs[i]?=aa v->∃ t,v = .str (ss.getD i pA) t
 | _,_,i,v,.nil,h=>by simp at h
 | _,_,0,v,.cons y t _,h=>by simp at h; exact⟨t,by rw[← h]; rfl⟩
 | _,_,i+1,v,.cons y t hr,h=>by simp only[List.getElem?_cons_succ]at h;obtain⟨t',e⟩:=Hj i v hr h;exact⟨t',by rw[e]; rfl⟩
set_option maxRecDepth 100000 in
theorem OL{l:af}{items:Array am}{ss:List Str}{Q:am->aq->Prop}(hh:A.handled=ae)(hl:s.heap.IsList l items)(hi:eT items.toList ss)(hb:(met (λi=>ss.getD i pA) items.size).length<4000)(h:∀ (h':aF) (tk:Nat),b7 P w h' s.heap.objs.size (met (λi=>ss.getD i pA) items.size)->(∀ b o,b<s.heap.objs.size->s.heap.get? b=aa o->h'.get? b=aa o)->Q (.ref s.heap.objs.size) { s with heap:=h',toks:=tk }) : ax (ay P w) A (call (.type "set") [.ref l]) Q E s:=by
 obtain⟨c,tl,hmro⟩:=F.called_set.mro; have hmade:=F.called_set.made; have j9:=F.called_set.sub;refine wpAny_call (codeAny_of_tree ?_);show ax _ _ (callAny (.type "set") _) _ _ _; refine aD ⟨Code.quiet_builtin _ (by decide +kernel),vW F.entry_type_call ?_⟩;rw[Around.under_plain (weight_type_call_type "set" [.ref l] []) rfl]; have h1:=F.called_set.notType; have h2:=F.called_set.canCreate;have hct:=PySem.F.typeCall_set_1 (.ref l)
 repeat any_goals (first | assumption | wp_step)
 refine zo (N0 (P:=P) (w:=w) (.ref l) (E:=E) (Q:=λobj s1=>obj = .ref s.heap.objs.size/\s1={ s with heap:=s.heap.push { cls:=.type "set",dict:=ae,data:=.set #[] 0 (.fresh 0 0 (!dw w)) } }/\b7 P w s1.heap s.heap.objs.size []) λS0=>⟨rfl,rfl,S0⟩) λr s1 hr=>?_;cases r with
 | error e=>exact hr
 | ok fl=>
  cases fl with
  | ret obj=>
   obtain⟨rfl,rfl,S0⟩:=hr;have hS:=dG (h:=s.heap) (o:=({ cls:=.type "set",dict:=ae,data:=.set #[] 0 (.fresh 0 0 (!dw w)) }:Obj));have wH:(s.heap.push { cls:=.type "set",dict:=ae,data:=.set #[] 0 (.fresh 0 0 (!dw w)) }).get? s.heap.objs.size=aa { cls:=.type "set",dict:=ae,data:=.set #[] 0 (.fresh 0 0 (!dw w)) }:=dG _ rfl;have hT:Shared.TypeIs { s with heap:=s.heap.push { cls:=.type "set",dict:=ae,data:=.set #[] 0 (.fresh 0 0 (!dw w)) } } (.ref s.heap.objs.size) "set":=⟨_,wH,rfl⟩
   have hli:=F.called_set.init.lookup; have hbi:=F.called_set.init.bind (.ref s.heap.objs.size)
   repeat any_goals (first | assumption | wp_step)
   refine zo (codeAny_call_builtin (R:=wants (λr s2=>r = .none/\∃ h' tk,s2={ s with heap:=h',toks:=tk }/\b7 P w h' s.heap.objs.size (met (λi=>ss.getD i pA) items.size) /\ (∀ b o,b<s.heap.objs.size->s.heap.get? b=aa o->h'.get? b=aa o)) E) F.called_set.init.plain F.entry_set_init (check_set_init_1 hT ?_)) λr2 s2 lu=>?_
   ·obtain⟨⟨ocls,odict,odata,oslots⟩,t8,jR,nl,t_⟩:=hl;simp only at jR t_; subst jR; subst t_;have hol':(s.heap.push { cls:=.type "set",dict:=ae,data:=.set #[] 0 (.fresh 0 0 (!dw w)) }).get? l=aa { cls:=.type "list",dict:=odict,data:=.seq items nl,slots:=oslots }:=bK _ t8;have hsls:=PySem.F.sub_list_set; have hslf:=PySem.F.sub_list_frozenset; have cO:(Value.type "list" == Value.type "dict")=ao:=by decide
    have wF:(s.heap.push { cls:=.type "set",dict:=ae,data:=.set #[] 0 (.fresh 0 0 (!dw w)) }).IsList l items:=⟨_,hol',rfl,nl,rfl⟩
    unfold Builtin.«set.__init__» noKeywords Builtin.Frozenset.updateFrom; generalize hPI:pr=PI
    wp_walk
    subst hPI;refine CZ wF (ar (wpAny_runValue ?_));have hlS:l<s.heap.objs.size:=bE t8;have hh3:A.in1.in1.in1.handled=ae:=by simp[hh]
    have hsz:(s.heap.push { cls:=.type "set",dict:=ae,data:=.set #[] 0 (.fresh 0 0 (!dw w)) }).objs.size=s.heap.objs.size+1:=vM ..;have hneI:l≠(s.heap.push { cls:=.type "set",dict:=ae,data:=.set #[] 0 (.fresh 0 0 (!dw w)) }).objs.size:=by rw[hsz]; exact c_ (m_ hlS)
    have hSf:s.heap.objs.size∉[(s.heap.push { cls:=.type "set",dict:=ae,data:=.set #[] 0 (.fresh 0 0 (!dw w)) }).objs.size,l]:=by rw[hsz]; simp only[ca,hZ,kD,or_false,not_or]; exact⟨c_ (mY _),mW hlS⟩
    refine MI ((Walks.list hh3 _ l hneI items).toS) s.heap.objs.size hSf (λi=>ss.getD i pA) (λi v hv=>Hj i v hi (by rw[Db]; exact hv)) (λi hi=>qN (Gu _ hi) hb) (items.size-0) 0 _ ∅ (lj _)
     ⟨⟨_,dG _ rfl,rfl,rfl⟩,(wF.push _)⟩ (S0.at λo e=>bK _ e) ?_
    intro s' hm t7;obtain⟨h',g',d',tk',os'⟩:=s';obtain rfl:g'=s.gens:=hm.gens;obtain rfl:d'=s.drawn:=hm.drawn;obtain rfl:os'=s.os:=hm.os;show ax _ _ _ _ _ _;refine aD ?_;show ax _ _ (ret Value.none) _ _ _;refine aD ⟨rfl,h',tk',rfl,t7,λb o hb e=>hm.heap b o ?_ (bK _ (bK _ e))⟩;rw[hsz]; simp only[ca,hZ,kD,or_false,not_or]; exact⟨c_ hb,c_ (m_ hb)⟩
   ·cases r2 with
    | error e=>exact lu
    | ok fl2=>
     cases fl2 with
     | ret r=>
      obtain⟨rfl,h',tk,rfl,t7,wJ⟩:=lu
      repeat any_goals (first | assumption | wp_step)
      exact h _ _ t7 wJ
     | _=>exact lu.elim
  | _=>exact hr.elim
end
theorem Iy{n:Nat}(h:n<=4096):n<bx:=qN h (by decide)
theorem Q8:typeLookup (.type "set") "__len__" = pure (aa (.builtin "set.__len__")):=F.slot_set_len.lookup
section
variable{P:aX}{w:aN}{A:be}{E:am->aq->Prop}{s:aq}
structure Hh(P:aX)(w:aN)(s s':aq)(a I:af)(ks:List Str)(fp:List af)(n:Nat)(Pv:Nat->am->Prop)(St:Nat->aF->Prop):Prop where
 wk:∀ A:be,A.handled=ae->Walks P w A I fp [I] n Pv St
 st:St 0 s'.heap
 old:∀ b o,s.heap.get? b=aa o->s'.heap.get? b=aa o
 new:s.heap.objs.size<=I
 lt:∀ b∈fp,b<s'.heap.objs.size
 rest:s'={ s with heap:=s'.heap,drawn:=s'.drawn }
 ord:∀ au:Array am,ItemsOf Pv au n->∃ ss,eT au.toList ss/\ss.Perm ks
 len:n<4090
 fps:∀ b∈fp,b=a\/s.heap.objs.size<=b
theorem yr{l:List am}{au:Array am}{n:Nat}(hl:l.length=n)(h:ItemsOf (λi v=>l[i]?=aa v) au n):au.toList=l:=by
 refine kE λi=>?_;by_cases hi:i<n
 ·have:i<au.size:=by rw[h.1]; exact hi
  have q:=h.2 i au[i] (zE this);rw[q];simp[this]
 ·rw[jM (by rw[iz,h.1]; lia),jM ∅]
end
def cf(ls:List Tx):List Tx:=ls.foldl (λks x=>if x∈ks then ks else ks++[x]) []
theorem EX(ls:List Tx):met (λi=>(ls.map tS).getD i pA) ls.length=(cf ls).map tS:=by
 have gen:∀ (l:List Tx) (au:List Tx),(l.map tS).foldl jz (au.map tS)=(l.foldl (λks x=>if x∈ks then ks else ks++[x]) au).map tS:=by
  intro l
  induction l with
  | nil=>intro au; rfl
  | cons x r ih=>
   intro au;rw[eC,jL,jL];have:jz (au.map tS) (tS x)=(if x∈au then au else au++[x]).map tS:=by
    unfold jz;have hm:tS x∈au.map tS↔x∈au:=by rw[cM];exact⟨λ⟨y,hy,e⟩=>by rw[← p7 e]; exact hy,λh=>⟨x,h,rfl⟩⟩
    by_cases h:x∈au
    ·rw[if_pos h,if_pos (hm.mpr h)]
    ·rw[if_neg h,if_neg (λz=>h (hm.mp z)),oi]; rfl
   rw[this,ih]
 have e:(bQ ls.length).map (λi=>(ls.map tS).getD i pA)=ls.map tS:=by
  refine kE λi=>?_;rw[jh];by_cases hi:i<ls.length
  ·rw[CW hi];simp[hi]
  ·rw[jM (by simpa using hi),jM (by simpa using hi)];rfl
 unfold met;rw[e];exact gen ls []
theorem G9(l au:List Tx):(au.Nodup->(l.foldl (λks x=>if x∈ks then ks else ks++[x]) au).Nodup)/\∀ x,x∈l.foldl (λks x=>if x∈ks then ks else ks++[x]) au↔x∈au\/x∈l:=by
 induction l generalizing au with
 | nil=>exact⟨λh=>h,λx=>by simp⟩
 | cons y r ih=>
  rw[jL];obtain⟨h1,h2⟩:=ih (if y∈au then au else au++[y]);refine⟨λh=>h1 ?_,λx=>?_⟩
  ·split
   ·exact h
   ·rename_i hy;rw[zF];exact⟨h,by simp,λa ha b hb=>by simp at hb; subst hb; exact λe=>hy (e ▸ ha)⟩
  ·rw[h2 x,ca];split
   ·rename_i hy;constructor
    ·rintro(h | h)
     ·exact .inl h
     ·exact .inr (.inr h)
    ·rintro(h | rfl | h)
     ·exact .inl h
     ·exact .inl hy
     ·exact .inr h
   ·rw[eY,hZ,or_assoc]
theorem vC(l:List Tx):(cf l).Nodup:=(G9 l []).1 List.nodup_nil
theorem mI(l:List Tx)(x:Tx):x∈cf l↔x∈l:=by rw[cf,(G9 l []).2 x]; simp
theorem yL(l:List Tx):(cf l).length<=l.length:=by
 have gen:∀ (l au:List Tx),(l.foldl (λks x=>if x∈ks then ks else ks++[x]) au).length<=au.length+l.length:=by
  intro l
  induction l with
  | nil=>intro au; simp
  | cons x r ih=>intro au;rw[jL];refine cL (ih _) ?_;split <;> simp <;> lia
 simpa[cf]using gen l []
section
variable{X:Cx}
def iK(X:Cx)(a:af)(ls:List Tx):HO:=.ext λh=>b7 X.prog X.w h a (ls.map tS)
theorem AO(hc:X.calm=ai):im X (.type "set") (λxs H Q=>∃ (p:af) (ls:List Tx),xs=[.ref p]/\cg X.K H p (d8 ls)/\(cf ls).length<4000/\∀ a,H a=ae->Q (.ref a) (upd H a (iK X a (cf ls)))):=by
 intro ah s σ H xs us Q I r h;obtain⟨p,ls,rfl,hq,h60,q⟩:=h;obtain⟨u,rfl,ru⟩:=vals1 r;cases ru;obtain⟨its,rv,pl,hz⟩:=I.list hq;have hl:=rv.length;rw[yR]at hl;refine OL (P:=X.prog) (w:=X.w) (I.ok.hd hc) pl.isList (by simpa using z8 rv) (by rw[dH,show its.length=ls.length by lia,EX,cD]; exact h60) λh' tk S k=>?_;have S':b7 X.prog X.w h' s.heap.objs.size ((cf ls).map tS):=by
  have e:its.toArray.size=ls.length:=by rw[dH]; lia
  rw[e,EX]at S;exact S
 refine⟨.ref s.heap.objs.size,_,I.laid (t':=tk) (o:=iK X s.heap.objs.size (cf ls)) (λb o e=>k b o (bE e) e) (bo _) ?_,rfl,q _ I.fresh⟩;obtain⟨es,ep,t,ss,e,_⟩:=S'.ex;exact⟨S',⟨_,e⟩,λh1 h2 q1 q2=>q1.at q2⟩
end
structure FG(P:aX)(w:aN)(K:az)(mg:Str->Option am)(base:aF)(x:Str)(k:Nat)(ps:List Str)(sp:Sp):Prop where
 ex:∃ f fd,mg x=aa (.ref f)/\iM P w K mg base AR k f fd ps sp/\Binds K fd ps []/\tq K (.ref f)=ai
theorem FG.mono{P:aX}{w:aN}{K:az}{mg:Str->Option am}{base:aF}{x:Str}{j k:Nat}{ps:List Str}{sp:Sp}(c:FG P w K mg base x j ps sp)(h:j<=k):FG P w K mg base x k ps sp:=by obtain⟨f,fd,h1,h2,h3,h4⟩:=c.ex;exact⟨f,fd,h1,h2.mono h,h3,h4⟩
structure cB(K:az)(mg:Str->Option am)(x:Str)(st:bf):Prop where
 ex:∃ f fd,mg x=aa (.ref f)/\oW K x x st f fd
def nV(t:af)(H H':Hp):Prop:=∀ b o,H b=aa o->b≠t->H' b=aa o
theorem nV.refl(t:af)(H:Hp):nV t H H:=λ_ _ h _=>h
theorem nV.trans{t:af}{H H1 H2:Hp}(a:nV t H H1)(b:nV t H1 H2):nV t H H2:=λc o h hc=>b c o (a c o h hc) hc
theorem Same.near{t:af}{H H':Hp}(h:Same H H'):nV t H H':=λb o e _=>h b o e
theorem nV.free{t:af}{H H':Hp}(e:nV t H H'){l:af}(h:H' l=ae)(hl:l≠t):H l=ae:=by
 cases q:H l with
 | none=>rfl
 | some o=>rw[e l o q hl]at h; cases h
theorem nV.seq{K:az}{t a:af}{H H':Hp}{xs:List V}(e:nV t H H')(ha:a≠t)(h:cg K H a xs):cg K H' a xs:=by
 rcases h with(h | ⟨o,h⟩) | h
 ·exact .inl (.inl (e _ _ h ha))
 ·exact .inl (.inr ⟨o,e _ _ h ha⟩)
 ·exact .inr h
theorem nV.tup{K:az}{t a:af}{H H':Hp}{xs:List V}(e:nV t H H')(ha:a≠t)(h:dz K H a xs):dz K H' a xs:=by
 rcases h with(h | ⟨o,h⟩) | h
 ·exact .inl (.inl (e _ _ h ha))
 ·exact .inl (.inr ⟨o,e _ _ h ha⟩)
 ·exact .inr h
def xr(H:Hp)(t:af)(n:Nat):Prop:=∃ xs,H t=aa (.lst xs)/\xs.length<=n
theorem xr.mono{H:Hp}{t:af}{m n:Nat}(h:xr H t m)(hn:m<=n):xr H t n:=let ⟨xs,a,b⟩:=h; ⟨xs,a,cL b hn⟩
theorem xr.upd{H:Hp}{t p:af}{n:Nat}{o:HO}(h:xr H t n)(hp:H p=ae):xr (upd H p o) t n:=by obtain⟨xs,a,b⟩:=h;exact⟨xs,by rw[cu (nB a hp)]; exact a,b⟩
theorem Hy{H:Hp}{p:af}{o:HO}(h:H p=ae):Same H (upd H p o):=λb u q=>by rw[cu (nB q h)]; exact q
theorem u8{α:Type}{xs:List α}{k:Int}(h0:0<=k)(h:k.toNat<xs.length):eh xs k=aa xs[k.toNat]:=by
 have e:((k.toNat:Nat):Int)=k:=∅
 have q:=Rb (xs:=xs) (j:=k.toNat) (v:=xs[k.toNat]) (by simp[h]);rwa[e]at q
structure Ea(K:az)(H:Hp)(a:af):Prop where
 ex:∃ ns:List Int,cg K H a (ns.map V.int)/\ns.length<=63
theorem Ea.near{K:az}{H H':Hp}{a t:af}(h:Ea K H a)(hn:nV t H H')(ha:a≠t):Ea K H' a:=let ⟨ns,q,l⟩:=h.ex; ⟨ns,hn.seq ha q,l⟩
def FJ(N:List Str)(sc scope:eG)(x:Str)(N':List Str)(cap:List Nat):Bool :=
 decide (scope.kind = .function) && scope.names.all (λy=>(decide (y.2≠.cell) || decide (scope.names.lookup y.1=aa .cell)) && (decide (y.2≠.local) || decide (scope.names.lookup y.1=aa .local)) && (decide (y.2≠.free) || decide (sc.names.lookup y.1=aa .cell) || decide (sc.names.lookup y.1=aa .free)))
 && (decide (scope.names.lookup x=aa .local) || decide (scope.names.lookup x=aa .cell)) && decide N'.Nodup && decide (N'.head?=aa x) && decide (N'.length=cap.length+1) && (cap.zip N'.tail).all λp=>decide (N[p.1]?=aa p.2) && decide (scope.names.lookup p.2=aa .free)
theorem mG.of{X:Cx}{scope:eG}{x:Str}{N':List Str}{cap:List Nat}(N:List Str)(sc:eG)(hN:X.N=N)(wK:X.env.scope=sc)(h:FJ N sc scope x N' cap=ai):mG X scope x N' cap:=by
 subst hN wK;simp only[FJ,iA,decide_eq_true_eq,vZ,zB]at h;obtain⟨⟨⟨⟨⟨⟨h1,h2⟩,h3⟩,h4⟩,h5⟩,h6⟩,h7⟩:=h;refine⟨h1,λy hy e=>(h2 y hy).1.1.elim (λz=>absurd e z) λz=>z,λy hy e=>?_,h3,λy hy e=>?_,h4,h5,h6,λi j y e1 e2=>?_⟩
 ·rcases(h2 y hy).1.2 with z | z
  ·exact absurd e z
  ·exact z
 ·rcases(h2 y hy).2 with(z | z) | z
  ·exact absurd e z
  ·exact .inl z
  ·exact .inr z
 ·have hm:(j,y)∈cap.zip N'.tail:=by
   refine List.mem_iff_getElem?.mpr ⟨i,?_⟩;rw[List.getElem?_zip_eq_some];refine⟨e2,?_⟩;rw[← List.drop_one,kF,Nat.add_comm];exact e1
  exact h7 _ hm
end L2
namespace Pu
open L2
abbrev St:=L2.St
inductive PV where
 | non | bl (b:Bool) | int (i:Int) | str (x:Tx) | tup (xs:List PV) | lst (xs:List PV) | raw (v:V) | exc (c:am)
def NQ(a:af)(c:am):HO:=.ext λh=>∃ o vs,h.get? a=aa o/\o.cls=c/\o.data = .fields vs/\o.dict=ae
def bI:Nat:=1000000
theorem nE:bI<=bx:=by rw[tm]; decide
def gJ:HO->Prop
 | .lst _=>True
 | .dK _=>True
 | .dT _=>True
 | .ins _ _ _=>True
 | .own _=>True
 | _=>False
mutual
def bi(K:az)(H:Hp)(F:af->Prop):PV->V->Prop
 | .non,v=>v = .non
 | .bl b,v=>v = .bl b
 | .int i,v=>v = .int i
 | .str x,v=>v=tV x/\x.length<=bI
 | .tup xs,v=>∃ a vs,v = .ref a/\H a=aa (.tup vs)/\bq K H F xs vs
 | .lst xs,v=>∃ a vs,v = .ref a/\Rd H a (.lst vs)/\F a/\bq K H F xs vs
 | .raw u,v=>v=u
 | .exc c,v=>∃ a,v = .ref a/\H a=aa (NQ a c)
def bq(K:az)(H:Hp)(F:af->Prop):List PV->List V->Prop
 | [],vs=>vs=[]
 | x::xs,vs=>∃ v r,vs=v::r/\bi K H F x v/\bq K H F xs r
end
section
variable{K:az}{H H':Hp}{F F':af->Prop}
mutual
theorem bi.mono(hF:∀ a,F a->F' a)(hL:∀ a xs,F a->Rd H a (.lst xs)->Rd H' a (.lst xs))(hT:∀ a o,H a=aa o->¬ gJ o->H' a=aa o):∀ (x:PV) (v:V),bi K H F x v->bi K H' F' x v
 | .non,_,h=>h
 | .bl _,_,h=>h
 | .int _,_,h=>h
 | .str _,_,h=>h
 | .raw _,_,h=>h
 | .exc _,_,⟨a,e,h⟩=>⟨a,e,hT a _ h id⟩
 | .tup xs,_,⟨a,vs,e,h1,h2⟩=>⟨a,vs,e,hT a _ h1 id,bq.mono hF hL hT xs vs h2⟩
 | .lst xs,_,⟨a,vs,e,h1,h0,h2⟩=>⟨a,vs,e,hL a vs h0 h1,hF a h0,bq.mono hF hL hT xs vs h2⟩
theorem bq.mono(hF:∀ a,F a->F' a)(hL:∀ a xs,F a->Rd H a (.lst xs)->Rd H' a (.lst xs))(hT:∀ a o,H a=aa o->¬ gJ o->H' a=aa o):∀ (xs:List PV) (vs:List V),bq K H F xs vs->bq K H' F' xs vs
 | [],_,h=>h
 | x::xs,_,⟨v,r,e,h1,h2⟩=>⟨v,r,e,bi.mono hF hL hT x v h1,bq.mono hF hL hT xs r h2⟩
end
theorem bq.len:∀ {xs:List PV} {vs:List V},bq K H F xs vs->vs.length=xs.length
 | [],_,h=>by rw[show _=[] from h]; rfl
 | _::_,_,⟨_,_,e,_,h2⟩=>by rw[e,eI,eI,bq.len h2]
theorem bq.get:∀ {xs:List PV} {vs:List V} {i:Nat} {x:PV},bq K H F xs vs->xs[i]?=aa x->∃ v,vs[i]?=aa v/\bi K H F x v
 | [],_,_,_,_,e=>by simp at e
 | x::xs,_,0,y,⟨v,r,e,h1,_⟩,q=>by simp at q; subst q; subst e; exact⟨v,rfl,h1⟩
 | x::xs,_,i+1,y,⟨v,r,e,_,h2⟩,q=>by obtain⟨w,a,b⟩:=bq.get (i:=i) (x:=y) h2 (by simpa using q);subst e;exact⟨w,by simpa using a,b⟩
theorem bq.back:∀ {xs:List PV} {vs:List V} {i:Nat} {v:V},bq K H F xs vs->vs[i]?=aa v->∃ x,xs[i]?=aa x/\bi K H F x v
 | [],_,_,_,h,e=>by rw[show _=[] from h]at e; simp at e
 | x::xs,_,0,y,⟨v,r,e,h1,_⟩,q=>by subst e; simp at q; subst q; exact⟨x,rfl,h1⟩
 | x::xs,_,i+1,y,⟨v,r,e,_,h2⟩,q=>by subst e;obtain⟨w,a,b⟩:=bq.back (i:=i) (v:=y) h2 (by simpa using q);exact⟨w,by simpa using a,b⟩
theorem bq.app:∀ {xs ys:List PV} {vs ws:List V},bq K H F xs vs->bq K H F ys ws->bq K H F (xs++ys) (vs++ws)
 | [],_,_,_,h,g=>by rw[show _=[] from h]; exact g
 | x::xs,_,_,_,⟨v,r,e,h1,h2⟩,g=>by subst e; exact⟨v,_,rfl,h1,bq.app h2 g⟩
theorem bq.one{x:PV}{v:V}(h:bi K H F x v):bq K H F [x] [v]:=⟨v,[],rfl,h,rfl⟩
theorem bq.drop:∀ (n:Nat) {xs:List PV} {vs:List V},bq K H F xs vs->bq K H F (xs.drop n) (vs.drop n)
 | 0,_,_,h=>h
 | _+1,[],_,h=>by rw[show _=[] from h]; rfl
 | n+1,_::_,_,⟨_,_,e,_,h2⟩=>by subst e; exact bq.drop n h2
theorem bq.take:∀ (n:Nat) {xs:List PV} {vs:List V},bq K H F xs vs->bq K H F (xs.take n) (vs.take n)
 | 0,_,_,_=>by rw[Dc,Dc]; rfl
 | _+1,[],_,h=>by rw[show _=[] from h]; rfl
 | n+1,_::_,_,⟨v,_,e,h1,h2⟩=>by subst e; exact⟨v,_,rfl,h1,bq.take n h2⟩
theorem bq.set{x:PV}{v:V}(hx:bi K H F x v):∀ (n:Nat) {xs:List PV} {vs:List V},bq K H F xs vs->bq K H F (xs.set n x) (vs.set n v)
 | _,[],_,h=>by rw[show _=[] from h]; rfl
 | 0,_::_,_,⟨_,r,e,_,h2⟩=>by subst e; exact⟨v,r,rfl,hx,h2⟩
 | n+1,_::_,_,⟨w,_,e,h1,h2⟩=>by subst e; exact⟨w,_,rfl,h1,bq.set hx n h2⟩
theorem bq.cons{x:PV}{v:V}{xs:List PV}{vs:List V}(h:bi K H F x v)(g:bq K H F xs vs):bq K H F (x::xs) (v::vs):=⟨v,vs,rfl,h,g⟩
end
structure bY(O O' F F':af->Prop)(H H':Hp):Prop where
 fro:∀ a,F a->F' a
 keep:∀ b o,H b=aa o->¬ O b->H' b=aa o
 there:∀ b o,H b=aa o->∃ o',H' b=aa o'
 fnew:∀ a,F' a->F a\/H a=ae\/O a
 onew:∀ a,O' a->O a\/H a=ae
theorem bY.refl(O F:af->Prop)(H:Hp):bY O O F F H H:=⟨λ_ h=>h,λ_ _ h _=>h,λ_ o h=>⟨o,h⟩,λ_ h=>.inl h,λ_ h=>.inl h⟩
theorem bY.trans{O O1 O2 F F1 F2:af->Prop}{H H1 H2:Hp}(g:bY O O1 F F1 H H1)(k:bY O1 O2 F1 F2 H1 H2):bY O O2 F F2 H H2 where
 fro:=λa h=>k.fro a (g.fro a h)
 keep:=λb o h n=>k.keep b o (g.keep b o h n) λz=>(g.onew b z).elim n λq=>by rw[q]at h; cases h
 there:=λb o h=>let ⟨o',h'⟩:=g.there b o h; k.there b o' h'
 fnew:=λa h=>by
  have back:H1 a=ae->H a=ae\/O a:=λz=>by
   cases q:H a with
   | none=>exact .inl rfl
   | some o=>obtain⟨o',h'⟩:=g.there a o q; rw[z]at h'; cases h'
  rcases k.fnew a h with z | z | z
  ·exact g.fnew a z
  ·exact .inr (back z)
  ·exact .inr ((g.onew a z).symm)
 onew:=λa h=>by
  rcases k.onew a h with z | z
  ·exact g.onew a z
  ·cases q:H a with
   | none=>exact .inr rfl
   | some o=>obtain⟨o',h'⟩:=g.there a o q; rw[z]at h'; cases h'
def oV(O F:af->Prop)(H:Hp):Prop:=∀ b,O b->¬ F b/\∃ o,H b=aa o/\gJ o
section
variable{K:az}{O O' F F':af->Prop}{H H':Hp}
theorem bY.imm(g:bY O O' F F' H H')(f:oV O F H){a:af}{o:HO}(h:H a=aa o)(n:¬ gJ o):H' a=aa o :=
 g.keep _ _ h λz=>by
  obtain⟨_,o',e',n'⟩:=f a z;rw[h]at e'; cases e'; exact n n'
theorem bY.lst(g:bY O O' F F' H H')(f:oV O F H){a:af}{xs:List V}(hF:F a)(h:Rd H a (.lst xs)):Rd H' a (.lst xs):=by
 have no:¬ O a:=λz=>(f a z).1 hF;rcases h with h | ⟨o,h⟩
 ·exact .inl (g.keep _ _ h no)
 ·exact .inr ⟨o,g.keep _ _ h no⟩
theorem bi.grow(g:bY O O' F F' H H')(f:oV O F H){x:PV}{v:V}(h:bi K H F x v):bi K H' F' x v:=bi.mono g.fro (λ_ _ hF q=>g.lst f hF q) (λ_ _ q n=>g.imm f q n) x v h
theorem bq.grow(g:bY O O' F F' H H')(f:oV O F H){x:List PV}{v:List V}(h:bq K H F x v):bq K H' F' x v:=bq.mono g.fro (λ_ _ hF q=>g.lst f hF q) (λ_ _ q n=>g.imm f q n) x v h
end
theorem _root_.L2.Same.rd{H H':Hp}{a:af}{u:HO}(e:Same H H')(h:Rd H a u):Rd H' a u:=h.elim (λz=>.inl (e _ _ z)) λ⟨o,z⟩=>.inr ⟨o,e _ _ z⟩
structure Al(F F':af->Prop)(H H':Hp):Prop where
 fro:∀ a,F a->F' a
 same:Same H H'
 fnew:∀ a,F' a->F a\/(H a=ae/\∃ o,H' a=aa o)
theorem Al.refl(F:af->Prop)(H:Hp):Al F F H H:=⟨λ_ h=>h,Same.refl H,λ_ h=>.inl h⟩
theorem Al.grow{F F' O:af->Prop}{H H':Hp}(a:Al F F' H H'):bY O O F F' H H' :=⟨a.fro,λb o h _=>a.same b o h,λb o h=>⟨o,a.same b o h⟩,λb h=>(a.fnew b h).imp id λz=>.inl z.1,λ_ h=>.inl h⟩
theorem Al.rep{K:az}{F F':af->Prop}{H H':Hp}(a:Al F F' H H'){x:PV}{v:V}(h:bi K H F x v):bi K H' F' x v:=bi.mono a.fro (λ_ _ _ q=>a.same.rd q) (λ_ _ q _=>a.same _ _ q) x v h
theorem Al.reps{K:az}{F F':af->Prop}{H H':Hp}(a:Al F F' H H'){x:List PV}{v:List V}(h:bq K H F x v):bq K H' F' x v:=bq.mono a.fro (λ_ _ _ q=>a.same.rd q) (λ_ _ q _=>a.same _ _ q) x v h
theorem Al.trans{F F1 F2:af->Prop}{H H1 H2:Hp}(a:Al F F1 H H1)(b:Al F1 F2 H1 H2):Al F F2 H H2 :=
 ⟨λc h=>b.fro c (a.fro c h),a.same.trans b.same,λc h=>by
  rcases b.fnew c h with z | ⟨z,w⟩
  ·rcases a.fnew c z with y | ⟨y,o,q⟩
   ·exact .inl y
   ·exact .inr ⟨y,o,b.same _ _ q⟩
  ·exact .inr ⟨a.same.free z,w⟩⟩
theorem Al.new{F:af->Prop}{H:Hp}{l:af}{o:HO}(h:H l=ae):Al F (λa=>F a\/a=l) H (upd H l o) :=⟨λ_ h=>.inl h,Hy h,λa z=>z.imp id λe=>by subst e; exact⟨h,o,cF⟩⟩
theorem Al.new0{F:af->Prop}{H:Hp}{l:af}{o:HO}(h:H l=ae):Al F F H (upd H l o):=⟨λ_ h=>h,Hy h,λa z=>.inl z⟩
inductive PO where
 | lst (xs:List PV) | dK (kvs:List (aJ×PV)) | lls (f8:List (List PV)) | ins (C:af) (fs:List (Str×PV))
def jx:PO->Bool
 | .lls _=>ao
 | _=>ai
inductive Slot where
 | none | val (v:PV) | own (o:PO)
abbrev ak:=List Slot
def fV(K:az)(H:Hp)(F:af->Prop)(kvs:List (aJ×PV))(ws:List (aJ×V)):Prop:=nX (λ(p:aJ×PV) (q:aJ×V)=>p.1=q.1/\bi K H F p.2 q.2) kvs ws
def sj(K:az)(H:Hp)(F:af->Prop)(fs:List (Str×PV))(ws:List (Str×V)):Prop:=nX (λ(p:Str×PV) (q:Str×V)=>p.1=q.1/\bi K H F p.2 q.2) fs ws
def kw(K:az)(H:Hp)(F:af->Prop)(f8:List (List PV))(as:List af):Prop:=nX (λ(xs:List PV) (b:af)=>∃ vs,H b=aa (.lst vs)/\bq K H F xs vs) f8 as
def gf(K:az)(H:Hp)(F:af->Prop)(po:PO)(a:af)(S:af->Prop):Prop :=
 match po with
 | .lst xs=>(∃ vs,H a=aa (.lst vs)/\bq K H F xs vs)/\∀ b,S b↔b=a
 | .dK kvs=>(∃ ws,H a=aa (.dK ws)/\fV K H F kvs ws)/\∀ b,S b↔b=a
 | .lls f8=>∃ as,H a=aa (.lst (as.map .ref))/\kw K H F f8 as/\as.Nodup/\a∉as/\∀ b,S b↔b=a\/b∈as
 | .ins C fs=>(∃ dx ws,H a=aa (.ins C dx ws)/\sj K H F fs ws)/\∀ b,S b↔b=a
structure a_(K:az)(F:af->Prop)(S:Nat->af->Prop)(ε:ak)(σ:St)(H:Hp):Prop where
 len:ε.length=σ.length
 ex:∀ a,F a->∃ o,H a=aa o
 val:∀ (i:Nat) (pv:PV),ε[i]?=aa (.val pv)->∃ v,σ[i]?=aa (aa v)/\bi K H F pv v
 own:∀ (i:Nat) (po:PO),ε[i]?=aa (.own po)->∃ a,σ[i]?=aa (aa (.ref a))/\gf K H F po a (S i)
 foot:∀ (i:Nat) (b:af),S i b->(∃ po,ε[i]?=aa (.own po))/\¬ F b/\∃ o,H b=aa o/\gJ o
 dist:∀ (i j:Nat) (b:af),S i b->S j b->i=j
def U(S:Nat->af->Prop)(b:af):Prop:=∃ i,S i b
section
variable{K:az}{F F':af->Prop}{S:Nat->af->Prop}{ε:ak}{σ:St}{H H':Hp}
theorem a_.fit(r:a_ K F S ε σ H):oV (U S) F H:=λb ⟨i,h⟩=>(r.foot i b h).2
theorem fV.mono{kvs:List (aJ×PV)}{ws:List (aJ×V)}(hF:∀ x v,bi K H F x v->bi K H' F' x v)(h:fV K H F kvs ws):fV K H' F' kvs ws:=by
 unfold fV at h ⊢
 induction h with
 | nil=>exact .nil
 | cons r _ ih=>exact .cons ⟨r.1,hF _ _ r.2⟩ ih
theorem sj.mono{fs:List (Str×PV)}{ws:List (Str×V)}(hF:∀ x v,bi K H F x v->bi K H' F' x v)(h:sj K H F fs ws):sj K H' F' fs ws:=by
 unfold sj at h ⊢
 induction h with
 | nil=>exact .nil
 | cons r _ ih=>exact .cons ⟨r.1,hF _ _ r.2⟩ ih
theorem kw.mono{f8:List (List PV)}{as:List af}(qZ:∀ x v,bq K H F x v->bq K H' F' x v)(ha:∀ b o,b∈as->H b=aa o->H' b=aa o)(h:kw K H F f8 as):kw K H' F' f8 as:=by
 unfold kw at h ⊢
 induction h with
 | nil=>exact .nil
 | cons r _ ih=>obtain⟨vs,h1,h2⟩:=r;exact .cons ⟨vs,ha _ _ (by simp) h1,qZ _ _ h2⟩ (ih λb o hb=>ha b o (by simp[hb]))
theorem gf.mono{po:PO}{a:af}{Sa:af->Prop}(hF:∀ x v,bi K H F x v->bi K H' F' x v)(qZ:∀ x v,bq K H F x v->bq K H' F' x v)(ha:∀ b o,Sa b->H b=aa o->H' b=aa o)(h:gf K H F po a Sa):gf K H' F' po a Sa:=by
 cases po with
 | lst xs=>obtain⟨⟨vs,e,q⟩,w⟩:=h; exact⟨⟨vs,ha a _ ((w a).mpr rfl) e,qZ _ _ q⟩,w⟩
 | dK kvs=>obtain⟨⟨ws,e,q⟩,w⟩:=h; exact⟨⟨ws,ha a _ ((w a).mpr rfl) e,q.mono hF⟩,w⟩
 | lls f8=>obtain⟨as,e,q,n1,n2,w⟩:=h; exact⟨as,ha a _ ((w a).mpr (.inl rfl)) e,q.mono qZ λb o hb=>ha b o ((w b).mpr (.inr hb)),n1,n2,w⟩
 | ins C fs=>obtain⟨⟨dx,ws,e,q⟩,w⟩:=h; exact⟨⟨dx,ws,ha a _ ((w a).mpr rfl) e,q.mono hF⟩,w⟩
theorem a_.al(r:a_ K F S ε σ H)(a:Al F F' H H'):a_ K F' S ε σ H' where
 len:=r.len
 ex:=λb h=>(a.fnew b h).elim (λz=>let ⟨o,q⟩:=r.ex b z; ⟨o,a.same _ _ q⟩) λz=>z.2
 val:=λi pv e=>let ⟨v,h1,h2⟩:=r.val i pv e; ⟨v,h1,a.rep h2⟩
 own:=λi po e=>let ⟨b,h1,h2⟩:=r.own i po e; ⟨b,h1,h2.mono (λ_ _ q=>a.rep q) (λ_ _ q=>a.reps q) λc o _ q=>a.same _ _ q⟩
 foot:=λi b h=>by
  obtain⟨h1,h2,o,h3,h4⟩:=r.foot i b h;refine⟨h1,λz=>?_,o,a.same _ _ h3,h4⟩;rcases a.fnew b z with y | ⟨y,_⟩
  ·exact h2 y
  ·rw[h3]at y; cases y
 dist:=r.dist
end
inductive R(α:Type) where
 | ok (a:α) (ε:ak) | er (c:am) (ε:ak) | no
def R.bind{α β:Type}(r:R α)(k:α->ak->R β):R β:=match r with
 | .ok a ε=>k a ε
 | .er c ε=>.er c ε
 | .no=>.no
def aS{α:Type}(o:Option α)(ε:ak):R α:=match o with
 | some a=>.ok a ε
 | none=>.no
@[simp] theorem R.bind_ok{α β:Type}(a:α)(ε:ak)(k:α->ak->R β):(R.ok a ε).bind k=k a ε:=rfl
@[simp] theorem R.bind_er{α β:Type}(c:am)(ε:ak)(k:α->ak->R β):(R.er c ε:R α).bind k = .er c ε:=rfl
@[simp] theorem R.bind_no{α β:Type}(k:α->ak->R β):(R.no:R α).bind k = .no:=rfl
@[simp] theorem dO{α:Type}(a:α)(ε:ak):aS (aa a) ε = .ok a ε:=rfl
@[simp] theorem U0{α:Type}(ε:ak):aS (ae:Option α) ε = .no:=rfl
def Ok(K:az)(E:XK)(σ:St)(F:af->Prop)(S:Nat->af->Prop)(H:Hp){α:Type}(r:R α)(C:α->ak->(af->Prop)->(Nat->af->Prop)->Hp->Prop):Prop:=match r with
 | .ok a ε'=>∀ F' S' H',a_ K F' S' ε' σ H'->bY (U S) (U S') F F' H H'->C a ε' F' S' H'
 | .er c ε'=>∀ x F' S' H',a_ K F' S' ε' σ H'->bY (U S) (U S') F F' H H'->E c x H'
 | .no=>False
section
variable{K:az}{E:XK}{σ:St}{F:af->Prop}{S:Nat->af->Prop}{H:Hp}{α β:Type}{C C':α->ak->(af->Prop)->(Nat->af->Prop)->Hp->Prop}{D:β->ak->(af->Prop)->(Nat->af->Prop)->Hp->Prop}
theorem Ok.imp{r:R α}(h:Ok K E σ F S H r C)(f:∀ a ε' F' S' H',a_ K F' S' ε' σ H'->bY (U S) (U S') F F' H H'->C a ε' F' S' H'->C' a ε' F' S' H'):Ok K E σ F S H r C':=by
 cases r with
 | ok a ε'=>exact λF' S' H' r g=>f a ε' F' S' H' r g (h F' S' H' r g)
 | er c ε'=>exact h
 | no=>exact h
theorem Ok.from{r:R β}{F1:af->Prop}{S1:Nat->af->Prop}{H1:Hp}(h:Ok K E σ F S H r D)(g:bY (U S) (U S1) F F1 H H1):Ok K E σ F1 S1 H1 r D:=by
 cases r with
 | ok a ε'=>exact λF' S' H' r' g'=>h F' S' H' r' (g.trans g')
 | er c ε'=>exact λx F' S' H' r' g'=>h x F' S' H' r' (g.trans g')
 | no=>exact h
theorem Ok.bind{r:R α}{k:α->ak->R β}(h:Ok K E σ F S H (r.bind k) D):Ok K E σ F S H r (λa ε1 F1 S1 H1=>Ok K E σ F1 S1 H1 (k a ε1) D):=by
 cases r with
 | ok a ε'=>exact λF' S' H' r g=>Ok.from h g
 | er c ε'=>exact h
 | no=>exact h
end
structure Bx(p:Prop):Prop where
 run:p
def i5(X:Cx)(e:aC):TE:=λσ H Q=>Bx (∀ ah s,Inv X ah σ H s->ax (ay X.prog X.w) X.A (bz e X.env) (EP X ah σ Q) X.xe s)
def Af(X:Cx)(e:aC):TT:=λσ H Q=>Bx (∀ ah s,Inv X ah σ H s->ax (ay X.prog X.w) X.A (n8 e X.env (bz e X.env)) (TP X ah σ Q) X.xe s)
def wpS(X:Cx)(st:bf):TS:=λD σ H=>Bx (∀ ah s,Inv X ah σ H s->ax (ay X.prog X.w) X.A (exec st X.env) (SP X ah D) X.xe s)
def uO(X:Cx)(st:List bf):TS:=λD σ H=>Bx (∀ ah s,Inv X ah σ H s->ax (ay X.prog X.w) X.A (execs st X.env) (SP X ah D) X.xe s)
section
variable{X:Cx}{e:aC}{st:bf}{sts:List bf}
theorem cA:PE X e (i5 X e):=λah s _ _ _ I h=>h.run ah s I
theorem sy:PT X e (Af X e):=λah s _ _ _ I h=>h.run ah s I
theorem FL:PS X st (wpS X st):=λah s _ _ _ I h=>h.run ah s I
theorem sM:j1 X sts (uO X sts):=λah s _ _ _ I h=>h.run ah s I
theorem c7{t:TE}(h:PE X e t){σ:St}{H:Hp}{Q:VK}(q:t σ H Q):i5 X e σ H Q:=⟨λah s I=>h ah s σ H Q I q⟩
theorem sV{t:TT}(h:PT X e t){σ:St}{H:Hp}{Q:Bool->Hp->Prop}(q:t σ H Q):Af X e σ H Q:=⟨λah s I=>h ah s σ H Q I q⟩
theorem i_{t:TS}(h:PS X st t){σ:St}{H:Hp}{D:lH}(q:t D σ H):wpS X st D σ H:=⟨λah s I=>h ah s σ H D I q⟩
theorem BM{t:TS}(h:j1 X sts t){σ:St}{H:Hp}{D:lH}(q:t D σ H):uO X sts D σ H:=⟨λah s I=>h ah s σ H D I q⟩
end
def DE(X:Cx)(E:XK)(e:aC)(d:ak->R PV):Prop :=
 ∀ F S ε σ H Q,a_ X.K F S ε σ H->Ok X.K E σ F S H (d ε) (λpv _ F' _ H'=>∀ v,bi X.K H' F' pv v->Q v H')->i5 X e σ H Q
def DN(X:Cx)(E:XK)(e:aC)(d:ak->R PO):Prop :=
 ∀ F S ε σ H Q,a_ X.K F S ε σ H->Ok X.K E σ F S H (d ε) (λpo _ F' S' H'=>∀ a Sa,gf X.K H' F' po a Sa->(∀ b,Sa b->H b=ae/\¬ F' b/\¬ U S' b/\∃ o,H' b=aa o/\gJ o)->Q (.ref a) H')->i5 X e σ H Q
def DT(X:Cx)(E:XK)(e:aC)(d:ak->R Bool):Prop :=
 ∀ F S ε σ H Q,a_ X.K F S ε σ H->Ok X.K E σ F S H (d ε) (λb _ _ _ H'=>Q b H')->Af X e σ H Q
end Pu
namespace Pu
open L2
section
variable{X:Cx}{E:XK}{a b c:aC}{da db dc:ak->R PV}{pos:Pos}
def dC(pv:PV):ak->R PV:=λε=>.ok pv ε
theorem aV{i j pos}:DE X E (.Constant (.int i) j pos) (dC (.int i)):=λF S ε σ H Q r h=>c7 IP (h F S H r (bY.refl ..) _ rfl)
theorem yd{i j pos}:DE X E (.Constant (.bool i) j pos) (dC (.bl i)):=λF S ε σ H Q r h=>c7 P5 (h F S H r (bY.refl ..) _ rfl)
theorem nU(l:Tx){x:Str}{j pos}(hx:x=tS l:=by decide +kernel)(hl:l.length<=bI:=by decide):DE X E (.Constant (.str x) j pos) (dC (.str l)):=λF S ε σ H Q r h=>c7 OJ (h F S H r (bY.refl ..) _ (by rw[hx]; exact⟨rfl,hl⟩))
def dV(i:Nat):ak->R PV:=λε=>match ε[i]? with
 | some (.val pv)=>.ok pv ε
 | _=>.no
theorem ap(i:Nat){x:Str}{pos:Pos}(hN:X.N[i]?=aa x:=by rfl)(hv:ga X.env.scope x:=by first | exact Or.inl rfl | exact Or.inr (Or.inl rfl) | exact Or.inr (Or.inr rfl))(hd:(x == ("__debug__" : Str))=ao:=by decide)(bR:(x == ("__classdict__" : Str))=ao:=by decide):DE X E (.Name x pos) (dV i):=λF S ε σ H Q r h=>by
 unfold dV at h;split at h
 ·rename_i p e;obtain⟨v,e1,e2⟩:=r.val i p e;exact c7 (ip hN hv hd bR) ⟨v,e1,h F S H r (bY.refl ..) v e2⟩
 ·exact h.elim
theorem yV{x:Str}{i:Int}{pos:Pos}(h:∃ t,X.mg x=aa (.int i t))(hg:Gl X x:=by rfl)(hd:(x == ("__debug__" : Str))=ao:=by decide):DE X E (.Name x pos) (dC (.int i)):=λF S ε σ H Q r q=>by obtain⟨t,e⟩:=h;exact c7 (Hq (v:=.int i) hg e ⟨t,rfl⟩ hd) (q F S H r (bY.refl ..) _ rfl)
theorem B5{x:Str}{l:Tx}{pos:Pos}(h:∃ t,X.mg x=aa (.str (tS l) t))(hg:Gl X x:=by rfl)(hl:l.length<=bI:=by decide)(hd:(x == ("__debug__" : Str))=ao:=by decide):DE X E (.Name x pos) (dC (.str l)):=λF S ε σ H Q r q=>by obtain⟨t,e⟩:=h;exact c7 (Hq (v:=tV l) hg e ⟨t,rfl⟩ hd) (q F S H r (bY.refl ..) _ ⟨rfl,hl⟩)
def a_.frz{K:az}{F:af->Prop}{S:Nat->af->Prop}{ε:ak}{σ:St}{H:Hp}{i:Nat}{xs:List PV}(r:a_ K F S ε σ H)(e:ε[i]?=aa (.own (.lst xs))) : ∃ a F' S',a_ K F' S' (ε.set i (.val (.lst xs))) σ H/\bY (U S) (U S') F F' H H/\σ[i]?=aa (aa (.ref a))/\bi K H F' (.lst xs) (.ref a):=by
 obtain⟨a,e1,⟨vs,ha,hr⟩,hS⟩:=r.own i _ e;have hi:i<ε.length:=(eE.mp e).1;have sub:∀ b,F b->F b\/b=a:=λb h=>.inl h;have mono:∀ x v,bi K H F x v->bi K H (λb=>F b\/b=a) x v:=bi.mono sub (λ_ _ _ q=>q) (λ_ _ q _=>q);have monos:∀ x v,bq K H F x v->bq K H (λb=>F b\/b=a) x v:=bq.mono sub (λ_ _ _ q=>q) (λ_ _ q _=>q);have rp:bi K H (λb=>F b\/b=a) (.lst xs) (.ref a):=⟨a,vs,rfl,.inl ha,.inr rfl,monos _ _ hr⟩
 refine⟨a,λb=>F b\/b=a,λj b=>S j b/\j≠i,⟨by rw[lq]; exact r.len,λb h=>?_,λj pv q=>?_,λj po q=>?_,λj b h=>?_,λj k b h1 h2=>r.dist j k b h1.1 h2.1⟩,?_,e1,rp⟩
 ·rcases h with h | rfl
  ·exact r.ex b h
  ·exact⟨_,ha⟩
 ·by_cases hj:i=j
  ·subst hj;rw[ix hi]at q;cases q;exact⟨_,e1,rp⟩
  ·rw[fN hj]at q;obtain⟨v,q1,q2⟩:=r.val j pv q;exact⟨v,q1,mono _ _ q2⟩
 ·by_cases hj:i=j
  ·subst hj;rw[ix hi]at q;cases q
  ·rw[fN hj]at q;obtain⟨v,q1,q2⟩:=r.own j po q;refine⟨v,q1,?_⟩;have q3:=q2.mono (H':=H) mono monos λ_ _ _ z=>z;have eS:(λb=>S j b/\j≠i)=S j:=by funext b; simp[g8 hj]
   rw[eS]; exact q3
 ·obtain⟨⟨po,q1⟩,q2,q3⟩:=r.foot j b h.1;refine⟨⟨po,by rw[fN (g8 h.2)]; exact q1⟩,λz=>?_,q3⟩;rcases z with z | rfl
  ·exact q2 z
  ·exact h.2 (r.dist j i b h.1 ((hS b).mpr rfl))
 ·refine⟨λ_ h=>.inl h,λb o h _=>h,λb o h=>⟨o,h⟩,λb h=>?_,λb ⟨j,h⟩=>.inl ⟨j,h.1⟩⟩;rcases h with h | rfl
  ·exact .inl h
  ·exact .inr (.inr ⟨i,(hS b).mpr rfl⟩)
def dM(i:Nat):ak->R PV:=λε=>match ε[i]? with
 | some (.own (.lst xs))=>.ok (.lst xs) (ε.set i (.val (.lst xs)))
 | _=>.no
theorem Ck(i:Nat){x:Str}{pos:Pos}(hN:X.N[i]?=aa x:=by rfl)(hv:ga X.env.scope x:=by first | exact Or.inl rfl | exact Or.inr (Or.inl rfl) | exact Or.inr (Or.inr rfl))(hd:(x == ("__debug__" : Str))=ao:=by decide)(bR:(x == ("__classdict__" : Str))=ao:=by decide):DE X E (.Name x pos) (dM i):=λF S ε σ H Q r h=>by
 unfold dM at h;split at h
 ·rename_i p e;obtain⟨a,F',S',r',g,e1,e2⟩:=r.frz e;exact c7 (ip hN hv hd bR) ⟨_,e1,h F' S' H r' g _ e2⟩
 ·exact h.elim
def P2(K:az)(r:R2)(f:PV->PV->Option PV):Prop:=∀ (F:af->Prop) (H:Hp) (x y:PV) (v u:V) (Q:VK) (pv:PV),bi K H F x v->bi K H F y u->f x y=aa pv->(∀ w F' H',Al F F' H H'->bi K H' F' pv w->Q w H')->r v u H Q
def d2(f:PV->PV->Option PV)(da db:ak->R PV):ak->R PV:=λε=>(da ε).bind λx ε1=>(db ε1).bind λy ε2=>aS (f x y) ε2
theorem yX{r:R2}{f:PV->PV->Option PV}(hp:P2 X.K r f)(ha:DE X E a da)(hb:DE X E b db){F:af->Prop}{S:Nat->af->Prop}{ε:ak}{σ:St}{H:Hp}{Q:VK}(rl:a_ X.K F S ε σ H)(h:Ok X.K E σ F S H (d2 f da db ε) (λpv _ F' _ H'=>∀ v,bi X.K H' F' pv v->Q v H')):i5 X a σ H λx H1=>i5 X b σ H1 λy H2=>r x y H2 Q:=by
 refine ha F S ε σ H _ rl ((Ok.bind h).imp λx ε1 F1 S1 H1 r1 g1 h1 v rv=>?_);refine hb F1 S1 ε1 σ H1 _ r1 ((Ok.bind h1).imp λy ε2 F2 S2 H2 r2 g2 h2 u ru=>?_);cases e:f x y with
 | none=>rw[e]at h2; exact h2.elim
 | some pv=>rw[e]at h2;exact hp F2 H2 x y v u Q pv (rv.grow g2 r1.fit) ru e λw F' H' al rw'=>h2 F' S2 H' (r2.al al) al.grow w rw'
theorem bC{op:Operator}{r:R2}{f:PV->PV->Option PV}(ho:cx X (jI op) r)(hp:P2 X.K r f)(ha:DE X E a da)(hb:DE X E b db):DE X E (.BinOp a op b pos) (d2 f da db):=λF S ε σ H Q rl h=>c7 (D9 ho cA cA) (yX hp ha hb rl h)
theorem yW{op:CmpOp}{r:R2}{f:PV->PV->Option PV}(ho:cx X (ft op) r)(hp:P2 X.K r f)(ha:DE X E a da)(hb:DE X E b db)(hm:mU op b=ao):DE X E (.Compare a [op] [b] pos) (d2 f da db):=λF S ε σ H Q rl h=>c7 (Rh ho cA cA hm) (yX hp ha hb rl h)
def rA:PV->Option Bool
 | .bl b=>aa b
 | _=>ae
def dB(d:ak->R PV):ak->R Bool:=λε=>(d ε).bind λx ε1=>aS (rA x) ε1
theorem IF{K:az}{H:Hp}{F:af->Prop}{x:PV}{v:V}{k:Bool}(h:bi K H F x v)(e:rA x=aa k):v = .bl k:=by
 cases x <;> simp[rA]at e;subst e; exact h
theorem rH{F:af->Prop}{S:Nat->af->Prop}{ε:ak}{σ:St}{H:Hp}{Q:Bool->Hp->Prop}{d:ak->R PV}(h:Ok X.K E σ F S H (dB d ε) (λk _ _ _ H'=>Q k H')) : Ok X.K E σ F S H (d ε) (λpv _ F' _ H'=>∀ v,bi X.K H' F' pv v->∃ k,v = .bl k/\Q k H'):=by
 refine(Ok.bind h).imp λx ε1 F1 S1 H1 r1 g1 h1 v rv=>?_;cases e:rA x with
 | none=>rw[e]at h1; exact h1.elim
 | some k=>rw[e]at h1; exact⟨k,IF rv e,h1 F1 S1 H1 r1 (bY.refl ..)⟩
theorem gb{op:CmpOp}{r:R2}{f:PV->PV->Option PV}(ho:cx X (ft op) r)(hp:P2 X.K r f)(ha:DE X E a da)(hb:DE X E b db)(hm:mU op b=ao):DT X E (.Compare a [op] [b] pos) (dB (d2 f da db)):=λF S ε σ H Q rl h=>sV (NK ho cA cA hm) (yX (Q:=λx H'=>∃ k,x = .bl k/\Q k H') hp ha hb rl (rH h))
theorem pq{e:aC}{d:ak->R PV}(hd:DE X E e d)(he:∀ iT,n8 e X.env iT=(do let v ← iT; standAt e.pos; holding [v] (truthy v)):=by intro _; rfl):DT X E e (dB d):=λF S ε σ H Q rl h=>sV (Ru cA he) (hd F S ε σ H _ rl (rH h))
def qa(f g:PV->PV->Option PV)(da db dc:ak->R PV):ak->R PV:=λε=>(da ε).bind λx ε1=>(db ε1).bind λy ε2=>(aS ((f x y).bind rA) ε2).bind λk ε2=>
 match k with
 | true=>(dc ε2).bind λz ε3=>aS (g y z) ε3
 | false=>.ok (.bl ao) ε2
theorem Iq{r r':R2}{f g:PV->PV->Option PV}(hp:P2 X.K r f)(iU:P2 X.K r' g)(ha:DE X E a da)(hb:DE X E b db)(hc:DE X E c dc){F:af->Prop}{S:Nat->af->Prop}{ε:ak}{σ:St}{H:Hp}{Q:VK}(rl:a_ X.K F S ε σ H)(h:Ok X.K E σ F S H (qa f g da db dc ε) (λpv _ F' _ H'=>∀ v,bi X.K H' F' pv v->Q v H')):Au r r' (i5 X a) (i5 X b) (i5 X c) σ H Q:=by
 refine ha F S ε σ H _ rl ((Ok.bind h).imp λx ε1 F1 S1 H1 r1 g1 h1 v rv=>?_);refine hb F1 S1 ε1 σ H1 _ r1 ((Ok.bind h1).imp λy ε2 F2 S2 H2 r2 g2 h2 u ru=>?_);cases e:f x y with
 | none=>rw[e]at h2; exact h2.elim
 | some pv=>
  rw[e]at h2;refine hp F2 H2 x y v u _ pv (rv.grow g2 r1.fit) ru e λw F' H' al rw'=>?_;cases e2:rA pv with
  | none=>rw[iD,e2]at h2; exact h2.elim
  | some k=>
   rw[iD,e2]at h2;refine⟨k,IF rw' e2,?_⟩;have r3:=r2.al al;cases k with
   | false=>exact rY (Ok.from h2 al.grow F' S2 H' r3 (bY.refl ..) _ rfl)
   | true=>
    have h3:Ok X.K E σ F2 S2 H2 ((dc ε2).bind λz ε3=>aS (g y z) ε3) (λpv _ F' _ H'=>∀ v,bi X.K H' F' pv v->Q v H'):=h2;refine sE (hc F' S2 ε2 σ H' _ r3 ((Ok.bind (Ok.from h3 al.grow)).imp λz ε4 F4 S4 H4 r4 g4 h4 u4 ru4=>?_));cases e4:g y z with
    | none=>rw[e4]at h4; exact h4.elim
    | some pz=>rw[e4]at h4;exact iU F4 H4 y z u u4 Q pz ((al.rep ru).grow g4 r3.fit) ru4 e4 λw5 F5 H5 al5 rw5=>h4 F5 S4 H5 (r4.al al5) al5.grow w5 rw5
theorem IU{op op':CmpOp}{r r':R2}{f g:PV->PV->Option PV}(ho:cx X (ft op) r)(jP:cx X (ft op') r')(hp:P2 X.K r f)(iU:P2 X.K r' g)(ha:DE X E a da)(hb:DE X E b db)(hc:DE X E c dc)(hm:lastMarks [op,op'] [b,c]=ao:=by with_unfolding_all rfl):DE X E (.Compare a [op,op'] [b,c] pos) (qa f g da db dc):=λF S ε σ H Q rl h=>c7 (Qb ho jP cA cA cA hm) (Iq hp iU ha hb hc rl h)
theorem E7{op op':CmpOp}{r r':R2}{f g:PV->PV->Option PV}(ho:cx X (ft op) r)(jP:cx X (ft op') r')(hp:P2 X.K r f)(iU:P2 X.K r' g)(ha:DE X E a da)(hb:DE X E b db)(hc:DE X E c dc)(hm:lastMarks [op,op'] [b,c]=ao:=by with_unfolding_all rfl):DT X E (.Compare a [op,op'] [b,c] pos) (dB (qa f g da db dc)):=λF S ε σ H Q rl h=>sV (QI ho jP cA cA cA hm) (Iq (Q:=λx H'=>∃ k,x = .bl k/\Q k H') hp iU ha hb hc rl (rH h))
variable{ta tb:ak->R Bool}{rest:List aC}
def DW(X:Cx)(E:XK)(e:aC)(d:ak->R Bool):Prop:=∀ F S ε σ H Q,a_ X.K F S ε σ H->Ok X.K E σ F S H (d ε) (λb _ _ _ H'=>Q b H')->∀ (iT:Sem am) ah s,Inv X ah σ H s->ax (ay X.prog X.w) X.A (n8 e X.env iT) (TP X ah σ Q) X.xe s
def M6(X:Cx)(e:aC):TT:=λσ H Q=>∀ (iT:Sem am) ah s,Inv X ah σ H s->ax (ay X.prog X.w) X.A (n8 e X.env iT) (TP X ah σ Q) X.xe s
theorem So{e:aC}:PW X e (M6 X e):=λiT ah s _ _ _ I h=>h iT ah s I
theorem DW.dt{e:aC}{d:ak->R Bool}(h:DW X E e d):DT X E e d:=λF S ε σ H Q rl q=>⟨λah s I=>h F S ε σ H Q rl q _ ah s I⟩
def UP(ta tb:ak->R Bool):ak->R Bool:=λε=>(ta ε).bind λk ε1=>match k with
 | true=>tb ε1
 | false=>.ok ao ε1
def oK(ta tb:ak->R Bool):ak->R Bool:=λε=>(ta ε).bind λk ε1=>match k with
 | true=>.ok ai ε1
 | false=>tb ε1
def kj(ta:ak->R Bool):ak->R Bool:=λε=>(ta ε).bind λk ε1=>.ok (!k) ε1
theorem Am(h:DT X E a ta):DW X E (.BoolOp .Or [a] pos) ta:=λF S ε σ H Q rl q iT ah s I=>Ot sy iT ah s σ H Q I (h F S ε σ H Q rl q)
theorem xw(ha:DT X E a ta)(hb:DW X E (.BoolOp .Or (b::rest) pos) tb):DW X E (.BoolOp .Or (a::b::rest) pos) (oK ta tb):=λF S ε σ H Q rl q iT ah s I=>by
 refine Qa sy So iT ah s σ H Q I (ha F S ε σ H _ rl ((Ok.bind q).imp λk ε1 F1 S1 H1 r1 g1 h1=>?_));cases k with
 | true=>exact sE (h1 F1 S1 H1 r1 (bY.refl ..))
 | false=>exact rY (hb F1 S1 ε1 σ H1 Q r1 h1)
theorem my(ha:DT X E a ta):DT X E (.UnaryOp .Not a pos) (kj ta):=λF S ε σ H Q rl q=>sV (MD sy) (ha F S ε σ H _ rl ((Ok.bind q).imp λk ε1 F1 S1 H1 r1 g1 h1=>h1 F1 S1 H1 r1 (bY.refl ..)))
def oN(da db:ak->R PV):ak->R PV:=λε=>(dB da ε).bind λk ε1=>match k with
 | true=>db ε1
 | false=>.ok (.bl ao) ε1
def U2(da db:ak->R PV):ak->R PV:=λε=>(dB da ε).bind λk ε1=>match k with
 | true=>.ok (.bl ai) ε1
 | false=>db ε1
def Ir(da:ak->R PV):ak->R PV:=λε=>(dB da ε).bind λk ε1=>.ok (.bl (!k)) ε1
theorem Is{d:ak->R PV}{β:Type}{D:β->ak->(af->Prop)->(Nat->af->Prop)->Hp->Prop}{k:Bool->ak->R β}{F:af->Prop}{S:Nat->af->Prop}{ε:ak}{σ:St}{H:Hp}{P:Bool->Hp->Prop}(h:Ok X.K E σ F S H ((dB d ε).bind k) D) (f:∀ c ε1 F1 S1 H1,a_ X.K F1 S1 ε1 σ H1->bY (U S) (U S1) F F1 H H1->Ok X.K E σ F1 S1 H1 (k c ε1) D->P c H1) : Ok X.K E σ F S H (d ε) (λpv _ F' _ H'=>∀ v,bi X.K H' F' pv v->∃ c,v = .bl c/\P c H'):=by have h2:=(Ok.bind h).imp (C':=λc ε1 F1 S1 H1=>P c H1) λc ε1 F1 S1 H1 r1 g1 h1=>f c ε1 F1 S1 H1 r1 g1 h1;exact rH h2
theorem ul{op}{d:ak->R PV}(h:DE X E a d):DE X E (.BoolOp op [a] pos) d:=λF S ε σ H Q rl q=>c7 (NB cA) (h F S ε σ H Q rl q)
theorem qu(ha:DE X E a da)(hb:DE X E (.BoolOp .And (b::rest) pos) db):DE X E (.BoolOp .And (a::b::rest) pos) (oN da db):=λF S ε σ H Q rl q=>by
 refine c7 (KU cA cA) (ha F S ε σ H _ rl (Is q λk ε1 F1 S1 H1 r1 g1 h1=>?_));cases k with
 | true=>exact sE (hb F1 S1 ε1 σ H1 Q r1 h1)
 | false=>exact rY (h1 F1 S1 H1 r1 (bY.refl ..) _ rfl)
theorem Ro(ha:DE X E a da):DE X E (.UnaryOp .Not a pos) (Ir da):=λF S ε σ H Q rl q=>c7 (RZ cA) (ha F S ε σ H _ rl (Is q λk ε1 F1 S1 H1 r1 g1 h1=>h1 F1 S1 H1 r1 (bY.refl ..) _ rfl))
def dq{α:Type}(t:ak->R Bool)(da db:ak->R α):ak->R α:=λε=>(t ε).bind λk ε1=>match k with
 | true=>da ε1
 | false=>db ε1
def P1(K:az)(r:V->Hp->VK->Prop)(f:PV->Option PV):Prop:=∀ (F:af->Prop) (H:Hp) (x:PV) (v:V) (Q:VK) (pv:PV),bi K H F x v->f x=aa pv->(∀ w F' H',Al F F' H H'->bi K H' F' pv w->Q w H')->r v H Q
def d1(f:PV->Option PV)(da:ak->R PV):ak->R PV:=λε=>(da ε).bind λx ε1=>aS (f x) ε1
theorem Qk{r:V->Hp->VK->Prop}{f:PV->Option PV}(hp:P1 X.K r f)(ha:DE X E a da){F:af->Prop}{S:Nat->af->Prop}{ε:ak}{σ:St}{H:Hp}{Q:VK}(rl:a_ X.K F S ε σ H)(h:Ok X.K E σ F S H (d1 f da ε) (λpv _ F' _ H'=>∀ v,bi X.K H' F' pv v->Q v H')):i5 X a σ H λx H1=>r x H1 Q:=by
 refine ha F S ε σ H _ rl ((Ok.bind h).imp λx ε1 F1 S1 H1 r1 g1 h1 v rv=>?_);cases e:f x with
 | none=>rw[e]at h1; exact h1.elim
 | some pv=>rw[e]at h1;exact hp F1 H1 x v Q pv rv e λw F' H' al rw'=>h1 F' S1 H' (r1.al al) al.grow w rw'
theorem mK{op:UnaryOp}{r:V->Hp->VK->Prop}{f:PV->Option PV}(ho:zg X (unaryOp op) r)(hp:P1 X.K r f)(ha:DE X E a da):DE X E (.UnaryOp op a pos) (d1 f da):=λF S ε σ H Q rl h=>c7 (RM ho cA) (Qk hp ha rl h)
end
def pR(X:Cx)(es:List aC):TA:=λσ H Q=>Bx (∀ pos ah s,Inv X ah σ H s->ax (ay X.prog X.w) X.A (spliced (f7 pos (bu es X.env))) (AP X ah σ Q) X.xe s)
def DA(X:Cx)(E:XK)(es:List aC)(d:ak->R (List PV)):Prop :=
 ∀ F S ε σ H Q,a_ X.K F S ε σ H->Ok X.K E σ F S H (d ε) (λpvs _ F' _ H'=>∀ vs,bq X.K H' F' pvs vs->Q vs H')->pR X es σ H Q
section
variable{X:Cx}{E:XK}{a b c e:aC}{es:List aC}{da db dc d:ak->R PV}{ds:ak->R (List PV)}{pos:Pos}
theorem iw{es:List aC}:PA X es (pR X es):=λpos ah s _ _ _ I h=>h.run pos ah s I
theorem p6{t:TA}(h:PA X es t){σ:St}{H:Hp}{Q:List V->Hp->Prop}(q:t σ H Q):pR X es σ H Q:=⟨λpos ah s I=>h pos ah s σ H Q I q⟩
def aB:ak->R (List PV):=λε=>.ok [] ε
def aw(d:ak->R PV)(ds:ak->R (List PV)):ak->R (List PV):=λε=>(d ε).bind λx ε1=>(ds ε1).bind λxs ε2=>.ok (x::xs) ε2
theorem bd:DA X E [] aB:=λF S ε σ H Q rl h=>p6 nH (h F S H rl (bY.refl ..) _ rfl)
theorem OI(ha:DE X E e d)(hr:DA X E es ds)(hs:bu (e::es) X.env=(ao,bz e X.env)::bu es X.env:=by rfl):DA X E (e::es) (aw d ds):=λF S ε σ H Q rl h=>by refine p6 (kX cA iw hs) (ha F S ε σ H _ rl ((Ok.bind h).imp λx ε1 F1 S1 H1 r1 g1 h1 v rv=>?_));refine hr F1 S1 ε1 σ H1 _ r1 ((Ok.bind h1).imp λxs ε2 F2 S2 H2 r2 g2 h2 vs jT=>?_);exact h2 F2 S2 H2 r2 (bY.refl ..) _ ⟨v,vs,rfl,rv.grow g2 r1.fit,jT⟩
theorem a_.more{K:az}{F N:af->Prop}{S:Nat->af->Prop}{ε:ak}{σ:St}{H:Hp}(r:a_ K F S ε σ H)(hn:∀ b,N b->¬ U S b/\∃ o,H b=aa o):a_ K (λb=>F b\/N b) S ε σ H:=by
 have mono:∀ x v,bi K H F x v->bi K H (λb=>F b\/N b) x v:=bi.mono (λ_ h=>.inl h) (λ_ _ _ q=>q) (λ_ _ q _=>q);have monos:∀ x v,bq K H F x v->bq K H (λb=>F b\/N b) x v:=bq.mono (λ_ h=>.inl h) (λ_ _ _ q=>q) (λ_ _ q _=>q);refine⟨r.len,λb h=>h.elim (r.ex b) λz=>(hn b z).2,λi pv e=>?_,λi po e=>?_,λi b h=>?_,r.dist⟩
 ·obtain⟨v,h1,h2⟩:=r.val i pv e; exact⟨v,h1,mono _ _ h2⟩
 ·obtain⟨v,h1,h2⟩:=r.own i po e; exact⟨v,h1,h2.mono mono monos λ_ _ _ z=>z⟩
 ·obtain⟨h1,h2,h3⟩:=r.foot i b h;exact⟨h1,λz=>z.elim h2 λw=>(hn b w).1 ⟨i,h⟩,h3⟩
def Fe:PO->Option PV
 | .lst xs=>aa (.lst xs)
 | _=>ae
def dF(d:ak->R PO):ak->R PV:=λε=>(d ε).bind λpo ε1=>aS (Fe po) ε1
theorem DN.de{d:ak->R PO}(h:DN X E e d):DE X E e (dF d):=λF S ε σ H Q rl q=>by
 unfold dF at q;refine h F S ε σ H Q rl ?_;cases e0:d ε with
 | no=>rw[e0]at q; exact q.elim
 | er c ε'=>rw[e0]at q; exact q
 | ok po ε1=>
  rw[e0]at q;intro F1 S1 H1 r1 g1 a Sa ow fr;cases po with
  | dK kvs=>exact q.elim
  | lls f8=>exact q.elim
  | ins C fs=>exact q.elim
  | lst xs=>
   have hN:∀ b,Sa b->¬ U S1 b/\∃ o,H1 b=aa o:=λb z=>let ⟨_,_,x3,o,x4,_⟩:=fr b z; ⟨x3,o,x4⟩
   obtain⟨⟨vs,ha,hr⟩,hS⟩:=ow;have g2:bY (U S) (U S1) F (λb=>F1 b\/Sa b) H H1:=⟨λb z=>.inl (g1.fro b z),g1.keep,g1.there,λb z=>z.elim (g1.fnew b) λw=>.inr (.inl (fr b w).1),g1.onew⟩
   exact q _ S1 H1 (r1.more hN) g2 _ ⟨a,vs,rfl,.inl ha,.inr ((hS a).mpr rfl),bq.mono (λ_ z=>.inl z) (λ_ _ _ z=>z) (λ_ _ z _=>z) _ _ hr⟩
def sL(xs:List PV):Option PV:=if xs.length<=1000 then aa (.tup xs)else ae
def b8(xs:List PV):Option PO:=if xs.length<=1000 then aa (.lst xs)else ae
def dL{α:Type}(f:List PV->Option α)(ds:ak->R (List PV)):ak->R α:=λε=>(ds ε).bind λxs ε1=>aS (f xs) ε1
def PL(K:az)(r:List V->Hp->VK->Prop)(f:List PV->Option PV):Prop:=∀ (F:af->Prop) (H:Hp) (xs:List PV) (vs:List V) (Q:VK) (pv:PV),bq K H F xs vs->f xs=aa pv->(∀ w F' H',Al F F' H H'->bi K H' F' pv w->Q w H')->r vs H Q
def p5(K:az)(r:List V->Hp->VK->Prop)(f:List PV->Option PO):Prop:=∀ (F:af->Prop) (H:Hp) (xs:List PV) (vs:List V) (Q:VK) (po:PO),(∀ a,F a->∃ o,H a=aa o)->bq K H F xs vs->f xs=aa po ->
 (∀ a F' H' Sa,Al F F' H H'->gf K H' F' po a Sa->(∀ b,Sa b->H b=ae/\¬ F' b/\∃ o,H' b=aa o/\gJ o)->Q (.ref a) H')->r vs H Q
theorem By{r:List V->Hp->VK->Prop}{f:List PV->Option PV}(hp:PL X.K r f)(hd:DA X E es ds){F:af->Prop}{S:Nat->af->Prop}{ε:ak}{σ:St}{H:Hp}{Q:VK}(rl:a_ X.K F S ε σ H)(h:Ok X.K E σ F S H (dL f ds ε) (λpv _ F' _ H'=>∀ v,bi X.K H' F' pv v->Q v H')):pR X es σ H λxs H1=>r xs H1 Q:=by
 refine hd F S ε σ H _ rl ((Ok.bind h).imp λxs ε1 F1 S1 H1 r1 g1 h1 vs jT=>?_);cases e:f xs with
 | none=>rw[e]at h1; exact h1.elim
 | some pv=>rw[e]at h1;exact hp F1 H1 xs vs Q pv jT e λw F' H' al rw'=>h1 F' S1 H' (r1.al al) al.grow w rw'
theorem oS{O O' F F':af->Prop}{H H':Hp}(g:bY O O' F F' H H'){b:af}(h:H' b=ae):H b=ae:=by
 cases q:H b with
 | none=>rfl
 | some o=>obtain⟨o',e⟩:=g.there b o q; rw[h]at e; cases e
theorem yg{r:List V->Hp->VK->Prop}{f:List PV->Option PO}(hp:p5 X.K r f)(hd:DA X E es ds){F:af->Prop}{S:Nat->af->Prop}{ε:ak}{σ:St}{H:Hp}{Q:VK}(rl:a_ X.K F S ε σ H)(h:Ok X.K E σ F S H (dL f ds ε) (λpo _ F' S' H'=>∀ a Sa,gf X.K H' F' po a Sa->(∀ b,Sa b->H b=ae/\¬ F' b/\¬ U S' b/\∃ o,H' b=aa o/\gJ o)->Q (.ref a) H')):pR X es σ H λxs H1=>r xs H1 Q:=by
 refine hd F S ε σ H _ rl ((Ok.bind h).imp λxs ε1 F1 S1 H1 r1 g1 h1 vs jT=>?_);cases e:f xs with
 | none=>rw[e]at h1; exact h1.elim
 | some po=>
  rw[e]at h1;refine hp F1 H1 xs vs Q po r1.ex jT e λa F' H' Sa al ow fr=>h1 F' S1 H' (r1.al al) al.grow a Sa ow λb z=>?_;obtain⟨z1,z2,o,z3,z4⟩:=fr b z;refine⟨oS g1 z1,z2,λ⟨i,w⟩=>?_,o,z3,z4⟩;obtain⟨_,_,o',w1,_⟩:=r1.foot i b w;rw[z1]at w1; cases w1
theorem AV{n:Nat}(h:n<=1000):n<=bx:=lN (HH h)
theorem NW{K:az}:PL K (λxs H Q=>xs.length<=bx/\∀ p,H p=ae->Q (.ref p) (upd H p (.tup xs))) sL:=λF H xs vs Q pv rs e q=>by
 unfold sL at e;split at e
 ·cases e;refine⟨by rw[rs.len]; exact AV (by assumption),λp hp=>q _ F _ (Al.new0 hp) ⟨p,vs,rfl,cF,(Al.new0 hp).reps rs⟩⟩
 ·cases e
theorem xO{K:az}{F:af->Prop}{H:Hp}{l:af}{xs:List PV}{vs:List V}(hl:H l=ae)(rs:bq K H F xs vs):gf K (upd H l (.lst vs)) F (.lst xs) l (λb=>b=l):=⟨⟨vs,cF,(Al.new0 hl).reps rs⟩,λb=>Iff.rfl⟩
theorem yc{F:af->Prop}{H:Hp}{l:af}{o:HO}(hl:H l=ae)(hF:∀ a,F a->∃ o,H a=aa o)(hn:gJ o):∀ b,b=l->H b=ae/\¬ F b/\∃ o',(upd H l o) b=aa o'/\gJ o':=λb z=>by
 subst z;exact⟨hl,(λw=>by obtain⟨o,q⟩:=hF b w; rw[hl]at q; cases q),o,cF,hn⟩
theorem Sy{K:az}:p5 K (λxs H Q=>xs.length<=bx/\∀ p,H p=ae->Q (.ref p) (upd H p (.lst xs))) b8:=λF H xs vs Q po hF rs e q=>by
 unfold b8 at e;split at e
 ·cases e;exact⟨by rw[rs.len]; exact AV (by assumption),λp hp=>q p F _ _ (Al.new0 hp) (xO hp rs) (yc hp hF trivial)⟩
 ·cases e
theorem Fm{x1}(h:DA X E es ds):DE X E (.Tuple es x1 pos) (dL sL ds):=λF S ε σ H Q rl q=>c7 (Ms iw) (By NW h rl q)
theorem kS(h:DA X E es ds):DN X E (.List es pos) (dL b8 ds):=λF S ε σ H Q rl q=>c7 (S5 iw) (yg Sy h rl q)
theorem o9(h:DA X E es ds):DE X E (.List es pos) (dF (dL b8 ds)):=(kS h).de
variable{x:Str}{p:Pos}{id T:String}{r:List V->Hp->VK->Prop}{f:List PV->Option PV}{fn:List PV->Option PO}
theorem dE(hc:im X (.builtin id) r)(hp:PL X.K r f)(hm:X.mg x=ae)(hv:fM x=aa (.builtin id))(ha:DA X E (e::es) ds)(hg:Gl X x:=by rfl)(hn:x≠"__name__":=by decide)(jQ:(x == ("__debug__" : Str))=ao:=by decide)(he:bu (e::es) X.env=(ao,bz e X.env)::bu es X.env:=by rfl) (df:(f7 pos (bu es X.env)).any (·.1)=ao:=by rfl):DE X E (.Call (.Name x p) (e::es) [] pos) (dL f ds):=λF S ε σ H Q rl q=>c7 (sW hc hg hm hv iw hn jQ he df) (By hp ha rl q)
theorem E6(hc:im X (.builtin id) r)(hp:p5 X.K r fn)(hm:X.mg x=ae)(hv:fM x=aa (.builtin id))(ha:DA X E (e::es) ds)(hg:Gl X x:=by rfl)(hn:x≠"__name__":=by decide)(jQ:(x == ("__debug__" : Str))=ao:=by decide)(he:bu (e::es) X.env=(ao,bz e X.env)::bu es X.env:=by rfl) (df:(f7 pos (bu es X.env)).any (·.1)=ao:=by rfl):DN X E (.Call (.Name x p) (e::es) [] pos) (dL fn ds):=λF S ε σ H Q rl q=>c7 (sW hc hg hm hv iw hn jQ he df) (yg hp ha rl q)
theorem TY(hc:im X (.type T) r)(hp:PL X.K r f)(hm:X.mg x=ae)(hv:fM x=aa (.type T))(ha:DA X E (e::es) ds)(hg:Gl X x:=by rfl)(hn:x≠"__name__":=by decide)(jQ:(x == ("__debug__" : Str))=ao:=by decide)(he:bu (e::es) X.env=(ao,bz e X.env)::bu es X.env:=by rfl) (df:(f7 pos (bu es X.env)).any (·.1)=ao:=by rfl):DE X E (.Call (.Name x p) (e::es) [] pos) (dL f ds):=λF S ε σ H Q rl q=>c7 (vg hc hg hm hv iw hn jQ he df) (By hp ha rl q)
theorem Ou(hc:im X (.type T) r)(hp:p5 X.K r fn)(hm:X.mg x=ae)(hv:fM x=aa (.type T))(ha:DA X E (e::es) ds)(hg:Gl X x:=by rfl)(hn:x≠"__name__":=by decide)(jQ:(x == ("__debug__" : Str))=ao:=by decide)(he:bu (e::es) X.env=(ao,bz e X.env)::bu es X.env:=by rfl) (df:(f7 pos (bu es X.env)).any (·.1)=ao:=by rfl):DN X E (.Call (.Name x p) (e::es) [] pos) (dL fn ds):=λF S ε σ H Q rl q=>c7 (vg hc hg hm hv iw hn jQ he df) (yg hp ha rl q)
theorem eW{r:R2}{f:PV->PV->Option PV}(hr:mn X r)(hp:P2 X.K r f)(ha:DE X E a da)(hb:DE X E b db)(hs:Bi b:=by exact λ_ _=>rfl):DE X E (.Subscript a b pos) (d2 f da db):=λF S ε σ H Q rl h=>c7 (Gp hr cA cA hs) (yX hp ha hb rl h)
def Bu(X:Cx)(e:Option aC):TO:=λσ H Q=>Bx (∀ ah s,Inv X ah σ H s->ax (ay X.prog X.w) X.A (evalPart e X.env) (λu s'=>∃ o H',Inv X ah σ H' s'/\n_ u o/\Q o H') X.xe s)
theorem Es{o:Option aC}:L2.PO X o (Bu X o):=λah s _ _ _ I h=>h.run ah s I
theorem IY{o:Option aC}{t:TO}(h:L2.PO X o t){σ:St}{H:Hp}{Q:Option Int->Hp->Prop}(q:t σ H Q):Bu X o σ H Q:=⟨λah s I=>h ah s σ H Q I q⟩
def DO(X:Cx)(E:XK)(e:Option aC)(d:ak->R (Option Int)):Prop:=∀ F S ε σ H Q,a_ X.K F S ε σ H->Ok X.K E σ F S H (d ε) (λo _ _ _ H'=>Q o H')->Bu X e σ H Q
def b9:ak->R (Option Int):=λε=>.ok ae ε
def RP:PV->Option Int
 | .int i=>aa i
 | _=>ae
def aM(d:ak->R PV):ak->R (Option Int):=λε=>(d ε).bind λx ε1=>aS ((RP x).map aa) ε1
theorem jy:DO X E ae b9:=λF S ε σ H Q rl h=>IY N1 (h F S H rl (bY.refl ..))
theorem dA(he:DE X E e d):DO X E (aa e) (aM d):=λF S ε σ H Q rl h=>by
 refine IY (PU cA) (he F S ε σ H _ rl ((Ok.bind h).imp λx ε1 F1 S1 H1 r1 g1 h1 v rv=>?_));cases x <;> first | exact(show False from h1).elim | skip
 rename_i i;exact⟨i,rv,h1 F1 S1 H1 r1 (bY.refl ..)⟩
def bj{α:Type}(f:PV->Option Int->Option Int->Option α)(d:ak->R PV)(dl du:ak->R (Option Int)):ak->R α:=λε=>(d ε).bind λx ε1=>(dl ε1).bind λl ε2=>(du ε2).bind λu ε3=>aS (f x l u) ε3
def G1(K:az)(r:V->Option Int->Option Int->Hp->VK->Prop)(f:PV->Option Int->Option Int->Option PV):Prop:=∀ (F:af->Prop) (H:Hp) (x:PV) (lo hi:Option Int) (v:V) (Q:VK) (pv:PV),bi K H F x v->f x lo hi=aa pv->(∀ w F' H',Al F F' H H'->bi K H' F' pv w->Q w H')->r v lo hi H Q
theorem fD{r:V->Option Int->Option Int->Hp->VK->Prop}{f:PV->Option Int->Option Int->Option PV}{lo hi:Option aC}{dl du:ak->R (Option Int)}{p2:Pos}(hr:nD X r)(hp:G1 X.K r f)(he:DE X E e d)(hl:DO X E lo dl)(hu:DO X E hi du) : DE X E (.Subscript e (.Slice lo hi ae p2) pos) (bj f d dl du):=λF S ε σ H Q rl h=>by
 refine c7 (OP hr cA Es Es) (he F S ε σ H _ rl ((Ok.bind h).imp λx ε1 F1 S1 H1 r1 g1 h1 v rv=>?_));refine hl F1 S1 ε1 σ H1 _ r1 ((Ok.bind h1).imp λl ε2 F2 S2 H2 r2 g2 h2=>?_);refine hu F2 S2 ε2 σ H2 _ r2 ((Ok.bind h2).imp λu ε3 F3 S3 H3 r3 g3 h3=>?_);cases e3:f x l u with
 | none=>rw[e3]at h3; exact h3.elim
 | some pv=>rw[e3]at h3;exact hp F3 H3 x l u v Q pv ((rv.grow g2 r1.fit).grow g3 r2.fit) e3 λw F' H' al rw'=>h3 F' S3 H' (r3.al al) al.grow w rw'
end
inductive aH where
 | next | ret (s:Slot) | brk | cont
def yC(K:az)(H:Hp)(F:af->Prop)(s:Slot)(v:V)(Sr:af->Prop):Prop:=match s with
 | .val pv=>bi K H F pv v/\∀ b,¬ Sr b
 | .own po=>∃ a,v = .ref a/\gf K H F po a Sr
 | .none=>False
def km(pin:List Nat)(σ σ':St):Prop:=∀ i∈pin,σ'[i]?=σ[i]?
theorem km.refl(pin:List Nat)(σ:St):km pin σ σ:=λ_ _=>rfl
theorem km.trans{pin:List Nat}{σ σ1 σ2:St}(a:km pin σ σ1)(b:km pin σ1 σ2):km pin σ σ2:=λi h=>(b i h).trans (a i h)
theorem km.set{pin:List Nat}{σ:St}{i:Nat}{x:Option V}(h:i∉pin):km pin σ (σ.set i x):=λj hj=>by rw[fN (by rintro rfl; exact h hj)]
def yZ(F':af->Prop)(S':Nat->af->Prop)(H':Hp)(Sr:af->Prop):Prop:=∀ b,Sr b->¬ F' b/\¬ U S' b/\∃ o,H' b=aa o/\gJ o
def jc(K:az)(E:XK)(pin:List Nat)(σ:St)(F:af->Prop)(S:Nat->af->Prop)(H:Hp)(r:R aH)(D:lH):Prop:=match r with
 | .ok .next ε'=>∀ F' S' σ' H',a_ K F' S' ε' σ' H'->bY (U S) (U S') F F' H H'->km pin σ σ'->D.nx σ' H'
 | .ok .brk ε'=>∀ F' S' σ' H',a_ K F' S' ε' σ' H'->bY (U S) (U S') F F' H H'->km pin σ σ'->D.bk σ' H'
 | .ok .cont ε'=>∀ F' S' σ' H',a_ K F' S' ε' σ' H'->bY (U S) (U S') F F' H H'->km pin σ σ'->D.ct σ' H'
 | .ok (.ret s) ε'=>∀ v F' S' σ' H' Sr,a_ K F' S' ε' σ' H'->bY (U S) (λb=>U S' b\/Sr b) F F' H H'->km pin σ σ'->yC K H' F' s v Sr->yZ F' S' H' Sr->D.rt v H'
 | .er c ε'=>∀ x F' S' σ' H',a_ K F' S' ε' σ' H'->bY (U S) (U S') F F' H H'->km pin σ σ'->E c x H'
 | .no=>False
def DS(X:Cx)(E:XK)(pin:List Nat)(st:bf)(d:ak->R aH):Prop:=∀ F S ε σ H D,a_ X.K F S ε σ H->jc X.K E pin σ F S H (d ε) D->wpS X st D σ H
def jr(X:Cx)(E:XK)(pin:List Nat)(st:List bf)(d:ak->R aH):Prop:=∀ F S ε σ H D,a_ X.K F S ε σ H->jc X.K E pin σ F S H (d ε) D->uO X st D σ H
section
variable{K:az}{E:XK}{pin:List Nat}{σ σ1:St}{F F1:af->Prop}{S S1:Nat->af->Prop}{H H1:Hp}{D:lH}
theorem jc.from{r:R aH}(h:jc K E pin σ F S H r D)(g:bY (U S) (U S1) F F1 H H1)(p:km pin σ σ1):jc K E pin σ1 F1 S1 H1 r D:=by
 cases r with
 | no=>exact h
 | er c ε'=>exact λx F' S' σ' H' r' g' p'=>h x F' S' σ' H' r' (g.trans g') (p.trans p')
 | ok f ε'=>
  cases f with
  | next=>exact λF' S' σ' H' r' g' p'=>h F' S' σ' H' r' (g.trans g') (p.trans p')
  | brk=>exact λF' S' σ' H' r' g' p'=>h F' S' σ' H' r' (g.trans g') (p.trans p')
  | cont=>exact λF' S' σ' H' r' g' p'=>h F' S' σ' H' r' (g.trans g') (p.trans p')
  | ret s=>exact λv F' S' σ' H' Sr r' g' p'=>h v F' S' σ' H' Sr r' (g.trans g') (p.trans p')
theorem jc.bindE{α:Type}{r:R α}{k:α->ak->R aH}(h:jc K E pin σ F S H (r.bind k) D):Ok K E σ F S H r (λa ε1 F1 S1 H1=>jc K E pin σ F1 S1 H1 (k a ε1) D):=by
 cases r with
 | no=>exact h
 | er c ε'=>exact λx F' S' H' r' g'=>h x F' S' σ H' r' g' (km.refl _ _)
 | ok a ε'=>exact λF' S' H' r' g'=>h.from g' (km.refl _ _)
end
section
variable{X:Cx}{E:XK}{pin:List Nat}{st:bf}{rest:List bf}{d d1 d2:ak->R aH}{e:aC}{de:ak->R PV}{pos:Pos}
def d9:ak->R aH:=λε=>.ok .next ε
theorem gc:jr X E pin [] d9:=λF S ε σ H D rl h=>BM Mf (h F S σ H rl (bY.refl ..) (km.refl _ _))
def aE(d1 d2:ak->R aH):ak->R aH:=λε=>match d1 ε with
 | .ok .next ε1=>d2 ε1
 | r=>r
theorem bh(h1:DS X E pin st d1)(h2:jr X E pin rest d2):jr X E pin (st::rest) (aE d1 d2):=λF S ε σ H D rl h=>by
 refine BM (K4 FL sM) (h1 F S ε σ H { D with nx:=uO X rest D } rl ?_);unfold aE at h;split at h
 ·rename_i ε1 e1;rw[e1];exact λF' S' σ' H' r' g' p'=>h2 F' S' ε1 σ' H' D r' (h.from g' p')
 ·rename_i r cO;generalize d1 ε=r1 at h cO;cases r1 with
  | no=>exact h
  | er c ε'=>exact h
  | ok f ε'=>
   cases f with
   | next=>exact absurd rfl (cO ε')
   | brk=>exact h
   | cont=>exact h
   | ret s=>exact h
theorem a9(h1:DS X E pin st d1):jr X E pin [st] d1:=λF S ε σ H D rl h=>BM (Mc FL) (h1 F S ε σ H D rl h)
def IT(f:aH):ak->R aH:=λε=>.ok f ε
def U7(d:ak->R PV):ak->R aH:=λε=>(d ε).bind λ_ ε1=>.ok .next ε1
def dS(d:ak->R PV):ak->R aH:=λε=>(d ε).bind λx ε1=>.ok (.ret (.val x)) ε1
theorem bY.cup{O O' F F':af->Prop}{H H':Hp}(g:bY O O' F F' H H'):bY O (λb=>O' b\/False) F F' H H':=⟨g.fro,g.keep,g.there,g.fnew,λa h=>h.elim (g.onew a) kB⟩
theorem fU(he:DE X E e de):DS X E pin (.Return (aa e) pos) (dS de):=λF S ε σ H D rl h=>i_ (xD cA) (he F S ε σ H _ rl (h.bindE.imp λx ε1 F1 S1 H1 r1 g1 h1 v rv=>h1 v F1 S1 σ H1 (λ_=>False) r1 (bY.refl ..).cup (km.refl _ _) ⟨rv,λ_ z=>z⟩ λ_ z=>z.elim))
theorem S7:DS X E pin (.Return ae pos) (IT (.ret (.val .non))):=λF S ε σ H D rl h=>i_ TF (h _ F S σ H (λ_=>False) rl (bY.refl ..).cup (km.refl _ _) ⟨rfl,λ_ z=>z⟩ λ_ z=>z.elim)
def kL(d:ak->R PO):ak->R aH:=λε=>(d ε).bind λx ε1=>.ok (.ret (.own x)) ε1
theorem uK{dn:ak->R PO}(he:DN X E e dn):DS X E pin (.Return (aa e) pos) (kL dn):=λF S ε σ H D rl h=>by
 refine i_ (xD cA) (he F S ε σ H _ rl ?_);unfold kL at h;cases e0:dn ε with
 | no=>rw[e0]at h; exact h.elim
 | er c ε'=>rw[e0]at h; exact λx F' S' H' r' g'=>h x F' S' σ H' r' g' (km.refl _ _)
 | ok po ε1=>rw[e0]at h;intro F1 S1 H1 r1 g1 a Sa ow fr;exact h _ F1 S1 σ H1 Sa r1 ⟨g1.fro,g1.keep,g1.there,g1.fnew,λb z=>z.elim (g1.onew b) λw=>.inr (fr b w).1⟩ (km.refl _ _) ⟨a,rfl,ow⟩ λb z=>let ⟨_,x2,x3,x4⟩:=fr b z; ⟨x2,x3,x4⟩
def fA(i:Nat):ak->R aH:=λε=>match ε[i]? with
 | some (.own po)=>.ok (.ret (.own po)) (ε.set i .none)
 | _=>.no
theorem a_.drop{K:az}{F:af->Prop}{S:Nat->af->Prop}{ε:ak}{σ:St}{H:Hp}(r:a_ K F S ε σ H)(i:Nat):a_ K F (λj b=>S j b/\j≠i) (ε.set i .none) σ H:=by
 have no:∀ {j s},(ε.set i .none)[j]?=aa s->s≠.none->j≠i/\ε[j]?=aa s:=λ{j s} e hs=>by
  by_cases hj:i=j
  ·subst hj;by_cases hi:i<ε.length
   ·rw[ix hi]at e; exact absurd (eQ e).symm hs
   ·rw[jM (by rw[lq]; lia)]at e; cases e
  ·rw[fN hj]at e; exact⟨g8 hj,e⟩
 refine⟨by rw[lq]; exact r.len,r.ex,λj pv e=>r.val j pv (no e (by intro z; cases z)).2,λj po e=>?_,λj b h=>?_,λj k b h1 h2=>r.dist j k b h1.1 h2.1⟩
 ·obtain⟨hj,e⟩:=no e (by intro z; cases z);obtain⟨a,h1,h2⟩:=r.own j po e;have eS:(λb=>S j b/\j≠i)=S j:=by funext b; simp[hj]
  exact⟨a,h1,by rw[eS]; exact h2⟩
 ·obtain⟨⟨po,q1⟩,q2⟩:=r.foot j b h.1;exact⟨⟨po,by rw[fN (g8 h.2)]; exact q1⟩,q2⟩
theorem mM(i:Nat){x:Str}{p:Pos}(hN:X.N[i]?=aa x:=by rfl)(hv:ga X.env.scope x:=by first | exact Or.inl rfl | exact Or.inr (Or.inl rfl) | exact Or.inr (Or.inr rfl))(hd:(x == ("__debug__" : Str))=ao:=by decide)(bR:(x == ("__classdict__" : Str))=ao:=by decide):DS X E pin (.Return (aa (.Name x p)) pos) (fA i):=λF S ε σ H D rl h=>by
 unfold fA at h;split at h
 ·rename_i po e;obtain⟨a,e1,ow⟩:=rl.own i po e;refine i_ (xD (ip hN hv hd bR)) ⟨_,e1,h _ F (λj b=>S j b/\j≠i) σ H (S i) (rl.drop i) ⟨λ_ z=>z,λ_ _ z _=>z,λ_ o z=>⟨o,z⟩,λ_ z=>.inl z,λb z=>?_⟩ (km.refl _ _) ⟨a,rfl,ow⟩ λb z=>?_⟩
  ·rcases z with⟨j,z,_⟩ | z
   ·exact .inl ⟨j,z⟩
   ·exact .inl ⟨i,z⟩
  ·exact⟨(rl.foot i b z).2.1,λ⟨j,w,hj⟩=>hj (rl.dist j i b w z),(rl.foot i b z).2.2⟩
 ·exact h.elim
theorem a_.set{K:az}{F:af->Prop}{S:Nat->af->Prop}{ε:ak}{σ:St}{H:Hp}{i:Nat}{pv:PV}{v:V}(r:a_ K F S ε σ H)(h:bi K H F pv v):a_ K F (λj b=>S j b/\j≠i) (ε.set i (.val pv)) (σ.set i (aa v)) H:=by
 have r0:=r.drop i;have len:(ε.set i (.val pv)).length=(σ.set i (aa v)).length:=by rw[lq,lq]; exact r.len
 refine⟨len,r.ex,λj p e=>?_,λj po e=>?_,λj b h=>?_,r0.dist⟩
 ·by_cases hj:i=j
  ·subst hj;have hi:i<ε.length:=by have:=(eE.mp e).1;rw[lq]at this; exact this
   rw[ix hi]at e;cases e;exact⟨v,ix (by rw[← r.len]; exact hi),h⟩
  ·rw[fN hj]at e;obtain⟨w,h1,h2⟩:=r.val j p e;exact⟨w,by rw[fN hj]; exact h1,h2⟩
 ·have hj:i≠j:=by
   rintro rfl;have hi:i<ε.length:=by have:=(eE.mp e).1;rw[lq]at this; exact this
   rw[ix hi]at e; cases e
  rw[fN hj]at e;obtain⟨a,h1,h2⟩:=r.own j po e;have eS:(λb=>S j b/\j≠i)=S j:=by funext b; simp[g8 hj]
  exact⟨a,by rw[fN hj]; exact h1,by rw[eS]; exact h2⟩
 ·obtain⟨⟨po,q1⟩,q2⟩:=r0.foot j b h;refine⟨⟨po,?_⟩,q2⟩;rw[fN (g8 h.2)]at q1 ⊢;exact q1
theorem bY.less{S:Nat->af->Prop}{F:af->Prop}{H:Hp}(i:Nat):bY (U S) (U λj b=>S j b/\j≠i) F F H H:=⟨λ_ z=>z,λ_ _ z _=>z,λ_ o z=>⟨o,z⟩,λ_ z=>.inl z,λb ⟨j,z⟩=>.inl ⟨j,z.1⟩⟩
theorem a_.setOwn{K:az}{F:af->Prop}{S:Nat->af->Prop}{ε:ak}{σ:St}{H:Hp}{i:Nat}{po:PO}{a:af}{Sa:af->Prop}(r:a_ K F S ε σ H)(hi:i<ε.length)(h:gf K H F po a Sa)(fr:yZ F S H Sa) : a_ K F (λj b=>(S j b/\j≠i)\/(j=i/\Sa b)) (ε.set i (.own po)) (σ.set i (aa (.ref a))) H:=by
 have r0:=r.drop i;refine⟨by rw[lq,lq]; exact r.len,r.ex,λj p e=>?_,λj po' e=>?_,λj b h=>?_,λj k b h1 h2=>?_⟩
 ·have hj:i≠j:=by rintro rfl; rw[ix hi]at e; cases e
  rw[fN hj]at e;obtain⟨w,h1,h2⟩:=r.val j p e;exact⟨w,by rw[fN hj]; exact h1,h2⟩
 ·by_cases hj:i=j
  ·subst hj;rw[ix hi]at e;cases e;have eS:(λb=>(S i b/\i≠i)\/(i=i/\Sa b))=Sa:=by funext b; simp
   exact⟨a,ix (by rw[← r.len]; exact hi),by rw[eS]; exact h⟩
  ·rw[fN hj]at e;obtain⟨a',h1,h2⟩:=r.own j po' e;have eS:(λb=>(S j b/\j≠i)\/(j=i/\Sa b))=S j:=by funext b; simp[g8 hj]
   exact⟨a',by rw[fN hj]; exact h1,by rw[eS]; exact h2⟩
 ·rcases h with h | ⟨rfl,h⟩
  ·obtain⟨⟨po',q1⟩,q2⟩:=r0.foot j b h;refine⟨⟨po',?_⟩,q2⟩;rw[fN (g8 h.2)]at q1 ⊢;exact q1
  ·obtain⟨x1,x2,x3⟩:=fr b h;exact⟨⟨po,ix hi⟩,x1,x3⟩
 ·rcases h1 with h1 | ⟨rfl,h1⟩ <;> rcases h2 with h2 | ⟨rfl,h2⟩
  ·exact r.dist j k b h1.1 h2.1
  ·exact absurd ⟨j,h1.1⟩ (fr b h2).2.1
  ·exact absurd ⟨k,h2.1⟩ (fr b h1).2.1
  ·rfl
def bt(i:Nat)(d:ak->R PV):ak->R aH:=λε=>(d ε).bind λx ε1=>.ok .next (ε1.set i (.val x))
theorem eM(i:Nat){x:Str}{p:Pos}(hN:X.N.Nodup)(he:DE X E e de)(hp:i∉pin:=by decide)(hi:X.N[i]?=aa x:=by rfl)(hx:Loc X.env.scope x:=by first | exact Or.inl rfl | exact Or.inr rfl)(hs:mV e (aa (.Name x p)) pos.line X.env=pure ao:=by rfl)(hf:X.fn x=ai\/X.env.scope.names.lookup x=aa .local:=by first | exact .inl rfl | exact .inr rfl):DS X E pin (.Assign [.Name x p] e pos) (bt i de):=λF S ε σ H D rl h=>i_ (II hN hi hx cA hs hf) (he F S ε σ H _ rl (h.bindE.imp λx ε1 F1 S1 H1 r1 g1 h1 v rv=>h1 F1 _ _ H1 (r1.set rv) (bY.less i) (km.set hp)))
def cJ(i:Nat)(d:ak->R PO):ak->R aH:=λε=>(d ε).bind λx ε1=>if i<ε1.length then .ok .next (ε1.set i (.own x))else .no
theorem jC(i:Nat){x:Str}{p:Pos}{dn:ak->R PO}(hN:X.N.Nodup)(he:DN X E e dn)(hp:i∉pin:=by decide)(hi:X.N[i]?=aa x:=by rfl)(hx:Loc X.env.scope x:=by first | exact Or.inl rfl | exact Or.inr rfl)(hs:mV e (aa (.Name x p)) pos.line X.env=pure ao:=by rfl)(hf:X.fn x=ai\/X.env.scope.names.lookup x=aa .local:=by first | exact .inl rfl | exact .inr rfl):DS X E pin (.Assign [.Name x p] e pos) (cJ i dn):=λF S ε σ H D rl h=>by
 refine i_ (II hN hi hx cA hs hf) (he F S ε σ H _ rl ?_);unfold cJ at h;cases e0:dn ε with
 | no=>rw[e0]at h; exact h.elim
 | er c ε'=>rw[e0]at h; exact λx F' S' H' r' g'=>h x F' S' σ H' r' g' (km.refl _ _)
 | ok po ε1=>
  rw[e0]at h;simp only[R.bind_ok]at h;intro F1 S1 H1 r1 g1 a Sa ow fr;by_cases hl:i<ε1.length
  ·rw[if_pos hl]at h;refine h F1 _ _ H1 (r1.setOwn hl ow λb z=>(fr b z).2) ⟨g1.fro,g1.keep,g1.there,g1.fnew,λb ⟨j,z⟩=>?_⟩ (km.set hp);rcases z with z | ⟨_,z⟩
   ·exact g1.onew b ⟨j,z.1⟩
   ·exact .inr (fr b z).1
  ·rw[if_neg hl]at h; exact h.elim
theorem gs{c:aC}{a b:List bf}{t:ak->R Bool}(hc:DT X E c t)(ha:jr X E pin a d1)(hb:jr X E pin b d2):DS X E pin (.If c a b pos) (dq t d1 d2):=λF S ε σ H D rl h=>by
 refine i_ (Td sy sM sM) (hc F S ε σ H _ rl (h.bindE.imp λk ε1 F1 S1 H1 r1 g1 h1=>?_));cases k with
 | true=>exact sE (ha F1 S1 ε1 σ H1 D r1 h1)
 | false=>exact rY (hb F1 S1 ε1 σ H1 D r1 h1)
def Gs:ak->R aH:=λ_=>.no
theorem S_{sts:List bf}:jr X E pin sts Gs:=λ_ _ _ _ _ _ _ h=>h.elim
def cn(r:R aH):R aH:=match r with
 | .er _ _=>.no
 | r=>r
theorem jY(h:DS X.nox E0 pin st d):DS X E pin st (λε=>cn (d ε)):=λF S ε σ H D rl q=>Bx.mk λah s I=>by
 have q:jc X.K E pin σ F S H (cn (d ε)) D:=q;have q':jc X.K E0 pin σ F S H (d ε) D:=by
  cases e:d ε with
  | no=>rw[e]at q; exact q
  | er c ε'=>rw[e]at q; exact q.elim
  | ok f ε'=>rw[e]at q; cases f <;> exact q
 exact d_ ((h F S ε σ H D rl q').run ah s (I.wish _)) (λ_ _ z=>z.unwish) λ_ _ z=>z.elim
def sX(X:Cx)(tg iter:aC):TI:=λσ H Rr=>Bx (∀ ah s,Inv X ah σ H s->ax (ay X.prog X.w) X.A (bz iter X.env) (λv s1=>ax (ay X.prog X.w) X.A (pr v) (xp X ah σ tg Rr) X.xe s1) X.xe s)
theorem Cs{tg iter:aC}:PI X tg iter (sX X tg iter):=λah s _ _ _ I h=>h.run ah s I
theorem FM{tg iter:aC}{t:TI}(h:PI X tg iter t){σ:St}{H:Hp}{Rr:It->Hp->Prop}(q:t σ H Rr):sX X tg iter σ H Rr:=⟨λah s I=>h ah s σ H Rr I q⟩
def DI(X:Cx)(E:XK)(tg iter:aC)(d:ak->R (List PV)):Prop:=∀ F S ε σ H Rr,a_ X.K F S ε σ H ->
 Ok X.K E σ F S H (d ε) (λpvs _ F' S' H'=>∀ J vs RR,bq X.K H' F' pvs vs->vs.length<=bx->Walk J vs RR->(∀ S'' F'' H'',bY (U S') (U S'') F' F'' H' H''->RR H'')->Rr J H')->sX X tg iter σ H Rr
def eX(i:Nat)(db:ak->R aH):List PV->ak->R aH
 | [],ε=>.ok .next ε
 | x::xs,ε=>match db (ε.set i (.val x))with
  | .ok .next ε'=>eX i db xs ε'
  | .ok .cont ε'=>eX i db xs ε'
  | .ok .brk ε'=>.ok .next ε'
  | r=>r
def cE(i:Nat)(di:ak->R (List PV))(db:ak->R aH):ak->R aH:=λε=>(di ε).bind λxs ε1=>eX i db xs ε1
theorem i7(i:Nat){x:Str}{p:Pos}{iter:aC}{body:List bf}{di:ak->R (List PV)}{db:ak->R aH}(hpo:CF (ay X.prog X.w) X.A X.env X.xe)(hc:X.calm=ai)(hN:X.N.Nodup)(hi:DI X E (.Name x p) iter di)(hb:jr X E pin body db)(hp:i∉pin:=by decide) (hx:X.N[i]?=aa x:=by rfl) (hl:Loc X.env.scope x:=by first | exact Or.inl rfl | exact Or.inr rfl) (hs:∀ x,vL iter X.env x=pure x:=by intro _; rfl)(hf:X.fn x=ai\/X.env.scope.names.lookup x=aa .local:=by first | exact .inl rfl | exact .inr rfl):DS X E pin (.For (.Name x p) iter body [] pos) (cE i di db):=λF S ε σ H D rl h=>by
 refine i_ (OT hpo hc Cs (Cy hN hx hl hf) sM hs) (hi F S ε σ H _ rl (h.bindE.imp λxs ε1 F1 S1 H1 r1 g1 h1 J vs RR rs hz hw keep=>?_));refine QX hw (λk σ' H'=>∃ F' S' ε',a_ X.K F' S' ε' σ' H'/\bY (U S1) (U S') F1 F' H1 H'/\jc X.K E pin σ' F' S' H' (eX i db (xs.drop k) ε') D) ⟨F1,S1,ε1,r1,bY.refl ..,h1⟩ (λk σ' H' _ ⟨F',S',ε',_,g,_⟩=>keep S' F' H' g) ?_ ?_
 ·rintro k v σ' H' hv ⟨F',S',ε',r',g',q⟩;obtain⟨x,hx,rx⟩:=rs.back hv;have hk:k<xs.length:=(eE.mp hx).1;have ed:xs.drop k=x::xs.drop (k+1):=by rw[zG hk];congr 1;exact(eE.mp hx).2
  rw[ed]at q;have rx':=rx.grow g' r1.fit;have r2:=r'.set (i:=i) rx';have gl:bY (U S') (U λj b=>S' j b/\j≠i) F' F' H' H':=bY.less i;show uO X body _ (σ'.set i (aa v)) H';refine hb F' _ _ _ H' _ r2 ?_;unfold eX at q;have q:=q.from gl (km.set (x:=aa v) hp);cases e:db (ε'.set i (.val x))with
  | no=>rw[e]at q; exact q
  | er c ε3=>rw[e]at q; exact q
  | ok f ε3=>
   rw[e]at q;cases f with
   | next=>exact λF3 S3 σ3 H3 r3 g3 p3=>⟨F3,S3,ε3,r3,(g'.trans gl).trans g3,q.from g3 p3⟩
   | cont=>exact λF3 S3 σ3 H3 r3 g3 p3=>⟨F3,S3,ε3,r3,(g'.trans gl).trans g3,q.from g3 p3⟩
   | brk=>exact q
   | ret s=>exact q
 ·rintro σ' H' ⟨F',S',ε',r',g',q⟩;have hl:vs.length=xs.length:=rs.len;rw[hl,JW]at q;exact q F' S' σ' H' r' (bY.refl ..) (km.refl _ _)
def d4(t:ak->R Bool)(db:ak->R aH):Nat->ak->R aH
 | 0,_=>.no
 | n+1,ε=>(t ε).bind λk ε1=>match k with
  | false=>.ok .next ε1
  | true=>match db ε1 with
   | .ok .next ε'=>d4 t db n ε'
   | .ok .cont ε'=>d4 t db n ε'
   | .ok .brk ε'=>.ok .next ε'
   | r=>r
theorem uP{c:aC}{body:List bf}{t:ak->R Bool}{db:ak->R aH}(bp:ak->Nat)(hpo:CF (ay X.prog X.w) X.A X.env X.xe)(hc:DT X E c t)(hb:jr X E pin body db):DS X E pin (.While c body [] pos) (λε=>d4 t db (bp ε) ε):=λF S ε σ H D rl h=>by
 refine i_ (Sz hpo sy sM) ⟨λm σ' H'=>∃ F' S' ε',a_ X.K F' S' ε' σ' H'/\jc X.K E pin σ' F' S' H' (d4 t db m ε') D,⟨bp ε,F,S,ε,rl,h⟩,?_⟩;rintro m σ1 H1 ⟨F1,S1,ε1,r1,q⟩;cases m with
 | zero=>exact q.elim
 | succ m=>
  refine hc F1 S1 ε1 σ1 H1 _ r1 (q.bindE.imp λk ε2 F2 S2 H2 r2 g2 q2=>?_);cases k with
  | false=>exact rY (q2 F2 S2 σ1 H2 r2 (bY.refl ..) (km.refl _ _))
  | true=>
   refine sE ⟨λσ' H'=>∃ F' S' ε',a_ X.K F' S' ε' σ' H'/\jc X.K E pin σ' F' S' H' (d4 t db m ε') D,λσ' H' w=>⟨m,mY m,w⟩,hb F2 S2 ε2 σ1 H2 _ r2 ?_⟩;have q2:jc X.K E pin σ1 F2 S2 H2 (match db ε2 with
    | .ok .next ε'=>d4 t db m ε'
    | .ok .cont ε'=>d4 t db m ε'
    | .ok .brk ε'=>.ok .next ε'
    | r=>r) D:=q2
   cases e:db ε2 with
   | no=>rw[e]at q2; exact q2
   | er c ε3=>rw[e]at q2; exact q2
   | ok f ε3=>
    rw[e]at q2;cases f with
    | next=>exact λF3 S3 σ3 H3 r3 g3 p3=>⟨F3,S3,ε3,r3,q2.from g3 p3⟩
    | cont=>exact λF3 S3 σ3 H3 r3 g3 p3=>⟨F3,S3,ε3,r3,q2.from g3 p3⟩
    | brk=>exact q2
    | ret s=>exact q2
end
def yT(K:az)(E:XK)(vs:List V)(F:af->Prop)(S:Nat->af->Prop)(H:Hp)(r:R Slot)(Q:VK):Prop:=match r with
 | .ok s aR=>∀ v F' S' H' Sr,a_ K F' S' aR (vs.map aa) H'->bY (U S) (λb=>U S' b\/Sr b) F F' H H'->yC K H' F' s v Sr->yZ F' S' H' Sr->(∀ b,Sr b->H b=ae)->Q v H'
 | .er c aR=>∀ x F' S' H',a_ K F' S' aR (vs.map aa) H'->bY (U S) (U S') F F' H H'->E c x H'
 | .no=>False
def b0(K:az)(g:ak->R Slot):Sp:=λvs H Q E=>∃ F S ss,a_ K F S ss (vs.map aa) H/\yT K E vs F S H (g ss) Q
structure cr(CX:fQ)(P:aX)(w:aN)(K:az)(mg:Str->Option am)(base:aF)(x:Str)(k:Nat)(ps:List Str)(sp:Sp):Prop where
 ex:∃ f fd,mg x=aa (.ref f)/\iM P w K mg base CX k f fd ps sp/\Binds K fd ps []/\tq K (.ref f)=ai
theorem cr.mono{CX:fQ}{P:aX}{w:aN}{K:az}{mg:Str->Option am}{base:aF}{x:Str}{j k:Nat}{ps:List Str}{sp:Sp}(c:cr CX P w K mg base x j ps sp)(h:j<=k):cr CX P w K mg base x k ps sp:=by obtain⟨f,fd,h1,h2,h3,h4⟩:=c.ex;exact⟨f,fd,h1,h2.mono h,h3,h4⟩
def back:ak->ak->Option ak
 | [],_=>aa []
 | .own _::ss,.own po::es=>(back ss es).map (.own po::·)
 | .own _::_,_=>ae
 | s::ss,_::es=>(back ss es).map (s::·)
 | _::_,[]=>ae
theorem ya:∀ {ss es aR:ak},back ss es=aa aR->aR.length=ss.length/\∀ (i:Nat) (s:Slot),aR[i]?=aa s->(∃ po po',ss[i]?=aa (.own po)/\es[i]?=aa (.own po')/\s = .own po')\/(ss[i]?=aa s/\∀ po,s≠.own po)
 | [],_,aR,h=>by cases h; exact⟨rfl,λi s e=>by simp at e⟩
 | .own po::ss,.own po'::es,aR,h=>by
  unfold back at h;cases e:back ss es with
  | none=>rw[e]at h; cases h
  | some r=>
   rw[e]at h; cases h;obtain⟨l,q⟩:=ya e;refine⟨by simp[l],λi s hi=>?_⟩;cases i with
   | zero=>simp at hi; subst hi; exact .inl ⟨po,po',rfl,rfl,rfl⟩
   | succ i=>simpa using q i s (by simpa using hi)
 | .own po::ss,.none::es,aR,h=>by cases h
 | .own po::ss,.val _::es,aR,h=>by cases h
 | .own po::ss,[],aR,h=>by cases h
 | .none::ss,[],aR,h=>by cases h
 | .val _::ss,[],aR,h=>by cases h
 | .none::ss,x::es,aR,h=>by
  have h:(back ss es).map (Slot.none::·)=aa aR:=by unfold back at h; cases x <;> exact h
  cases e:back ss es with
  | none=>rw[e]at h; cases h
  | some r=>
   rw[e]at h; cases h;obtain⟨l,q⟩:=ya e;refine⟨by simp[l],λi s hi=>?_⟩;cases i with
   | zero=>simp at hi; subst hi; exact .inr ⟨rfl,λ_ z=>by cases z⟩
   | succ i=>simpa using q i s (by simpa using hi)
 | .val pv::ss,x::es,aR,h=>by
  have h:(back ss es).map (Slot.val pv::·)=aa aR:=by unfold back at h; cases x <;> exact h
  cases e:back ss es with
  | none=>rw[e]at h; cases h
  | some r=>
   rw[e]at h; cases h;obtain⟨l,q⟩:=ya e;refine⟨by simp[l],λi s hi=>?_⟩;cases i with
   | zero=>simp at hi; subst hi; exact .inr ⟨rfl,λ_ z=>by cases z⟩
   | succ i=>simpa using q i s (by simpa using hi)
def bB(n:Nat)(d:ak->R aH):ak->R Slot:=λss=>match d (ss++bH n .none)with
 | .ok (.ret r) ε'=>(aS (back ss ε') []).bind λaR _=>.ok r aR
 | .ok .next ε'=>(aS (back ss ε') []).bind λaR _=>.ok (.val .non) aR
 | .er c ε'=>(aS (back ss ε') []).bind λaR _=>.er c aR
 | _=>.no
section
variable{K:az}{F F':af->Prop}{S S':Nat->af->Prop}{ss ε' aR:ak}{σ':St}{H H':Hp}{vs:List V}
theorem a_.start(r:a_ K F S ss (vs.map aa) H)(n:Nat):a_ K F S (ss++bH n .none) (vs.map aa++bH n ae) H:=by
 have hl:ss.length=(vs.map aa).length:=r.len;have no:∀ {j:Nat} {s:Slot},(ss++bH n Slot.none)[j]?=aa s->s≠.none->ss[j]?=aa s:=λ{j s} e hs=>by
  by_cases hj:j<ss.length
  ·rw[fO hj]at e; exact e
  ·rw[jK ∅,List.getElem?_replicate]at e;split at e
   ·exact absurd (eQ e).symm hs
   ·cases e
 have up:∀ {j:Nat} {v:Option V},(vs.map aa)[j]?=aa v->(vs.map aa++bH n ae)[j]?=aa v:=λ{j v} e=>by rw[fO (eE.mp e).1]; exact e
 refine⟨by simp[hl],r.ex,λj pv e=>?_,λj po e=>?_,λj b h=>?_,r.dist⟩
 ·obtain⟨v,h1,h2⟩:=r.val j pv (no e (by intro z; cases z)); exact⟨v,up h1,h2⟩
 ·obtain⟨v,h1,h2⟩:=r.own j po (no e (by intro z; cases z)); exact⟨v,up h1,h2⟩
 ·obtain⟨⟨po,q⟩,q2⟩:=r.foot j b h;exact⟨⟨po,by rw[fO (eE.mp q).1]; exact q⟩,q2⟩
theorem FO{po:PO}{a:af}{Sa:af->Prop}(h:gf K H F po a Sa)(hf:jx po=ai):∀ b,Sa b↔b=a:=by
 cases po with
 | lst xs=>exact h.2
 | dK kvs=>exact h.2
 | lls f8=>cases hf
 | ins C fs=>exact h.2
theorem N3{po:PO}{a:af}{Sa:af->Prop}(h:gf K H F po a Sa):Sa a:=by
 cases po with
 | lst xs=>exact(h.2 a).mpr rfl
 | dK kvs=>exact(h.2 a).mpr rfl
 | lls f8=>obtain⟨as,_,_,_,_,w⟩:=h; exact(w a).mpr (.inl rfl)
 | ins C fs=>exact(h.2 a).mpr rfl
theorem a_.back{O':af->Prop}{pin:List Nat}{n:Nat}(r0:a_ K F S ss (vs.map aa) H)(r:a_ K F' S' ε' σ' H')(g:bY (U S) O' F F' H H')(p:km pin (vs.map aa++bH n ae) σ')(nh:∀ (i:Nat) (po:PO),ss[i]?=aa (.own po)->i∈pin/\jx po=ai)(hb:back ss ε'=aa aR) : ∃ S'',a_ K F' S'' aR (vs.map aa) H'/\(∀ b,U S'' b->U S' b)/\∀ b,U S b->U S'' b:=by
 obtain⟨hl,hg⟩:=ya hb;have inj:∀ (i:Nat) (po:PO),ss[i]?=aa (.own po)->∃ a,(vs.map aa)[i]?=aa (aa (.ref a))/\σ'[i]?=aa (aa (.ref a))/\gf K H F po a (S i):=λi po e=>by obtain⟨a,h1,h2⟩:=r0.own i po e;refine⟨a,h1,?_,h2⟩;rw[p i (nh i po e).1,fO (eE.mp h1).1]; exact h1
 have bk:∀ (i:Nat) (po:PO),ss[i]?=aa (.own po)->∃ po',aR[i]?=aa (.own po')/\ε'[i]?=aa (.own po'):=λi po e=>by
  have hi:i<aR.length:=by rw[hl]; exact(eE.mp e).1
  rcases hg i aR[i] (by simp[hi])with⟨p1,p2,q1,q2,q3⟩ | ⟨q1,q2⟩
  ·exact⟨p2,by rw[iB hi,q3],q2⟩
  ·rw[e]at q1; exact absurd (eQ q1).symm (q2 po)
 refine⟨λi b=>S' i b/\∃ po,ss[i]?=aa (.own po),⟨by rw[hl]; exact r0.len,r.ex,λi pv e=>?_,λi po e=>?_,λi b h=>?_,λi j b h1 h2=>r.dist i j b h1.1 h2.1⟩,λb ⟨i,h⟩=>⟨i,h.1⟩,λb ⟨i,h⟩=>?_⟩
 ·rcases hg i _ e with⟨_,_,_,_,z⟩ | ⟨q1,_⟩
  ·cases z
  ·obtain⟨v,h1,h2⟩:=r0.val i pv q1;exact⟨v,h1,h2.grow g r0.fit⟩
 ·rcases hg i _ e with⟨p1,p2,q1,q2,q3⟩ | ⟨_,q2⟩
  ·cases q3;obtain⟨a,h1,h2,h3⟩:=inj i p1 q1;obtain⟨a',h4,h5⟩:=r.own i po q2;rw[h2]at h4;cases h4;refine⟨a,h1,?_⟩;have eS:(λb=>S' i b/\∃ po,ss[i]?=aa (.own po))=S' i:=by funext b; exact propext ⟨λz=>z.1,λz=>⟨z,p1,q1⟩⟩
   rw[eS]; exact h5
  ·exact absurd rfl (q2 po)
 ·obtain⟨po,q⟩:=h.2;obtain⟨po',z1,z2⟩:=bk i po q;exact⟨⟨po',z1⟩,(r.foot i b h.1).2⟩
 ·obtain⟨⟨po,q⟩,_⟩:=r0.foot i b h;obtain⟨a,h1,h2,h3⟩:=inj i po q;obtain⟨po',z1,z2⟩:=bk i po q;obtain⟨a',h4,h5⟩:=r.own i po' z2;rw[h2]at h4;cases h4;have e:b=a:=(FO h3 (nh i po q).2 b).mp h;exact⟨i,e ▸ N3 h5,po,q⟩
end
theorem Ex{f:af}{fd:g9}{CX:fQ}{P:aX}{w:aN}{K:az}{mg:Str->Option am}{base:aF}{x qual:Str}{st:bf}{N ps:List Str}{k n:Nat}{g:ak->R Slot}{d:ak->R aH}{pin:List Nat}(Fn:oW K x qual st f fd)(Sc:b_ N ps (aZ st))(hn:N.length=ps.length+n)(hb:∀ (kV doc pm:am) (an:Option af) (aQ ct:am) (us:List am),us.length=ps.length->gM (kC x qual (kU st) (gY st) (aZ st) .none kV doc pm an aQ ct) ⟨us,[]⟩=pure (ps.zip us))(cb:∀ ss,g ss≠.no->ss.length=ps.length) (nh:∀ ss,g ss≠.no->∀ (i:Nat) po,ss[i]?=aa (.own po)->i∈pin/\jx po=ai) (hg:∀ ss,g ss≠.no->bB n d ss=g ss)(jO:∀ (A:be) (outer:List Env) (s:aq) (H:Hp) (E:XK),Room k (A.deeper (j4 qual (aZ st) s.heap.objs.size f fd.code))->jr (i8 CX P w K mg base N qual (aZ st) f fd.code A outer s H E) E pin (gY st) d) : iM P w K mg base CX (k+1) f fd ps (b0 K g):=by
 obtain⟨oc,od,kV,doc,pm,an,aQ,ct,osl,rfl,lk,bR⟩:=Fn.ex;have ne:∀ {E:XK} {vs:List V} {F:af->Prop} {S:Nat->af->Prop} {H:Hp} {ss:ak} {Q:VK},yT K E vs F S H (g ss) Q->g ss≠.no:=λ{E vs F S H ss Q} h z=>by rw[z]at h; exact h
 refine Ee lk bR Sc (λvs H Q E ⟨F,S,ss,rl,ok⟩=>?_) λA outer s H vs Q E hr nr=>?_
 ·have:=cb ss (ne ok);have h2:=rl.len;rw[cD]at h2;lia
 ·obtain⟨F,S,ss,rl,ok⟩:=nr;refine⟨_,sM,?_⟩;have hl:=cb ss (ne ok);have h2:=rl.len;rw[cD]at h2;have es:L2.start N vs=vs.map aa++bH n ae:=by unfold L2.start;rw[show N.length-vs.length=n by lia]
  rw[es];refine jO A outer s H E hr F S _ _ H _ (rl.start n) ?_;have Kn:=nh ss (ne ok);have mh:=hg ss (ne ok);rw[← mh]at ok;unfold bB at ok;generalize d (ss++bH n .none)=r at ok ⊢;cases r with
  | no=>exact ok
  | er c ε'=>
   intro x F' S' σ' H' r' g' p';have ok:yT K E vs F S H ((aS (back ss ε') []).bind λaR _=>.er c aR) Q:=ok;cases e:back ss ε' with
   | none=>rw[e]at ok; exact ok.elim
   | some aR=>rw[e]at ok;obtain⟨S'',r'',sub,_⟩:=rl.back r' g' p' Kn e;exact ok x F' S'' H' r'' ⟨g'.fro,g'.keep,g'.there,g'.fnew,λb z=>g'.onew b (sub b z)⟩
  | ok fl ε'=>
   have fin:∀ (rs:Slot),yT K E vs F S H ((aS (back ss ε') []).bind λaR _=>.ok rs aR) Q->∀ (v:V) F' S' σ' H' Sr,a_ K F' S' ε' σ' H'->bY (U S) (λb=>U S' b\/Sr b) F F' H H'->km pin (vs.map aa++bH n ae) σ'->yC K H' F' rs v Sr->yZ F' S' H' Sr->Q v H':=by
    intro rs ok v F' S' σ' H' Sr r' g' p' hv lo;cases e:back ss ε' with
    | none=>rw[e]at ok; exact ok.elim
    | some aR=>
     rw[e]at ok;obtain⟨S'',r'',sub,up⟩:=rl.back r' g' p' Kn e;refine ok v F' S'' H' Sr r'' ⟨g'.fro,g'.keep,g'.there,g'.fnew,λb z=>g'.onew b (z.imp (sub b) id)⟩ hv (λb z=>⟨(lo b z).1,λw=>(lo b z).2.1 (sub b w),(lo b z).2.2⟩) λb z=>?_;rcases g'.onew b (.inr z)with w | w
     ·exact absurd (sub b (up b w)) (lo b z).2.1
     ·exact w
   cases fl with
   | brk=>exact ok.elim
   | cont=>exact ok.elim
   | ret rs=>exact fin rs ok
   | next=>exact λF' S' σ' H' r' g' p'=>fin (.val .non) ok .non F' S' σ' H' (λ_=>False) r' ⟨g'.fro,g'.keep,g'.there,g'.fnew,λb z=>z.elim (g'.onew b) kB⟩ p' ⟨rfl,λ_ z=>z⟩ λ_ z=>z.elim
theorem G0{f:af}{fd:g9}{CX:fQ}{P:aX}{w:aN}{K:az}{mg:Str->Option am}{base:aF}{x qual:Str}{st:bf}{N ps:List Str}{k n:Nat}{g:ak->R Slot}{d:ak->R aH}{pin:List Nat}(Fn:oW K x qual st f fd)(Sc:b_ N ps (aZ st))(hn:N.length=ps.length+n)(hb:∀ (kV doc pm:am) (an:Option af) (aQ ct:am) (us:List am),us.length=ps.length->gM (kC x qual (kU st) (gY st) (aZ st) .none kV doc pm an aQ ct) ⟨us,[]⟩=pure (ps.zip us))(cb:∀ ss,g ss≠.no->ss.length=ps.length) (nh:∀ ss,g ss≠.no->∀ (i:Nat) po,ss[i]?=aa (.own po)->i∈pin/\jx po=ai) (hg:∀ ss,g ss≠.no->bB n d ss=g ss)(jO:∀ (f:af) (aQ:am) (A:be) (outer:List Env) (s:aq) (H:Hp) (E:XK),Room k (A.deeper (j4 qual (aZ st) s.heap.objs.size f aQ))->jr (i8 CX P w K mg base N qual (aZ st) f aQ A outer s H E) E pin (gY st) d) : iM P w K mg base CX (k+1) f fd ps (b0 K g):=Ex Fn Sc hn hb cb nh hg λA outer s H E=>jO f fd.code A outer s H E
theorem T9{CX:fQ}{P:aX}{w:aN}{K:az}{mg:Str->Option am}{base:aF}{x:Str}{st:bf}{N ps:List Str}{k n:Nat}{g:ak->R Slot}{d:ak->R aH}{pin:List Nat}(D:cB K mg x st)(Sc:b_ N ps (aZ st))(hn:N.length=ps.length+n)(hb:∀ (kV doc pm:am) (an:Option af) (aQ ct:am) (us:List am),us.length=ps.length->gM (kC x x (kU st) (gY st) (aZ st) .none kV doc pm an aQ ct) ⟨us,[]⟩=pure (ps.zip us))(cb:∀ ss,g ss≠.no->ss.length=ps.length) (nh:∀ ss,g ss≠.no->∀ (i:Nat) po,ss[i]?=aa (.own po)->i∈pin/\jx po=ai) (hg:∀ ss,g ss≠.no->bB n d ss=g ss)(jO:∀ (f:af) (aQ:am) (A:be) (outer:List Env) (s:aq) (H:Hp) (E:XK),Room k (A.deeper (j4 x (aZ st) s.heap.objs.size f aQ))->jr (i8 CX P w K mg base N x (aZ st) f aQ A outer s H E) E pin (gY st) d) : cr CX P w K mg base x (k+1) ps (b0 K g):=by obtain⟨f,fd,hm,Fn⟩:=D.ex;exact⟨f,fd,hm,G0 Fn Sc hn hb cb nh hg jO,Fn.binds hb,Fn.kp⟩
abbrev cC:=Sum PV Nat
def kl(K:az)(σ:St)(F:af->Prop)(H:Hp):List cC->List V->Prop
 | [],vs=>vs=[]
 | .inl pv::as,vs=>∃ v r,vs=v::r/\bi K H F pv v/\kl K σ F H as r
 | .inr i::as,vs=>∃ v r,vs=v::r/\σ[i]?=aa (aa v)/\kl K σ F H as r
def DG(X:Cx)(E:XK)(es:List aC)(d:ak->R (List cC)):Prop :=
 ∀ F S ε σ H Q,a_ X.K F S ε σ H->Ok X.K E σ F S H (d ε) (λas _ F' _ H'=>∀ vs,kl X.K σ F' H' as vs->Q vs H')->pR X es σ H Q
section
variable{X:Cx}{E:XK}{e:aC}{es:List aC}{de:ak->R PV}{dg:ak->R (List cC)}{pos:Pos}
def bN:ak->R (List cC):=λε=>.ok [] ε
def gV(d:ak->R PV)(dg:ak->R (List cC)):ak->R (List cC):=λε=>(d ε).bind λx ε1=>(dg ε1).bind λxs ε2=>.ok (.inl x::xs) ε2
def gO(i:Nat)(dg:ak->R (List cC)):ak->R (List cC):=λε=>match ε[i]? with
 | some (.own _)=>(dg ε).bind λxs ε2=>.ok (.inr i::xs) ε2
 | _=>.no
theorem bT:DG X E [] bN:=λF S ε σ H Q rl h=>p6 nH (h F S H rl (bY.refl ..) _ rfl)
theorem Mh(ha:DE X E e de)(hr:DG X E es dg)(hs:bu (e::es) X.env=(ao,bz e X.env)::bu es X.env:=by rfl):DG X E (e::es) (gV de dg):=λF S ε σ H Q rl h=>by refine p6 (kX cA iw hs) (ha F S ε σ H _ rl ((Ok.bind h).imp λx ε1 F1 S1 H1 r1 g1 h1 v rv=>?_));refine hr F1 S1 ε1 σ H1 _ r1 ((Ok.bind h1).imp λxs ε2 F2 S2 H2 r2 g2 h2 vs jT=>?_);exact h2 F2 S2 H2 r2 (bY.refl ..) _ ⟨v,vs,rfl,rv.grow g2 r1.fit,jT⟩
theorem jV(i:Nat){x:Str}{p:Pos}(hr:DG X E es dg)(hN:X.N[i]?=aa x:=by rfl)(hv:ga X.env.scope x:=by first | exact Or.inl rfl | exact Or.inr (Or.inl rfl) | exact Or.inr (Or.inr rfl))(hd:(x == ("__debug__" : Str))=ao:=by decide)(bR:(x == ("__classdict__" : Str))=ao:=by decide) (hs:bu (.Name x p::es) X.env=(ao,bz (.Name x p) X.env)::bu es X.env:=by rfl):DG X E (.Name x p::es) (gO i dg):=λF S ε σ H Q rl h=>by
 unfold gO at h;split at h
 ·rename_i po e;obtain⟨a,e1,_⟩:=rl.own i po e;refine p6 (kX (ip hN hv hd bR) iw hs) ⟨_,e1,hr F S ε σ H _ rl ((Ok.bind h).imp λxs ε2 F2 S2 H2 r2 g2 h2 vs jT=>?_)⟩;exact h2 F2 S2 H2 r2 (bY.refl ..) _ ⟨_,vs,rfl,e1,jT⟩
 ·exact h.elim
end
def dI(ε:ak):List cC->Option ak
 | []=>aa []
 | .inl pv::as=>(dI ε as).map (.val pv::·)
 | .inr i::as=>match ε[i]? with
  | some (.own po)=>(dI ε as).map (.own po::·)
  | _=>ae
def dN:ak->List cC->ak->ak
 | ε,.inl _::as,_::ss=>dN ε as ss
 | ε,.inr i::as,s::ss=>dN (ε.set i s) as ss
 | ε,_,_=>ε
def cp:List cC->List Nat
 | []=>[]
 | .inl _::as=>cp as
 | .inr i::as=>i::cp as
theorem Gw:∀ {as:List cC} {i:Nat},i∈cp as↔∃ k:Nat,as[k]?=aa (.inr i)
 | [],i=>by simp[cp]
 | .inl _::as,i=>by
  unfold cp;rw[Gw];constructor
  ·rintro⟨k,h⟩; exact⟨k+1,by simpa using h⟩
  ·rintro⟨k,h⟩;cases k with
   | zero=>simp at h
   | succ k=>exact⟨k,by simpa using h⟩
 | .inr j::as,i=>by
  unfold cp;rw[ca,Gw];constructor
  ·rintro(rfl | ⟨k,h⟩)
   ·exact⟨0,rfl⟩
   ·exact⟨k+1,by simpa using h⟩
  ·rintro⟨k,h⟩;cases k with
   | zero=>simp at h; exact .inl h.symm
   | succ k=>exact .inr ⟨k,by simpa using h⟩
theorem yF{ε:ak}:∀ {as:List cC} {ss:ak},dI ε as=aa ss->ss.length=as.length/\∀ (k:Nat) (s:Slot),ss[k]?=aa s->(∃ pv,as[k]?=aa (.inl pv)/\s = .val pv)\/∃ i po,as[k]?=aa (.inr i)/\ε[i]?=aa (.own po)/\s = .own po
 | [],ss,h=>by cases h; exact⟨rfl,λk s e=>by simp at e⟩
 | .inl pv::as,ss,h=>by
  unfold dI at h;cases e:dI ε as with
  | none=>rw[e]at h; cases h
  | some r=>
   rw[e]at h; cases h;obtain⟨l,q⟩:=yF e;refine⟨by simp[l],λk s hk=>?_⟩;cases k with
   | zero=>simp at hk; exact .inl ⟨pv,rfl,hk.symm⟩
   | succ k=>simpa using q k s (by simpa using hk)
 | .inr i::as,ss,h=>by
  unfold dI at h;split at h
  ·rename_i po ei;cases e:dI ε as with
   | none=>rw[e]at h; cases h
   | some r=>
    rw[e]at h; cases h;obtain⟨l,q⟩:=yF e;refine⟨by simp[l],λk s hk=>?_⟩;cases k with
    | zero=>simp at hk; exact .inr ⟨i,po,rfl,ei,hk.symm⟩
    | succ k=>simpa using q k s (by simpa using hk)
  ·cases h
theorem xB:∀ (as:List cC) (ε ss:ak),(dN ε as ss).length=ε.length
 | [],ε,ss=>by cases ss <;> rfl
 | .inl _::as,ε,[]=>rfl
 | .inr _::as,ε,[]=>rfl
 | .inl _::as,ε,s::ss=>xB as ε ss
 | .inr i::as,ε,s::ss=>by show(dN (ε.set i s) as ss).length=_; rw[xB,lq]
theorem sS:∀ (as:List cC) (ε ss:ak) (j:Nat),j∉cp as->(dN ε as ss)[j]?=ε[j]?
 | [],ε,ss,j,_=>by cases ss <;> rfl
 | .inl _::as,ε,[],j,_=>rfl
 | .inr _::as,ε,[],j,_=>rfl
 | .inl _::as,ε,s::ss,j,h=>sS as ε ss j h
 | .inr i::as,ε,s::ss,j,h=>by
  have h1:¬ (j=i\/j∈cp as):=by simpa[cp]using h
  show(dN (ε.set i s) as ss)[j]?=_;rw[sS as _ ss j λz=>h1 (.inr z),fN λz=>h1 (.inl z.symm)]
theorem ui:∀ (as:List cC) (ε ss:ak) (j k:Nat) (s:Slot),(cp as).Nodup->j<ε.length->as[k]?=aa (.inr j)->ss[k]?=aa s->(dN ε as ss)[j]?=aa s
 | [],ε,ss,j,k,s,_,_,h,_=>by simp at h
 | _::as,ε,[],j,k,s,_,_,_,h=>by simp at h
 | .inl _::as,ε,t::ss,j,0,s,_,_,h,_=>by simp at h
 | .inl _::as,ε,t::ss,j,k+1,s,nd,hj,h,g=>ui as ε ss j k s nd hj (by simpa using h) (by simpa using g)
 | .inr i::as,ε,t::ss,j,0,s,nd,hj,h,g=>by simp at h g;subst h g;have nd':i∉cp as:=(jJ.mp nd).1;show(dN (ε.set i t) as ss)[i]?=_;rw[sS as _ ss i nd',ix hj]
 | .inr i::as,ε,t::ss,j,k+1,s,nd,hj,h,g=>ui as (ε.set i t) ss j k s (jJ.mp nd).2 (by rw[lq]; exact hj) (by simpa using h) (by simpa using g)
theorem kl.len{K:az}{σ:St}{F:af->Prop}{H:Hp}:∀ {as:List cC} {vs:List V},kl K σ F H as vs->vs.length=as.length
 | [],_,h=>by rw[show _=[] from h]; rfl
 | .inl _::as,_,⟨v,r,e,_,h⟩=>by rw[e,eI,eI,kl.len h]
 | .inr _::as,_,⟨v,r,e,_,h⟩=>by rw[e,eI,eI,kl.len h]
theorem kl.val{K:az}{σ:St}{F:af->Prop}{H:Hp}:∀ {as:List cC} {vs:List V} {k:Nat} {pv:PV},kl K σ F H as vs->as[k]?=aa (.inl pv)->∃ v,vs[k]?=aa v/\bi K H F pv v
 | [],_,k,_,_,e=>by simp at e
 | .inl x::as,_,0,pv,⟨v,r,e,h,_⟩,q=>by simp at q; subst q e; exact⟨v,rfl,h⟩
 | .inr _::as,_,0,pv,_,q=>by simp at q
 | .inl x::as,_,k+1,pv,⟨v,r,e,_,h⟩,q=>by obtain⟨w,a,b⟩:=kl.val (k:=k) h (by simpa using q); subst e; exact⟨w,by simpa using a,b⟩
 | .inr x::as,_,k+1,pv,⟨v,r,e,_,h⟩,q=>by obtain⟨w,a,b⟩:=kl.val (k:=k) h (by simpa using q); subst e; exact⟨w,by simpa using a,b⟩
theorem kl.own{K:az}{σ:St}{F:af->Prop}{H:Hp}:∀ {as:List cC} {vs:List V} {k i:Nat},kl K σ F H as vs->as[k]?=aa (.inr i)->∃ v,vs[k]?=aa v/\σ[i]?=aa (aa v)
 | [],_,k,_,_,e=>by simp at e
 | .inr x::as,_,0,pv,⟨v,r,e,h,_⟩,q=>by simp at q; subst q e; exact⟨v,rfl,h⟩
 | .inl _::as,_,0,pv,_,q=>by simp at q
 | .inl x::as,_,k+1,pv,⟨v,r,e,_,h⟩,q=>by obtain⟨w,a,b⟩:=kl.own (k:=k) h (by simpa using q); subst e; exact⟨w,by simpa using a,b⟩
 | .inr x::as,_,k+1,pv,⟨v,r,e,_,h⟩,q=>by obtain⟨w,a,b⟩:=kl.own (k:=k) h (by simpa using q); subst e; exact⟨w,by simpa using a,b⟩
section
variable{K:az}{F F':af->Prop}{S S':Nat->af->Prop}{ε ss aR:ak}{σ:St}{H H':Hp}{as:List cC}{vs:List V}
def nI(as:List cC)(S:Nat->af->Prop)(k:Nat)(b:af):Prop:=∃ i,as[k]?=aa (.inr i)/\S i b
theorem yi(b:af)(h:U (nI as S) b):U S b:=let ⟨_,i,_,h⟩:=h; ⟨i,h⟩
theorem zb:∀ {as:List cC} {i k l:Nat},(cp as).Nodup->as[k]?=aa (.inr i)->as[l]?=aa (.inr i)->k=l
 | [],_,_,_,_,h,_=>by simp at h
 | .inl _::as,i,0,_,_,h,_=>by simp at h
 | .inl _::as,i,_,0,_,_,h=>by simp at h
 | .inl _::as,i,k+1,l+1,nd,h1,h2=>by rw[zb (as:=as) (i:=i) (k:=k) (l:=l) nd (by simpa using h1) (by simpa using h2)]
 | .inr j::as,i,0,0,_,_,_=>rfl
 | .inr j::as,i,0,l+1,nd,h1,h2=>by simp at h1; subst h1;exact absurd (Gw.mpr ⟨l,by simpa using h2⟩) (jJ.mp nd).1
 | .inr j::as,i,k+1,0,nd,h1,h2=>by simp at h2; subst h2;exact absurd (Gw.mpr ⟨k,by simpa using h1⟩) (jJ.mp nd).1
 | .inr j::as,i,k+1,l+1,nd,h1,h2=>by rw[zb (as:=as) (i:=i) (k:=k) (l:=l) (jJ.mp nd).2 (by simpa using h1) (by simpa using h2)]
theorem a_.cal(r:a_ K F S ε σ H)(ha:kl K σ F H as vs)(hs:dI ε as=aa ss)(nd:(cp as).Nodup):a_ K F (nI as S) ss (vs.map aa) H:=by
 obtain⟨hl,hg⟩:=yF hs;have up:∀ {k:Nat} {v:V},vs[k]?=aa v->(vs.map aa)[k]?=aa (aa v):=λ{k v} e=>by rw[jh,e]; rfl
 refine⟨by rw[hl,cD,ha.len],r.ex,λk pv e=>?_,λk po e=>?_,λk b h=>?_,λk l b h1 h2=>?_⟩
 ·rcases hg k _ e with⟨p,q1,q2⟩ | ⟨_,_,_,_,z⟩
  ·cases q2;obtain⟨v,a1,a2⟩:=ha.val q1;exact⟨v,up a1,a2⟩
  ·cases z
 ·rcases hg k _ e with⟨_,_,z⟩ | ⟨i,p,q1,q2,q3⟩
  ·cases z
  ·cases q3;obtain⟨v,a1,a2⟩:=ha.own q1;obtain⟨a,b1,b2⟩:=r.own i po q2;rw[a2]at b1;cases b1;have eS:nI as S k=S i:=by
    funext b;exact propext ⟨λ⟨j,h1,h2⟩=>by rw[q1]at h1; cases h1; exact h2,λh=>⟨i,q1,h⟩⟩
   exact⟨a,up a1,by rw[eS]; exact b2⟩
 ·obtain⟨i,h1,h2⟩:=h;obtain⟨⟨po,q⟩,q2⟩:=r.foot i b h2;have hk:k<ss.length:=by rw[hl]; exact(eE.mp h1).1
  refine⟨?_,q2⟩;rcases hg k ss[k] (by simp[hk])with⟨_,z,_⟩ | ⟨j,p,z1,z2,z3⟩
  ·rw[h1]at z; cases z
  ·exact⟨p,by rw[iB hk,z3]⟩
 ·obtain⟨i,a1,a2⟩:=h1;obtain⟨j,b1,b2⟩:=h2;have:=r.dist i j b a2 b2;subst this;exact zb nd a1 b1
theorem a_.called{O':af->Prop}(r:a_ K F S ε σ H)(ha:kl K σ F H as vs)(hs:dI ε as=aa ss)(nd:(cp as).Nodup)(r':a_ K F' S' aR (vs.map aa) H')(g:bY (U (nI as S)) O' F F' H H')(hO:∀ b,U S' b->O' b)(hso:∀ (k:Nat) i,as[k]?=aa (.inr i)->∃ po,aR[k]?=aa (.own po)) : ∃ S2,a_ K F' S2 (dN ε as aR) σ H'/\bY (U S) (U S2) F F' H H'/\∀ b,U S2 b->U S' b\/U S b:=by
 have up:∀ {k:Nat} {v:V},(vs.map aa)[k]?=aa (aa v)->vs[k]?=aa v:=λ{k v} e=>by
  rw[jh]at e;cases q:vs[k]? with
  | none=>rw[q]at e; cases e
  | some x=>rw[q]at e; cases e; rfl
 have fit:oV (U (nI as S)) F H:=λb h=>r.fit b (yi b h);have slen:∀ i po,ε[i]?=aa (.own po)->i<ε.length:=λi po e=>(eE.mp e).1;have lt:∀ (k:Nat) i,as[k]?=aa (.inr i)->i<ε.length:=λk i e=>by
  obtain⟨hl,hg⟩:=yF hs;have hk:k<ss.length:=by rw[hl]; exact(eE.mp e).1
  rcases hg k ss[k] (by simp[hk])with⟨_,z,_⟩ | ⟨j,p,z1,z2,z3⟩
  ·rw[e]at z; cases z
  ·rw[e]at z1; cases z1; exact slen _ _ z2
 refine⟨λj b=>(∃ k:Nat,as[k]?=aa (.inr j)/\S' k b)\/(j∉cp as/\S j b),⟨by rw[xB]; exact r.len,r'.ex,λj pv e=>?_,λj po e=>?_,λj b h=>?_,λi j b h1 h2=>?_⟩,⟨g.fro,λb o e n=>g.keep b o e λz=>n (yi b z),g.there,λa z=>(g.fnew a z).imp id λw=>w.imp id (yi a),λb ⟨j,z⟩=>?_⟩,λb ⟨j,z⟩=>?_⟩
 ·by_cases hj:j∈cp as
  ·obtain⟨k,hk⟩:=Gw.mp hj;obtain⟨po,q⟩:=hso k j hk;rw[ui as ε aR j k _ nd (lt k j hk) hk q]at e;cases e
  ·rw[sS as ε aR j hj]at e;obtain⟨v,h1,h2⟩:=r.val j pv e;exact⟨v,h1,h2.grow g fit⟩
 ·by_cases hj:j∈cp as
  ·obtain⟨k,hk⟩:=Gw.mp hj;obtain⟨po',q⟩:=hso k j hk;rw[ui as ε aR j k _ nd (lt k j hk) hk q]at e;cases e;obtain⟨a,h1,h2⟩:=r'.own k po q;obtain⟨v,a1,a2⟩:=ha.own hk;rw[up h1]at a1;cases a1;have eS:(λb=>(∃ k:Nat,as[k]?=aa (.inr j)/\S' k b)\/(j∉cp as/\S j b))=S' k:=by
    funext b;refine propext ⟨λz=>?_,λz=>.inl ⟨k,hk,z⟩⟩;rcases z with⟨l,z1,z2⟩ | ⟨z,_⟩
    ·rw[zb nd hk z1]; exact z2
    ·exact absurd hj z
   exact⟨a,a2,by rw[eS]; exact h2⟩
  ·rw[sS as ε aR j hj]at e;obtain⟨a,h1,h2⟩:=r.own j po e;have eS:(λb=>(∃ k:Nat,as[k]?=aa (.inr j)/\S' k b)\/(j∉cp as/\S j b))=S j:=by
    funext b;refine propext ⟨λz=>?_,λz=>.inr ⟨hj,z⟩⟩;rcases z with⟨l,z1,z2⟩ | ⟨_,z⟩
    ·exact absurd (Gw.mpr ⟨l,z1⟩) hj
    ·exact z
   have h3:gf K H' F' po a (S j):=by refine h2.mono (λ_ _ q=>q.grow g fit) (λ_ _ q=>q.grow g fit) λb o z q=>g.keep b o q λ⟨l,i,w1,w2⟩=>?_;have:=r.dist i j b w2 z;subst this;exact hj (Gw.mpr ⟨l,w1⟩)
   exact⟨a,h1,by rw[eS]; exact h3⟩
 ·rcases h with⟨k,h1,h2⟩ | ⟨h1,h2⟩
  ·obtain⟨⟨po,q⟩,q2⟩:=r'.foot k b h2;exact⟨⟨po,ui as ε aR j k _ nd (lt k j h1) h1 q⟩,q2⟩
  ·obtain⟨⟨po,q⟩,q2,o,q3,q4⟩:=r.foot j b h2;have no:¬ U (nI as S) b:=λ⟨l,i,w1,w2⟩=>by have:=r.dist i j b w2 h2;subst this;exact h1 (Gw.mpr ⟨l,w1⟩)
   refine⟨⟨po,by rw[sS as ε aR j h1]; exact q⟩,λz=>?_,o,g.keep b o q3 no,q4⟩;rcases g.fnew b z with w | w | w
   ·exact q2 w
   ·rw[q3]at w; cases w
   ·exact no w
 ·have cross:∀ {i j:Nat} {b:af},(∃ k:Nat,as[k]?=aa (.inr i)/\S' k b)->(j∉cp as/\S j b)->False:=λ{i j b} ⟨k,w1,w2⟩ ⟨w3,w4⟩=>by
   obtain⟨_,_,o,q3,_⟩:=r.foot j b w4;rcases g.onew b (hO b ⟨k,w2⟩)with⟨l,i',z1,z2⟩ | z
   ·have:=r.dist i' j b z2 w4;subst this;exact w3 (Gw.mpr ⟨l,z1⟩)
   ·rw[q3]at z; cases z
  rcases h1 with h1 | h1 <;> rcases h2 with h2 | h2
  ·obtain⟨k,a1,a2⟩:=h1;obtain⟨l,b1,b2⟩:=h2;have:=r'.dist k l b a2 b2;subst this;rw[a1]at b1; cases b1; rfl
  ·exact(cross h1 h2).elim
  ·exact(cross h2 h1).elim
  ·exact r.dist i j b h1.2 h2.2
 ·rcases z with⟨k,_,z⟩ | ⟨_,z⟩
  ·rcases g.onew b (hO b ⟨k,z⟩)with w | w
   ·exact .inl (yi b w)
   ·exact .inr w
  ·exact .inl ⟨j,z⟩
 ·rcases z with⟨k,_,z⟩ | ⟨_,z⟩
  ·exact .inl ⟨k,z⟩
  ·exact .inr ⟨j,z⟩
end
def DR(X:Cx)(E:XK)(e:aC)(d:ak->R Slot):Prop :=
 ∀ F S ε σ H Q,a_ X.K F S ε σ H->Ok X.K E σ F S H (d ε) (λs _ F' S' H'=>∀ v Sr,yC X.K H' F' s v Sr->(∀ b,Sr b->H b=ae/\¬ F' b/\¬ U S' b/\∃ o,H' b=aa o/\gJ o)->Q v H')->i5 X e σ H Q
def dY:List cC->ak->Bool
 | [],_=>ai
 | .inl _::as,_::ss=>dY as ss
 | .inr _::as,.own _::ss=>dY as ss
 | _,_=>ao
theorem qc:∀ {as:List cC} {ss:ak},dY as ss=ai->∀ (k:Nat) i,as[k]?=aa (.inr i)->∃ po,ss[k]?=aa (.own po)
 | [],_,_,k,i,h=>by simp at h
 | .inl _::as,s::ss,q,0,i,h=>by simp at h
 | .inl _::as,s::ss,q,k+1,i,h=>by simpa using qc (as:=as) (ss:=ss) (by unfold dY at q; exact q) k i (by simpa using h)
 | .inr _::as,.own po::ss,q,0,i,h=>⟨po,rfl⟩
 | .inr _::as,.own po::ss,q,k+1,i,h=>by simpa using qc (as:=as) (ss:=ss) (by unfold dY at q; exact q) k i (by simpa using h)
 | .inr _::as,.val _::ss,q,k,i,h=>by cases q
 | .inr _::as,.none::ss,q,k,i,h=>by cases q
 | .inl _::as,[],q,k,i,h=>by cases q
 | .inr _::as,[],q,k,i,h=>by cases q
def eK{α:Type}(ε:ak)(as:List cC)(r:R α):R α:=match r with
 | .ok s aR=>if dY as aR then .ok s (dN ε as aR)else .no
 | .er c aR=>if dY as aR then .er c (dN ε as aR)else .no
 | .no=>.no
def aG(g:ak->R Slot)(dg:ak->R (List cC)):ak->R Slot:=λε=>(dg ε).bind λas ε1=>(aS (if(cp as).Nodup then dI ε1 as else ae) ε1).bind λss ε1=>eK ε1 as (g ss)
section
variable{CX:fQ}{X:Cx}{E:XK}{pin:List Nat}{e:aC}{es:List aC}{dg:ak->R (List cC)}{pos:Pos}{x:Str}{k:Nat}{ps:List Str}{g:ak->R Slot}{p:Pos}{d:ak->R Slot}
theorem bU(c:cr CX X.prog X.w X.K X.mg X.base x k ps (b0 X.K g))(hr:Room k X.A)(hx:sD CX X E)(ha:DG X E (e::es) dg)(hg:Gl X x:=by rfl)(hd:(x == ("__debug__" : Str))=ao:=by decide) (h1:bu (e::es) X.env=(ao,bz e X.env)::bu es X.env:=by rfl) (h2:(f7 pos (bu es X.env)).any (·.1)=ao:=by rfl) : DR X E (.Call (.Name x p) (e::es) [] pos) (aG g dg):=λF S ε σ H Q rl h=>by
 obtain⟨f,fd,hm,Fn,hb,hk⟩:=c.ex;refine c7 (Fv Fn hr hg hm hk hb .nil hx iw hd h1 h2) (ha F S ε σ H _ rl ((Ok.bind h).imp λas ε1 F1 S1 H1 r1 g1 q vs av=>?_));have q:=Ok.bind q;by_cases nd:(cp as).Nodup
 ·rw[if_pos nd]at q;cases es:dI ε1 as with
  | none=>rw[es]at q; exact q.elim
  | some ss=>
   rw[es]at q;have q:=q F1 S1 H1 r1 (bY.refl ..);dsimp only at q;rw[jg];refine⟨F1,nI as S1,ss,r1.cal av es nd,?_⟩;cases eg:g ss with
   | no=>rw[eg]at q; exact q.elim
   | er cv aR=>
    rw[eg]at q;intro y F' S' H' r' g';unfold eK at q;dsimp only at q;by_cases kp:dY as aR=ai
    ·rw[if_pos kp]at q;obtain⟨S2,r2,g2,_⟩:=r1.called av es nd r' g' (λ_ z=>z) (qc kp);exact q y F' S2 H' r2 g2
    ·rw[if_neg kp]at q; exact q.elim
   | ok s aR=>
    rw[eg]at q;intro v F' S' H' Sr r' g' rv lo fr;unfold eK at q;dsimp only at q;by_cases kp:dY as aR=ai
    ·rw[if_pos kp]at q;obtain⟨S2,r2,g2,u2⟩:=r1.called av es nd r' g' (λ_ z=>.inl z) (qc kp);refine q F' S2 H' r2 g2 v Sr rv λb z=>⟨oS g1 (fr b z),(lo b z).1,λw=>?_,(lo b z).2.2⟩
     rcases u2 b w with w | ⟨i,w⟩
     ·exact(lo b z).2.1 w
     ·obtain⟨_,_,o,y1,_⟩:=r1.foot i b w;rw[fr b z]at y1; cases y1
    ·rw[if_neg kp]at q; exact q.elim
 ·rw[if_neg nd]at q; exact q.elim
def IA:Slot->Option PV
 | .val pv=>aa pv
 | .own (.lst xs)=>aa (.lst xs)
 | _=>ae
def aU(d:ak->R Slot):ak->R PV:=λε=>(d ε).bind λs ε1=>aS (IA s) ε1
def Qw:Slot->Option PO
 | .own po=>aa po
 | _=>ae
def kW(d:ak->R Slot):ak->R PO:=λε=>(d ε).bind λs ε1=>aS (Qw s) ε1
theorem DR.dn(h:DR X E e d):DN X E e (kW d):=λF S ε σ H Q rl q=>by
 unfold kW at q;refine h F S ε σ H Q rl ?_;cases e0:d ε with
 | no=>rw[e0]at q; exact q.elim
 | er c ε'=>rw[e0]at q; exact q
 | ok s ε1=>
  rw[e0]at q;cases s with
  | none=>exact q.elim
  | val pv=>exact q.elim
  | own po=>intro F1 S1 H1 r1 g1 v Sr rv fr;obtain⟨a,rfl,ow⟩:=rv;exact q F1 S1 H1 r1 g1 a Sr ow fr
theorem DR.de(h:DR X E e d):DE X E e (aU d):=λF S ε σ H Q rl q=>by
 unfold aU at q;cases e0:d ε with
 | no=>rw[e0]at q; exact q.elim
 | er c ε'=>refine h F S ε σ H Q rl ?_; rw[e0]at q ⊢; exact q
 | ok s ε1=>
  cases s with
  | none=>rw[e0]at q; exact q.elim
  | val pv=>refine h F S ε σ H Q rl ?_;rw[e0]at q ⊢;exact λF1 S1 H1 r1 g1 v Sr rv fr=>q F1 S1 H1 r1 g1 v rv.1
  | own po=>
   refine h.dn.de F S ε σ H Q rl ?_;unfold dF kW;rw[e0]at q ⊢;cases po with
   | lst xs=>exact q
   | dK kvs=>exact q
   | lls f8=>exact q
   | ins C fs=>exact q
def rP(d:ak->R Slot):ak->R aH:=λε=>(d ε).bind λs ε1=>.ok (.ret s) ε1
theorem xi(he:DR X E e d):DS X E pin (.Return (aa e) pos) (rP d):=λF S ε σ H D rl h=>by
 refine i_ (xD cA) (he F S ε σ H _ rl ?_);unfold rP at h;cases e0:d ε with
 | no=>rw[e0]at h; exact h.elim
 | er c ε'=>rw[e0]at h; exact λx F' S' H' r' g'=>h x F' S' σ H' r' g' (km.refl _ _)
 | ok s ε1=>rw[e0]at h;intro F1 S1 H1 r1 g1 v Sr rv fr;exact h v F1 S1 σ H1 Sr r1 ⟨g1.fro,g1.keep,g1.there,g1.fnew,λb z=>z.elim (g1.onew b) λw=>.inr (fr b w).1⟩ (km.refl _ _) rv λb z=>(fr b z).2
def lg(d:ak->R Slot):ak->R aH:=λε=>(d ε).bind λ_ ε1=>.ok .next ε1
theorem rE(he:DR X E e d)(hs:mV e ae pos.line X.env=pure ao:=by rfl):DS X E pin (.Expr e pos) (lg d):=λF S ε σ H D rl h=>i_ (Bj cA hs) (he F S ε σ H _ rl (h.bindE.imp λx ε1 F1 S1 H1 r1 g1 h1 v Sr rv fr=>h1 F1 S1 σ H1 r1 (bY.refl ..) (km.refl _ _)))
end
end Pu
namespace L2
section
variable{X:Cx}{ah:List (af×Obj)}{σ:St}{H:Hp}{s:aq}{scope:eG}{x:Str}{N':List Str}{cap:List Nat}
theorem Te{elt iter:aC}{y:Str}{px py pos spos:Pos}{i₀:Nat}{ifs:List aC}{wi:TI}{ts:TT}{te:TE}(B:mG X scope x N' cap)(hc:X.calm=ai)(hi:PI X (.Name x px) iter wi)(ht:∀ C s₀ H₀ ex pn,yz (cV X scope N' C s₀ H₀ ex pn) ifs ts) (he:∀ C s₀ H₀ ex pn,PE (cV X scope N' C s₀ H₀ ex pn) elt te) (hN:X.N.Nodup) (hiy:X.N[i₀]?=aa y) (hxy:Loc X.env.scope y) (hsw:mV (.ListComp elt [⟨.Name x px,iter,ifs,0⟩] scope pos) (aa (.Name y py)) spos.line X.env=pure ai) (hf:X.fn y=ai\/X.env.scope.names.lookup y=aa .local) (hs:∀ x,vL iter X.env x=pure x) : PS X (.Assign [.Name y py] (.ListComp elt [⟨.Name x px,iter,ifs,0⟩] scope pos) spos) (λD σ H=>Cr wi ts te cap σ H λv H'=>D.nx (σ.set i₀ (aa v)) H'):=by
 intro ah s σ H D I h;rw[exec_Assign_Name_used _ _ _ _ hsw];refine ar (wpAny_standAt (ar ?_));show ax _ X.A (do let _ ← comprehension (.ListComp elt [⟨.Name x px,iter,ifs,0⟩] scope pos) scope X.env _ (newList []) ao (bz iter X.env) (aa (assign (.Name y py) X.env))) _ _ s;refine ar (d_ (?_:ax _ X.A _ (λ_ s'=>SP X ah D .next s') X.xe s) (λ_ s' hq=>aD (aD hq)) λ_ _ e=>e);refine wpAny_comprehension_free (use:=aa (assign (.Name y py) X.env)) rfl hs (IJ (I.freeHas B)) B.kind B.names (aW (hi ah s σ H _ I h) λv s1 h1=>aW h1 λitv s2 h2=>?_);obtain⟨it,fp,tn,J,H2,e,I2,T,ba,f2,h2⟩:=h2;subst e;refine m8 ?_;have I3:Inv X ah σ (upd H2 s2.heap.objs.size (.lst [])) { s2 with heap:=s2.heap.push { cls:=.type "list",data:=.seq ([]:List am).toArray },toks:=s2.toks }:=I2.lnew (its:=[]) (t':=s2.toks) .nil (lj _);obtain⟨W,⟨m0,w0⟩,turn⟩:=h2 s2.heap.objs.size I2.fresh;generalize mf:({ s2 with heap:=s2.heap.push { cls:=.type "list",data:=.seq ([]:List am).toArray },toks:=s2.toks }:aq)=s3 at I3;have hs3':({ s2 with heap:=s2.heap.push { cls:=.type "list",data:=.seq ([]:List am).toArray } }:aq)=s3:=mf;generalize hH3:upd H2 s2.heap.objs.size (.lst [])=H3 at I3 w0;have nl:∀ b∈fp,b≠s2.heap.objs.size:=λb hb e=>by obtain⟨o,ho,_⟩:=T.obj _ _ ba b hb;exact absurd (bE ho) (by rw[e]; exact fG _)
 have k3:∀ b o,s2.heap.get? b=aa o->s3.heap.get? b=aa o:=λb o e=>by rw[← mf]; exact bK _ e
 have f3:∀ b∈fp,lh X ah H3 b:=λb hb=>⟨by rw[← hH3,cu (nl b hb)]; exact(f2 b hb).1,(f2 b hb).2⟩
 have bM:tn 0 s3.heap:=T.keep _ _ _ ba λb _ o e=>k3 b o e;have fo3:∀ b∈fp,∃ o,s3.heap.get? b=aa o:=λb hb=>(T.obj _ _ bM b hb).imp λo q=>q.1;refine GV ?_;generalize hh:zx (s3.heap.push { cls:=.type "dict",data:=.dict #[] }) scope.names=h₁;have old:∀ b o,s3.heap.get? b=aa o->h₁.get? b=aa o:=λb o e=>hh ▸ CU _ _ b o (bK _ e);have kH:h₁.Ns s3.heap.objs.size (λ_=>ae):=hh ▸ (Heap.Ns.new s3.heap (.type "dict")).keeps (CU _ _);have I4:=Inv.block (t':=s3.toks) hh.symm I3 B f3 fo3 kH old;have bX:tn 0 h₁:=T.keep _ _ _ bM λb _ o e=>old b o e;have statB:∀ {H':Hp},(∀ b∈fp,H' b=ae)->∀ b∈fp,lh (cV X scope N' s3.heap.objs.size s3 H3 fp ah) [] H' b:=λhn b hb=>by
  obtain⟨f0,f1,f2',f3',f4,f5⟩:=f3 b hb;refine⟨hn b hb,λe=>?_,λhf=>?_,.inl hb,λy c h=>?_,λp hp=>f5 p (by simpa[cV]using hp)⟩
  ·obtain⟨o,ho⟩:=fo3 b hb;exact absurd (bE ho) (by rw[show b=s3.heap.objs.size from e]; exact fG _)
  ·rcases ca.mp (I3.stkSub b hf)with z | z
   ·exact f1 z
   ·exact f2' z
  ·rcases I3.cbIn B h with⟨a1,a2⟩ | ⟨a1,a2⟩
   ·rintro rfl;obtain⟨o,ho⟩:=fo3 _ hb;exact vo (AE a1).2.1 (bE ho)
   ·exact f4 y c a2
 have Dz:Loc (cV X scope N' s3.heap.objs.size s3 H3 fp ah).env.scope x:=B.loc.elim (λh=>.inl (CV h)) (λh=>.inr (x_ h));have DQ:(cV X scope N' s3.heap.objs.size s3 H3 fp ah).fn x=ai\/(cV X scope N' s3.heap.objs.size s3 H3 fp ah).env.scope.names.lookup x=aa .local:=B.loc.elim (λh=>.inr (CV h)) (λh=>.inl (by show(scope.names.lookup x == aa .cell)=ai; rw[h]; rfl));have hN0:(cV X scope N' s3.heap.objs.size s3 H3 fp ah).N[0]?=aa x:=by show N'[0]?=aa x;rw[← List.head?_eq_getElem?]; exact B.hd
 have loop:pB (ay X.prog X.w) X.A (.compLoop (.ListComp elt [⟨.Name x px,iter,ifs,0⟩] scope pos) 0 (.ref it) (.ref s2.heap.objs.size) (compEnvC scope (lz X scope s3.heap.objs.size) s3.heap.objs.size X.env))
   (compPost (ay X.prog X.w) X.A X.xe (aa (assign (.Name y py) X.env)) (λ_ s'=>SP X ah D .next s') (.ref s2.heap.objs.size) s3.heap.objs.size) { s3 with heap:=h₁,toks:=s3.toks }:=by
  refine FH (λn s'=>∃ i ys σ' H',(∃ v0,σ'=v0::jw σ cap)/\Inv (cV X scope N' s3.heap.objs.size s3 H3 fp ah) [] σ' H' s'/\tn i s'.heap/\(∀ b∈fp,H' b=ae)/\W i n ys H') ?_ m0
   ⟨0,[],_,H3,⟨ae,rfl⟩,I4,bX,λb hb=>(f3 b hb).1,w0⟩
  rintro n s5 ⟨i,ys,σ5,H5,⟨v0,rfl⟩,I5,cq,fr5,w5⟩;rcases turn i n ys H5 w5 with⟨stop,q⟩ | ⟨go,step⟩
  ·refine d_ (T.done (cV X scope N' s3.heap.objs.size s3 H3 fp ah) rfl rfl rfl hc i [] s5 _ H5 (λ_ _=>False) I5 (statB fr5) cq stop) (λr s6 ⟨hr,I6⟩=>?_) (λ_ _ f=>f.elim);subst hr;obtain⟨mm,hn6,_⟩:=I6.loc;have J6:Inv X ah σ H5 s6:=I3.unblock f3 I6 (vT _ _);have nlc:s3.heap.objs.size≠X.env.locals:=λe=>absurd I3.lt (by rw[← e]; exact fG _);have nce:∀ z c,X.env.cells.lookup z=aa c->c≠s3.heap.objs.size:=λz c e e2=>by obtain⟨vv,oo,ho,_⟩:=I3.cell z c e;exact absurd (bE ho) (by rw[e2]; exact fG _)
   refine CD (HP (v:=.ref s2.heap.objs.size) J6 hN hiy hxy rfl (λs7 I7 ⟨a7,sb7,ha7⟩=>?_) hf);have na7:s3.heap.objs.size≠a7:=by
    rcases ha7 with z | z
    ·rw[z]; exact nlc
    ·exact(nce _ _ z).symm
   refine⟨mm,hn6.sameBut sb7 na7,λig sb=>⟨_,H5,?_,q⟩⟩;have hC5:H5 s3.heap.objs.size=ae:=I6.free;refine I7.call' (s':={ s7 with heap:=ig }) (ch:=[s3.heap.objs.size]) rfl ⟨λb o e n hb hx=>?_,λb o e n hb hx=>?_,λb o e n hx=>n,λb o e hx=>?_,λb xs e=>e,λb o u e=>e,λb ps e=>e⟩ ?_ I7.bare λb hb=>?_
   ·exact(sb.2 b (by simpa using hx)).trans e
   ·exact⟨o.slots,(sb.2 b (by simpa using hx)).trans (by simpa using e)⟩
   ·exact⟨o,(sb.2 b (by simpa using hx)).trans e⟩
   ·intro b u e;refine(I7.hok b u e).stay (λc v hc q=>(sb.2 c ?_).trans q) (λ_ q=>q) λ_ _ q=>q;rintro rfl;rcases hc with z | z
    ·rw[← z,hC5]at e; cases e
    ·rw[hC5]at z; cases z
   ·have e:b=s3.heap.objs.size:=by simpa using hb
    subst e;refine⟨.inr I3.sz,nlc,nce,λp hp e2=>?_⟩;obtain⟨e3,_⟩:=I3.pin p hp;exact absurd (bE e3) (by rw[e2]; exact fG _)
  ·refine d_ (T.item (cV X scope N' s3.heap.objs.size s3 H3 fp ah) rfl rfl rfl hc i [] s5 _ H5 (λ_ _=>False) I5 (statB fr5) cq go) (λr s6 ⟨u,hr,h6⟩=>?_) (λ_ _ f=>f.elim);subst hr;refine d_ h6 (λ_ s7 ⟨v,H7,I7,r7,y7,qX,fr7⟩=>?_) (λ_ _ f=>f.elim);have I7':=I7.pinned (statB fr7) (T.obj _ _ qX);have back:∀ {σ8:St} {H8:Hp} {s8:aq},Inv (cV X scope N' s3.heap.objs.size s3 H3 fp ah) ([]++sO fp s7.heap) σ8 H8 s8->tn (i+1) s8.heap/\(∀ b∈fp,H8 b=ae):=λ{σ8 H8 s8} I8=>⟨T.keep _ _ _ qX λb hb o e=>(I8.pin (b,o) (j2 _ (j2 _ (sK hb e)))).1,λb hb=>by obtain⟨o,e,d⟩:=T.obj _ _ qX b hb;exact(I8.pin (b,o) (j2 _ (j2 _ (sK hb e)))).2.1⟩
   refine CD (yE (v:=v) I7' B.nd hN0 Dz r7 (λs8 I8=>?_) DQ);refine aW (ht _ _ _ _ _ _ s8 _ H7 _ I8 (step v H7 y7)) λb s9 ⟨H9,I9,q9⟩=>?_;cases b with
   | false=>
    obtain⟨m',hm,w9⟩:=(show ∃ m',m'<n/\W (i+1) m' ys H9 from q9)
    exact⟨m',hm,i+1,ys,_,H9,⟨aa v,rfl⟩,I9.unpinned,(back I9).1,(back I9).2,w9⟩
   | true=>refine aW (he _ _ _ _ _ _ s9 _ H9 _ I9 q9) λu10 s10 ⟨y,H10,I10,r10,DU,DV,m',hm,w10⟩=>?_;refine aW (Bh _ s10 _ H10 (.ref s2.heap.objs.size) [y] _ [u10] (λz H11=>H11=upd H10 s2.heap.objs.size (.lst (ys++[y]))) I10 rfl (.cons r10 .nil) ⟨_,ys,y,rfl,rfl,DU,DV,rfl⟩) λ_ s11 ⟨_,H11,I11,_,e11⟩=>?_;subst e11;exact⟨m',hm,i+1,ys++[y],_,_,⟨aa v,rfl⟩,I11.unpinned,(back I11).1,(back I11).2,w10⟩
 exact codeAny_compStart_list loop (T.self _ 0 _ _ _ bX loop)
end
end L2
namespace Pu
open L2
def dR(ε:ak):List Nat->Option (List cC)
 | []=>aa []
 | j::cap=>match ε[j]? with
  | some (.val pv)=>(dR ε cap).map (.inl pv::·)
  | some (.own _)=>(dR ε cap).map (.inr j::·)
  | _=>ae
def dX{α:Type}(cap:List Nat)(d:ak->R α)(x:PV):ak->R α:=λε=>(aS (dR ε cap) ε).bind λas _=>(aS (if(cp as).Nodup then dI ε (.inl x::as)else ae) ε).bind λss _=>eK ε (.inl x::as) (d ss)
def cX{α:Type}(r:R α):R α:=match r with
 | .er _ _=>.no
 | r=>r
def kY(cap:List Nat)(dt:ak->R Bool)(de:ak->R PV):List PV->List PV->ak->R (List PV)
 | [],au,ε=>.ok au ε
 | x::xs,au,ε=>(cX (dX cap dt x ε)).bind λk ε1=>match k with
  | true=>(cX (dX cap de x ε1)).bind λy ε2=>kY cap dt de xs (au++[y]) ε2
  | false=>kY cap dt de xs au ε1
def c9(cap:List Nat)(di:ak->R (List PV))(dt:ak->R Bool)(de:ak->R PV):ak->R PO:=λε=>(di ε).bind λxs ε1=>(kY cap dt de xs [] ε1).bind λys ε2=>.ok (.lst ys) ε2
theorem Ac{K:az}{F:af->Prop}{S:Nat->af->Prop}{ε:ak}{σ:St}{H:Hp}(r:a_ K F S ε σ H):∀ {cap:List Nat} {as:List cC},dR ε cap=aa as->∃ vs,kl K σ F H as vs/\jw σ cap=vs.map aa
 | [],as,h=>by cases h; exact⟨[],rfl,rfl⟩
 | j::cap,as,h=>by
  unfold dR at h;split at h
  ·rename_i pv e;cases q:dR ε cap with
   | none=>rw[q]at h; cases h
   | some bs=>
    rw[q]at h; cases h;obtain⟨vs,h1,h2⟩:=Ac r q;obtain⟨v,e1,e2⟩:=r.val j pv e;refine⟨v::vs,⟨v,vs,rfl,e2,h1⟩,?_⟩;show(σ[j]?).join::jw σ cap=_;rw[e1,h2]; rfl
  ·rename_i po e;cases q:dR ε cap with
   | none=>rw[q]at h; cases h
   | some bs=>
    rw[q]at h; cases h;obtain⟨vs,h1,h2⟩:=Ac r q;obtain⟨a,e1,e2⟩:=r.own j po e;refine⟨.ref a::vs,⟨_,vs,rfl,e1,h1⟩,?_⟩;show(σ[j]?).join::jw σ cap=_;rw[e1,h2]; rfl
  ·cases h
theorem EM{K:az}{E:XK}{F:af->Prop}{S:Nat->af->Prop}{ε:ak}{σ:St}{H:Hp}{α:Type}{cap:List Nat}{d:ak->R α}{x:PV}{v:V}{C:α->ak->(af->Prop)->(Nat->af->Prop)->Hp->Prop}(r:a_ K F S ε σ H) (rx:bi K H F x v) (h:Ok K E σ F S H (cX (dX cap d x ε)) C) : ∃ Sb ss,a_ K F Sb ss (aa v::jw σ cap) H/\Ok K E0 (aa v::jw σ cap) F Sb H (d ss) (λa _ F' _ H'=>∃ ε' S',a_ K F' S' ε' σ H'/\bY (U S) (U S') F F' H H'/\C a ε' F' S' H'):=by
 unfold dX at h;cases ec:dR ε cap with
 | none=>rw[ec]at h; exact h.elim
 | some as=>
  rw[ec]at h;simp only[dO,R.bind_ok]at h;by_cases nd:(cp as).Nodup
  ·rw[if_pos nd]at h;cases es:dI ε (.inl x::as)with
   | none=>rw[es]at h; exact h.elim
   | some ss=>
    rw[es]at h;simp only[dO,R.bind_ok]at h;obtain⟨vs,av,ev⟩:=Ac r ec;have av':kl K σ F H (.inl x::as) (v::vs):=⟨v,vs,rfl,rx,av⟩
    have eσ:aa v::jw σ cap=(v::vs).map aa:=by rw[ev]; rfl
    have nd':(cp (.inl x::as)).Nodup:=nd;refine⟨nI (.inl x::as) S,ss,by rw[eσ]; exact r.cal av' es nd',?_⟩;rw[eσ];cases ed:d ss with
    | no=>rw[ed]at h; exact h.elim
    | er c aR=>
     rw[ed]at h;unfold eK at h;dsimp only at h;by_cases kp:dY (.inl x::as) aR=ai
     ·rw[if_pos kp]at h; exact h.elim
     ·rw[if_neg kp]at h; exact h.elim
    | ok a aR=>
     rw[ed]at h;intro F' S' H' r' g';unfold eK at h;dsimp only at h;by_cases kp:dY (.inl x::as) aR=ai
     ·rw[if_pos kp]at h;obtain⟨S2,r2,g2,_⟩:=r.called av' es nd' r' g' (λ_ z=>z) (qc kp);exact⟨_,S2,r2,g2,h F' S2 H' r2 g2⟩
     ·rw[if_neg kp]at h; exact h.elim
  ·rw[if_neg nd]at h; exact h.elim
def ym(X:Cx)(ifs:List aC):TT:=λσ H Q=>Bx (∀ ah s,Inv X ah σ H s->ax (ay X.prog X.w) X.A (forIn ifs ai λc r=>if r=ai then do let ok ← n8 c X.env (bz c X.env); pure (ForInStep.yield ok)else pure (ForInStep.yield r)) (TP X ah σ Q) X.xe s)
def DF(X:Cx)(E:XK)(ifs:List aC)(d:ak->R Bool):Prop:=∀ F S ε σ H Q,a_ X.K F S ε σ H->Ok X.K E σ F S H (d ε) (λb _ _ _ H'=>Q b H')->ym X ifs σ H Q
def dW:ak->R Bool:=λε=>.ok ai ε
theorem oP{X:Cx}{E:XK}:DF X E [] dW:=λF S ε σ H Q rl h=>⟨λah s I=>NV ah s σ H Q I (h F S H rl (bY.refl ..))⟩
theorem yj{X:Cx}{E:XK}{c:aC}{d:ak->R Bool}(h:DT X E c d):DF X E [c] d:=λF S ε σ H Q rl q=>⟨λah s I=>Ud sy ah s σ H Q I (h F S ε σ H Q rl q)⟩
theorem Ok.bindB{K:az}{E:XK}{σ:St}{F F1:af->Prop}{S S1:Nat->af->Prop}{H H1:Hp}{α β:Type}{D:β->ak->(af->Prop)->(Nat->af->Prop)->Hp->Prop}{r:R α}{k:α->ak->R β}(h:Ok K E σ F S H (r.bind k) D)(g:bY (U S) (U S1) F F1 H H1) : Ok K E σ F1 S1 H1 r (λa ε1 _ _ _=>Ok K E σ F S H (k a ε1) D):=by
 cases r with
 | no=>exact h
 | er c ε'=>exact λx F' S' H' r' g'=>h x F' S' H' r' (g.trans g')
 | ok a ε'=>exact λF' S' H' r' g'=>h
section
variable{X:Cx}{E:XK}{scope:eG}{x:Str}{N':List Str}{cap:List Nat}
theorem bY.stay{O O' F F':af->Prop}{H H':Hp}(g:bY O O' F F' H H'){l:af}{o:HO}(e:H l=aa o)(n:¬ O l)(nF:¬ F l):H' l=aa o/\¬ F' l/\¬ O' l :=
 ⟨g.keep l o e n,λz=>(g.fnew l z).elim nF λw=>w.elim (λq=>by rw[e]at q; cases q) n,λz=>(g.onew l z).elim n λq=>by rw[e]at q; cases q⟩
theorem GJ{elt iter:aC}{px:Pos}{ifs:List aC}{di:ak->R (List PV)}{dt:ak->R Bool}{de:ak->R PV}(hi:DI X E (.Name x px) iter di)(ht:∀ C s₀ H₀ ex pn,DF (cV X scope N' C s₀ H₀ ex pn) E0 ifs dt) (he:∀ C s₀ H₀ ex pn,DE (cV X scope N' C s₀ H₀ ex pn) E0 elt de){F:af->Prop} {S:Nat->af->Prop} {ε:ak} {σ:St} {H:Hp} {Q:VK} (rl:a_ X.K F S ε σ H) (h:Ok X.K E σ F S H (c9 cap di dt de ε) (λpo _ F' S' H'=>∀ a Sa,gf X.K H' F' po a Sa->(∀ b,Sa b->H b=ae/\¬ F' b/\¬ U S' b/\∃ o,H' b=aa o/\gJ o)->Q (.ref a) H')) : Cr (sX X (.Name x px) iter) (λσ H Q=>∀ C s₀ H₀ ex pn,ym (cV X scope N' C s₀ H₀ ex pn) ifs σ H Q) (λσ H Q=>∀ C s₀ H₀ ex pn,i5 (cV X scope N' C s₀ H₀ ex pn) elt σ H Q) cap σ H Q:=by
 refine hi F S ε σ H _ rl ((Ok.bind h).imp λxs ε1 F1 S1 H1 r1 g1 h1 J vs RR rs hz hw keep l hl=>?_);have h1:=h1.bind;have hvl:vs.length=xs.length:=rs.len;have a0:Al F1 F1 H1 (upd H1 l (.lst [])):=Al.new0 hl;have nF1:¬ F1 l:=λz=>by obtain⟨o,q⟩:=r1.ex l z; rw[hl]at q; cases q
 have nS1:¬ U S1 l:=λ⟨i,z⟩=>by obtain⟨_,_,o,q,_⟩:=r1.foot i l z; rw[hl]at q; cases q
 have hH:H l=ae:=oS g1 hl;refine⟨λi m ys H'=>m=xs.length-i/\i<=xs.length/\∃ F' S' ε' au,a_ X.K F' S' ε' σ H'/\bY (U S1) (U S') F1 F' H1 H'/\H' l=aa (.lst ys)/\¬ F' l/\¬ U S' l/\bq X.K H' F' au ys/\ys.length<=i /\ Ok X.K E σ F1 S1 H1 (kY cap dt de (xs.drop i) au ε') (λys' ε2 F2 S2 H2=>Ok X.K E σ F2 S2 H2 (R.ok (PO.lst ys') ε2) (λpo _ F' S' H'=>∀ a Sa,gf X.K H' F' po a Sa->(∀ b,Sa b->H b=ae/\¬ F' b/\¬ U S' b/\∃ o,H' b=aa o/\gJ o)->Q (.ref a) H')),⟨_,rfl,lj _,F1,S1,ε1,[],r1.al a0,a0.grow,cF,nF1,nS1,rfl,bo _,h1⟩,?_⟩;rintro i m ys H2 ⟨rfl,hi,F2,S2,ε2,au,r2,g2,el,nF2,nS2,racc,hyl,q2⟩;have RH:=keep S2 F2 H2 g2;by_cases bv:i<xs.length
 ·obtain⟨v,hv⟩:∃ v,vs[i]?=aa v:=⟨_,iB ∅⟩
  obtain⟨go,yl⟩:=(hw H2 RH i).1 v hv;refine .inr ⟨go,λv' H' y=>?_⟩;obtain⟨e1,e2⟩:=yl v' H' y;subst e1 e2;obtain⟨px',hx,rx⟩:=rs.back hv;have ed:xs.drop i=px'::xs.drop (i+1):=by rw[zG bv];congr 1;exact(eE.mp hx).2
  rw[ed]at q2;have rx2:=rx.grow g2 r1.fit;have q3:=Ok.bindB q2 g2;obtain⟨Sb,ss,rb,okb⟩:=EM r2 rx2 q3;intro C s₀ H₀ ex pn;refine ht C s₀ H₀ ex pn F2 Sb ss _ H' _ rb (okb.imp λb _ F3 _ H3 _ _ ⟨ε3,S3,r3,g3,q4⟩=>?_);obtain⟨el3,nF3,nS3⟩:=g3.stay el nS2 nF2;cases b with
  | false=>exact rY ⟨_,∅,rfl,bv,F3,S3,ε3,au,r3,g2.trans g3,el3,nF3,nS3,racc.grow g3 r2.fit,∅,q4⟩
  | true=>
   refine sE ?_;have q5:Ok X.K E σ F1 S1 H1 ((cX (dX cap de px' ε3)).bind λy ε2=>kY cap dt de (xs.drop (i+1)) (au++[y]) ε2) _:=q4;obtain⟨Sc,sc,rc,okc⟩:=EM r3 (rx2.grow g3 r2.fit) (Ok.bindB q5 (g2.trans g3));intro C s₀ H₀ ex pn;refine he C s₀ H₀ ex pn F3 Sc sc _ H3 _ rc (okc.imp λy _ F4 _ H4 _ _ ⟨ε4,S4,r4,g4,q6⟩ u ru=>?_);obtain⟨el4,nF4,nS4⟩:=g4.stay el3 nS3 nF3;have racc4:=(racc.grow g3 r2.fit).grow g4 r3.fit;have gl:bY (λb=>U S4 b\/b=l) (U S4) F4 F4 H4 (upd H4 l (.lst (ys++[u]))):=⟨λ_ z=>z,λb o e n=>by rw[cu λz=>n (.inr z)]; exact e,λb o e=>by
    by_cases hb:b=l
    ·subst hb; exact⟨_,cF⟩
    ·exact⟨o,by rw[cu hb]; exact e⟩,λ_ z=>.inl z,λ_ z=>.inl (.inl z)⟩
   have fit4:oV (λb=>U S4 b\/b=l) F4 H4:=λb z=>by
    rcases z with z | rfl
    ·exact r4.fit b z
    ·exact⟨nF4,_,el4,trivial⟩
   have r5:a_ X.K F4 S4 ε4 σ (upd H4 l (.lst (ys++[u]))):=by
    refine⟨r4.len,λb z=>let ⟨o,q⟩:=r4.ex b z; gl.there b o q,λj pv e=>?_,λj po e=>?_,λj b z=>?_,r4.dist⟩
    ·obtain⟨w,x1,x2⟩:=r4.val j pv e; exact⟨w,x1,x2.grow gl fit4⟩
    ·obtain⟨w,x1,x2⟩:=r4.own j po e;refine⟨w,x1,x2.mono (λ_ _ q=>q.grow gl fit4) (λ_ _ q=>q.grow gl fit4) λb o z q=>?_⟩;rw[cu (by rintro rfl; exact nS4 ⟨j,z⟩)]; exact q
    ·obtain⟨x1,x2,o,x3,x4⟩:=r4.foot j b z;exact⟨x1,x2,o,by rw[cu (by rintro rfl; exact nS4 ⟨j,z⟩)]; exact x3,x4⟩
   have g5:bY (U S1) (U S4) F1 F4 H1 (upd H4 l (.lst (ys++[u]))):=by
    have gg:=(g2.trans g3).trans g4;refine⟨gg.fro,λb o e n=>?_,λb o e=>?_,gg.fnew,gg.onew⟩
    ·rw[cu (by rintro rfl; rw[hl]at e; cases e)]; exact gg.keep b o e n
    ·obtain⟨o',q⟩:=gg.there b o e; exact gl.there b o' q
   refine⟨el4,?_,_,∅,rfl,bv,F4,S4,ε4,au++[y],r5,g5,cF,nF4,nS4,(racc4.grow gl fit4).app (.one (ru.grow gl fit4)),by simp; lia,q6⟩;lia
 ·have e:i=xs.length:=∅
  subst e;refine .inl ⟨(hw H2 RH _).2 hvl.symm,?_⟩;rw[JW]at q2;exact q2 F2 S2 H2 r2 g2 F2 S2 H2 r2 (bY.refl ..) l (λb=>b=l) ⟨⟨ys,el,racc⟩,λb=>Iff.rfl⟩ λb z=>by subst z; exact⟨hH,nF2,nS2,_,el,trivial⟩
theorem mq{elt iter:aC}{px pos:Pos}{ifs:List aC}{di:ak->R (List PV)}{dt:ak->R Bool}{de:ak->R PV}(B:mG X scope x N' cap)(hc:X.calm=ai)(hi:DI X E (.Name x px) iter di)(ht:∀ C s₀ H₀ ex pn,DF (cV X scope N' C s₀ H₀ ex pn) E0 ifs dt) (he:∀ C s₀ H₀ ex pn,DE (cV X scope N' C s₀ H₀ ex pn) E0 elt de) (hs:∀ x,vL iter X.env x=pure x:=by intro _; rfl) : DN X E (.ListComp elt [⟨.Name x px,iter,ifs,0⟩] scope pos) (c9 cap di dt de):=λF S ε σ H Q rl h=>c7 (OA (wi:=sX X (.Name x px) iter) (ts:=λσ H Q=>∀ C s₀ H₀ ex pn,ym (cV X scope N' C s₀ H₀ ex pn) ifs σ H Q) (te:=λσ H Q=>∀ C s₀ H₀ ex pn,i5 (cV X scope N' C s₀ H₀ ex pn) elt σ H Q) (pos:=pos) B hc Cs (λC s₀ H₀ ex pn ah s σ H Q I h=>(h C s₀ H₀ ex pn).run ah s I) (λC s₀ H₀ ex pn ah s σ H Q I h=>(h C s₀ H₀ ex pn).run ah s I) hs) (GJ hi ht he rl h)
end
theorem MH(x y:Tx):tS x++tS y=tS (x++y):=by
 show(⟨x.toArray++y.toArray⟩:Str)=⟨(x++y).toArray⟩
 simp
def aL:PV->PV->Option PV
 | .int i,.int j=>aa (.int (i+j))
 | .str x,.str y=>if(x++y).length<=bI then aa (.str (x++y))else ae
 | .tup xs,.tup ys=>if xs≠[]/\ys≠[]/\xs.length+ys.length<=1000 then aa (.tup (xs++ys))else ae
 | .lst xs,.lst ys=>if xs.length+ys.length<=bI then aa (.lst (xs++ys))else ae
 | _,_=>ae
def cz:PV->PV->Option PV
 | .int i,.int j=>aa (.int (i-j))
 | _,_=>ae
def vn(i:Int):Bool:=decide (-(2 ^ 64)<i/\i<2 ^ 64)
def iS:PV->PV->Option PV
 | .int i,.int j=>if vn i || vn j then aa (.int (i * j))else ae
 | .str x,.int j=>if 0<=j/\j<=100/\x.length<=100 then aa (.str (bH j.toNat x).flatten)else ae
 | _,_=>ae
def ge:PV->PV->Option PV
 | .int i,.int j=>if 0<j then aa (.int (i % j))else ae
 | _,_=>ae
def uI:PV->PV->Option PV
 | .int i,.int j=>if 0<=j/\j<=1000000/\i.natAbs<2 ^ 64 then aa (.int (i ^ j.toNat))else ae
 | _,_=>ae
def dU:PV->Option PV
 | .int i=>aa (.int (-i))
 | _=>ae
def Ha:R2:=λx y H Q=>∃ l b xs zs,x = .ref l/\y = .ref b/\Rd H l (.lst xs)/\Rd H b (.lst zs)/\xs.length+zs.length<=bx/\∀ p,H p=ae->Q (.ref p) (upd H p (.lst (xs++zs)))
def Gc(K:az):R2:=λx y H Q=>((mw λi j=>V.int (i+j)) x y H Q\/∃ i j,x = .str i/\y = .str j/\i.length+j.length<=bx/\Q (.str (i++j)) H)\/(Fy K x y H Q\/Ha x y H Q)
def Hi:R2:=λx y H Q=>rI Bv (λi j=>.int (i * j)) x y H Q\/∃ (z:Tx) (n:Nat),x=tV z/\y = .int n/\n<=100/\z.length<=100/\Q (tV (bH n z).flatten) H
section
variable{X:Cx}{K:az}
theorem i4:P2 K (mw λi j=>.int (i-j)) cz:=λF H x y v u Q pv rx ry e q=>by
 unfold cz at e;split at e
 ·cases e; exact⟨_,_,rx,ry,q _ F H (Al.refl ..) rfl⟩
 ·cases e
theorem tf:P2 K (rI (λ_ j=>0<j) λi j=>.int (i % j)) ge:=λF H x y v u Q pv rx ry e q=>by
 unfold ge at e;split at e
 ·split at e
  ·cases e; exact⟨_,_,rx,ry,by assumption,q _ F H (Al.refl ..) rfl⟩
  ·cases e
 ·cases e
theorem Ug:P2 K (rI FX λi j=>.int (i ^ j.toNat)) uI:=λF H x y v u Q pv rx ry e q=>by
 unfold uI at e;split at e
 ·split at e
  ·cases e; exact⟨_,_,rx,ry,by assumption,q _ F H (Al.refl ..) rfl⟩
  ·cases e
 ·cases e
theorem mR:P1 K (rU λi=>.int (-i)) dU:=λF H x v Q pv rx e q=>by
 unfold dU at e;split at e
 ·cases e; exact⟨_,rx,q _ F H (Al.refl ..) rfl⟩
 ·cases e
theorem BO{ah:List (af×Obj)}{σ:St}{H:Hp}{s:aq}{l:af}{xs:List V}(I:Inv X ah σ H s)(h:Rd H l (.lst xs)):∃ (its:List am) (n:Nat),bJ xs its/\s.heap.get? l=aa { cls:=.type "list",data:=.seq its.toArray n }/\xs.length<=bx:=by obtain⟨z,its,n,r,e⟩:=h.ok I.hok;exact⟨its,n,r,e,z⟩
theorem Nw:cx X (jI .Add) Ha:=by
 intro ah s σ H x y v u Q I rx ry h;obtain⟨l,b,xs,zs,rfl,rfl,hl,hb,hz,q⟩:=h;cases rx;cases ry;obtain⟨its,n,r,e,_⟩:=BO I hl;obtain⟨its2,n2,r2,e2,_⟩:=BO I hb;have hl:=r.length;have kJ:=r2.length;refine PySem.P.add_list e e2 ?_ (by rw[dH,dH]; lia);have ea:its.toArray++its2.toArray=(its++its2).toArray:=by simp
 rw[ea];exact⟨.ref _,_,I.lnew (t':=s.toks) (r.append r2) (by rw[cZ]; lia),rfl,q _ I.fresh⟩
theorem dr:cx X (jI .Add) (Gc X.K):=(UZ.or Nk).or (UT.or Nw)
theorem dj:P2 K (Gc K) aL:=λF H x y v u Q pv rx ry e q=>by
 unfold aL at e;split at e
 ·cases e; exact .inl (.inl ⟨_,_,rx,ry,q _ F H (Al.refl ..) rfl⟩)
 ·rename_i x y;split at e
  ·rename_i hl;cases e;refine .inl (.inr ⟨_,_,rx.1,ry.1,?_,?_⟩)
   ·rw[mH,mH]; rw[cZ]at hl; exact cL hl nE
   ·exact q _ F H (Al.refl ..) ⟨by rw[MH]; rfl,hl⟩
  ·cases e
 ·rename_i xs ys;split at e
  ·rename_i hl;cases e;obtain⟨a,vs,rfl,ha,ra⟩:=rx;obtain⟨b,ws,rfl,hb,rb⟩:=ry;have la:=ra.len;have lb:=rb.len;refine .inr (.inl ⟨a,b,vs,ws,rfl,rfl,dz.of ha,dz.of hb,λz=>hl.1 (by rw[z]at la; exact zA la.symm),by rw[la,lb]; exact AV hl.2.2,λz=>absurd (by rw[z]at lb; exact zA lb.symm) hl.2.1,λ_ p hp=>?_⟩);exact q _ F _ (Al.new0 hp) ⟨p,_,rfl,cF,(Al.new0 hp).reps (ra.app rb)⟩
  ·cases e
 ·rename_i xs ys;split at e
  ·rename_i hl;cases e;obtain⟨a,vs,rfl,ha,fa,ra⟩:=rx;obtain⟨b,ws,rfl,hb,fb,rb⟩:=ry;have la:=ra.len;have lb:=rb.len;refine .inr (.inr ⟨a,b,vs,ws,rfl,rfl,ha,hb,by rw[la,lb]; exact cL hl nE,λp hp=>?_⟩);exact q _ _ _ (Al.new hp) ⟨p,_,rfl,.inl cF,.inr rfl,(Al.new hp).reps (ra.app rb)⟩
  ·cases e
 ·cases e
theorem uR:cx X (jI .Mult) Hi:=UK.or P_
theorem uF:P2 K Hi iS:=λF H x y v u Q pv rx ry e q=>by
 unfold iS at e;split at e
 ·rename_i i j;split at e
  ·rename_i h;cases e;refine .inl ⟨_,_,rx,ry,?_,q _ F H (Al.refl ..) rfl⟩;rw[zB]at h;exact h.imp of_decide_eq_true of_decide_eq_true
  ·cases e
 ·rename_i x j;split at e
  ·rename_i h;cases e;refine .inr ⟨x,j.toNat,rx.1,?_,∅,h.2.2,q _ F H (Al.refl ..) ⟨rfl,?_⟩⟩
   ·rw[show u=V.int j from ry]; congr 1; lia
   ·rw[OS];have h1:j.toNat<=100:=∅
    exact cL (C6 h1 h.2.2) (by decide)
  ·cases e
 ·cases e
def jt(f:Int->Int->Bool):PV->PV->Option PV
 | .int i,.int j=>aa (.bl (f i j))
 | _,_=>ae
theorem lI{f:Int->Int->Bool}:P2 K (mw λi j=>.bl (f i j)) (jt f):=λF H x y v u Q pv rx ry e q=>by
 unfold jt at e;split at e
 ·cases e; exact⟨_,_,rx,ry,q _ F H (Al.refl ..) rfl⟩
 ·cases e
def fI:PV->Option V
 | .non=>aa .non
 | .bl b=>aa (.bl b)
 | .int i=>aa (.int i)
 | .str x=>aa (tV x)
 | _=>ae
theorem lw{H:Hp}{F:af->Prop}{x:PV}{v w:V}(r:bi K H F x v)(e:fI x=aa w):v=w:=by
 cases x <;> simp[fI]at e <;> subst e
 ·exact r
 ·exact r
 ·exact r
 ·exact r.1
theorem z6{x:PV}{w:V}(e:fI x=aa w):ku w=ai:=by
 cases x <;> simp[fI]at e <;> subst e <;> rfl
mutual
def cY:PV->PV->Option Bool
 | .tup xs,y=>match y with
  | .tup ys=>iu xs ys
  | _=>ae
 | .lst xs,y=>match y with
  | .lst ys=>iu xs ys
  | _=>ae
 | .non,y=>(fI y).map (jX .non)
 | .bl b,y=>(fI y).map (jX (.bl b))
 | .int i,y=>(fI y).map (jX (.int i))
 | .str x,y=>(fI y).map (jX (tV x))
 | .raw _,_=>ae
 | .exc _,_=>ae
def iu:List PV->List PV->Option Bool
 | [],ys=>aa ys.isEmpty
 | x::xs,ys=>match ys with
  | []=>aa ao
  | y::ys=>(cY x y).bind λa=>(iu xs ys).map λb=>a && b
end
mutual
def ja:PV->Nat
 | .tup xs=>je xs+1
 | .lst xs=>je xs+1
 | _=>0
def je:List PV->Nat
 | []=>0
 | x::xs=>max (ja x) (je xs)
end
theorem Jp{H:Hp}{d d':Nat}{x y:V}{k:Bool}(h:i6 K H d x y k)(hd:d<=d'):i6 K H d' x y k:=λX hK ah σ s u v A I ru rv hu=>h X hK ah σ s u v A I ru rv ∅
theorem yo{H:Hp}{F:af->Prop}{w:V}{y:PV}{u:V}{k:Bool}{d:Nat}(fw:ku w=ai)(e:(fI y).map (jX w)=aa k)(ry:bi K H F y u):i6 K H d w u k:=by
 cases q:fI y with
 | none=>rw[q]at e; cases e
 | some z=>
  rw[q]at e;cases e;rw[lw ry q];exact Mb fw (z6 q)
theorem LB{H:Hp}{a:af}{xs ys:List V}(h:Rd H a (.lst xs))(g:Rd H a (.lst ys)):xs=ys:=by
 rcases h with h | ⟨o,h⟩ <;> rcases g with g | ⟨o',g⟩ <;> rw[h]at g <;> cases g <;> rfl
theorem TR{a:Bool}{e:Nat->Bool}{n m:Nat}:gH (λj=>if j=0 then a else e (j-1)) (n+1) (m+1)=(a && gH e n m):=by
 unfold gH;rw[show min (n+1) (m+1)=min n m+1 by lia,qO,vR,CY,if_pos rfl,Bool.and_assoc];congr 1;congr 1
 ·simp
mutual
theorem AS{H:Hp}{F:af->Prop}:∀ (x y:PV) {v:V} {k:Bool},cY x y=aa k->bi K H F x v->bi K H F y v->k=ai
 | .tup xs,y,v,k,e,rx,ry=>by
  unfold cY at e;split at e
  ·obtain⟨a,vs,rfl,ha,ra⟩:=rx;obtain⟨b,ws,eb,hb,rb⟩:=ry;cases eb;rw[ha]at hb;cases hb;exact BD xs _ e ra rb
  ·cases e
 | .lst xs,y,v,k,e,rx,ry=>by
  unfold cY at e;split at e
  ·obtain⟨a,vs,rfl,ha,_,ra⟩:=rx;obtain⟨b,ws,eb,hb,_,rb⟩:=ry;cases eb;rw[LB ha hb]at ra;exact BD xs _ e ra rb
  ·cases e
 | .non,y,v,k,e,rx,ry=>by
  unfold cY at e;cases q:fI y with
  | none=>rw[q]at e; cases e
  | some z=>rw[q]at e; cases e; rw[← lw ry q,show v=V.non from rx]; rfl
 | .bl b,y,v,k,e,rx,ry=>by
  unfold cY at e;cases q:fI y with
  | none=>rw[q]at e; cases e
  | some z=>rw[q]at e; cases e; rw[← lw ry q,show v=V.bl b from rx]; exact beq_self_eq_true b
 | .int b,y,v,k,e,rx,ry=>by
  unfold cY at e;cases q:fI y with
  | none=>rw[q]at e; cases e
  | some z=>rw[q]at e; cases e; rw[← lw ry q,show v=V.int b from rx]; exact beq_self_eq_true b
 | .str b,y,v,k,e,rx,ry=>by
  unfold cY at e;cases q:fI y with
  | none=>rw[q]at e; cases e
  | some z=>rw[q]at e; cases e; rw[← lw ry q,show v=tV b from rx.1]; exact beq_self_eq_true (tS b)
 | .raw _,_,_,_,e,_,_=>by unfold cY at e; cases e
 | .exc _,_,_,_,e,_,_=>by unfold cY at e; cases e
theorem BD{H:Hp}{F:af->Prop}:∀ (xs ys:List PV) {vs:List V} {k:Bool},iu xs ys=aa k->bq K H F xs vs->bq K H F ys vs->k=ai
 | [],ys,vs,k,e,rx,ry=>by
  unfold iu at e;rw[show vs=[] from rx]at ry;have:=ry.len;cases ys with
  | nil=>cases e; rfl
  | cons=>simp at this
 | x::xs,ys,vs,k,e,rx,ry=>by
  unfold iu at e;obtain⟨v,r,rfl,h1,h2⟩:=rx;cases ys with
  | nil=>have:=ry.len; simp at this
  | cons y ys=>
   obtain⟨v',r',ev,g1,g2⟩:=ry;cases ev;simp only at e;cases q1:cY x y with
   | none=>rw[q1]at e; cases e
   | some a=>
    cases q2:iu xs ys with
    | none=>rw[q1,q2]at e; cases e
    | some b=>
     rw[q1,q2]at e;cases e;rw[AS x y q1 h1 g1,BD xs ys q2 h2 g2]; rfl
end
mutual
theorem Uh{H:Hp}{F:af->Prop}:∀ (x y:PV) {v u:V} {k:Bool},cY x y=aa k->bi K H F x v->bi K H F y u->i6 K H (ja x) v u k
 | .tup xs,y,v,u,k,e,rx,ry=>by
  have e0:=e;unfold cY at e;split at e
  ·rename_i ys;obtain⟨a,vs,rfl,ha,ra⟩:=id rx;obtain⟨b,ws,rfl,hb,rb⟩:=id ry;by_cases oE:a=b
   ·subst oE;rw[AS _ _ e0 rx ry];exact EK
   ·obtain⟨f,hf,rfl⟩:=u0 xs ys e ra rb;unfold ja;exact M3 (dz.of ha) (dz.of hb) oE hf
  ·cases e
 | .lst xs,y,v,u,k,e,rx,ry=>by
  have e0:=e;unfold cY at e;split at e
  ·rename_i ys;obtain⟨a,vs,rfl,ha,_,ra⟩:=id rx;obtain⟨b,ws,rfl,hb,_,rb⟩:=id ry;by_cases oE:a=b
   ·subst oE;rw[AS _ _ e0 rx ry];exact EK
   ·obtain⟨f,hf,rfl⟩:=u0 xs ys e ra rb;unfold ja;exact KS (.inl ha) (.inl hb) oE hf
  ·cases e
 | .non,y,v,u,k,e,rx,ry=>by unfold cY at e; rw[show v=V.non from rx]; exact yo rfl e ry
 | .bl b,y,v,u,k,e,rx,ry=>by unfold cY at e; rw[show v=V.bl b from rx]; exact yo rfl e ry
 | .int b,y,v,u,k,e,rx,ry=>by unfold cY at e; rw[show v=V.int b from rx]; exact yo rfl e ry
 | .str b,y,v,u,k,e,rx,ry=>by unfold cY at e; rw[show v=tV b from rx.1]; exact yo rfl e ry
 | .raw _,_,_,_,_,e,_,_=>by unfold cY at e; cases e
 | .exc _,_,_,_,_,e,_,_=>by unfold cY at e; cases e
theorem u0{H:Hp}{F:af->Prop}:∀ (xs ys:List PV) {vs us:List V} {k:Bool},iu xs ys=aa k->bq K H F xs vs->bq K H F ys us -> ∃ f:Nat->Bool,(∀ (j:Nat) x y,vs[j]?=aa x->us[j]?=aa y->i6 K H (je xs) x y (f j))/\k=gH f vs.length us.length
 | [],ys,vs,us,k,e,rx,ry=>by
  unfold iu at e;rw[show vs=[] from rx];refine⟨λ_=>ai,λj x y h=>by simp at h,?_⟩;have:=ry.len;cases e;unfold gH;cases ys with
  | nil=>simp at this; simp[this]
  | cons=>rw[this]; simp
 | x::xs,ys,vs,us,k,e,rx,ry=>by
  unfold iu at e;obtain⟨v,r,rfl,h1,h2⟩:=rx;cases ys with
  | nil=>
   cases e;rw[show us=[] from ry];exact⟨λ_=>ai,λj x y _ h=>by simp at h,by simp[gH]⟩
  | cons y ys=>
   obtain⟨u,r',rfl,g1,g2⟩:=ry;simp only at e;cases q1:cY x y with
   | none=>rw[q1]at e; cases e
   | some a=>
    cases q2:iu xs ys with
    | none=>rw[q1,q2]at e; cases e
    | some b=>
     rw[q1,q2]at e;cases e;obtain⟨f,hf,rfl⟩:=u0 xs ys q2 h2 g2;refine⟨λj=>if j=0 then a else f (j-1),λj p q hp hq=>?_,by rw[eI,eI,TR]⟩;cases j with
     | zero=>simp at hp hq;subst hp hq;show i6 K H _ _ _ (if(0:Nat)=0 then a else f (0-1));rw[if_pos rfl];exact Jp (Uh x y q1 h1 g1) (by unfold je; exact Nat.le_max_left _ _)
     | succ j=>show i6 K H _ _ _ (if j+1=0 then a else f (j+1-1));rw[if_neg ∅];exact Jp (hf j p q (by simpa using hp) (by simpa using hq)) (show je xs<=max (ja x) (je xs)from Nat.le_max_right _ _)
end
def eqT(neg:Bool)(x y:PV):Option PV:=match fI x,fI y with
 | some v,aa u=>if qm v u then aa (.bl (neg ^^ decide (v=u)))else ae
 | none,ae=>if ja x<=8 then(cY x y).map λk=>.bl (neg ^^ k)else ae
 | _,_=>ae
def Io(K:az):R2:=λx y H Q=>Hc x y H Q\/uC K ao x y H Q
def EB(K:az):R2:=λx y H Q=>Gg x y H Q\/uC K ai x y H Q
theorem lK(hu:X.A.units+64<cLine):cx X (ft .Eq) (Io X.K):=UV.or (K8 hu)
theorem mx(hu:X.A.units+64<cLine):cx X (ft .NotEq) (EB X.K):=U8.or (QH hu)
theorem Ip{H:Hp}{F:af->Prop}{x y:PV}{v u:V}{k:Bool}{Q:VK}{neg:Bool}(hx:fI x=ae)(e:cY x y=aa k)(hd:ja x<=8)(rx:bi K H F x v)(ry:bi K H F y u)(q:Q (.bl (neg ^^ k)) H):uC K neg v u H Q:=by
 have fin:∀ {k':Bool},k=k'->Q (.bl (if neg=ai then !k' else k')) H:=λ{k'} z=>by subst z; cases neg <;> simpa using q
 cases x with
 | tup xs=>
  unfold cY at e;split at e
  ·rename_i ys;obtain⟨a,vs,rfl,ha,ra⟩:=rx;obtain⟨b,ws,rfl,hb,rb⟩:=ry;obtain⟨f,hf,ek⟩:=u0 xs ys e ra rb;unfold ja at hd;exact⟨a,b,vs,ws,je xs,f,rfl,rfl,.inr ⟨dz.of ha,dz.of hb⟩,∅,hf,fin ek⟩
  ·cases e
 | lst xs=>
  unfold cY at e;split at e
  ·rename_i ys;obtain⟨a,vs,rfl,ha,_,ra⟩:=rx;obtain⟨b,ws,rfl,hb,_,rb⟩:=ry;obtain⟨f,hf,ek⟩:=u0 xs ys e ra rb;unfold ja at hd;exact⟨a,b,vs,ws,je xs,f,rfl,rfl,.inl ⟨.inl ha,.inl hb⟩,∅,hf,fin ek⟩
  ·cases e
 | raw _=>unfold cY at e; cases e
 | exc _=>unfold cY at e; cases e
 | non=>cases hx
 | bl _=>cases hx
 | int _=>cases hx
 | str _=>cases hx
theorem lA:P2 K (Io K) (eqT ao):=λF H x y v u Q pv rx ry e q=>by
 unfold eqT at e;split at e
 ·rename_i a b ea eb;split at e
  ·rename_i hs;cases e;rw[lw rx ea,lw ry eb];refine .inl ⟨hs,?_⟩;have:=q (.bl (decide (a=b))) F H (Al.refl ..) (by simp[bi]);exact this
  ·cases e
 ·rename_i ea eb;split at e
  ·rename_i hd;cases ek:cY x y with
   | none=>rw[ek]at e; cases e
   | some k=>
    rw[ek]at e;cases e;exact .inr (Ip (neg:=ao) ea ek hd rx ry (q _ F H (Al.refl ..) rfl))
  ·cases e
 ·cases e
theorem mO:P2 K (EB K) (eqT ai):=λF H x y v u Q pv rx ry e q=>by
 unfold eqT at e;split at e
 ·rename_i a b ea eb;split at e
  ·rename_i hs;cases e;rw[lw rx ea,lw ry eb];refine .inl ⟨hs,?_⟩;have:=q (.bl (!decide (a=b))) F H (Al.refl ..) (by simp[bi]);exact this
  ·cases e
 ·rename_i ea eb;split at e
  ·rename_i hd;cases ek:cY x y with
   | none=>rw[ek]at e; cases e
   | some k=>
    rw[ek]at e;cases e;exact .inr (Ip (neg:=ai) ea ek hd rx ry (q _ F H (Al.refl ..) rfl))
  ·cases e
 ·cases e
end
end Pu
namespace Pu
open L2
section
variable{X:Cx}{K:az}
def w8(i j:Tx):Bool:=!(JA (tS j) (tS i) 0 (tS j).length 1).isEmpty
def o8:List PV->Option (List V)
 | []=>aa []
 | x::xs=>(fI x).bind λv=>(o8 xs).map λr=>v::r
theorem EJ{H:Hp}{F:af->Prop}:∀ {xs:List PV} {vs ws:List V},bq K H F xs vs->o8 xs=aa ws->vs=ws/\ws.all ku=ai
 | [],_,_,r,e=>by cases e; exact⟨r,rfl⟩
 | x::xs,_,ws,⟨v,r,rfl,h1,h2⟩,e=>by
  unfold o8 at e;cases q:fI x with
  | none=>rw[q]at e; cases e
  | some w=>
   cases q2:o8 xs with
   | none=>rw[q,q2]at e; cases e
   | some wr=>
    rw[q,q2]at e;cases e;obtain⟨e1,e2⟩:=EJ h2 q2;exact⟨by rw[lw h1 q,e1],by rw[vR,z6 q,e2]; rfl⟩
def rQ(neg:Bool):PV->PV->Option PV
 | .str x,.str y=>aa (.bl (neg ^^ w8 x y))
 | x,.lst ys=>(fI x).bind λv=>(o8 ys).map λws=>.bl (neg ^^ uN v ws)
 | x,.tup ys=>(fI x).bind λv=>(o8 ys).map λws=>.bl (neg ^^ uN v ws)
 | _,_=>ae
def IS(K:az):R2:=λx y H Q=>(∃ i j,x = .str i/\y = .str j/\Q (.bl (!(JA j i 0 j.length 1).isEmpty)) H)\/A4 K ao x y H Q
theorem R0:cx X (ft .In) (IS X.K):=UQ.or Se
theorem FA{H:Hp}{F:af->Prop}{x:PV}{ys:List PV}{v:V}{p:af}{us:List V}{Q:VK}{neg:Bool}{pv:PV}(rx:bi K H F x v)(hp:cg K H p us\/dz K H p us)(ru:bq K H F ys us)(e:((fI x).bind λv=>(o8 ys).map λws=>PV.bl (neg ^^ uN v ws))=aa pv) (q:∀ w,bi K H F pv w->Q w H):A4 K neg v (.ref p) H Q:=by
 cases q1:fI x with
 | none=>rw[q1]at e; cases e
 | some w=>
  cases q2:o8 ys with
  | none=>rw[q1,q2]at e; cases e
  | some ws=>
   rw[q1,q2]at e;cases e;obtain⟨rfl,hf⟩:=EJ ru q2;rw[lw rx q1];refine⟨p,us,rfl,hp,z6 q1,hf,?_⟩;have:=q _ rfl;cases neg <;> simpa using this
theorem K1:P2 K (IS K) (rQ ao):=λF H x y v u Q pv rx ry e q=>by
 unfold rQ at e;split at e
 ·cases e; exact .inl ⟨_,_,rx.1,ry.1,by have:=q _ F H (Al.refl ..) rfl; simpa[w8]using this⟩
 ·obtain⟨a,us,rfl,ha,_,ra⟩:=ry;exact .inr (FA (neg:=ao) rx (.inl (.inl ha)) ra e λw rw'=>q w F H (Al.refl ..) rw')
 ·obtain⟨a,us,rfl,ha,ra⟩:=ry;exact .inr (FA (neg:=ao) rx (.inr (dz.of ha)) ra e λw rw'=>q w F H (Al.refl ..) rw')
 ·cases e
def br:List PV->Option PV
 | [.str x]=>aa (.int x.length)
 | [.lst xs]=>aa (.int xs.length)
 | [.tup xs]=>aa (.int xs.length)
 | _=>ae
theorem iN{H:Hp}{F:af->Prop}{x:PV}{vs:List V}(r:bq K H F [x] vs):∃ v,vs=[v]/\bi K H F x v:=by obtain⟨v,r',rfl,h1,h2⟩:=r;rw[show r'=[] from h2];exact⟨v,rfl,h1⟩
theorem fq:PL K (λxs H Q=>∃ x n,xs=[x]/\Fl K x H n/\Q (.int n) H) br:=λF H xs vs Q pv rs e q=>by
 unfold br at e;split at e
 ·cases e;obtain⟨v,rfl,rv⟩:=iN rs;rw[rv.1];exact⟨_,_,rfl,⟨by rw[mH]; exact cL rv.2 nE,rfl⟩,by rw[mH]; exact q _ F H (Al.refl ..) rfl⟩
 ·cases e;obtain⟨v,rfl,a,us,rfl,ha,_,ra⟩:=iN rs;exact⟨_,_,rfl,.inl ⟨us,.inl ha,rfl⟩,by rw[ra.len]; exact q _ F H (Al.refl ..) rfl⟩
 ·cases e;obtain⟨v,rfl,a,us,rfl,ha,ra⟩:=iN rs;exact⟨_,_,rfl,.inr ⟨us,dz.of ha,rfl⟩,by rw[ra.len]; exact q _ F H (Al.refl ..) rfl⟩
 ·cases e
def yu:List PV->Option PO
 | [.lst xs]=>aa (.lst xs)
 | [.tup xs]=>aa (.lst xs)
 | _=>ae
theorem Pw:p5 K (λxs H Q=>∃ p ys,xs=[.ref p]/\(cg K H p ys\/dz K H p ys)/\∀ l,H l=ae->Q (.ref l) (upd H l (.lst ys))) yu:=λF H xs vs Q po hF rs e q=>by
 unfold yu at e;split at e
 ·cases e;obtain⟨v,rfl,a,us,rfl,ha,_,ra⟩:=iN rs;exact⟨a,us,rfl,.inl (.inl ha),λl hl=>q l F _ _ (Al.new0 hl) (xO hl ra) (yc hl hF trivial)⟩
 ·cases e;obtain⟨v,rfl,a,us,rfl,ha,ra⟩:=iN rs;exact⟨a,us,rfl,.inr (dz.of ha),λl hl=>q l F _ _ (Al.new0 hl) (xO hl ra) (yc hl hF trivial)⟩
 ·cases e
def yf:List PV->Option PV
 | [.lst xs]=>aa (.tup xs)
 | [.tup xs]=>aa (.tup xs)
 | _=>ae
theorem R8:PL K (λxs H Q=>∃ p ys,xs=[.ref p]/\((cg K H p ys/\∀ l,H l=ae->Q (.ref l) (upd H l (.tup ys)))\/(dz K H p ys/\Q (.ref p) H))) yf:=λF H xs vs Q pv rs e q=>by
 unfold yf at e;split at e
 ·cases e;obtain⟨v,rfl,a,us,rfl,ha,_,ra⟩:=iN rs;exact⟨a,us,rfl,.inl ⟨.inl ha,λl hl=>q _ F _ (Al.new0 hl) ⟨l,us,rfl,cF,(Al.new0 hl).reps ra⟩⟩⟩
 ·cases e;obtain⟨v,rfl,a,us,rfl,ha,ra⟩:=iN rs;exact⟨a,us,rfl,.inr ⟨dz.of ha,q _ F H (Al.refl ..) ⟨a,us,rfl,ha,ra⟩⟩⟩
 ·cases e
def gW:List PV->Option (List Tx)
 | []=>aa []
 | .str x::xs=>(gW xs).map (x::·)
 | _=>ae
def aj(ls:List Tx):List PV:=ls.map .str
theorem pV(ls:List Tx):gW (aj ls)=aa ls:=by
 induction ls with
 | nil=>rfl
 | cons x ls ih=>show(gW (aj ls)).map (x::·)=_; rw[ih]; rfl
theorem ur:∀ {xs:List PV} {ls:List Tx},gW xs=aa ls->xs=aj ls
 | [],ls,e=>by cases e; rfl
 | .str x::xs,ls,e=>by
  unfold gW at e;cases q:gW xs with
  | none=>rw[q]at e; cases e
  | some r=>rw[q]at e; cases e; rw[ur q]; rfl
 | .non::_,_,e=>by cases e
 | .bl _::_,_,e=>by cases e
 | .int _::_,_,e=>by cases e
 | .tup _::_,_,e=>by cases e
 | .lst _::_,_,e=>by cases e
 | .raw _::_,_,e=>by cases e
 | .exc _::_,_,e=>by cases e
theorem UM{H:Hp}{F:af->Prop}:∀ {ls:List Tx} {vs:List V},bq K H F (aj ls) vs↔vs=d8 ls/\∀ x∈ls,x.length<=bI
 | [],vs=>by simp[aj,bq,d8]
 | x::ls,vs=>by
  show(∃ v r,vs=v::r/\(v=tV x/\x.length<=bI)/\bq K H F (aj ls) r)↔_;constructor
  ·rintro⟨v,r,rfl,⟨rfl,h1⟩,h2⟩;obtain⟨rfl,h3⟩:=UM.mp h2;exact⟨rfl,λy hy=>by
    rcases ca.mp hy with rfl | hy
    ·exact h1
    ·exact h3 y hy⟩
  ·rintro⟨rfl,h⟩;exact⟨tV x,d8 ls,rfl,⟨rfl,h x (by simp)⟩,UM.mpr ⟨rfl,λy hy=>h y (by simp[hy])⟩⟩
def kM:List PV->Option (List Bool)
 | []=>aa []
 | .bl b::xs=>(kM xs).map (b::·)
 | _=>ae
theorem A7{H:Hp}{F:af->Prop}:∀ {xs:List PV} {vs:List V} {bs:List Bool},bq K H F xs vs->kM xs=aa bs->vs=bs.map V.bl
 | [],_,_,r,e=>by cases e; exact r
 | .bl b::xs,_,bs,⟨v,r,rfl,h1,h2⟩,e=>by
  unfold kM at e;cases q:kM xs with
  | none=>rw[q]at e; cases e
  | some r'=>rw[q]at e; cases e; rw[A7 h2 q,show v=V.bl b from h1]; rfl
 | .non::_,_,_,_,e=>by cases e
 | .str _::_,_,_,_,e=>by cases e
 | .int _::_,_,_,_,e=>by cases e
 | .tup _::_,_,_,_,e=>by cases e
 | .lst _::_,_,_,_,e=>by cases e
 | .raw _::_,_,_,_,e=>by cases e
 | .exc _::_,_,_,_,e=>by cases e
def u6:List PV->Option PV
 | [.lst xs]=>(kM xs).map λbs=>.bl (bs.all id)
 | _=>ae
theorem Jv:PL K (λxs H Q=>∃ (p:af) (bs:List Bool),xs=[.ref p]/\cg K H p (bs.map V.bl)/\Q (.bl (bs.all id)) H) u6:=λF H xs vs Q pv rs e q=>by
 unfold u6 at e;split at e
 ·rename_i ys;cases q1:kM ys with
  | none=>rw[q1]at e; cases e
  | some bs=>
   rw[q1]at e;cases e;obtain⟨v,rfl,a,us,rfl,ha,_,ra⟩:=iN rs;rw[A7 ra q1]at ha;exact⟨a,bs,rfl,.inl ha,q _ F H (Al.refl ..) rfl⟩
 ·cases e
def vx:PV->Option String
 | .non=>aa "NoneType"
 | .bl _=>aa "bool"
 | .int _=>aa "int"
 | .str _=>aa "str"
 | .tup _=>aa "tuple"
 | .lst _=>aa "list"
 | _=>ae
def jd:List PV->Option PV
 | [x,.raw (.ty T)]=>(vx x).bind λt=>(j3 [] (.type t) (.type T)).map λb=>.bl b
 | _=>ae
theorem rL:im X (.builtin "isinstance") (λxs H Q=>∃ x t T b,xs=[x,.ty T]/\jH X.K H x (.type t)/\j3 X.K (.type t) (.type T)=aa b/\Q (.bl b) H):=by
 intro ah s σ H xs us Q I r h;obtain⟨x,t,T,b,rfl,ty,e,q⟩:=h;cases r with
 | cons r1 r2=>
  cases r2 with
  | cons r3 r4=>
   cases r4;cases r3;exact NN I r1 ty e λtk=>⟨.bl b,H,I.tok _,rfl,q⟩
theorem Oo{H:Hp}{F:af->Prop}{x:PV}{v:V}{t:String}(r:bi K H F x v)(e:vx x=aa t):jH K H v (.type t):=by
 cases x with
 | non=>cases e; rw[show v=V.non from r]; exact .non
 | bl b=>cases e; rw[show v=V.bl b from r]; exact .bl b
 | int b=>cases e; rw[show v=V.int b from r]; exact .int b
 | str b=>cases e; rw[show v=tV b from r.1]; exact .str _
 | tup xs=>cases e; obtain⟨a,vs,rfl,ha,_⟩:=r; exact .tup ha
 | lst xs=>
  cases e;obtain⟨a,vs,rfl,ha,_⟩:=r;rcases ha with ha | ⟨o,ha⟩
  ·exact .lst ha
  ·exact .frz ha
 | raw _=>cases e
 | exc _=>cases e
theorem sv:PL K (λxs H Q=>∃ x t T b,xs=[x,.ty T]/\jH K H x (.type t)/\j3 K (.type t) (.type T)=aa b/\Q (.bl b) H) jd:=λF H xs vs Q pv rs e q=>by
 unfold jd at e;split at e
 ·rename_i x T;cases q1:vx x with
  | none=>rw[q1]at e; cases e
  | some t=>
   cases q2:j3 [] (.type t) (.type T)with
   | none=>rw[q1,iD,q2]at e; cases e
   | some b=>
    rw[q1,iD,q2]at e;cases e;obtain⟨v,r',rfl,h1,h2⟩:=rs;obtain⟨u,rfl,h3⟩:=iN h2;rw[show u=V.ty T from h3];exact⟨v,t,T,b,rfl,Oo h1 q1,q2,q _ F H (Al.refl ..) rfl⟩
 ·cases e
theorem rS{E:XK}{x:Str}{T:String}{pos:Pos}(hm:X.mg x=ae)(hv:fM x=aa (.type T))(hg:Gl X x:=by rfl)(hn:x≠"__name__":=by decide)(hd:(x == ("__debug__" : Str))=ao:=by decide):DE X E (.Name x pos) (dC (.raw (.ty T))):=λF S ε σ H Q r q=>c7 (Of (v:=.ty T) hg hm hv rfl hn hd) (q F S H r (bY.refl ..) _ rfl)
def a8:PV->PV->Option PV
 | .lst xs,.int i=>eh xs i
 | .tup xs,.int i=>eh xs i
 | .str x,.int i=>(eh x i).map λc=>.str [c]
 | _,_=>ae
theorem ET{H:Hp}{F:af->Prop}{xs:List PV}{vs:List V}{i:Int}{x:PV}(r:bq K H F xs vs)(e:eh xs i=aa x):∃ v,eh vs i=aa v/\bi K H F x v:=by
 unfold eh at e ⊢;rw[r.len];cases q:jv xs.length i with
 | none=>rw[q]at e; cases e
 | some j=>rw[q]at e; exact r.get e
theorem d7:P2 K (Ii K) a8:=λF H x y v u Q pv rx ry e q=>by
 unfold a8 at e;split at e
 ·rename_i xs i;obtain⟨a,us,rfl,ha,_,ra⟩:=rx;obtain⟨w,e1,e2⟩:=ET ra e;exact .inl ⟨a,us,i,w,rfl,ry,.inl ha,e1,q _ F H (Al.refl ..) e2⟩
 ·rename_i xs i;obtain⟨a,us,rfl,ha,ra⟩:=rx;obtain⟨w,e1,e2⟩:=ET ra e;exact .inr (.inl ⟨a,us,i,w,rfl,ry,dz.of ha,e1,q _ F H (Al.refl ..) e2⟩)
 ·rename_i x i;cases q1:eh x i with
  | none=>rw[q1]at e; cases e
  | some c=>
   rw[q1]at e;cases e;rw[rx.1];exact .inr (.inr ⟨_,i,c,rfl,ry,by rw[mH]; exact cL rx.2 nE,by rw[o_]; exact q1,q _ F H (Al.refl ..) ⟨rfl,by show 1<=bI; decide⟩⟩)
 ·cases e
def ez{α:Type}(xs:List α)(lo hi:Option Int):List α:=(xs.drop (HT.sIx xs.length 0 lo)).take (HT.sIx xs.length xs.length hi-HT.sIx xs.length 0 lo)
theorem Py{α:Type}(xs:List α)(lo hi:Option Int):(ez xs lo hi).length<=xs.length:=by unfold ez;rw[j5,j6];lia
def bg:PV->Option Int->Option Int->Option PV
 | .str x,lo,hi=>aa (.str (ez x lo hi))
 | .lst xs,lo,hi=>aa (.lst (ez xs lo hi))
 | .tup xs,lo,hi=>if HT.sIx xs.length 0 lo=0/\HT.sIx xs.length xs.length hi=xs.length then ae else aa (.tup (ez xs lo hi))
 | _,_,_=>ae
def Gv(K:az):V->Option Int->Option Int->Hp->VK->Prop:=λx lo hi H Q=>GS x lo hi H Q\/(Gi K x lo hi H Q\/HF K x lo hi H Q)
theorem fF:nD X (Gv X.K):=UJ.or (UN.or NI)
theorem Fh{H:Hp}{F:af->Prop}{xs:List PV}{vs:List V}(r:bq K H F xs vs)(lo hi:Option Int):bq K H F (ez xs lo hi) (oR vs lo hi):=by unfold ez oR;rw[r.len];exact(r.drop _).take _
theorem fE:G1 K (Gv K) bg:=λF H x lo hi v Q pv rx e q=>by
 unfold bg at e;split at e
 ·cases e;rw[rx.1];refine .inl ⟨_,rfl,by rw[mH]; exact cL rx.2 nE,?_⟩;refine q _ F H (Al.refl ..) ⟨?_,cL (Py ..) rx.2⟩;unfold mD ez;rw[mH,o_]; rfl
 ·cases e;obtain⟨a,us,rfl,ha,_,ra⟩:=rx;exact .inr (.inl ⟨a,us,rfl,.inl ha,λp hp=>q _ _ _ (Al.new hp) ⟨p,_,rfl,.inl cF,.inr rfl,(Al.new hp).reps (Fh ra lo hi)⟩⟩)
 ·split at e
  ·cases e
  ·rename_i hw;cases e;obtain⟨a,us,rfl,ha,ra⟩:=rx;exact .inr (.inr ⟨a,us,rfl,dz.of ha,by rw[ra.len]; exact hw,λp hp=>q _ _ _ (Al.new0 hp) ⟨p,_,rfl,cF,(Al.new0 hp).reps (Fh ra lo hi)⟩⟩)
 ·cases e
variable{E:XK}{tg l a b:aC}{d:ak->R PV}{ds:ak->R (List PV)}{p pos:Pos}
def nS:PV->Option (List PV)
 | .lst xs=>aa xs
 | .tup xs=>aa xs
 | .str x=>aa (x.map λc=>.str [c])
 | _=>ae
def cI(d:ak->R PV):ak->R (List PV):=λε=>(d ε).bind λx ε1=>aS (nS x) ε1
theorem FW{H:Hp}{F:af->Prop}:∀ (x:Tx),bq K H F (x.map λc=>PV.str [c]) (x.map sg)
 | []=>rfl
 | c::x=>⟨sg c,x.map sg,rfl,⟨rfl,by show 1<=bI; decide⟩,FW x⟩
theorem jG(he:DE X E l d):DI X E tg l (cI d):=λF S ε σ H Rr rl h=>Bx.mk λah s I=>by
 have w:=he F S ε σ H (λv H1=>∃ F1 S1 ε1 x,a_ X.K F1 S1 ε1 σ H1/\bi X.K H1 F1 x v/\Ok X.K E σ F1 S1 H1 (aS (nS x) ε1) (λpvs _ F' S' H'=>∀ J vs RR,bq X.K H' F' pvs vs->vs.length<=bx->Walk J vs RR->(∀ S'' F'' H'',bY (U S') (U S'') F' F'' H' H''->RR H'')->Rr J H')) rl
  ((Ok.bind h).imp λx ε1 F1 S1 H1 r1 g1 h1 v rv=>⟨F1,S1,ε1,x,r1,rv,h1⟩)
 refine aW (w.run ah s I) λv s1 ⟨x,H1,I1,rx,F1,S1,ε1,pv,r1,rv,h1⟩=>?_;cases pv with
 | lst xs=>
  obtain⟨a,us,rfl,ha,hF,ra⟩:=rv;cases rx;obtain⟨its,rr,pp,hz⟩:=I1.list (.inl ha);refine CZ pp.isList ?_;refine⟨s1.heap.objs.size,[s1.heap.objs.size],_,_,H1,rfl,I1.kept (t':=s1.toks) λb o e=>bK _ e,O9 a _,⟨_,dG _ rfl,rfl,rfl⟩,λb hb=>?_,h1 F1 S1 H1 r1 (bY.refl ..) (Aq X.K a) us (λH=>cg X.K H a us) ra hz Pr λS2 F2 H2 g2=>.inl (g2.lst r1.fit hF ha)⟩;have e:b=s1.heap.objs.size:=by simpa using hb
  subst e;exact I1.fpOk (bo _) (I1.hok.fresh (bo _))
 | tup xs=>
  obtain⟨a,us,rfl,ha,ra⟩:=rv;cases rx;obtain⟨its,rr,pp,hz⟩:=I1.tuple (dz.of ha);refine wpAny_pyIter_tuple (show s1.heap.IsTuple a its.toArray from pp) ?_;refine⟨s1.heap.objs.size,[s1.heap.objs.size],_,_,H1,rfl,I1.kept (t':=s1.toks) λb o e=>bK _ e,R6 a _,⟨_,dG _ rfl,rfl,rfl⟩,λb hb=>?_,h1 F1 S1 H1 r1 (bY.refl ..) (Bz X.K a) us (λH=>dz X.K H a us) ra hz Ld λS2 F2 H2 g2=>dz.of (g2.imm r1.fit ha id)⟩;have e:b=s1.heap.objs.size:=by simpa using hb
  subst e;exact I1.fpOk (bo _) (I1.hok.fresh (bo _))
 | str z=>
  obtain⟨rfl,hz⟩:=rv;obtain⟨t,rfl⟩:=rx;have qq:Rr (vt (tS z)) H1:=h1 F1 S1 H1 r1 (bY.refl ..) (vt (tS z)) (z.map sg) (λ_=>True) (FW z) (by rw[cD]; exact cL hz nE) (by have:=Ql (z:=tS z); rw[o_]at this; exact this) λ_ _ _ _=>trivial;have fin:∀ (n:String) (St':Nat->aF->Prop),(∀ i h,St' i h->∃ o n vs,h.get? s1.heap.objs.size=aa o/\o.cls = .type n/\o.data = .fields vs /\ ["enumerate","zip","dict_itemiterator","dict_reverseitemiterator","odict_iterator","itertools.zip_longest","itertools.pairwise"].contains n=ao) ->
    (∀ (A:be) (i:Nat) (s:aq) (Q:am->aq->Prop) (E:am->aq->Prop),St' i s.heap->Q (.ref s1.heap.objs.size) s->ax (ay X.prog X.w) A (pr (.ref s1.heap.objs.size)) Q E s) ->
    (∀ A:be,A.handled=ae->Walks X.prog X.w A s1.heap.objs.size [s1.heap.objs.size] [s1.heap.objs.size] (tS z).cps.size (SignAt (tS z)) St') ->
    St' 0 (s1.heap.push { cls:=.type n,data:=.fields #[.str (tS z) t,.int 0 0] }) ->
    xp X ah σ tg Rr (.ref s1.heap.objs.size) { s1 with heap:=s1.heap.push { cls:=.type n,data:=.fields #[.str (tS z) t,.int 0 0] } }:=λn St' h1 h2 h3 h4=>by
   refine⟨s1.heap.objs.size,[s1.heap.objs.size],St',vt (tS z),H1,rfl,I1.kept (t':=s1.toks) λb o e=>bK _ e,RI h1 h2 h3,h4,λb hb=>?_,qq⟩;have e:b=s1.heap.objs.size:=by simpa using hb
   subst e;exact I1.fpOk (bo _) (I1.hok.fresh (bo _))
  cases ha:(tS z).cps.all (· < 128)
  ·refine wpAny_pyIter_wide ha (fin "str_iterator" (λi h=>h.IsStrIter s1.heap.objs.size "str_iterator" (tS z) t i) (λi h ⟨o,e1,e2,e3⟩=>⟨o,_,_,e1,e2,e3,by decide⟩) (λA i s Q E st h=>wpAny_pyIter_striter_wide st h) (λA' hA=>Walks.strWide hA _ (tS z) t) ⟨_,dG _ rfl,rfl,rfl⟩)
  ·refine wpAny_pyIter_ascii ha (fin "str_ascii_iterator" (λi h=>h.IsStrIter s1.heap.objs.size "str_ascii_iterator" (tS z) t i) (λi h ⟨o,e1,e2,e3⟩=>⟨o,_,_,e1,e2,e3,by decide⟩) (λA i s Q E st h=>wpAny_pyIter_striter_ascii st h) (λA' hA=>Walks.strAscii hA _ (tS z) t) ⟨_,dG _ rfl,rfl,rfl⟩)
 | non=>exact(show False from h1).elim
 | bl _=>exact(show False from h1).elim
 | int _=>exact(show False from h1).elim
 | raw _=>exact(show False from h1).elim
 | exc _=>exact(show False from h1).elim
def fZ(lo:Int)(n:Nat):List PV:=(bQ n).map λi=>PV.int (lo+(i:Nat))
theorem EZ{H:Hp}{F:af->Prop}(lo:Int)(n:Nat):bq K H F (fZ lo n) (sh lo n):=by
 unfold fZ sh
 induction (bQ n)with
 | nil=>rfl
 | cons x xs ih=>exact⟨_,_,rfl,rfl,ih⟩
def ir:List PV->Option (List PV)
 | [.int j]=>if j<=1000000/\-1000000<=j then aa (fZ 0 j.toNat)else ae
 | _=>ae
def iq:List PV->Option (List PV)
 | [.int i,.int j]=>if j<=1000000/\-1000000<=j/\i<=1000000/\-1000000<=i then aa (fZ i (j-i).toNat)else ae
 | _=>ae
theorem pU(hm:X.mg "range" = ae)(ha:DA X E [a] ds)(hg:Gl X "range":=by rfl)(hs:bu [a] X.env=[(ao,bz a X.env)]:=by rfl):DI X E tg (.Call (.Name "range" p) [a] [] pos) (dL ir ds):=λF S ε σ H Rr rl h=>by
 refine FM (TK hg hm iw hs) (ha F S ε σ H _ rl ((Ok.bind h).imp λxs ε1 F1 S1 H1 r1 g1 h1 vs jT=>?_));unfold ir at h1;split at h1
 ·rename_i j;split at h1
  ·rename_i hj;obtain⟨v,rfl,rv⟩:=iN jT;refine⟨j,by rw[show v=V.int j from rv],∅,∅,h1 F1 S1 H1 r1 (bY.refl ..) _ _ _ (EZ 0 j.toNat) (by rw[xI,tm]; lia) Gf λ_ _ _ _=>trivial⟩
  ·exact h1.elim
 ·exact h1.elim
theorem sq(hm:X.mg "range" = ae)(ha:DA X E [a,b] ds)(hg:Gl X "range":=by rfl)(hs:bu [a,b] X.env=[(ao,bz a X.env),(ao,bz b X.env)]:=by rfl)(nq:bu [b] X.env=[(ao,bz b X.env)]:=by rfl) : DI X E tg (.Call (.Name "range" p) [a,b] [] pos) (dL iq ds):=λF S ε σ H Rr rl h=>by
 refine FM (NF hg hm iw hs nq) (ha F S ε σ H _ rl ((Ok.bind h).imp λxs ε1 F1 S1 H1 r1 g1 h1 vs jT=>?_));unfold iq at h1;split at h1
 ·rename_i i j;split at h1
  ·rename_i hj;obtain⟨v,r',rfl,h2,h3⟩:=jT;obtain⟨u,rfl,h4⟩:=iN h3;refine⟨i,j,by rw[show v=V.int i from h2,show u=V.int j from h4],⟨∅,∅,∅,∅⟩,h1 F1 S1 H1 r1 (bY.refl ..) _ _ _ (EZ i (j-i).toNat) (by rw[xI,tm]; lia) Gf λ_ _ _ _=>trivial⟩
  ·exact h1.elim
 ·exact h1.elim
end
section
variable{K:az}{F:af->Prop}{S:Nat->af->Prop}{ε:ak}{σ:St}{H:Hp}{i:Nat}{xs xs':List PV}{vs':List V}{a:af}
theorem a_.lstAt(r:a_ K F S ε σ H)(e:ε[i]?=aa (.own (.lst xs))):∃ a vs,σ[i]?=aa (aa (.ref a))/\H a=aa (.lst vs)/\bq K H F xs vs/\S i a/\∀ b,S i b->b=a:=by obtain⟨a,e1,⟨vs,h1,h2⟩,h3⟩:=r.own i _ e;exact⟨a,vs,e1,h1,h2,(h3 a).mpr rfl,λb h=>(h3 b).mp h⟩
theorem a_.upd(r:a_ K F S ε σ H)(e:ε[i]?=aa (.own (.lst xs)))(ea:σ[i]?=aa (aa (.ref a)))(h:bq K H F xs' vs') : a_ K F S (ε.set i (.own (.lst xs'))) σ (upd H a (.lst vs'))/\bY (U S) (U S) F F H (upd H a (.lst vs')):=by
 obtain⟨a',vs,e1,h1,h2,h3,h4⟩:=r.lstAt e;rw[ea]at e1;cases e1;have hi:i<ε.length:=(eE.mp e).1;have g:bY (U S) (U S) F F H (L2.upd H a (.lst vs')):=⟨λ_ z=>z,λb o q n=>by rw[cu (by rintro rfl; exact n ⟨i,h3⟩)]; exact q,λb o q=>by
  by_cases hb:b=a
  ·subst hb; exact⟨_,cF⟩
  ·exact⟨o,by rw[cu hb]; exact q⟩,λ_ z=>.inl z,λ_ z=>.inl z⟩
 refine⟨⟨by rw[lq]; exact r.len,λb z=>let ⟨o,q⟩:=r.ex b z; g.there b o q,λj pv q=>?_,λj po q=>?_,λj b z=>?_,r.dist⟩,g⟩
 ·have hj:i≠j:=by rintro rfl; rw[ix hi]at q; cases q
  rw[fN hj]at q;obtain⟨v,q1,q2⟩:=r.val j pv q;exact⟨v,q1,q2.grow g r.fit⟩
 ·by_cases hj:i=j
  ·subst hj;rw[ix hi]at q;cases q;exact⟨a,ea,⟨vs',cF,h.grow g r.fit⟩,λb=>⟨h4 b,λz=>by rw[z]; exact h3⟩⟩
  ·rw[fN hj]at q;obtain⟨c,q1,q2⟩:=r.own j po q;refine⟨c,q1,q2.mono (λ_ _ z=>z.grow g r.fit) (λ_ _ z=>z.grow g r.fit) λb o z w=>?_⟩;rw[cu (by rintro rfl; exact hj (r.dist i j b h3 z))]; exact w
 ·obtain⟨⟨po,q1⟩,q2,o,q3,q4⟩:=r.foot j b z;by_cases hj:i=j
  ·subst hj;rw[h4 b z];exact⟨⟨_,ix hi⟩,by rw[← h4 b z]; exact q2,_,cF,trivial⟩
  ·exact⟨⟨po,by rw[fN hj]; exact q1⟩,q2,o,by rw[cu (by rintro rfl; exact hj (r.dist i j b h3 z))]; exact q3,q4⟩
end
section
variable{X:Cx}{E:XK}{pin:List Nat}{e b:aC}{de db:ak->R PV}{pos:Pos}
def f6(ε:ak)(i:Nat):Option (List PV):=match ε[i]? with
 | some (.own (.lst xs))=>aa xs
 | _=>ae
theorem nK{ε:ak}{i:Nat}{xs:List PV}(h:f6 ε i=aa xs):ε[i]?=aa (.own (.lst xs)):=by
 unfold f6 at h;split at h
 ·cases h; assumption
 ·cases h
def i9(i:Nat)(de:ak->R PV):ak->R aH:=λε=>(aS (f6 ε i) ε).bind λ_ ε=>(de ε).bind λy ε1=>(aS (f6 ε1 i) ε1).bind λxs ε1=>if xs.length<bI then .ok .next (ε1.set i (.own (.lst (xs++[y]))))else .no
theorem qh(i:Nat){x:Str}{p apos cpos:Pos}(he:DE X E e de)(hN:X.N[i]?=aa x:=by rfl)(hv:ga X.env.scope x:=by first | exact Or.inl rfl | exact Or.inr (Or.inl rfl) | exact Or.inr (Or.inr rfl))(hd:(x == ("__debug__" : Str))=ao:=by decide)(bR:(x == ("__classdict__" : Str))=ao:=by decide) (h1:tz (.Name x p) "append" X.env (bz (.Name x p) X.env)=bz (.Name x p) X.env:=by rfl)(h2:((f7 cpos (bu [e] X.env)).all (λx=>!x.1) && (backToKw cpos (CN [] X.env)).all (λx=>x.1.isSome) && decide ([e].length+([]:List qM).length+(if([]:List qM).isEmpty then 0 else 1)<30))=ai:=by rfl)(h3:(apos.endLine == cpos.line)=ai:=by rfl) (h4:bu [e] X.env=(ao,bz e X.env)::bu [] X.env:=by rfl) (h5:(f7 cpos (bu [] X.env)).any (·.1)=ao:=by rfl)(hs:mV (.Call (.Attribute (.Name x p) "append" apos) [e] [] cpos) ae pos.line X.env=pure ao:=by rfl) : DS X E pin (.Expr (.Call (.Attribute (.Name x p) "append" apos) [e] [] cpos) pos) (i9 i de):=λF S ε σ H D rl h=>by
 unfold i9 at h;cases e0:f6 ε i with
 | none=>rw[e0]at h; exact h.elim
 | some xs0=>
  rw[e0]at h;simp only[dO,R.bind_ok]at h;obtain⟨a,vs0,ea,ha,_,_,_⟩:=rl.lstAt (nK e0);refine i_ (Bj (Ij PySem.F.plainAttrs_list PySem.F.slot_list_append PySem.F.type_list_append Bh (ip hN hv hd bR) (kX cA nH h4) h1 h2 h3 h4 h5) hs) ⟨.ref a,ea,.inl ⟨rfl,_,cg.of ha⟩,?_⟩;refine he F S ε σ H _ rl (h.bindE.imp λy ε1 F1 S1 H1 r1 g1 q v rv=>?_);cases e1:f6 ε1 i with
  | none=>rw[e1]at q; exact q.elim
  | some xs=>
   rw[e1]at q;simp only[dO,R.bind_ok]at q;obtain⟨a',vs,ea',ha',ra,_,_⟩:=r1.lstAt (nK e1);rw[ea]at ea';cases ea';split at q
   ·rename_i hl;obtain⟨r2,g2⟩:=r1.upd (nK e1) ea (ra.app (.one rv));exact⟨a,vs,v,rfl,rfl,ha',by rw[ra.len]; exact fW hl nE,q F1 S1 σ _ r2 g2 (km.refl _ _)⟩
   ·exact q.elim
def O6:V->List V->Hp->VK->Prop:=λx vs H Q=>∃ l b xs zs,x = .ref l/\vs=[.ref b]/\H l=aa (.lst xs)/\Rd H b (.lst zs)/\xs.length+zs.length<=bx/\Q .non (L2.upd H l (.lst (xs++zs)))
theorem PY:Jr X "list.extend" O6:=by
 intro ah s σ H x vs v us Q I rx rv h;obtain⟨l,b,xs,zs,rfl,rfl,hH,hB,hz,q⟩:=h;cases rx;obtain⟨u,rfl,ru⟩:=rv.one;cases ru;obtain⟨z,its,n,r,hl,e⟩:=I.lstM hH;obtain⟨its2,n2,r2,e2,_⟩:=BO I hB;have kJ:=r2.length;have hsz:its.toArray.size+its2.toArray.size<=bx:=by rw[dH,dH]; lia
 have UE:¬ (!its.toArray.isEmpty && JI (its.toArray.size+its2.toArray.size))=ai:=by rw[Rt hsz,C4];exact gu
 refine call_meets F.slot_list_extend ⟨_,e,rfl⟩ F.entry_list_extend (F.args_list_extend_2 _ _)
  (AutoSeq1.list_extend_list_list_0 l its.toArray n b its2.toArray n2 UE (by rw[dH]; lia) ∅) ⟨e,e2,?_⟩
 refine⟨.non,_,I.lset (its':=its++its2) hH e (by simp) (r.append r2) ?_,rfl,q⟩;rw[cZ];lia
def kZ(i:Nat)(de:ak->R PV):ak->R aH:=λε=>(aS (f6 ε i) ε).bind λ_ ε=>(de ε).bind λy ε1=>(aS (f6 ε1 i) ε1).bind λxs ε1=>match y with
 | .lst ys=>if xs.length+ys.length<=bI then .ok .next (ε1.set i (.own (.lst (xs++ys))))else .no
 | _=>.no
theorem xV(i:Nat){x:Str}{p apos cpos:Pos}(he:DE X E e de)(hN:X.N[i]?=aa x:=by rfl)(hv:ga X.env.scope x:=by first | exact Or.inl rfl | exact Or.inr (Or.inl rfl) | exact Or.inr (Or.inr rfl))(hd:(x == ("__debug__" : Str))=ao:=by decide)(bR:(x == ("__classdict__" : Str))=ao:=by decide) (h1:tz (.Name x p) "extend" X.env (bz (.Name x p) X.env)=bz (.Name x p) X.env:=by rfl)(h2:((f7 cpos (bu [e] X.env)).all (λx=>!x.1) && (backToKw cpos (CN [] X.env)).all (λx=>x.1.isSome) && decide ([e].length+([]:List qM).length+(if([]:List qM).isEmpty then 0 else 1)<30))=ai:=by rfl)(h3:(apos.endLine == cpos.line)=ai:=by rfl) (h4:bu [e] X.env=(ao,bz e X.env)::bu [] X.env:=by rfl) (h5:(f7 cpos (bu [] X.env)).any (·.1)=ao:=by rfl)(hs:mV (.Call (.Attribute (.Name x p) "extend" apos) [e] [] cpos) ae pos.line X.env=pure ao:=by rfl) : DS X E pin (.Expr (.Call (.Attribute (.Name x p) "extend" apos) [e] [] cpos) pos) (kZ i de):=λF S ε σ H D rl h=>by
 unfold kZ at h;cases e0:f6 ε i with
 | none=>rw[e0]at h; exact h.elim
 | some xs0=>
  rw[e0]at h;simp only[dO,R.bind_ok]at h;obtain⟨a,vs0,ea,ha,_,_,_⟩:=rl.lstAt (nK e0);refine i_ (Bj (Ij PySem.F.plainAttrs_list PySem.F.slot_list_extend PySem.F.type_list_extend PY (ip hN hv hd bR) (kX cA nH h4) h1 h2 h3 h4 h5) hs) ⟨.ref a,ea,.inl ⟨rfl,_,cg.of ha⟩,?_⟩;refine he F S ε σ H _ rl (h.bindE.imp λy ε1 F1 S1 H1 r1 g1 q v rv=>?_);cases e1:f6 ε1 i with
  | none=>rw[e1]at q; exact q.elim
  | some xs=>
   rw[e1]at q;simp only[dO,R.bind_ok]at q;obtain⟨a',vs,ea',ha',ra,_,_⟩:=r1.lstAt (nK e1);rw[ea]at ea';cases ea';split at q
   ·rename_i ys;split at q
    ·rename_i hl;obtain⟨c,us,rfl,hc,_,rc⟩:=rv;obtain⟨r2,g2⟩:=r1.upd (nK e1) ea (ra.app rc);exact⟨a,c,vs,us,rfl,rfl,ha',hc,by rw[ra.len,rc.len]; exact cL hl nE,q F1 S1 σ _ r2 g2 (km.refl _ _)⟩
    ·exact q.elim
   ·exact q.elim
end
mutual
def imm:PV->Bool
 | .lst _=>ao
 | .tup xs=>se xs
 | _=>ai
def se:List PV->Bool
 | []=>ai
 | x::xs=>imm x && se xs
end
mutual
theorem bi.imm{K:az}{H:Hp}{F F':af->Prop}:∀ (x:PV) {v:V},imm x=ai->bi K H F x v->bi K H F' x v
 | .non,_,_,h=>h
 | .bl _,_,_,h=>h
 | .int _,_,_,h=>h
 | .str _,_,_,h=>h
 | .raw _,_,_,h=>h
 | .exc _,_,_,h=>h
 | .lst _,_,e,_=>by simp[Pu.imm]at e
 | .tup xs,_,e,⟨a,vs,e1,h1,h2⟩=>⟨a,vs,e1,h1,bq.imm xs (by simpa[Pu.imm]using e) h2⟩
theorem bq.imm{K:az}{H:Hp}{F F':af->Prop}:∀ (xs:List PV) {vs:List V},se xs=ai->bq K H F xs vs->bq K H F' xs vs
 | [],_,_,h=>h
 | x::xs,_,e,⟨v,r,e1,h1,h2⟩=>by
  have e':imm x=ai/\se xs=ai:=by simpa[se]using e
  exact⟨v,r,e1,bi.imm x e'.1 h1,bq.imm xs e'.2 h2⟩
end
section
variable{K:az}{F:af->Prop}{S:Nat->af->Prop}{ε:ak}{σ:St}{H:Hp}{i:Nat}{xs:List PV}
theorem a_.look(r:a_ K F S ε σ H)(e:ε[i]?=aa (.own (.lst xs))):∃ a,σ[i]?=aa (aa (.ref a))/\¬ F a/\bi K H (λb=>F b\/b=a) (.lst xs) (.ref a)/\(∀ b,F b\/b=a->∃ o,H b=aa o) /\ (∀ {F' H'},Al (λb=>F b\/b=a) F' H H'->Al F (λb=>F' b/\b≠a) H H'):=by
 obtain⟨a,vs,e1,h1,h2,h3,h4⟩:=r.lstAt e;have nF:¬ F a:=(r.foot i a h3).2.1;refine⟨a,e1,nF,⟨a,vs,rfl,.inl h1,.inr rfl,bq.mono (λ_ z=>.inl z) (λ_ _ _ z=>z) (λ_ _ z _=>z) _ _ h2⟩,λb z=>z.elim (r.ex b) λz=>by rw[z]; exact⟨_,h1⟩,λ{F' H'} al=>⟨λb z=>⟨al.fro b (.inl z),by rintro rfl; exact nF z⟩,al.same,λb z=>?_⟩⟩;rcases al.fnew b z.1 with(w | w) | w
 ·exact .inl w
 ·exact absurd w z.2
 ·exact .inr w
end
section
variable{X:Cx}{E:XK}{e b:aC}{de db:ak->R PV}{pos p:Pos}{x y:Str}{id T:String}{r:List V->Hp->VK->Prop}{f:List PV->Option PV}{fn:List PV->Option PO}
def nA(o:Option PV):Option PV:=o.bind λv=>if imm v then aa v else ae
theorem z9{o:Option PV}{v:PV}(h:nA o=aa v):o=aa v/\imm v=ai:=by
 cases o with
 | none=>cases h
 | some w=>
  have h:(if imm w then aa w else ae)=aa v:=h;split at h
  ·cases h; exact⟨rfl,by assumption⟩
  ·cases h
def Rw:PO->Bool
 | .lst xs=>se xs
 | _=>ao
def yD{α:Type}(f:List PV->Option α)(i:Nat):ak->R α:=λε=>(aS (f6 ε i) ε).bind λxs ε=>aS (f [.lst xs]) ε
theorem TH{F:af->Prop}{S:Nat->af->Prop}{ε:ak}{σ:St}{H:Hp}{Q:VK}{i:Nat}(hp:PL X.K r f)(rl:a_ X.K F S ε σ H)(h:Ok X.K E σ F S H (yD (λxs=>nA (f xs)) i ε) (λpv _ F' _ H'=>∀ v,bi X.K H' F' pv v->Q v H')) : ∃ a,σ[i]?=aa (aa (.ref a))/\r [.ref a] H Q:=by
 unfold yD at h;cases e0:f6 ε i with
 | none=>rw[e0]at h; exact h.elim
 | some xs=>
  rw[e0]at h;simp only[dO,R.bind_ok]at h;obtain⟨a,ea,nF,ra,nt,ka⟩:=rl.look (nK e0);refine⟨a,ea,?_⟩;cases e1:nA (f [.lst xs])with
  | none=>rw[e1]at h; exact h.elim
  | some pv=>rw[e1]at h;obtain⟨e2,e3⟩:=z9 e1;exact hp _ H [.lst xs] [.ref a] Q pv (.one ra) e2 λw F' H' al rw'=>h _ S H' (rl.al (ka al)) (ka al).grow w (bi.imm pv e3 rw')
theorem QR(i:Nat)(hc:im X (.builtin id) r)(hp:PL X.K r f)(hm:X.mg x=ae)(hv:fM x=aa (.builtin id))(hN:X.N[i]?=aa y:=by rfl)(gD:ga X.env.scope y:=by first | exact Or.inl rfl | exact Or.inr (Or.inl rfl) | exact Or.inr (Or.inr rfl))(hd:(y == ("__debug__" : Str))=ao:=by decide) (bR:(y == ("__classdict__" : Str))=ao:=by decide) (hg:Gl X x:=by rfl) (hn:x≠"__name__":=by decide) (jQ:(x == ("__debug__" : Str))=ao:=by decide) {yp:Pos}(he:bu [.Name y yp] X.env=(ao,bz (.Name y yp) X.env)::bu [] X.env:=by rfl) (df:(f7 pos (bu [] X.env)).any (·.1)=ao:=by rfl):DE X E (.Call (.Name x p) [.Name y yp] [] pos) (yD (λxs=>nA (f xs)) i):=λF S ε σ H Q rl q=>by obtain⟨a,ea,hr⟩:=TH hp rl q;exact c7 (sW hc hg hm hv (kX (ip hN gD hd bR) nH he) hn jQ he df) ⟨_,ea,hr⟩
def U5(o:Option PO):Option PO:=o.bind λv=>if Rw v then aa v else ae
def jq(f:PV->PV->Option PV)(i:Nat)(db:ak->R PV):ak->R PV:=λε=>(aS (f6 ε i) ε).bind λ_ ε=>(db ε).bind λk ε1=>(aS (f6 ε1 i) ε1).bind λxs ε1=>aS (nA (f (.lst xs) k)) ε1
theorem Sm{F:af->Prop}{S:Nat->af->Prop}{ε:ak}{σ:St}{H:Hp}{Q:VK}{i:Nat}{r:R2}{f:PV->PV->Option PV}(hp:P2 X.K r f)(hb:DE X E b db)(rl:a_ X.K F S ε σ H)(h:Ok X.K E σ F S H (jq f i db ε) (λpv _ F' _ H'=>∀ v,bi X.K H' F' pv v->Q v H')) : ∃ a,σ[i]?=aa (aa (.ref a))/\i5 X b σ H λu H1=>r (.ref a) u H1 Q:=by
 unfold jq at h;cases e0:f6 ε i with
 | none=>rw[e0]at h; exact h.elim
 | some xs0=>
  rw[e0]at h;simp only[dO,R.bind_ok]at h;obtain⟨a,vs,ea,_⟩:=rl.lstAt (nK e0);refine⟨a,ea,hb F S ε σ H _ rl ((Ok.bind h).imp λk ε1 F1 S1 H1 r1 g1 q u ru=>?_)⟩;cases e1:f6 ε1 i with
  | none=>rw[e1]at q; exact q.elim
  | some xs=>
   rw[e1]at q;simp only[dO,R.bind_ok]at q;obtain⟨a',ea',nF,ra,nt,ka⟩:=r1.look (nK e1);rw[ea]at ea';cases ea';cases e2:nA (f (.lst xs) k)with
   | none=>rw[e2]at q; exact q.elim
   | some pv=>rw[e2]at q;obtain⟨e3,e4⟩:=z9 e2;exact hp _ H1 (.lst xs) k (.ref a) u Q pv ra (bi.mono (λ_ z=>.inl z) (λ_ _ _ z=>z) (λ_ _ z _=>z) _ _ ru) e3 λw F' H' al rw'=>q _ S1 H' (r1.al (ka al)) (ka al).grow w (bi.imm pv e4 rw')
theorem vk(i:Nat){yp:Pos}{r:R2}{f:PV->PV->Option PV}(hr:mn X r)(hp:P2 X.K r f)(hb:DE X E b db)(hN:X.N[i]?=aa y:=by rfl)(gD:ga X.env.scope y:=by first | exact Or.inl rfl | exact Or.inr (Or.inl rfl) | exact Or.inr (Or.inr rfl))(hd:(y == ("__debug__" : Str))=ao:=by decide) (bR:(y == ("__classdict__" : Str))=ao:=by decide) (hs:Bi b:=by exact λ_ _=>rfl):DE X E (.Subscript (.Name y yp) b pos) (jq f i db):=λF S ε σ H Q rl h=>by obtain⟨a,ea,hw⟩:=Sm hp hb rl h;exact c7 (Gp hr (ip hN gD hd bR) cA hs) ⟨_,ea,hw⟩
end
end Pu
namespace Pu
open L2
def qe(h:aF)(e T:af)(c fl:am):Prop:=∃ oe vs oT ts,h.get? e=aa oe/\oe.cls=c/\(oe.data = .fields vs/\oe.dict=ae)/\vs[1]?=aa (.ref T)/\T≠e/\h.get? T=aa oT/\oT.data = .fields ts/\ts[3]?=aa fl
def Made(h:aF)(e:af)(c:am):Prop:=∃ oe vs,h.get? e=aa oe/\oe.cls=c/\(oe.data = .fields vs/\oe.dict=ae)/\vs[1]?=aa .none
structure Kp(fs:List af)(X:af->Prop)(h h':aF):Prop where
 keep:∀ b o,h.get? b=aa o->b∉fs->¬ X b->h'.get? b=aa o
 slot:∀ b o,h.get? b=aa o->b∈fs->¬ X b->∃ sl,h'.get? b=aa { o with slots:=sl }
 there:∀ b o,h.get? b=aa o->∃ o',h'.get? b=aa o'
theorem Kp.trans{fs:List af}{X Y:af->Prop}{h h1 h2:aF}(a:Kp fs X h h1)(b:Kp fs Y h1 h2):Kp fs (λc=>X c\/Y c) h h2 where
 keep:=λc o e n x=>b.keep c o (a.keep c o e n λz=>x (.inl z)) n λz=>x (.inr z)
 slot:=λc o e n x=>by obtain⟨sl,e1⟩:=a.slot c o e n λz=>x (.inl z);obtain⟨sl2,e2⟩:=b.slot c _ e1 n λz=>x (.inr z);exact⟨sl2,e2⟩
 there:=λc o e=>let ⟨o',e'⟩:=a.there c o e; b.there c o' e'
theorem Kp.imp{fs fs':List af}{X Y:af->Prop}{h h':aF}(a:Kp fs X h h')(hfs:∀ b,b∈fs->b∈fs')(hX:∀ b o,h.get? b=aa o->X b->Y b):Kp fs' Y h h' where
 keep:=λc o e n x=>a.keep c o e (λz=>n (hfs c z)) λz=>x (hX c o e z)
 slot:=λc o e n x=>by
  by_cases hc:c∈fs
  ·exact a.slot c o e hc λz=>x (hX c o e z)
  ·exact⟨o.slots,a.keep c o e hc λz=>x (hX c o e z)⟩
 there:=a.there
theorem NM(f:Array am->Array am)(o:Obj):(qQ f o).dict=o.dict:=by
 obtain⟨c,d,dt,sl⟩:=o;cases dt <;> rfl
section
variable{M:Model}{A:be}{E:am->aq->Prop}{s:aq}
theorem FP{base:aF}{env:Env}{outer:List Env}{L e:af}{oe:Obj}{vs:Array am}{head:am}{Uw:Bool}{Q:Unit->aq->Prop}(kI:A.frames=aa (env::outer)) (hl:s.heap.FunFrames base (env::outer)) (hf:env.frame=aa L) (he:s.heap.get? e=aa oe) (hd:oe.data = .fields vs) (wL:oe.dict=ae) (hsz:1<vs.size)(h:∀ h' T,Kp (gG (env::outer)) (λb=>b=e) s.heap h'->qe h' e T oe.cls .none->s.heap.objs.size<=T->Q () { s with heap:=h' }) : ax M A (do let a ← frameOf env; let pl ← entryPlaceOf L Uw; let b ← EntryCells.newEntry head a .none (eZ L) .none pl; ot (.ref e) 1 b) (λ_ s'=>ax M A (setFlight (.ref e) ae) Q E s') E s:=by
 have hene:e∉(env::outer).filterMap (·.frame):=λhm=>by obtain⟨_,o,ho,wM⟩:=hl.mem hm;rw[he]at ho; injection ho with ho; subst ho; exact wM vs hd
 refine ar (wpAny_frameOf_fun kI hl hf λh₁ hs₁=>?_);refine ar (wpAny_entryPlaceOf λpl df=>?_);unfold EntryCells.newEntry newFields;refine ar (m8 ?_ (df.sizeOk5 _ _ _ _ _));have he₁:h₁.get? e=aa oe:=(hs₁.2.1 e hene).trans he;have he₂:=bK (h:=h₁) { cls:=.type "traceback",dict:=ae,data:=.fields ([head,.ref L,.none,eZ L,.none]++(if pl.isEmpty then bH 6 Value.none else pl)).toArray } he₁;refine vY he₂ hd hsz ?_;have ua:h₁.objs.size≠e:=mW (bE he₁);have hd₃:=Dd hd (·.setIfInBounds 1 (Value.ref h₁.objs.size));have he₃:=tL (qQ (·.setIfInBounds 1 (Value.ref h₁.objs.size))) he₂ (JX hd₃);have hT₃:=(tD (h₁.push { cls:=.type "traceback",dict:=ae,data:=.fields ([head,.ref L,.none,eZ L,.none]++(if pl.isEmpty then bH 6 Value.none else pl)).toArray }) (qQ (·.setIfInBounds 1 (Value.ref h₁.objs.size))) (g8 ua)).trans (dG h₁ rfl);unfold setFlight;refine ar (tu he₃ hd₃ (x:=.ref h₁.objs.size) (by simp[hsz]) ?_);rw[if_pos (show(Value.ref h₁.objs.size != Value.none)=ai from by simp)];refine vY hT₃ rfl (by simp only[dH,cZ,eI,tE] <;> lia) (h _ h₁.objs.size ?_ ?_ ?_)
 ·have keep:∀ b o,b≠e->h₁.get? b=aa o ->
    (((h₁.push { cls:=.type "traceback",dict:=ae,data:=.fields ([head,.ref L,.none,eZ L,.none]++(if pl.isEmpty then bH 6 Value.none else pl)).toArray }).update e (qQ (·.setIfInBounds 1 (Value.ref h₁.objs.size)))).update h₁.objs.size (qQ (·.setIfInBounds 3 ((ae:Option af).elim Value.none λf=>eZ f)))).get? b=aa o:=λb o l_ hb=>by
   have hbT:h₁.objs.size≠b:=mW (bE hb);rw[tD _ _ hbT,tD _ _ (g8 l_)];exact bK _ hb
  refine⟨λb o hb hn hx=>keep b o hx ((hs₁.2.1 b hn).trans hb),λb o hb hn hx=>?_,λb o hb=>?_⟩
  ·obtain⟨sl,q⟩:=hs₁.2.2 b o hb;exact⟨sl,keep b _ hx q⟩
  ·by_cases l_:b=e
   ·subst l_;exact⟨_,(tD _ _ ua).trans he₃⟩
   ·obtain⟨sl,q⟩:=hs₁.2.2 b o hb;exact⟨_,keep b _ l_ q⟩
 ·refine⟨_,_,_,_,(tD _ _ ua).trans he₃,Obj.cls_mapFields _ _,⟨hd₃,by rw[NM]; exact wL⟩,by simp[hsz],ua,tL _ hT₃ (JX (Dd rfl _)),Dd rfl _,by first | (simp; done) | (rcases df with rfl | ⟨_,_,_,_,_,_,_,rfl⟩ <;> simp)⟩
 ·exact mX hs₁.1.symm
theorem Qt{base:aF}{env:Env}{outer:List Env}{L e:af}{c:am}{Q:Unit->aq->Prop}(kI:A.frames=aa (env::outer))(hl:s.heap.FunFrames base (env::outer))(hf:env.frame=aa L)(hm:Made s.heap e c)(h:∀ h' T,Kp (gG (env::outer)) (λb=>b=e) s.heap h'->qe h' e T c .none->s.heap.objs.size<=T->Q () { s with heap:=h' }):ax M A (leaving env (.ref e)) Q E s:=by obtain⟨oe,vs,he,hc,⟨hd,wL⟩,h1⟩:=hm;subst hc;unfold leaving noteFrame;simp only[hf];refine ar (ar (tu he hd h1 ?_));rw[if_neg (by decide)];exact FP kI hl hf he hd wL (tI.mp h1).1 h
theorem P3{base:aF}{env:Env}{outer:List Env}{L e T:af}{c:am}{Q:Unit->aq->Prop}(kI:A.frames=aa (env::outer))(hl:s.heap.FunFrames base (env::outer))(hf:env.frame=aa L)(ht:qe s.heap e T c .none)(h:∀ h' T',Kp (gG (env::outer)) (λb=>b=e\/b=T) s.heap h'->qe h' e T' c .none->s.heap.objs.size<=T'->Q () { s with heap:=h' }) : ax M A (noteFrame (.ref e) env) (λ_ s2=>ax M A (setFlight (.ref e) ae) Q E s2) E s:=by
 obtain⟨oe,vs,oT,ts,he,DK,⟨hd,wL⟩,h1,ua,hT,hdT,h3⟩:=ht;subst DK;unfold noteFrame;simp only[hf];refine ar (tu he hd h1 ?_);rw[if_pos (show(Value.ref T != Value.none)=ai from by simp)];refine ar (tu hT hdT h3 ?_);rw[if_neg (show ¬ ((Value.none == eZ L)=ai)from by simp[eZ])];refine ar (vY hT hdT (tI.mp h3).1 ?_);have other:∀ b,b≠T->(s.heap.update T (qQ (·.setIfInBounds 3 Value.none))).get? b=s.heap.get? b:=λb hb=>tD _ _ (g8 hb);have noRecord:∀ b o,s.heap.get? b=aa o->(∀ vs,o.data≠.fields vs)->b≠T:=λb o hb wM q=>by rw[q,hT]at hb; injection hb with hb; subst hb; exact wM ts hdT
 refine FP kI (hl.of_keeps λb o hb wM=>⟨o,(other b (noRecord b o hb wM)).trans hb,rfl⟩) hf ((other e (g8 ua)).trans he) hd wL (tI.mp h1).1 λh' T' k fl hn=>?_;have k0:Kp (gG (env::outer)) (λb=>b=T) s.heap (s.heap.update T (qQ (·.setIfInBounds 3 Value.none))):=by
  refine⟨λb o hb _ hx=>(other b hx).trans hb,λb o hb _ hx=>⟨o.slots,(other b hx).trans hb⟩,λb o hb=>?_⟩;by_cases hx:b=T
  ·subst hx;exact⟨_,tL _ hT (JX (Dd hdT _))⟩
  ·exact⟨o,(other b hx).trans hb⟩
 refine h h' T' ((k0.trans k).imp (λ_ z=>z) λb o _ z=>z.symm) fl ?_;have e2:(s.heap.update T (qQ (·.setIfInBounds 3 Value.none))).objs.size<=T':=hn;rwa[JY]at e2
theorem Sx{base:aF}{env:Env}{outer:List Env}{L e T:af}{c:am}{Q:Unit->aq->Prop}(kI:A.frames=aa (env::outer))(hl:s.heap.FunFrames base (env::outer))(hf:env.frame=aa L)(ht:qe s.heap e T c .none)(h:∀ h' T',Kp (gG (env::outer)) (λb=>b=e\/b=T) s.heap h'->qe h' e T' c .none->s.heap.objs.size<=T'->Q () { s with heap:=h' }):ax M A (leaving env (.ref e)) Q E s:=by unfold leaving;exact ar (P3 kI hl hf ht h)
end
def ce(P:aX)(w:aN):fQ:=λouter H s E e s'=>∃ (a T:af) (c:am) (H':Hp),e = .ref a/\s'.os=s.os/\n4 s'.gens/\Un (gG outer) [] H H' s.heap s'.heap/\eD P w H' s'.heap/\qe s'.heap a T c .none /\
 (s.heap.get? a=ae/\s.heap.get? T=ae/\H' a=ae/\H' T=ae)/\E c ae H'
theorem KR{P:aX}{w:aN}{H:Hp}{h:aF}{a:af}{o:HO}(x:ef P w H h a o):∃ u,h.get? a=aa u:=by
 cases o with
 | lst xs=>obtain⟨_,_,_,_,e⟩:=x; exact⟨_,e⟩
 | tup xs=>obtain⟨_,_,_,⟨o,e,_⟩,_⟩:=x; exact⟨_,e⟩
 | dK kvs=>obtain⟨_,_,_,_,o,_,_,e,_⟩:=x; exact⟨_,e⟩
 | dT kvs=>obtain⟨_,_,_,_,o,_,_,e,_⟩:=x; exact⟨_,e⟩
 | set S n=>obtain⟨o,_,_,_,e,_⟩:=x; exact⟨_,e⟩
 | ins C dx fs=>obtain⟨_,_,_,e,_⟩:=x; exact⟨_,e⟩
 | own y=>exact x
 | xd fs=>obtain⟨_,⟨_,_,_,e,_⟩,_⟩:=x; exact⟨_,e⟩
 | rng lo hi=>obtain⟨_,_,_,e⟩:=x; exact⟨_,e⟩
 | frz ob u=>obtain⟨e,_⟩:=x; exact⟨_,e⟩
 | tbl ps=>obtain⟨_,e,_⟩:=x; exact⟨_,e⟩
 | met f y=>exact⟨_,x⟩
 | ext φ=>obtain⟨_,e,_⟩:=x; exact e
theorem Na{P:aX}{w:aN}{H:Hp}{h:aF}{a:af}(x:eD P w H h)(e:h.get? a=ae):H a=ae:=by
 cases q:H a with
 | none=>rfl
 | some u=>obtain⟨o,z⟩:=KR (x a u q); rw[e]at z; cases z
theorem vm{fs:List af}{H H':Hp}{h h':aF}{a:af}(u:Un fs [] H H' h h')(e:h'.get? a=ae):h.get? a=ae:=by
 cases q:h.get? a with
 | none=>rfl
 | some o=>obtain⟨o',z⟩:=u.there a o q (by simp); rw[e]at z; cases z
theorem Ih{fs fs':List af}{H H':Hp}{h h1 h2:aF}{X:af->Prop}(u:Un fs [] H H' h h1)(k:Kp fs' X h1 h2)(hf:∀ b o,h.get? b=aa o->b∈fs'->b∈fs)(hX:∀ b o,h.get? b=aa o->¬ X b):Un fs [] H H' h h2 where
 keep:=λb o e n hb hx=>k.keep b o (u.keep b o e n hb hx) (λz=>hb (hf b o e z)) (hX b o e)
 slot:=λb o e n hb hx=>by
  obtain⟨sl,e1⟩:=u.slot b o e n hb hx;by_cases hb':b∈fs'
  ·obtain⟨sl2,e2⟩:=k.slot b _ e1 hb' (hX b o e);exact⟨sl2,e2⟩
  ·exact⟨sl,k.keep b _ e1 hb' (hX b o e)⟩
 free:=u.free
 there:=λb o e hx=>let ⟨o',e'⟩:=u.there b o e hx; k.there b o' e'
 tups:=u.tups
 frzs:=u.frzs
 tbls:=u.tbls
theorem GK{P:aX}{w:aN}{fs:List af}{H:Hp}{h h':aF}{X:af->Prop}(x:eD P w H h)(k:Kp fs X h h')(hf:∀ b∈fs,H b=ae)(hX:∀ b,X b->H b=ae):eD P w H h':=λb u e=>
 (x b u e).stay (λc v hc q=>k.keep c v q (λz=>by
   have:=hf c z;rcases hc with rfl | hc
   ·rw[e]at this; cases this
   ·rw[hc]at this; cases this) λz=>by
   have:=hX c z;rcases hc with rfl | hc
   ·rw[e]at this; cases this
   ·rw[hc]at this; cases this) (λ_ q=>q) λ_ _ q=>q
section
variable{P:aX}{w:aN}{K:az}{mg:Str->Option am}{base:aF}{N:List Str}{qual:Str}{scope:eG}{f:af}{cd:am}{A:be}{outer:List Env}{s₀:aq}{H₀:Hp}{E:XK}
theorem cT:sD (ce P w) (i8 (ce P w) P w K mg base N qual scope f cd A outer s₀ H₀ E) E:=λah σ H s e s' I h=>by
 obtain⟨a,T,c,H',rfl,ho,hg,un,hok,fl,⟨fa,fT,na,nT⟩,hE⟩:=h;have I':=I.call' (s':=s') (ch:=[]) ho un hok hg (λb z=>absurd z (by simp));refine Sx (L:=s₀.heap.objs.size) I.ok.frames I'.stack rfl fl λig T' k fl' fT'=>?_;have p_:(i8 (ce P w) P w K mg base N qual scope f cd A outer s₀ H₀ E).ex=[]:=rfl;have fa0:s₀.heap.get? a=ae:=vm I.base fa;have fT0:s₀.heap.get? T=ae:=vm I.base fT;have fT0':s₀.heap.get? T'=ae:=vm I'.base (Jx fT');have old:∀ b o,s₀.heap.get? b=aa o->b≠a/\b≠T:=λb o e=>⟨(by rintro rfl; rw[fa0]at e; cases e),(by rintro rfl; rw[fT0]at e; cases e)⟩
 refine⟨a,T',c,H',rfl,I'.os,I'.bare,Ih I'.base k (λb o e z=>?_) (λb o e z=>z.elim (old b o e).1 (old b o e).2),GK I'.hok k I'.stkFree (λb z=>by rcases z with rfl | rfl <;> assumption),fl',⟨fa0,fT0',na,I'.hok.fresh fT'⟩,hE⟩;rcases ca.mp (I.stkSub b z)with q | q
 ·exact absurd (bE e) (by rw[q]; exact fG _)
 ·exact q
end
section
variable{X:Cx}{E:XK}{pin:List Nat}{e:aC}{de:ak->R PV}{x:Str}{C:af}{bmB:List am}{newId initId B:String}{np cpos pos:Pos}
def D_(X:Cx)(E:XK):Prop:=∀ (ah:List (af×Obj)) (σ:St) (H:Hp) (s:aq) (a:af) (c:am) (h':aF),Inv X ah σ H s->(∀ b o,s.heap.get? b=aa o->h'.get? b=aa o)->Made h' a c->s.heap.get? a=ae->(E c ae H)->X.xe (.ref a) { s with heap:=h' }
def rX(c:am)(de:ak->R PV):ak->R aH:=λε=>(de ε).bind λ_ ε1=>.er c ε1
theorem PH{h h':aF}{e:af}{cls:am}{args:List am}(m:Heap.MadeExcOf h h' e cls args):Made h' e cls:=by obtain⟨t,he,_,_⟩:=m.there;exact⟨_,_,he,rfl,⟨rfl,rfl⟩,rfl⟩
theorem uZ(hx:D_ X E)(hc:X.calm=ai)(O:OwnCls x C bmB newId X.mg X.base)(FB:ExcBaseFacts B newId initId bmB)(he:DE X.nox E0 e de)(hg:Gl X x:=by rfl)(hd:(x == ("__debug__" : Str))=ao:=by decide)(h1:bu [e] X.env=[(ao,bz e X.env)]:=by rfl):DS X E pin (.Raise (aa (.Call (.Name x np) [e] [] cpos)) ae pos) (rX (.ref C) (λε=>cX (de ε))):=λF S ε σ H D rl q=>Bx.mk λah s I=>by
 obtain⟨tl,N,nm,qn,bs,hdct,sn,sub,ab,col,dd,k0,k1,k2,k3,k5,mN,hC,hN,hni,T⟩:=O.obj;refine wpAny_Raise_call_subT (C:=C) (nm:=nm) (q:=qn) (N:=N) (bs:=bs) (bm:=tl) (hdct:=hdct) (sn:=sn) (sub:=sub) (ab:=ab) (col:=col) (dd:=dd) (k0:=k0) (k1:=k1) (k2:=k2) (k3:=k3) (k5:=k5)
  FB (mN:=mN) (T.hasType FB.hasBase) (I.ok.hd hc) (by rw[h1]; rfl) hni (Cp I hg O.bound ⟨rfl,?_⟩ hd)
 have q2:Ok X.K E0 σ F S H (de ε) (λ_ ε1 F1 S1 H1=>jc X.K E pin σ F1 S1 H1 (.er (.ref C) ε1) D):=by
  have q:jc X.K E pin σ F S H ((cX (de ε)).bind λ_ ε1=>.er (.ref C) ε1) D:=q;cases e0:de ε with
  | no=>rw[e0]at q; exact q.elim
  | er c ε'=>rw[e0]at q; exact q.elim
  | ok v ε'=>rw[e0]at q; exact λF' S' H' r' g'=>q.from g' (km.refl _ _)
 rw[h1];refine JH (d_ (CH (d_ ((he F S ε σ H (λv H1=>∃ F1 S1 ε1,a_ X.K F1 S1 ε1 σ H1/\jc X.K E pin σ F1 S1 H1 (.er (.ref C) ε1) D) rl (q2.imp λv ε1 F1 S1 H1 r1 g1 h v' rv=>⟨F1,S1,ε1,r1,h⟩)).run ah s (I.wish _)) (λu s1 ⟨v,H1,I1,r1,F1,S1,ε1,rl1,ok⟩=>?_) λ_ _ z=>z.elim)) (λ_ _ z=>z) λ_ _ z=>z);have I1:=I1.unwish;refine JC ⟨rfl,(by show 1<=bx; decide),I1.bk _ _ hC,hN.keeps I1.bk,T.keeps I1.bk,λh' a m=>?_⟩;exact hx ah σ H1 s1 a (.ref C) h' I1 m.keeps (PH m) m.new (ok ae F1 S1 σ H1 rl1 (bY.refl ..) (km.refl _ _))
end
section
variable{P:aX}{w:aN}{K:az}{mg:Str->Option am}{base:aF}{N:List Str}{qual:Str}{scope:eG}{f:af}{cd:am}{A:be}{outer:List Env}{s₀:aq}{H₀:Hp}{E:XK}
theorem uw:D_ (i8 (ce P w) P w K mg base N qual scope f cd A outer s₀ H₀ E) E:=λah σ H s a c h' I kp md new hE=>by
 have I':Inv _ ah σ H { s with heap:=h' }:=I.kept (t':=s.toks) kp;refine Qt (s:={ s with heap:=h' }) (L:=s₀.heap.objs.size) I.ok.frames I'.stack rfl md λig T' k fl' fT'=>?_;have fa0:s₀.heap.get? a=ae:=vm I.base new;have fT0':s₀.heap.get? T'=ae:=vm I'.base (Jx fT');have na:H a=ae:=Na I.hok new;refine⟨a,T',c,H,rfl,I'.os,I'.bare,Ih I'.base k (λb o e z=>?_) (λb o e z=>by rw[show b=a from z,fa0]at e; cases e),GK I'.hok k I'.stkFree (λb z=>by rw[show b=a from z]; exact na),fl',⟨fa0,fT0',na,I'.hok.fresh fT'⟩,hE⟩;rcases ca.mp (I.stkSub b z)with q | q
 ·exact absurd (bE e) (by rw[q]; exact fG _)
 ·exact q
end
def XP(X:Cx)(ah:List (af×Obj))(σ:St)(XE:am->Hp->Prop)(e:am)(s':aq):Prop:=∃ s1 H1,Inv X ah σ H1 s1/\ce X.prog X.w X.stack H1 s1 (λc _ H'=>XE c H') e s'
def Under(h:aF)(D:af)(c:am):Prop:=∃ C bm N nm q bs hdct sn sub ab col dd k0 k1 k2 k3 k5 newId,c = .ref C/\h.get? C=aa (excClassObj nm q C N bs bm hdct sn sub ab col dd k0 k1 k2 k3 k5 newId)/\(Value.ref C::bm).contains (.ref D)=ai
def Ib(h:aF)(D:af):Prop:=∃ bm N nm q bs hdct sn sub ab col dd k0 k1 k2 k3 k5 newId,h.get? D=aa (excClassObj nm q D N bs bm hdct sn sub ab col dd k0 k1 k2 k3 k5 newId)/\bm.contains (.type "BaseException")=ai
theorem Under.keeps{h h':aF}{D:af}{c:am}(x:Under h D c)(k:∀ b o,h.get? b=aa o->h'.get? b=aa o):Under h' D c:=by obtain⟨C,bm,N,nm,q,bs,hdct,sn,sub,ab,col,dd,k0,k1,k2,k3,k5,newId,e,h1,h2⟩:=x;exact⟨C,bm,N,nm,q,bs,hdct,sn,sub,ab,col,dd,k0,k1,k2,k3,k5,newId,e,k _ _ h1,h2⟩
theorem Ib.keeps{h h':aF}{D:af}(x:Ib h D)(k:∀ b o,h.get? b=aa o->h'.get? b=aa o):Ib h' D:=by obtain⟨bm,N,nm,q,bs,hdct,sn,sub,ab,col,dd,k0,k1,k2,k3,k5,newId,h1,h2⟩:=x;exact⟨bm,N,nm,q,bs,hdct,sn,sub,ab,col,dd,k0,k1,k2,k3,k5,newId,k _ _ h1,h2⟩
structure sx(k:Nat)(A:be):Prop where
 dp:A.depth+3 * k+5<vN
 un:A.units+16 * k+200<cLine
theorem Room.u{k:Nat}{A:be}(r:Room k A):sx k A:=⟨r.dp,r.un⟩
theorem sx.mono{j k:Nat}{A:be}(r:sx k A)(h:j<=k):sx j A:=⟨by have:=r.dp; lia,by have:=r.un; lia⟩
theorem sx.deeper{k:Nat}{A:be}(r:sx (k+1) A)(env:Env):sx k (A.deeper env) :=⟨by have:=r.dp; show A.depth+1+3 * k+5<_; lia,by have:=r.un; show A.units+3+16 * k+200<_; lia⟩
theorem sx.units{k:Nat}{A:be}(r:sx k A):A.units+64<cLine:=by have:=r.un; lia
theorem LM(c:Nat)(x:Tx):w8 [c] x=x.contains c:=by unfold w8;have:=StrLaws.found_one (tS x) c;rw[o_]at this;rw[show(tS [c])=⟨#[c]⟩from rfl,this];simp[List.contains_eq_mem]
section
variable{K:az}{F F':af->Prop}{S S':Nat->af->Prop}{ε ε':ak}{σ:St}{H H':Hp}{i:Nat}{po:PO}
variable{a b:af}{f8:List (List PV)}{as:List af}{j:Nat}{xs:List PV}{vs:List V}
theorem kw.len(h:kw K H F f8 as):as.length=f8.length:=by
 unfold kw at h
 induction h with
 | nil=>rfl
 | cons _ _ ih=>simp[ih]
theorem kw.get(h:kw K H F f8 as)(e:f8[j]?=aa xs):∃ b vs,as[j]?=aa b/\H b=aa (.lst vs)/\bq K H F xs vs:=by
 unfold kw at h
 induction h generalizing j with
 | nil=>simp at e
 | cons r _ ih=>
  cases j with
  | zero=>simp at e; subst e; obtain⟨vs,h1,h2⟩:=r; exact⟨_,vs,rfl,h1,h2⟩
  | succ j=>obtain⟨b,vs,q⟩:=ih (j:=j) (by simpa using e); exact⟨b,vs,by simpa using q⟩
theorem kw.set(h:kw K H F f8 as)(nd:as.Nodup)(e:as[j]?=aa b){H':Hp}(qZ:∀ x v,bq K H F x v->bq K H' F x v)(ho:∀ c o,c∈as->c≠b->H c=aa o->H' c=aa o)(hb:∃ vs',H' b=aa (.lst vs')/\bq K H' F xs vs'):kw K H' F (f8.set j xs) as:=by
 unfold kw at h ⊢
 induction h generalizing j with
 | nil=>exact .nil
 | cons r hr ih=>
  rename_i x c f8 as;have nd2:=jJ.mp nd;cases j with
  | zero=>simp at e; subst e;refine .cons hb ?_;exact kw.mono (K:=K) qZ (λd o hd=>ho d o (by simp[hd]) (by rintro rfl; exact nd2.1 hd)) hr
  | succ j=>
   have e2:as[j]?=aa b:=by simpa using e
   have hbm:b∈as:=vP e2;obtain⟨vs,h1,h2⟩:=r;exact .cons ⟨vs,ho c _ (by simp) (by rintro rfl; exact nd2.1 hbm) h1,qZ _ _ h2⟩ (ih nd2.2 e2 λd o hd=>ho d o (by simp[hd]))
end
theorem kw.snoc{K:az}{H:Hp}{F:af->Prop}{f8:List (List PV)}{as:List af}{xs:List PV}{b:af}{vs:List V}(h:kw K H F f8 as)(hb:H b=aa (.lst vs))(hr:bq K H F xs vs):kw K H F (f8++[xs]) (as++[b]):=CP h ⟨vs,hb,hr⟩
section
variable{X:Cx}{E:XK}{scope:eG}{x:Str}{N':List Str}{cap:List Nat}
variable{pin:List Nat}
theorem L0{F:af->Prop}{S:Nat->af->Prop}{ε:ak}{σ:St}{H:Hp}{D:lH}{i:Nat}{dn:ak->R PO}(hp:i∉pin)(rl:a_ X.K F S ε σ H)(h:jc X.K E pin σ F S H (bt i (dF dn) ε) D) : Ok X.K E σ F S H (dn ε) (λpo _ F' S' H'=>∀ a Sa,gf X.K H' F' po a Sa->(∀ b,Sa b->H b=ae/\¬ F' b/\¬ U S' b/\∃ o,H' b=aa o/\gJ o)->D.nx (σ.set i (aa (.ref a))) H'):=by
 unfold bt dF at h;cases e0:dn ε with
 | no=>rw[e0]at h; exact h.elim
 | er c ε'=>rw[e0]at h; exact λx F' S' H' r' g'=>h x F' S' σ H' r' g' (km.refl _ _)
 | ok po ε1=>
  rw[e0]at h;intro F1 S1 H1 r1 g1 a Sa ow fr;cases po with
  | dK kvs=>exact h.elim
  | lls f8=>exact h.elim
  | ins C fs=>exact h.elim
  | lst xs=>
   have hN:∀ b,Sa b->¬ U S1 b/\∃ o,H1 b=aa o:=λb z=>let ⟨_,_,x3,o,x4,_⟩:=fr b z; ⟨x3,o,x4⟩
   obtain⟨⟨vs,ha,hr⟩,hS⟩:=ow;have g2:bY (U S) (U S1) F (λb=>F1 b\/Sa b) H H1:=⟨λb z=>.inl (g1.fro b z),g1.keep,g1.there,λb z=>z.elim (g1.fnew b) λw=>.inr (.inl (fr b w).1),g1.onew⟩
   have rv:bi X.K H1 (λb=>F1 b\/Sa b) (.lst xs) (.ref a):=⟨a,vs,rfl,.inl ha,.inr ((hS a).mpr rfl),bq.mono (λ_ z=>.inl z) (λ_ _ _ z=>z) (λ_ _ z _=>z) _ _ hr⟩
   exact h _ _ _ H1 ((r1.more hN).set rv) (g2.trans (bY.less i)) (km.set hp)
section
variable{elt iter:aC}{y:Str}{px py pos spos:Pos}{di:ak->R (List PV)}{dt:ak->R Bool}{de:ak->R PV}{dl:ak->R PO}{ifs:List aC}
theorem Em(i:Nat)(hN:X.N.Nodup)(B:mG X scope x N' cap)(hc:X.calm=ai)(hi:DI X E (.Name x px) iter di)(ht:∀ C s₀ H₀ ex pn,DF (cV X scope N' C s₀ H₀ ex pn) E0 ifs dt) (he:∀ C s₀ H₀ ex pn,DE (cV X scope N' C s₀ H₀ ex pn) E0 elt de)(hp:i∉pin:=by decide) (hiy:X.N[i]?=aa y:=by rfl) (hx:Loc X.env.scope y:=by first | exact Or.inl rfl | exact Or.inr rfl) (hsw:mV (.ListComp elt [⟨.Name x px,iter,ifs,0⟩] scope pos) (aa (.Name y py)) spos.line X.env=pure ai:=by rfl)(hf:X.fn y=ai\/X.env.scope.names.lookup y=aa .local:=by first | exact .inl rfl | exact .inr rfl) (hs:∀ x,vL iter X.env x=pure x:=by intro _; rfl) : DS X E pin (.Assign [.Name y py] (.ListComp elt [⟨.Name x px,iter,ifs,0⟩] scope pos) spos) (bt i (dF (c9 cap di dt de))):=λF S ε σ H D rl h=>i_ (Te (wi:=sX X (.Name x px) iter) (ts:=λσ H Q=>∀ C s₀ H₀ ex pn,ym (cV X scope N' C s₀ H₀ ex pn) ifs σ H Q) (te:=λσ H Q=>∀ C s₀ H₀ ex pn,i5 (cV X scope N' C s₀ H₀ ex pn) elt σ H Q) B hc Cs (λC s₀ H₀ ex pn ah s σ H Q I h=>(h C s₀ H₀ ex pn).run ah s I) (λC s₀ H₀ ex pn ah s σ H Q I h=>(h C s₀ H₀ ex pn).run ah s I) hN hiy hx hsw hf hs) (GJ hi ht he rl (L0 hp rl h))
end
end
def fg(pin:List Nat):Nat->ak->Bool
 | _,[]=>ai
 | i,.own po::ss=>pin.contains i && jx po && fg pin (i+1) ss
 | i,_::ss=>fg pin (i+1) ss
theorem rW{pin:List Nat}:∀ {ss:ak} {k:Nat},fg pin k ss=ai->∀ (i:Nat) po,ss[i]?=aa (.own po)->k+i∈pin/\jx po=ai
 | [],_,_,i,po,e=>by simp at e
 | .own q::ss,k,h,0,po,e=>by simp only[List.getElem?_cons_zero,Option.some.injEq,Slot.own.injEq]at e;subst e;simp only[fg,iA]at h;exact⟨by simpa using h.1.1,h.1.2⟩
 | .own q::ss,k,h,i+1,po,e=>by simp only[fg,iA]at h;have:=rW (k:=k+1) h.2 i po (by simpa using e);rwa[zH,v5]at this
 | .val q::ss,k,h,0,po,e=>by simp at e
 | .none::ss,k,h,0,po,e=>by simp at e
 | .val q::ss,k,h,i+1,po,e=>by have:=rW (k:=k+1) (by simpa[fg]using h) i po (by simpa using e);rwa[zH,v5]at this
 | .none::ss,k,h,i+1,po,e=>by have:=rW (k:=k+1) (by simpa[fg]using h) i po (by simpa using e);rwa[zH,v5]at this
def bw(len:Nat)(pin:List Nat)(g:ak->R Slot):ak->R Slot:=λss=>if ss.length=len/\fg pin 0 ss=ai then g ss else .no
theorem cW{CX:fQ}{P:aX}{w:aN}{K:az}{mg:Str->Option am}{base:aF}{x:Str}{st:bf}{N ps:List Str}{k n:Nat}{d:ak->R aH}{pin:List Nat}(D:cB K mg x st)(Sc:b_ N ps (aZ st))(hn:N.length=ps.length+n)(hb:∀ (kV doc pm:am) (an:Option af) (aQ ct:am) (us:List am),us.length=ps.length->gM (kC x x (kU st) (gY st) (aZ st) .none kV doc pm an aQ ct) ⟨us,[]⟩=pure (ps.zip us))(jO:∀ (f:af) (aQ:am) (A:be) (outer:List Env) (s:aq) (H:Hp) (E:XK),Room k (A.deeper (j4 x (aZ st) s.heap.objs.size f aQ))->jr (i8 CX P w K mg base N x (aZ st) f aQ A outer s H E) E pin (gY st) d) : cr CX P w K mg base x (k+1) ps (b0 K (bw ps.length pin (bB n d))):=by
 have no:∀ {ss},bw ps.length pin (bB n d) ss≠.no->ss.length=ps.length/\fg pin 0 ss=ai:=λ{ss} h=>by
  unfold bw at h;by_cases z:ss.length=ps.length/\fg pin 0 ss=ai
  ·exact z
  ·rw[if_neg z]at h; exact absurd rfl h
 exact T9 D Sc hn hb (λss h=>(no h).1) (λss h i po e=>by have:=rW (no h).2 i po e; rwa[ox]at this) (λss h=>by unfold bw; rw[if_pos (no h)]) jO
theorem N2{f:af}{fd:g9}{CX:fQ}{P:aX}{w:aN}{K:az}{mg:Str->Option am}{base:aF}{x qual:Str}{st:bf}{N ps:List Str}{k n:Nat}{d:ak->R aH}{pin:List Nat}(Fn:oW K x qual st f fd)(Sc:b_ N ps (aZ st))(hn:N.length=ps.length+n)(hb:∀ (kV doc pm:am) (an:Option af) (aQ ct:am) (us:List am),us.length=ps.length->gM (kC x qual (kU st) (gY st) (aZ st) .none kV doc pm an aQ ct) ⟨us,[]⟩=pure (ps.zip us))(jO:∀ (f:af) (aQ:am) (A:be) (outer:List Env) (s:aq) (H:Hp) (E:XK),Room k (A.deeper (j4 qual (aZ st) s.heap.objs.size f aQ))->jr (i8 CX P w K mg base N qual (aZ st) f aQ A outer s H E) E pin (gY st) d) : iM P w K mg base CX (k+1) f fd ps (b0 K (bw ps.length pin (bB n d))):=by
 have no:∀ {ss},bw ps.length pin (bB n d) ss≠.no->ss.length=ps.length/\fg pin 0 ss=ai:=λ{ss} h=>by
  unfold bw at h;by_cases z:ss.length=ps.length/\fg pin 0 ss=ai
  ·exact z
  ·rw[if_neg z]at h; exact absurd rfl h
 exact G0 Fn Sc hn hb (λss h=>(no h).1) (λss h i po e=>by have:=rW (no h).2 i po e; rwa[ox]at this) (λss h=>by unfold bw; rw[if_pos (no h)]) jO
theorem IB{P:List am->Prop}(h:∀ a,P [a])(us:List am)(hl:us.length=1):P us:=by
 cases us with
 | nil=>cases hl
 | cons a r=>cases r with
  | nil=>exact h a
  | cons b r=>cases hl
theorem Jb{P:List am->Prop}(h:∀ a b,P [a,b])(us:List am)(hl:us.length=2):P us:=by
 cases us with
 | nil=>cases hl
 | cons a r=>exact IB (P:=λr=>P (a::r)) (h a) r (zI hl)
theorem Fx{P:List am->Prop}(h:∀ a b c,P [a,b,c])(us:List am)(hl:us.length=3):P us:=by
 cases us with
 | nil=>cases hl
 | cons a r=>exact Jb (P:=λr=>P (a::r)) (h a) r (zI hl)
theorem SR{P:List am->Prop}(h:∀ a b c d,P [a,b,c,d])(us:List am)(hl:us.length=4):P us:=by
 cases us with
 | nil=>cases hl
 | cons a r=>exact Fx (P:=λr=>P (a::r)) (h a) r (zI hl)
theorem UX{fd:g9}{ps:List Str}(h:∀ a,gM fd ⟨[a],[]⟩=pure (ps.zip [a]))(us:List am)(hl:us.length=1):gM fd ⟨us,[]⟩=pure (ps.zip us):=IB (P:=λus=>gM fd ⟨us,[]⟩=pure (ps.zip us)) h us hl
theorem UI{fd:g9}{ps:List Str}(h:∀ a b,gM fd ⟨[a,b],[]⟩=pure (ps.zip [a,b]))(us:List am)(hl:us.length=2):gM fd ⟨us,[]⟩=pure (ps.zip us):=Jb (P:=λus=>gM fd ⟨us,[]⟩=pure (ps.zip us)) h us hl
theorem UU{fd:g9}{ps:List Str}(h:∀ a b c,gM fd ⟨[a,b,c],[]⟩=pure (ps.zip [a,b,c]))(us:List am)(hl:us.length=3):gM fd ⟨us,[]⟩=pure (ps.zip us):=Fx (P:=λus=>gM fd ⟨us,[]⟩=pure (ps.zip us)) h us hl
theorem U6{fd:g9}{ps:List Str}(h:∀ a b c d,gM fd ⟨[a,b,c,d],[]⟩=pure (ps.zip [a,b,c,d]))(us:List am)(hl:us.length=4):gM fd ⟨us,[]⟩=pure (ps.zip us):=SR (P:=λus=>gM fd ⟨us,[]⟩=pure (ps.zip us)) h us hl
theorem jE{P:aX}{w:aN}{X:Cx}:sD (ce P w) X E0:=λ_ _ _ _ _ _ _ h=>by obtain⟨a,T,c,H',_,_,_,_,_,_,_,z⟩:=h;exact z.elim
theorem fh:fM "len" = aa (.builtin "len"):=by decide +kernel
theorem Jk:fM "all" = aa (.builtin "all"):=by decide +kernel
theorem Hn:fM "any" = aa (.builtin "any"):=by decide +kernel
theorem ye:fM "sorted" = aa (.builtin "sorted"):=by decide +kernel
theorem sC:fM "isinstance" = aa (.builtin "isinstance"):=by decide +kernel
theorem Qh:fM "int" = aa (.type "int"):=by decide +kernel
theorem P9:fM "bool" = aa (.type "bool"):=by decide +kernel
theorem GC:fM "str" = aa (.type "str"):=by decide +kernel
theorem MX:fM "list" = aa (.type "list"):=by decide +kernel
theorem AM:fM "tuple" = aa (.type "tuple"):=by decide +kernel
theorem AX:fM "set" = aa (.type "set"):=by decide +kernel
def mL:aC->Bool
 | .Starred _ _=>ai
 | _=>ao
theorem kg{e:aC}{es:List aC}{env:Env}(h:mL e=ao):bu (e::es) env=(ao,bz e env)::bu es env:=by
 cases e <;> first | rfl | cases h
section
variable{X:Cx}{E:XK}{e:aC}{es:List aC}{d:ak->R PV}{ds:ak->R (List PV)}{dg:ak->R (List cC)}
theorem aP(ha:DE X E e d)(hr:DA X E es ds)(h:mL e=ao:=by rfl):DA X E (e::es) (aw d ds):=OI ha hr (kg h)
theorem aI(ha:DE X E e d)(hr:DG X E es dg)(h:mL e=ao:=by rfl):DG X E (e::es) (gV d dg):=Mh ha hr (kg h)
end
def yk:List am:=[.type "ValueError",.type "Exception",.type "BaseException",.type "object"]
theorem SD{K:az}{h:aF}{C:af}{B:List am}{nw:String}(X:K.In h)(q:tQ K C B nw=ai) : ∃ bm N nm qn bs hd sn sub ab col dd k0 k1 k2 k3 k5 mN,h.get? C=aa (excClassObj nm qn C N bs bm hd sn sub ab col dd k0 k1 k2 k3 k5 nw)/\h.Ns N mN/\mN "__init__" = ae/\OwnTail h B bm:=by
 unfold tQ at q;split at q
 case h_2=>cases q
 case h_1 d0 cdata slots look=>
  split at q
  case h_2=>cases q
  case h_1 C2 tl s0 s1 s2 s3 nn s5 em es=>
   rw[iA,iA,iA,iA,iA]at q;obtain⟨⟨⟨⟨⟨q1,q2⟩,q3⟩,q4⟩,q5⟩,q6⟩:=q;have r1:=beq_iff_eq.mp q1;have r2:=beq_iff_eq.mp q2;have r6:=beq_iff_eq.mp q6;subst r1 r2;cases cdata;dsimp only at em q3 q5 r6;subst em;have r3:=JZ _ |>.mp q3
   subst r3;have r7:slots = #[s0,s1,s2,s3,aa (.builtin nn),s5]:=by cases slots; exact congrArg Array.mk es
   subst r7;exact⟨tl,_,_,_,_,_,_,_,_,_,d0,s0,s1,s2,s3,s5,_,X _ _ look,Heap.Ns.of_isNs (PySem.W.isNs_of_in X q5),PySem.W.nsMap_none_of_in X q5 r6,PySem.W.tail_of_in X q4⟩
theorem xA{K:az}{h:aF}{mg:Str->Option am}{x:Str}{C:af}{B:List am}{nw:String}(X:K.In h)(e:mg x=aa (.ref C))(q:tQ K C B nw=ai):OwnCls x C B nw mg h:=⟨e,SD X q⟩
def subB(K:az)(D C:af):Bool:=match K.lookup C with
 | some ⟨_,_,.cls cd,_⟩=>cd.mro.contains (.ref D)
 | _=>ao
def G3(K:az)(C:af):Bool :=
 zn K (.ref C) "__getattribute__" == aa (aa (.builtin "BaseException.__getattribute__")) && zn K (.ref C) "__getattr__" == aa ae && zn K (.ref C) "__class__" == aa (aa (.builtin "object.__class__")) &&
 PySem.W.specialIn K (.builtin "object.__class__") "__get__" == aa (aa (.builtin "getset_descriptor.__get__")) && PySem.W.takesIn K (.builtin "object.__class__") == aa ai && PySem.W.mroIn K C (.type "object") == aa ai && PySem.W.mroIn K C (.type "BaseException") == aa ai && (PySem.W.clsIn K C).isSome
def z0(K:az):Bool:=K.all λp=>match p.2.cls with
 | .type t=>t != "list"
 | _=>ai
theorem Ic{a:af}{o:Obj}:∀ {K:az},K.lookup a=aa o->(a,o)∈K
 | [],e=>by cases e
 | (b,u)::K,e=>by
  rw[lm]at e;cases q:a == b with
  | true=>rw[q]at e; cases e; rw[beq_iff_eq.mp q]; exact n6 ..
  | false=>rw[q]at e; exact lO _ (Ic e)
theorem GP{K:az}{H:Hp}{F:af->Prop}:∀ ns:List Int,bq K H F (ns.map .int) (ns.map V.int)
 | []=>rfl
 | x::ns=>⟨.int x,ns.map V.int,rfl,rfl,GP ns⟩
theorem RJ{K:az}{H:Hp}{a:af}{xs:List V}(h:z0 K=ai)(s:cg K H a xs):Rd H a (.lst xs):=by
 rcases s with s | ⟨o,its,n,lk,hc,_⟩
 ·exact s
 ·have:=vZ.mp h _ (Ic lk);rw[hc]at this;simp at this
theorem SM{K:az}{g:ak->R Slot}{H:Hp}{a:af}{ns:List Int}{E:XK}(hr:Rd H a (.lst (ns.map V.int)))(h:g [.val (.lst (ns.map .int))] = .ok (.val (.bl ai)) [.val (.lst (ns.map .int))]):b0 K g [.ref a] H (λv _=>v = .bl ai) E:=by
 refine⟨λb=>b=a,λ_ _=>False,[.val (.lst (ns.map .int))],⟨rfl,λb e=>?_,λi pv e=>?_,λi po e=>?_,λi b z=>z.elim,λi j b z=>z.elim⟩,?_⟩
 ·subst e;rcases hr with hr | ⟨o,hr⟩ <;> exact⟨_,hr⟩
 ·cases i with
  | zero=>cases e; exact⟨_,rfl,a,_,rfl,hr,rfl,GP ns⟩
  | succ i=>simp at e
 ·cases i with
  | zero=>cases e
  | succ i=>simp at e
 ·rw[h];exact λv F' S' H' Sr _ _ rv _ _=>rv.1
theorem U3{K:az}{x:Str}{i:Int}{t:Tok}(e:eU K cG x=aa (aa (.int i t))):∃ t,eU K cG x=aa (aa (.int i t)):=⟨t,e⟩
theorem UY{K:az}{x:Str}{l:Tx}{t:Tok}(e:eU K cG x=aa (aa (.str (tS l) t))):∃ t,eU K cG x=aa (aa (.str (tS l) t)):=⟨t,e⟩
def cK(K:az)(x:Str)(st:bf):Prop:=∃ f oc od kV dc pm an cd ct sl,eU K cG x=aa (aa (.ref f))/\K.lookup f=aa ⟨oc,od,.func (kC x x (kU st) (gY st) (aZ st) .none kV dc pm an cd ct),sl⟩/\zq K cd x=ai/\tq K (.ref f)=ai
theorem UH{K:az}{x:Str}{st:bf}{f:af}{oc kV dc pm cd ct:am}{od an:Option af}{sl:Array (Option am)}(a:eU K cG x=aa (aa (.ref f)))(l:K.lookup f=aa ⟨oc,od,.func (kC x x (kU st) (gY st) (aZ st) .none kV dc pm an cd ct),sl⟩)(c:zq K cd x=ai) (k:tq K (.ref f)=ai):cK K x st:=⟨f,oc,od,kV,dc,pm,an,cd,ct,sl,a,l,c,k⟩
theorem cK.at{K:az}{h:aF}{mg:Str->Option am}{x:Str}{st:bf}(d:cK K x st)(X:K.In h)(G:h.Ns cG mg):cB K mg x st:=by obtain⟨f,oc,od,kV,dc,pm,an,cd,ct,sl,a,l,c,k⟩:=d;exact⟨f,_,jN X G a,HR l c k⟩
def kQ(kvs:List (aJ×PV))(k:aJ):Option PV:=(kvs.find? λkv=>decide (kv.1=k)).map (·.2)
def rT(kvs:List (aJ×PV))(k:aJ)(v:PV):List (aJ×PV):=if(kvs.any λkv=>decide (kv.1=k))=ai then kvs.map (λkv=>if kv.1=k then(kv.1,v)else kv)else kvs++[(k,v)]
def kq:PV->Option aJ
 | .int i=>aa (.inl i)
 | .str x=>aa (.inr (tS x))
 | _=>ae
section
variable{K:az}{F:af->Prop}{S:Nat->af->Prop}{ε:ak}{σ:St}{H:Hp}{i:Nat}{kvs:List (aJ×PV)}{ws:List (aJ×V)}{a:af}
theorem yU{x:PV}{v:V}{k:aJ}(r:bi K H F x v)(e:kq x=aa k):v=kV k:=by
 cases x <;> simp[kq]at e
 ·subst e; exact r
 ·subst e; exact r.1
theorem fV.len(h:fV K H F kvs ws):ws.length=kvs.length:=by
 unfold fV at h
 induction h with
 | nil=>rfl
 | cons _ _ ih=>simp[ih]
theorem fV.val(h:fV K H F kvs ws)(k:aJ):(∃ x v,kQ kvs k=aa x/\iP ws k=aa v/\bi K H F x v)\/(kQ kvs k=ae/\iP ws k=ae):=by
 unfold fV at h
 induction h with
 | nil=>exact .inr ⟨rfl,rfl⟩
 | @cons p q ps qs r _ ih=>
  by_cases e:p.1=k
  ·refine .inl ⟨p.2,q.2,by simp[kQ,fX,e],?_,r.2⟩;rw[vd (by rw[← r.1]; exact e)]
  ·have e2:¬ q.1=k:=by rw[← r.1]; exact e
   rw[uL e2];have:kQ (p::ps) k=kQ ps k:=by simp[kQ,fX,e]
   rw[this]; exact ih
theorem fV.any(h:fV K H F kvs ws)(k:aJ):(kvs.any λkv=>decide (kv.1=k))=ws.any λkv=>decide (kv.1=k):=by
 unfold fV at h
 induction h with
 | nil=>rfl
 | cons r _ ih=>rw[og,og,ih,r.1]
theorem fV.put(h:fV K H F kvs ws)(k:aJ){x:PV}{v:V}(r:bi K H F x v):fV K H F (rT kvs k x) (gX ws k v):=by
 unfold rT gX;rw[h.any k];split
 ·rename_i hA;clear hA;unfold fV at h ⊢
  induction h with
  | nil=>exact .nil
  | @cons p q ps qs r1 _ ih=>
   refine .cons ?_ ih;dsimp only;by_cases e:p.1=k
   ·rw[if_pos e,if_pos (by rw[← r1.1]; exact e)]; exact⟨r1.1,r⟩
   ·rw[if_neg e,if_neg (by rw[← r1.1]; exact e)]; exact r1
 ·exact CP h ⟨rfl,r⟩
theorem a_.dkAt(r:a_ K F S ε σ H)(e:ε[i]?=aa (.own (.dK kvs))):∃ a ws,σ[i]?=aa (aa (.ref a))/\H a=aa (.dK ws)/\fV K H F kvs ws/\S i a/\∀ b,S i b->b=a:=by obtain⟨a,e1,⟨vs,h1,h2⟩,h3⟩:=r.own i _ e;exact⟨a,vs,e1,h1,h2,(h3 a).mpr rfl,λb h=>(h3 b).mp h⟩
theorem a_.updO{po po':PO}{o':HO}(r:a_ K F S ε σ H)(e:ε[i]?=aa (.own po))(hf:jx po=ai)(ea:σ[i]?=aa (aa (.ref a)))(hn:gJ o')(h:∀ H',(∀ x v,bi K H F x v->bi K H' F x v)->(∀ x v,bq K H F x v->bq K H' F x v)->H' a=aa o'->∀ Sa:af->Prop,(∀ b,Sa b↔b=a)->gf K H' F po' a Sa) : a_ K F S (ε.set i (.own po')) σ (L2.upd H a o')/\bY (U S) (U S) F F H (L2.upd H a o'):=by
 obtain⟨a',e1,ow⟩:=r.own i po e;rw[ea]at e1;cases e1;have h34:=FO ow hf;have h3:S i a:=(h34 a).mpr rfl;have h4:∀ b,S i b->b=a:=λb z=>(h34 b).mp z;have hi:i<ε.length:=(eE.mp e).1;have g:bY (U S) (U S) F F H (L2.upd H a o'):=⟨λ_ z=>z,λb o q n=>by rw[cu (by rintro rfl; exact n ⟨i,h3⟩)]; exact q,λb o q=>by
  by_cases hb:b=a
  ·subst hb; exact⟨_,cF⟩
  ·exact⟨o,by rw[cu hb]; exact q⟩,λ_ z=>.inl z,λ_ z=>.inl z⟩
 refine⟨⟨by rw[lq]; exact r.len,λb z=>let ⟨o,q⟩:=r.ex b z; g.there b o q,λj pv q=>?_,λj po q=>?_,λj b z=>?_,r.dist⟩,g⟩
 ·have hj:i≠j:=by rintro rfl; rw[ix hi]at q; cases q
  rw[fN hj]at q;obtain⟨v,q1,q2⟩:=r.val j pv q;exact⟨v,q1,q2.grow g r.fit⟩
 ·by_cases hj:i=j
  ·subst hj;rw[ix hi]at q;cases q;exact⟨a,ea,h _ (λ_ _ z=>z.grow g r.fit) (λ_ _ z=>z.grow g r.fit) cF _ h34⟩
  ·rw[fN hj]at q;obtain⟨c,q1,q2⟩:=r.own j po q;refine⟨c,q1,q2.mono (λ_ _ z=>z.grow g r.fit) (λ_ _ z=>z.grow g r.fit) λb o z w=>?_⟩;rw[cu (by rintro rfl; exact hj (r.dist i j b h3 z))]; exact w
 ·obtain⟨⟨po,q1⟩,q2,o,q3,q4⟩:=r.foot j b z;by_cases hj:i=j
  ·subst hj;rw[h4 b z];exact⟨⟨_,ix hi⟩,by rw[← h4 b z]; exact q2,_,cF,hn⟩
  ·exact⟨⟨po,by rw[fN hj]; exact q1⟩,q2,o,by rw[cu (by rintro rfl; exact hj (r.dist i j b h3 z))]; exact q3,q4⟩
end
def eB(ε:ak)(i:Nat):Option (List (aJ×PV)):=match ε[i]? with
 | some (.own (.dK kvs))=>aa kvs
 | _=>ae
theorem mQ{ε:ak}{i:Nat}{kvs:List (aJ×PV)}(h:eB ε i=aa kvs):ε[i]?=aa (.own (.dK kvs)):=by
 unfold eB at h;split at h
 ·cases h; assumption
 ·cases h
section
variable{X:Cx}{E:XK}{pin:List Nat}{e b c:aC}{de db dc:ak->R PV}{pos:Pos}
def AU:ak->R PO:=λε=>.ok (.dK []) ε
theorem Mo:DN X E (.Dict [] [] pos) AU:=λF S ε σ H Q rl h=>c7 Ni λp hp=>by
 have al:Al F F H (upd H p (.dK [])):=Al.new0 hp;refine h F S _ (rl.al al) al.grow p (λb=>b=p) ⟨⟨[],cF,.nil⟩,λb=>Iff.rfl⟩ λb z=>?_;subst z;refine⟨hp,λz=>?_,λ⟨j,z⟩=>?_,_,cF,trivial⟩
 ·obtain⟨o,q⟩:=rl.ex b z; rw[hp]at q; cases q
 ·obtain⟨_,_,o,q,_⟩:=rl.foot j b z; rw[hp]at q; cases q
def jD(i:Nat)(db:ak->R PV):ak->R PV:=λε=>(aS (eB ε i) ε).bind λ_ ε=>(db ε).bind λk ε1=>(aS (eB ε1 i) ε1).bind λkvs ε1=>aS ((kq k).bind λk=>kQ kvs k) ε1
theorem uJ(i:Nat){y:Str}{yp:Pos}(hu:X.A.units+64<cLine)(hb:DE X E b db)(hN:X.N[i]?=aa y:=by rfl)(gD:ga X.env.scope y:=by first | exact Or.inl rfl | exact Or.inr (Or.inl rfl) | exact Or.inr (Or.inr rfl))(hd:(y == ("__debug__" : Str))=ao:=by decide) (bR:(y == ("__classdict__" : Str))=ao:=by decide) (hs:Bd b:=by exact λ_ _=>rfl):DE X E (.Subscript (.Name y yp) b pos) (jD i db):=λF S ε σ H Q rl h=>by
 unfold jD at h;cases e0:eB ε i with
 | none=>rw[e0]at h; exact h.elim
 | some kvs0=>
  rw[e0]at h;simp only[dO,R.bind_ok]at h;obtain⟨a,ws0,ea,_⟩:=rl.dkAt (mQ e0);refine c7 (KJ ∅ (ip hN gD hd bR) cA hs) ⟨.ref a,ea,hb F S ε σ H _ rl ((Ok.bind h).imp λk ε1 F1 S1 H1 r1 g1 q u ru=>?_)⟩;cases e1:eB ε1 i with
  | none=>rw[e1]at q; exact q.elim
  | some kvs=>
   rw[e1]at q;simp only[dO,R.bind_ok]at q;obtain⟨a',ws,ea',ha,hk,_⟩:=r1.dkAt (mQ e1);rw[ea]at ea';cases ea';cases e2:kq k with
   | none=>rw[e2]at q; exact q.elim
   | some ky=>
    rw[e2,iD]at q;rw[yU ru e2];rcases hk.val ky with⟨x,v,h1,h2,h3⟩ | ⟨h1,h2⟩
    ·rw[h1]at q;exact⟨a,v,rfl,by rw[← h2]; exact kR.k ha,q F1 S1 H1 r1 (bY.refl ..) v h3⟩
    ·rw[h1]at q; exact q.elim
def nQ(i:Nat)(db dc:ak->R PV):ak->R PV:=λε=>(aS (eB ε i) ε).bind λ_ ε=>(db ε).bind λk ε1=>(dc ε1).bind λz ε2=>(aS (eB ε2 i) ε2).bind λkvs ε2=>aS ((kq k).map λk=>(kQ kvs k).getD z) ε2
theorem HL(i:Nat){y:Str}{yp apos:Pos}(hu:X.A.units+64<cLine)(hb:DE X E b db)(hc:DE X E c dc)(hN:X.N[i]?=aa y:=by rfl)(gD:ga X.env.scope y:=by first | exact Or.inl rfl | exact Or.inr (Or.inl rfl) | exact Or.inr (Or.inr rfl))(hd:(y == ("__debug__" : Str))=ao:=by decide) (bR:(y == ("__classdict__" : Str))=ao:=by decide)(h1:tz (.Name y yp) "get" X.env (bz (.Name y yp) X.env)=bz (.Name y yp) X.env:=by rfl) (h3:(apos.endLine == pos.line)=ai:=by rfl) (s1:mL b=ao:=by rfl) (s2:mL c=ao:=by rfl) : DE X E (.Call (.Attribute (.Name y yp) "get" apos) [b,c] [] pos) (nQ i db dc):=λF S ε σ H Q rl h=>by
 have st:bu [b,c] X.env=[(ao,bz b X.env),(ao,bz c X.env)]:=by rw[kg s1,kg s2]; rfl
 have m:M2 X (.Name y yp) "get" apos b c pos:=⟨h1,by rw[st]; rfl,h3,by rw[st]; rfl⟩
 unfold nQ at h;cases e0:eB ε i with
 | none=>rw[e0]at h; exact h.elim
 | some kvs0=>
  rw[e0]at h;simp only[dO,R.bind_ok]at h;obtain⟨a,ws0,ea,ha0,_⟩:=rl.dkAt (mQ e0);refine c7 (Nn ∅ (ip hN gD hd bR) cA cA m) ⟨.ref a,ea,a,rfl,.inl ⟨_,.inl ha0⟩,hb F S ε σ H _ rl ((Ok.bind h).imp λk ε1 F1 S1 H1 r1 g1 q u ru=>?_)⟩;refine hc F1 S1 ε1 σ H1 _ r1 ((Ok.bind q).imp λz ε2 F2 S2 H2 r2 g2 q w rw'=>?_);cases e1:eB ε2 i with
  | none=>rw[e1]at q; exact q.elim
  | some kvs=>
   rw[e1]at q;simp only[dO,R.bind_ok]at q;obtain⟨a',ws,ea',ha,hk,_⟩:=r2.dkAt (mQ e1);rw[ea]at ea';cases ea';cases e2:kq k with
   | none=>rw[e2]at q; exact q.elim
   | some ky=>
    rw[e2,lV]at q;rw[yU ru e2];rcases hk.val ky with⟨x,v,h1,h2,h3⟩ | ⟨h1,h2⟩
    ·rw[h1]at q;exact⟨aa v,by rw[← h2]; exact kR.k ha,q F2 S2 H2 r2 (bY.refl ..) v h3⟩
    ·rw[h1]at q;exact⟨ae,by rw[← h2]; exact kR.k ha,q F2 S2 H2 r2 (bY.refl ..) w rw'⟩
def jo(i:Nat)(db de:ak->R PV):ak->R aH:=λε=>(de ε).bind λy ε1=>(aS (eB ε1 i) ε1).bind λ_ ε1=>(db ε1).bind λk ε2=>(aS (eB ε2 i) ε2).bind λkvs ε2=>(aS (kq k) ε2).bind λk ε2=>if kvs.length<bI then .ok .next (ε2.set i (.own (.dK (rT kvs k y))))else .no
theorem vA(i:Nat){y:Str}{yp tpos:Pos}(hu:X.A.units+64<cLine)(hb:DE X E b db)(he:DE X E e de)(hN:X.N[i]?=aa y:=by rfl)(gD:ga X.env.scope y:=by first | exact Or.inl rfl | exact Or.inr (Or.inl rfl) | exact Or.inr (Or.inr rfl))(hd:(y == ("__debug__" : Str))=ao:=by decide) (bR:(y == ("__classdict__" : Str))=ao:=by decide) (hs:mV e (aa (.Subscript (.Name y yp) b tpos)) pos.line X.env=pure ao:=by rfl) : DS X E pin (.Assign [.Subscript (.Name y yp) b tpos] e pos) (jo i db de):=λF S ε σ H D rl h=>by
 refine i_ (Md ∅ (ip hN gD hd bR) cA cA hs) (he F S ε σ H _ rl (h.bindE.imp λy ε1 F1 S1 H1 r1 g1 q v rv=>?_));cases e0:eB ε1 i with
 | none=>rw[e0]at q; exact q.elim
 | some kvs0=>
  rw[e0]at q;simp only[dO,R.bind_ok]at q;obtain⟨a,ws0,ea,ha0,_⟩:=r1.dkAt (mQ e0);refine⟨.ref a,ea,hb F1 S1 ε1 σ H1 _ r1 (q.bindE.imp λk ε2 F2 S2 H2 r2 g2 q2 u ru=>?_)⟩;cases e1:eB ε2 i with
  | none=>rw[e1]at q2; exact q2.elim
  | some kvs=>
   rw[e1]at q2;simp only[dO,R.bind_ok]at q2;obtain⟨a',ws,ea',ha,hk,_⟩:=r2.dkAt (mQ e1);rw[ea]at ea';cases ea';cases e2:kq k with
   | none=>rw[e2]at q2; exact q2.elim
   | some ky=>
    rw[e2]at q2;simp only[dO,R.bind_ok]at q2;split at q2
    ·rename_i hl;rw[yU ru e2];have eF:=hk.put ky (rv.grow g2 r1.fit);obtain⟨r3,g3⟩:=r2.updO (po':=.dK (rT kvs ky y)) (o':=.dK (gX ws ky v)) (mQ e1) rfl ea trivial λH' m1 m2 hH' Sa hSa=>⟨⟨_,hH',eF.mono m1⟩,hSa⟩
     exact⟨a,_,rfl,zj.k ha (by rw[hk.len]; exact fW hl nE),q2 F2 S2 σ _ r3 g3 (km.refl _ _)⟩
    ·exact q2.elim
end
section
variable{X:Cx}
def u5(a d:af):HO:=.ext λh=>h.IsValuesView a d
theorem Pa:Cw X "dict.values" (λx xs H Q=>∃ d kvs,x = .ref d/\xs=[]/\H d=aa (.dK kvs)/\∀ a,H a=ae->Q (.ref a) (upd H a (u5 a d))):=by
 intro ah s σ H x xs v us Q I rx rs h;obtain⟨d,kvs,rfl,rfl,hd,q⟩:=h;cases rx;cases rs.zero;obtain⟨z,hs,vs,rel,dd⟩:=yB I.hok hd;refine call_meetsIn PySem.F.slot_dict_values dd.typeIs PySem.F.entry_dict_values (PySem.F.args_dict_values_1 _) (meets_dict_values (gI X.prog X.w) d hs) ⟨⟨vs,dd⟩,?_⟩;refine⟨.ref s.heap.objs.size,_,I.laid (a:=s.heap.objs.size) (o:=u5 s.heap.objs.size d) (t':=s.toks) (λ_ _ q=>bK _ q) (bo _) ?_,rfl,q _ I.fresh⟩;exact⟨⟨_,dG _ rfl,rfl,rfl⟩,⟨_,dG _ rfl⟩,λh1 h2 ⟨o,q1,q2⟩ k=>⟨o,k o q1,q2⟩⟩
theorem KV.at{kvs:List (aJ×V)}{vs:List (aJ×am)}(r:KV kvs vs){i:Nat}{k:aJ}{u:am}(h:vs[i]?=aa (k,u)):∃ v,kvs[i]?=aa (k,v)/\RelV v u:=by
 unfold KV at r
 induction r generalizing i with
 | nil=>simp at h
 | @cons p q ps qs r1 _ ih=>
  cases i with
  | zero=>simp at h;subst h;exact⟨p.2,by simp[show k=p.1 from r1.1.symm],r1.2⟩
  | succ i=>exact ih (by simpa using h)
def k_(kvs:List (aJ×V)):Option Bool:=match kvs with
 | []=>aa ao
 | (_,.int i)::r=>(k_ r).map λb=>(decide (i≠0)) || b
 | _=>ae
theorem Gz:∀ {kvs:List (aJ×V)} {b:Bool},k_ kvs=aa b->(∀ (i:Nat) k v,kvs[i]?=aa (k,v)->∃ n,v = .int n)/\b=(bQ kvs.length).any λi=>match kvs[i]? with | aa (_,.int n)=>decide (n≠0) | _=>ao
 | [],b,h=>by simp[k_]at h; subst h; exact⟨by simp,rfl⟩
 | (k,.int n)::r,b,h=>by
  simp only[k_,tF]at h;obtain⟨b',h1,h2⟩:=h;obtain⟨i1,i2⟩:=Gz h1;refine⟨λi k' v e=>?_,?_⟩
  ·cases i with
   | zero=>simp at e; exact⟨n,e.2.symm⟩
   | succ i=>exact i1 i k' v (by simpa using e)
  ·rw[eI,qO,og,De,← h2,i2];rfl
 | (_,.non)::_,_,h=>by simp[k_]at h
 | (_,.bl _)::_,_,h=>by simp[k_]at h
 | (_,.str _)::_,_,h=>by simp[k_]at h
 | (_,.ref _)::_,_,h=>by simp[k_]at h
 | (_,.ty _)::_,_,h=>by simp[k_]at h
theorem Mn(hc:X.calm=ai):im X (.builtin "any") (λxs H Q=>∃ (p d:af) (kvs:List (aJ×V)) (b:Bool),xs=[.ref p]/\H p=aa (u5 p d)/\H d=aa (.dK kvs)/\k_ kvs=aa b/\Q (.bl b) H):=by
 intro ah s σ H xs us Q I r h;obtain⟨p,d,kvs,b,rfl,hp,hd,ha,q⟩:=h;obtain⟨u,rfl,ru⟩:=vals1 r;cases ru;obtain⟨hv,_,_⟩:=(show ef X.prog X.w H s.heap p (u5 p d)from I.hok p _ hp)
 obtain⟨z,hs,vs,rel,dd⟩:=yB I.hok hd;obtain⟨ep,q0⟩:=dd.dictAt;obtain⟨i1,i2⟩:=Gz ha;refine call_any_walk (wpAny_pyIter_values hv q0 ?_);refine⟨s.heap.objs.size,_,_,_,_,_,λi=>match kvs[i]? with | aa (_,.int n)=>decide (n≠0) | _=>ao,rfl,Walks.dictValues (w_ (I.ok.hd hc)) _ d (c_ q0.lt_size) vs ep,⟨⟨_,dG _ rfl,rfl,rfl⟩,q0.push _⟩,λi v s' Q' E' hv hQ=>?_,λh' tk k=>?_⟩
 ·obtain⟨ky,hx⟩:=hv;obtain⟨w,e1,e2⟩:=KV.at rel hx;obtain⟨n,rfl⟩:=i1 i ky w e1;obtain⟨t,rfl⟩:=e2;dsimp only at hQ;rw[e1]at hQ;exact PyProof.Rows.truthy_int (by rw[show(n != 0)=decide (n≠0) by by_cases z:n=0 <;> simp[z]]; exact hQ)
 ·have I1:Inv X ah σ H { s with heap:=s.heap.push { cls:=.type "dict_valueiterator",data:=.fields #[.ref d,.int 0 0,.int vs.length 0,.int ep 0] },toks:=s.toks }:=I.kept (t':=s.toks) λb o e=>bK _ e;have e5:(bQ vs.length).any (λi=>match kvs[i]? with | aa (_,.int n)=>decide (n≠0) | _=>ao)=b:=by rw[← rel.length]; exact i2.symm
  rw[e5];exact⟨.bl _,H,Inv.turned (t':=tk) I1 (it:=s.heap.objs.size) (λb o hb e=>k b o (by simpa using hb) e) I.fresh (mW I.lt) (.inr I.sz) (λx c e z=>by obtain⟨v,qq⟩:=I.cell x c e;exact absurd qq.lt (by rw[z]; exact fG _)) (λpp hp z=>absurd (bE (I.pin pp hp).1) (by rw[z]; exact fG _)),rfl,q⟩
end
section
variable{X:Cx}{E:XK}{pin:List Nat}{e b c:aC}{de db dc:ak->R PV}{pos:Pos}
def qt:List (aJ×PV)->Option Bool
 | []=>aa ao
 | (_,.int i)::r=>(qt r).map λb=>(decide (i≠0)) || b
 | _=>ae
theorem Qx{K:az}{H:Hp}{F:af->Prop}{kvs:List (aJ×PV)}{ws:List (aJ×V)}{k:Bool}(h:fV K H F kvs ws)(e:qt kvs=aa k):k_ ws=aa k:=by
 unfold fV at h
 induction h generalizing k with
 | nil=>exact e
 | @cons p q ps qs r _ ih=>
  obtain⟨pk,pv⟩:=p;obtain⟨qk,qv⟩:=q;cases pv <;> simp only[qt,tF]at e <;> try cases e
  obtain⟨r1,r2⟩:=r;obtain rfl:qv=V.int _:=r2;rename_i h;simp only[k_,ih h.1,lV];rw[← h.2]
def uQ(i:Nat):ak->R PV:=λε=>(aS (eB ε i) ε).bind λkvs ε=>aS ((qt kvs).map .bl) ε
theorem Pm(i:Nat){y:Str}{yp p apos cpos:Pos}(hc:X.calm=ai)(hm:X.mg "any" = ae)(hN:X.N[i]?=aa y:=by rfl)(gD:ga X.env.scope y:=by first | exact Or.inl rfl | exact Or.inr (Or.inl rfl) | exact Or.inr (Or.inr rfl))(hd:(y == ("__debug__" : Str))=ao:=by decide) (bR:(y == ("__classdict__" : Str))=ao:=by decide) (hg:Gl X "any":=by rfl)(wj:tz (.Name y yp) "values" X.env (bz (.Name y yp) X.env)=bz (.Name y yp) X.env:=by rfl) (wl:(apos.endLine == cpos.line)=ai:=by rfl)(he:bu [.Call (.Attribute (.Name y yp) "values" apos) [] [] cpos] X.env=(ao,bz (.Call (.Attribute (.Name y yp) "values" apos) [] [] cpos) X.env)::bu [] X.env:=by rfl) (df:(f7 pos (bu [] X.env)).any (·.1)=ao:=by rfl) : DE X E (.Call (.Name "any" p) [.Call (.Attribute (.Name y yp) "values" apos) [] [] cpos] [] pos) (uQ i):=λF S ε σ H Q rl h=>by
 unfold uQ at h;cases e0:eB ε i with
 | none=>rw[e0]at h; exact h.elim
 | some kvs=>
  rw[e0]at h;simp only[dO,R.bind_ok]at h;obtain⟨a,ws,ea,ha,hk,ia,_⟩:=rl.dkAt (mQ e0);cases e1:qt kvs with
  | none=>rw[e1]at h; exact h.elim
  | some k=>
   rw[e1,lV]at h;refine c7 (sW (Mn hc) hg hm Hn (kX (MY PySem.F.plainAttrs_dict PySem.F.slot_dict_values PySem.F.type_dict_values Pa (ip hN gD hd bR) wj wl) nH he) (by decide) (by decide) he df) ⟨.ref a,ea,.inr (.inr (.inl ⟨rfl,.inl ⟨_,ha⟩⟩)),a,ws,rfl,rfl,ha,λq hq=>?_⟩;have al:Al F F H (L2.upd H q (u5 q a)):=Al.new0 hq;have cO:a≠q:=by rintro rfl; rw[ha]at hq; cases hq
   exact⟨q,a,ws,k,rfl,cF,by rw[cu cO]; exact ha,Qx hk e1,h F S _ (rl.al al) al.grow _ rfl⟩
def xR(X:Cx)(E:XK)(es:List aC)(d:ak->R (PO×List cC)):Prop :=
 ∀ F S ε σ H Q,a_ X.K F S ε σ H->Ok X.K E σ F S H (d ε) (λp _ F' S' H'=>∀ a Sa vs,gf X.K H' F' p.1 a Sa->(∀ b,Sa b->H b=ae/\¬ F' b/\¬ U S' b/\∃ o,H' b=aa o/\gJ o)->kl X.K (σ++[aa (.ref a)]) F' H' p.2 vs->Q vs H')->pR X es σ H Q
theorem kl.app{K:az}{σ:St}{F:af->Prop}{H:Hp}(τ:St):∀ {as:List cC} {vs:List V},kl K σ F H as vs->kl K (σ++τ) F H as vs
 | [],_,h=>h
 | .inl _::_,_,⟨v,r,e,h1,h2⟩=>⟨v,r,e,h1,h2.app τ⟩
 | .inr i::_,_,⟨v,r,e,h1,h2⟩=>⟨v,r,e,by rw[fO (eE.mp h1).1]; exact h1,h2.app τ⟩
theorem gf.stay{K:az}{O O' F F':af->Prop}{H H':Hp}{po:PO}{a:af}{Sa:af->Prop}(ow:gf K H F po a Sa)(g:bY O O' F F' H H')(fit:oV O F H)(lo:∀ b,Sa b->¬ F b/\¬ O b/\∃ o,H b=aa o/\gJ o) : gf K H' F' po a Sa/\∀ b,Sa b->¬ F' b/\¬ O' b/\∃ o,H' b=aa o/\gJ o:=by refine⟨ow.mono (λ_ _ z=>z.grow g fit) (λ_ _ z=>z.grow g fit) λb o z w=>(g.stay w (lo b z).2.1 (lo b z).1).1,λb z=>?_⟩;obtain⟨l1,l2,o,l3,l4⟩:=lo b z;obtain⟨s1,s2,s3⟩:=g.stay l3 l2 l1;exact⟨s2,s3,o,s1,l4⟩
variable{es:List aC}{dn:ak->R PO}{dg:ak->R (List cC)}{dh:ak->R (PO×List cC)}
def gN(dn:ak->R PO)(dg:ak->R (List cC)):ak->R (PO×List cC):=λε=>(dn ε).bind λpo ε1=>(dg ε1).bind λas ε2=>.ok (po,.inr ε2.length::as) ε2
theorem Nl(ha:DN X E e dn)(hr:DG X E es dg)(hs:mL e=ao:=by rfl):xR X E (e::es) (gN dn dg):=λF S ε σ H Q rl h=>by refine p6 (kX cA iw (kg hs)) (ha F S ε σ H _ rl ((Ok.bind h).imp λpo ε1 F1 S1 H1 r1 g1 h1 a Sa ow lo=>?_));refine hr F1 S1 ε1 σ H1 _ r1 ((Ok.bind h1).imp λas ε2 F2 S2 H2 r2 g2 h2 vs av=>?_);obtain⟨ow2,lo2⟩:=ow.stay g2 r1.fit λb z=>(lo b z).2;refine h2 F2 S2 H2 r2 (bY.refl ..) a Sa (.ref a::vs) ow2 (λb z=>⟨(lo b z).1,lo2 b z⟩) ⟨.ref a,vs,rfl,?_,av.app _⟩;rw[r2.len,jK (bo _),Nat.sub_self];rfl
def sw(d:ak->R PV)(dh:ak->R (PO×List cC)):ak->R (PO×List cC):=λε=>(d ε).bind λx ε1=>(dh ε1).bind λp ε2=>.ok (p.1,.inl x::p.2) ε2
theorem Ez(ha:DE X E e de)(hr:xR X E es dh)(hs:mL e=ao:=by rfl):xR X E (e::es) (sw de dh):=λF S ε σ H Q rl h=>by refine p6 (kX cA iw (kg hs)) (ha F S ε σ H _ rl ((Ok.bind h).imp λx ε1 F1 S1 H1 r1 g1 h1 v rv=>?_));refine hr F1 S1 ε1 σ H1 _ r1 ((Ok.bind h1).imp λp ε2 F2 S2 H2 r2 g2 h2 a Sa vs ow lo av=>?_);exact h2 F2 S2 H2 r2 (bY.refl ..) a Sa _ ow (λb z=>⟨oS g1 (lo b z).1,(lo b z).2⟩) ⟨v,vs,rfl,rv.grow g2 r1.fit,av⟩
theorem a_.push{K:az}{F:af->Prop}{S:Nat->af->Prop}{ε:ak}{σ:St}{H:Hp}{po:PO}{a:af}{Sa:af->Prop}(r:a_ K F S ε σ H)(ow:gf K H F po a Sa)(lo:∀ b,Sa b->¬ F b/\¬ U S b/\∃ o,H b=aa o/\gJ o) : a_ K F (λj b=>S j b\/(j=ε.length/\Sa b)) (ε++[.own po]) (σ++[aa (.ref a)]) H:=by
 have lt:∀ j b,S j b->j<ε.length:=λj b z=>by obtain⟨⟨p,q⟩,_⟩:=r.foot j b z; exact(eE.mp q).1
 refine⟨by simp[r.len],r.ex,λj pv q=>?_,λj p q=>?_,λj b z=>?_,λj k b z1 z2=>?_⟩
 ·by_cases hj:j<ε.length
  ·rw[fO hj]at q;obtain⟨v,q1,q2⟩:=r.val j pv q;exact⟨v,by rw[fO (by rw[← r.len]; exact hj)]; exact q1,q2⟩
  ·rw[jK ∅]at q;cases hk:j-ε.length with
   | zero=>rw[hk]at q; simp at q
   | succ n=>rw[hk]at q; simp at q
 ·by_cases hj:j<ε.length
  ·rw[fO hj]at q;obtain⟨v,q1,q2⟩:=r.own j p q;refine⟨v,by rw[fO (by rw[← r.len]; exact hj)]; exact q1,?_⟩;have:(λb=>S j b\/(j=ε.length/\Sa b))=S j:=by funext b;exact propext ⟨λz=>z.elim id λz=>absurd z.1 (c_ hj),.inl⟩
   rw[this]; exact q2
  ·rw[jK ∅]at q;cases hk:j-ε.length with
   | zero=>
    rw[hk]at q;simp at q;subst q;have ej:j=ε.length:=∅
    subst ej;refine⟨a,by rw[r.len,jK (bo _),Nat.sub_self]; rfl,?_⟩;have:(λb=>S ε.length b\/(ε.length=ε.length/\Sa b))=Sa:=by funext b;exact propext ⟨λz=>z.elim (λz=>absurd (lt _ _ z) (fG _)) (·.2),λz=>.inr ⟨rfl,z⟩⟩
    rw[this]; exact ow
   | succ n=>rw[hk]at q; simp at q
 ·rcases z with z | ⟨rfl,z⟩
  ·obtain⟨⟨p,q⟩,q2⟩:=r.foot j b z;exact⟨⟨p,by rw[fO (lt j b z)]; exact q⟩,q2⟩
  ·obtain⟨l1,l2,l3⟩:=lo b z;exact⟨⟨po,by rw[jK (bo _),Nat.sub_self]; rfl⟩,l1,l3⟩
 ·rcases z1 with z1 | ⟨rfl,z1⟩ <;> rcases z2 with z2 | ⟨rfl,z2⟩
  ·exact r.dist j k b z1 z2
  ·exact absurd ⟨j,z1⟩ (lo b z2).2.1
  ·exact absurd ⟨k,z2⟩ (lo b z1).2.1
  ·rfl
theorem a_.pop{K:az}{F:af->Prop}{S:Nat->af->Prop}{ε:ak}{sl:Slot}{σ:St}{u:Option V}{H:Hp}(r:a_ K F S (ε++[sl]) (σ++[u]) H):a_ K F (λj b=>S j b/\j<ε.length) ε σ H:=by
 have len:ε.length=σ.length:=by have:=r.len; simpa using this
 refine⟨len,r.ex,λj pv q=>?_,λj p q=>?_,λj b z=>?_,λj k b z1 z2=>r.dist j k b z1.1 z2.1⟩
 ·have hj:=(eE.mp q).1;obtain⟨v,q1,q2⟩:=r.val j pv (by rw[fO hj]; exact q);exact⟨v,by rw[fO (by rw[← len]; exact hj)]at q1; exact q1,q2⟩
 ·have hj:=(eE.mp q).1;obtain⟨v,q1,q2⟩:=r.own j p (by rw[fO hj]; exact q);refine⟨v,by rw[fO (by rw[← len]; exact hj)]at q1; exact q1,?_⟩;have:(λb=>S j b/\j<ε.length)=S j:=by funext b; simp[hj]
  rw[this]; exact q2
 ·obtain⟨⟨p,q⟩,q2⟩:=r.foot j b z.1;exact⟨⟨p,by rw[fO z.2]at q; exact q⟩,q2⟩
def Gn{α:Type}:R α->R α
 | .ok s ε=>.ok s ε.dropLast
 | .er c ε=>.er c ε.dropLast
 | .no=>.no
def um(g:ak->R Slot)(dh:ak->R (PO×List cC)):ak->R Slot:=λε=>(dh ε).bind λp ε1=>(aS (if(cp p.2).Nodup then dI (ε1++[.own p.1]) p.2 else ae) ε1).bind λss ε1=>Gn (eK (ε1++[.own p.1]) p.2 (g ss))
theorem Ep{ε:ak}{n:Nat}(h:ε.length=n+1):∃ l x,ε=l++[x]/\l.length=n:=by
 refine⟨ε.dropLast,ε.getLast (by intro z; rw[z]at h; cases h),(List.dropLast_concat_getLast _).symm,by rw[Df,h]; rfl⟩
theorem bY.pushed{K:az}{F F':af->Prop}{S S2:Nat->af->Prop}{H0 H H':Hp}{n:Nat}{Sa:af->Prop}(g:bY (U λj b=>S j b\/(j=n/\Sa b)) (U S2) F F' H H'){F0:af->Prop}{S0:Nat->af->Prop}(g0:bY (U S0) (U S) F0 F H0 H)(fr:∀ b,Sa b->H0 b=ae) : bY (U S0) (U λj b=>S2 j b/\j<n) F0 F' H0 H' where
 fro:=λb z=>g.fro b (g0.fro b z)
 keep:=λb o q no=>g.keep b o (g0.keep b o q no) λ⟨j,z⟩=>by
  rcases z with z | ⟨_,z⟩
  ·rcases g0.onew b ⟨j,z⟩with w | w
   ·exact no w
   ·rw[w]at q; cases q
  ·rw[fr b z]at q; cases q
 there:=λb o q=>let ⟨o',q'⟩:=g0.there b o q; g.there b o' q'
 fnew:=λb z=>by
  rcases g.fnew b z with w | w | ⟨j,w | ⟨_,w⟩⟩
  ·exact g0.fnew b w
  ·exact .inr (.inl (oS g0 w))
  ·exact .inr ((g0.onew b ⟨j,w⟩).symm)
  ·exact .inr (.inl (fr b w))
 onew:=λb ⟨j,z,_⟩=>by
  rcases g.onew b ⟨j,z⟩with⟨k,w | ⟨_,w⟩⟩ | w
  ·exact g0.onew b ⟨k,w⟩
  ·exact .inr (fr b w)
  ·exact .inr (oS g0 w)
variable{CX:fQ}{x:Str}{k:Nat}{ps:List Str}{g:ak->R Slot}{p:Pos}
theorem Ry(c:cr CX X.prog X.w X.K X.mg X.base x k ps (b0 X.K g))(hr:Room k X.A)(hx:sD CX X E)(ha:xR X E (e::es) dh)(hg:Gl X x:=by rfl)(hd:(x == ("__debug__" : Str))=ao:=by decide) (h1:bu (e::es) X.env=(ao,bz e X.env)::bu es X.env:=by rfl) (h2:(f7 pos (bu es X.env)).any (·.1)=ao:=by rfl) : DR X E (.Call (.Name x p) (e::es) [] pos) (um g dh):=λF S ε σ H Q rl h=>by
 obtain⟨f,fd,hm,Fn,hb,hk⟩:=c.ex;refine c7 (Fv Fn hr hg hm hk hb .nil hx iw hd h1 h2) (ha F S ε σ H _ rl ?_);unfold um at h;cases ed:dh ε with
 | no=>rw[ed]at h; exact h.elim
 | er cv ε1=>rw[ed]at h; exact h
 | ok pa ε1=>
  obtain⟨po,as⟩:=pa;rw[ed]at h;simp only[R.bind_ok]at h;intro F1 S1 H1 r1 g1 a Sa vs ow lo av;dsimp only at h av ow;have rp:=r1.push ow λb z=>(lo b z).2;by_cases nd:(cp as).Nodup
  ·rw[if_pos nd]at h;cases es:dI (ε1++[.own po]) as with
   | none=>rw[es]at h; exact h.elim
   | some ss=>
    rw[es]at h;simp only[dO,R.bind_ok]at h;rw[jg];refine⟨F1,nI as _,ss,rp.cal av es nd,?_⟩;have len:∀ aR,(dN (ε1++[.own po]) as aR).length=ε1.length+1:=λaR=>by rw[xB]; simp
    cases eg:g ss with
    | no=>rw[eg]at h; exact h.elim
    | er cv aR=>
     rw[eg]at h;intro y F' S' H' r' g';unfold eK at h;dsimp only at h;by_cases kp:dY as aR=ai
     ·rw[if_pos kp]at h;obtain⟨S2,r2,g2,_⟩:=rp.called av es nd r' g' (λ_ z=>z) (qc kp);obtain⟨l,sl,el,ll⟩:=Ep (len aR);rw[el]at r2;have h:Ok X.K E σ F S H (R.er cv (dN (ε1++[.own po]) as aR).dropLast:R Slot) _:=h;rw[el,List.dropLast_concat]at h;have gp:=bY.pushed (K:=X.K) g2 g1 λb z=>(lo b z).1;rw[← ll]at gp;exact h y F' _ H' r2.pop gp
     ·rw[if_neg kp]at h; exact h.elim
    | ok s aR=>
     rw[eg]at h;intro v F' S' H' Sr r' g' rv lo' fr;unfold eK at h;dsimp only at h;by_cases kp:dY as aR=ai
     ·rw[if_pos kp]at h;obtain⟨S2,r2,g2,u2⟩:=rp.called av es nd r' g' (λ_ z=>.inl z) (qc kp);obtain⟨l,sl,el,ll⟩:=Ep (len aR);rw[el]at r2;have h:Ok X.K E σ F S H (R.ok s (dN (ε1++[.own po]) as aR).dropLast:R Slot) _:=h;rw[el,List.dropLast_concat]at h;have gp:=bY.pushed (K:=X.K) g2 g1 λb z=>(lo b z).1;rw[← ll]at gp;refine h F' _ H' r2.pop gp v Sr rv λb z=>⟨oS g1 (fr b z),(lo' b z).1,λ⟨j,w,_⟩=>?_,(lo' b z).2.2⟩
      rcases u2 b ⟨j,w⟩with w | ⟨i,w⟩
      ·exact(lo' b z).2.1 w
      ·obtain⟨_,_,o,y1,_⟩:=rp.foot i b w;rw[fr b z]at y1; cases y1
     ·rw[if_neg kp]at h; exact h.elim
  ·rw[if_neg nd]at h; exact h.elim
end
section
variable{X:Cx}{E:XK}{pin:List Nat}{e b c o:aC}{de db dc d:ak->R PV}{ds:ak->R (List PV)}{pos p q pos':Pos}
def QE(X:Cx)(r:List V->Hp->VK->Prop):List V->Hp->VK->Prop:=λxs H Q=>∃ (p:af) (ls:List Tx),xs=[.ref p]/\cg X.K H p (d8 ls)/\(cf ls).length<4000/\∀ a,H a=ae->r [.ref a] (upd H a (iK X a (cf ls))) Q
def yv(i j:Nat)(d:ak->R PV):ak->R aH:=λε=>(d ε).bind λx ε1=>match x with
 | .tup [a,b]=>.ok .next ((ε1.set i (.val a)).set j (.val b))
 | _=>.no
theorem Ts(i j:Nat){x y:Str}{k:Nat}{tp px py:Pos}(hc:X.calm=ai)(hN:X.N.Nodup)(he:DE X E e de)(hp:i∉pin:=by decide)(fH:j∉pin:=by decide)(hi:X.N[i]?=aa x:=by rfl)(hj:X.N[j]?=aa y:=by rfl)(hx:Loc X.env.scope x:=by first | exact Or.inl rfl | exact Or.inr rfl) (hy:Loc X.env.scope y:=by first | exact Or.inl rfl | exact Or.inr rfl)(hf:X.fn x=ai\/X.env.scope.names.lookup x=aa .local:=by first | exact .inl rfl | exact .inr rfl) (qY:X.fn y=ai\/X.env.scope.names.lookup y=aa .local:=by first | exact .inl rfl | exact .inr rfl)(hs:swapsWithSole [.Tuple [.Name x px,.Name y py] k tp] e pos.line X.env=pure ao:=by rfl) (hw:swappedStores [.Tuple [.Name x px,.Name y py] k tp] e X.env=pure ae:=by rfl) : DS X E pin (.Assign [.Tuple [.Name x px,.Name y py] k tp] e pos) (yv i j de):=λF S ε σ H D rl h=>by
 refine i_ (Og cA (Q9 hc (Je (Cy hN hi hx hf) (Je (Cy hN hj hy qY) Q2))) hs hw rfl) (he F S ε σ H _ rl (h.bindE.imp λz ε1 F1 S1 H1 r1 g1 h1 v rv=>?_));split at h1
 ·rename_i a b;obtain⟨p,us,rfl,iU,ru⟩:=rv;obtain⟨va,ra,rfl,r2,vb,rb,rfl,r3,rfl⟩:=ru;refine⟨p,_,rfl,dz.of iU,rfl,va,_,rfl,vb,_,rfl,rfl,?_⟩;exact h1 F1 _ _ H1 ((r1.set r2).set r3) ((bY.less i).trans (bY.less j)) ((km.set hp).trans (km.set fH))
 ·exact h1.elim
end
section
variable{X:Cx}
theorem fV.keys{K:az}{H:Hp}{F:af->Prop}{kvs:List (aJ×PV)}{ws:List (aJ×V)}(h:fV K H F kvs ws):ws.map (·.1)=kvs.map (·.1):=by
 unfold fV at h
 induction h with
 | nil=>rfl
 | cons r _ ih=>rw[eC,eC,ih,r.1]
end
end Pu
namespace L2
def yh:Bool->Keyed->Array Keyed->Nat->Nat->Nat->StateT bW Sem (Option Nat):=sortPriv% PySem.Builtin.gallop
def HG:Array Keyed->Array Keyed->StateT bW Sem (Array Keyed):=sortPriv% PySem.Builtin.mergeLo
def HI:Array Keyed->Array Keyed->StateT bW Sem (Array Keyed):=sortPriv% PySem.Builtin.mergeHi
def kO(κ:KeyKind)(p:Keyed):κ.α:=(κ.keyOf p.1).getD κ.dflt
def io(κ:KeyKind)(p:Keyed):Prop:=∃ a,κ.keyOf p.1=aa a
theorem io.k{κ:KeyKind}{p:Keyed}(h:io κ p):κ.keyOf p.1=aa (kO κ p):=by obtain⟨a,e⟩:=h; unfold kO; rw[e]; rfl
structure SB(st:bW):Prop where
 kind:kindOf st=oneType'
 failed:failedOf st=ae
section
variable{prog:aX}{w:aN}{A:be}{E:am->aq->Prop}{s:aq}{κ:KeyKind}
theorem vD(hO:κ.OneLt){st:bW}{x y:Keyed}{Q:Option Bool->bW->Prop}(hk:SB st)(hx:io κ x)(hy:io κ y)(h:Q (aa (κ.blt (kO κ x) (kO κ y))) st):wpS (ay prog w) A E s (lt' x y) Q st:=by rw[lt'_eq];refine aK (lW ?_);rw[hk.kind,keyLt'_oneType];exact aK (tR (wpAny_attempt (hO prog w A _ s x.1 y.1 _ _ hx.k hy.k ⟨rfl,aT h⟩)))
theorem fR{st:bW}{arr:Array Keyed}{i:Nat}(hi:i<arr.size){Q:Keyed->bW->Prop}(h:Q arr[i] st):wpS (ay prog w) A E s (elem' arr i) Q st:=by rw[elem'_eq,getElem?_pos arr i hi]; exact aT h
def Eh(left:Bool)(key:Keyed)(arr:Array Keyed)(base i:Nat):StateT bW Sem (Option Bool) :=elem' arr (base+i) >>= λx=>if left=ai then lt' x key else lt' key x >>= λb=>pure (b.map (!·))
def mC(κ:KeyKind)(left:Bool)(key x:Keyed):Bool:=if left=ai then κ.blt (kO κ x) (kO κ key)else !κ.blt (kO κ key) (kO κ x)
theorem NZ(hO:κ.OneLt){st:bW}{left:Bool}{key:Keyed}{arr:Array Keyed}{base i:Nat}{Q:Option Bool->bW->Prop}(hk:SB st)(hx:io κ key)(hi:base+i<arr.size)(hy:io κ arr[base+i])(h:Q (aa (mC κ left key arr[base+i])) st):wpS (ay prog w) A E s (Eh left key arr base i) Q st:=by
 refine aK (fR hi ?_);cases left
 ·rw[if_neg (by simp)];exact aK (vD hO hk hx hy (aT h))
 ·rw[if_pos rfl];exact vD hO hk hy hx h
theorem HQ(hO:κ.OneLt){st:bW}(hk:SB st){left:Bool}{key:Keyed}{arr:Array Keyed}{base n hint:Nat}{Q:Option Nat->bW->Prop}(jk:io κ key)(hn:base+n<=arr.size)(hA:∀ i (hi:i<arr.size),io κ arr[i]) (B:Nat->Bool) (hB:∀ i (hi:i<n),B i=mC κ left key (arr[base+i]'∅))(mono:∀ i j,i<=j->j<n->B j=ai->B i=ai) (hh:hint<n)(h:∀ r,r<=n->(∀ i,i<r->B i=ai)->(∀ i,r<=i->i<n->B i=ao)->Q (aa r) st) : wpS (ay prog w) A E s (yh left key arr base n hint) Q st:=by
 have hb:∀ {i:Nat} {Q:Option Bool->bW->Prop},i<n->Q (aa (B i)) st->wpS (ay prog w) A E s (Eh left key arr base i) Q st:=λ{i Q} hi q=>NZ hO hk jk ∅ (hA _ _) (by rw[← hB i hi]; exact q);have dn:∀ {i j:Nat},i<=j->j<n->B i=ao->B j=ao:=λ{i j} bZ hj hf=>by
  cases e:B j with
  | false=>rfl
  | true=>rw[mono i j bZ hj e]at hf; cases hf
 unfold yh;refine aK (hb hh ?_);cases hr:B hint with
 | true=>
  dsimp only;rw[if_pos rfl];refine aK (h_ (ic (I:=λx c aA=>aA=st/\∃ l o,c=(ae,l,o)/\l<o/\x<o/\l<n-hint/\B (hint+l)=ai) (Q:=λc aA=>aA=st/\∃ l o,c=(ae,l,o)/\l<o/\l<n-hint/\B (hint+l)=ai/\(n-hint<=o\/(o<n-hint/\B (hint+o)=ao))) ?_ ?_ ?_) ?_)
  ·rintro x c aA _ hx ⟨rfl,l,o,rfl,h1,h2,h3,h4⟩;dsimp only;by_cases fu:o ≥ n-hint
   ·rw[if_pos fu]; exact aT ⟨rfl,l,o,rfl,h1,h3,h4,.inl fu⟩
   ·rw[if_neg fu];refine aK (hb ∅ ?_);cases e:B (hint+o)with
    | true=>exact aT ⟨rfl,o,2 * o+1,rfl,∅,∅,∅,e⟩
    | false=>exact aT ⟨rfl,l,o,rfl,h1,h3,h4,.inr ⟨∅,e⟩⟩
  ·rintro c aA ⟨rfl,l,o,rfl,h1,h2,h3,h4⟩;exact⟨rfl,l,o,rfl,h1,h3,h4,.inl ∅⟩
  ·exact⟨rfl,0,1,rfl,∅,∅,∅,hr⟩
  rintro c aA ⟨rfl,l,o,rfl,h1,h3,h4,h5⟩;dsimp only;have g1:hint+l+1<=hint+min o (n-hint):=∅
  have g2:hint+min o (n-hint)<=n:=∅
  have g3:∀ i,i<hint+l+1->B i=ai:=λi hi=>mono i (hint+l) ∅ ∅ h4;have g4:∀ i,hint+min o (n-hint)<=i->i<n->B i=ao:=by
   intro i hi e_;rcases h5 with h5 | ⟨h5,h6⟩
   ·lia
   ·exact dn (i:=hint+o) ∅ e_ h6
  clear h5;generalize hint+l+1=lo at *;generalize hint+min o (n-hint)=hi at *;refine aK (h_ (ic (I:=λx c cN=>cN=aA/\∃ l r,c=(ae,l,r)/\l<=r/\r<=n/\r-l<=n-x/\(∀ i,i<l->B i=ai)/\(∀ i,r<=i->i<n->B i=ao)) (Q:=λc cN=>cN=aA/\∃ l r,c=(ae,l,r)/\r<=n/\(∀ i,i<r->B i=ai)/\(∀ i,r<=i->i<n->B i=ao)) ?_ ?_ ?_) ?_)
  ·rintro x c cN _ hx ⟨rfl,l,r,rfl,a1,a2,a3,a4,a5⟩;dsimp only;by_cases fu:l ≥ r
   ·rw[if_pos fu];have:l=r:=∅
    subst this;exact aT ⟨rfl,l,l,rfl,a2,a4,a5⟩
   ·rw[if_neg fu];refine aK (hb ∅ ?_);cases e:B (l+(r-l) / 2)with
    | true=>exact aT ⟨rfl,_,r,rfl,∅,a2,∅,λi hi=>mono _ _ ∅ ∅ e,a5⟩
    | false=>exact aT ⟨rfl,l,_,rfl,∅,∅,∅,a4,λi hi e_=>dn (i:=l+(r-l) / 2) hi e_ e⟩
  ·rintro c cN ⟨rfl,l,r,rfl,a1,a2,a3,a4,a5⟩;have:l=r:=∅
   subst this;exact⟨rfl,l,l,rfl,a2,a4,a5⟩
  ·exact⟨rfl,lo,hi,rfl,g1,g2,∅,g3,g4⟩
  ·rintro c cN ⟨rfl,l,r,rfl,a2,a4,a5⟩;exact aT (h r a2 a4 a5)
 | false=>
  dsimp only;rw[if_neg (by simp)];refine aK (h_ (ic (I:=λx c aA=>aA=st/\∃ l o,c=(ae,l,o)/\l<o/\x<o/\l<=hint/\B (hint-l)=ao) (Q:=λc aA=>aA=st/\∃ l o,c=(ae,l,o)/\l<o/\l<=hint/\B (hint-l)=ao/\(hint+1<=o\/(o<=hint/\B (hint-o)=ai))) ?_ ?_ ?_) ?_)
  ·rintro x c aA _ hx ⟨rfl,l,o,rfl,h1,h2,h3,h4⟩;dsimp only;by_cases fu:o ≥ hint+1
   ·rw[if_pos fu]; exact aT ⟨rfl,l,o,rfl,h1,h3,h4,.inl fu⟩
   ·rw[if_neg fu];refine aK (hb ∅ ?_);cases e:B (hint-o)with
    | false=>exact aT ⟨rfl,o,2 * o+1,rfl,∅,∅,∅,e⟩
    | true=>exact aT ⟨rfl,l,o,rfl,h1,h3,h4,.inr ⟨∅,e⟩⟩
  ·rintro c aA ⟨rfl,l,o,rfl,h1,h2,h3,h4⟩;exact⟨rfl,l,o,rfl,h1,h3,h4,.inl ∅⟩
  ·exact⟨rfl,0,1,rfl,∅,∅,∅,hr⟩
  rintro c aA ⟨rfl,l,o,rfl,h1,h3,h4,h5⟩;dsimp only;have g1:hint+1-min o (hint+1)<=hint-l:=∅
  have g2:hint-l<=n:=∅
  have g3:∀ i,i<hint+1-min o (hint+1)->B i=ai:=by
   intro i hi;rcases h5 with h5 | ⟨h5,h6⟩
   ·lia
   ·exact mono i (hint-o) ∅ ∅ h6
  have g4:∀ i,hint-l<=i->i<n->B i=ao:=λi hi e_=>dn (i:=hint-l) ∅ e_ h4;clear h5 h4;generalize hint+1-min o (hint+1)=lo at *;generalize hint-l=hi at *;refine aK (h_ (ic (I:=λx c cN=>cN=aA/\∃ l r,c=(ae,l,r)/\l<=r/\r<=n/\r-l<=n-x/\(∀ i,i<l->B i=ai)/\(∀ i,r<=i->i<n->B i=ao)) (Q:=λc cN=>cN=aA/\∃ l r,c=(ae,l,r)/\r<=n/\(∀ i,i<r->B i=ai)/\(∀ i,r<=i->i<n->B i=ao)) ?_ ?_ ?_) ?_)
  ·rintro x c cN _ hx ⟨rfl,l,r,rfl,a1,a2,a3,a4,a5⟩;dsimp only;by_cases fu:l ≥ r
   ·rw[if_pos fu];have:l=r:=∅
    subst this;exact aT ⟨rfl,l,l,rfl,a2,a4,a5⟩
   ·rw[if_neg fu];refine aK (hb ∅ ?_);cases e:B (l+(r-l) / 2)with
    | true=>exact aT ⟨rfl,_,r,rfl,∅,a2,∅,λi hi=>mono _ _ ∅ ∅ e,a5⟩
    | false=>exact aT ⟨rfl,l,_,rfl,∅,∅,∅,a4,λi hi e_=>dn (i:=l+(r-l) / 2) hi e_ e⟩
  ·rintro c cN ⟨rfl,l,r,rfl,a1,a2,a3,a4,a5⟩;have:l=r:=∅
   subst this;exact⟨rfl,l,l,rfl,a2,a4,a5⟩
  ·exact⟨rfl,lo,hi,rfl,g1,g2,∅,g3,g4⟩
  ·rintro c cN ⟨rfl,l,r,rfl,a2,a4,a5⟩;exact aT (h r a2 a4 a5)
end
section
variable{κ:KeyKind}
def bV(κ:KeyKind)(x y:Keyed):Prop:=κ.kle (kO κ x) (kO κ y)
theorem bV.trans{x y z:Keyed}(h1:bV κ x y)(h2:bV κ y z):bV κ x z:=v6 h1 h2
structure MS(κ:KeyKind)(T o ra rb:List Keyed):Prop where
 perm:(o++(ra++rb)).Perm T
 so:o.Pairwise (bV κ)
 sa:ra.Pairwise (bV κ)
 sb:rb.Pairwise (bV κ)
 oa:∀ x∈o,∀ y∈ra,bV κ x y
 ob:∀ x∈o,∀ y∈rb,bV κ x y
theorem MS.stepA{T o x ra rb:List Keyed}(h:MS κ T o (x++ra) rb)(hx:∀ u∈x,∀ v∈rb,bV κ u v):MS κ T (o++x) ra rb:=by
 obtain⟨h1,h2,h3,h4,h5,h6⟩:=h;rw[J0]at h3;refine⟨by simpa[gx]using h1,?_,h3.2.1,h4,?_,?_⟩
 ·rw[J0];exact⟨h2,h3.1,λu hu v hv=>h5 u hu v (zk _ hv)⟩
 ·intro u hu v hv;rcases eY.mp hu with hu | hu
  ·exact h5 u hu v (j2 _ hv)
  ·exact h3.2.2 u hu v hv
 ·intro u hu v hv;rcases eY.mp hu with hu | hu
  ·exact h6 u hu v hv
  ·exact hx u hu v hv
theorem MS.swap{T o ra rb:List Keyed}(h:MS κ T o ra rb):MS κ T o rb ra :=⟨(JT _ List.perm_append_comm).trans h.perm,h.so,h.sb,h.sa,h.ob,h.oa⟩
theorem MS.stepB{T o x ra rb:List Keyed}(h:MS κ T o ra (x++rb))(hx:∀ u∈x,∀ v∈ra,bV κ u v):MS κ T (o++x) ra rb :=(h.swap.stepA hx).swap
def g7(κ:KeyKind)(T:List Keyed)(r:Array Keyed):Prop:=r.toList.Perm T/\r.toList.Pairwise (bV κ)
theorem MS.endA{T o ra:List Keyed}{r:Array Keyed}(h:MS κ T o ra [])(e:r.toList=o++ra):g7 κ T r:=by obtain⟨h1,h2,h3,h4,h5,h6⟩:=h;refine⟨by rw[e]; simpa using h1,?_⟩;rw[e,J0]; exact⟨h2,h3,h5⟩
theorem MS.last{T o ra rb:List Keyed}{r:Array Keyed}(h:MS κ T o ra rb)(hx:∀ u∈rb,∀ v∈ra,bV κ u v)(e:r.toList=o++(rb++ra)):g7 κ T r:=by
 have h':MS κ T o ra (rb++[]):=by simpa using h
 exact(h'.stepB hx).endA (by rw[e]; simp)
theorem lL(a:Array Keyed)(i j:Nat):(a.extract i j).toList=(a.toList.drop i).take (j-i):=by simp[J1,List.extract_eq_take_drop]
theorem sB(a:Array Keyed)(i:Nat):(a.extract i a.size).toList=a.toList.drop i:=by rw[lL,lT]; simp
theorem GG{a:Array Keyed}{i:Nat}(h:i<a.size):a.toList.drop i=a[i]::a.toList.drop (i+1):=by rw[zG (by simpa using h)]; simp
theorem Jh(a:Array Keyed)(i k:Nat):a.toList.drop i=(a.extract i (i+k)).toList++a.toList.drop (i+k):=by rw[lL,show i+k-i=k by lia,← List.drop_drop,ng]
theorem rD{a:Array Keyed}{i:Nat}{x:Keyed}(h:x∈a.toList.drop i):∃ j,∃ hj:j<a.size,i<=j/\a[j]=x:=by
 obtain⟨k,hk,e⟩:=zJ h;rw[J2]at e;have wJ:i+k<a.size:=by simp at hk; lia
 exact⟨i+k,wJ,∅,by simpa using e⟩
theorem GA{a:Array Keyed}{i k:Nat}{x:Keyed}(h:x∈(a.extract i (i+k)).toList):∃ j,∃ hj:j<a.size,i<=j/\j<i+k/\a[j]=x:=by
 rw[lL]at h;obtain⟨m,hm,e⟩:=zJ h;rw[J3,J2]at e;refine⟨i+m,?_,∅,?_,by simpa using e⟩
 all_goals simp at hm; lia
def uT(κ:KeyKind)(a:Array Keyed):Prop:=∀ i j (hj:j<a.size) (bZ:i<=j),bV κ (a[i]'∅) a[j]
theorem uT.pw{a:Array Keyed}(h:uT κ a):a.toList.Pairwise (bV κ):=by rw[List.pairwise_iff_getElem];intro i j hi hj bZ;have:=h i j (by simpa using hj) ∅;simpa using this
structure gd(κ:KeyKind)(a b out:Array Keyed)(ia ib:Nat):Prop where
 ms:MS κ (a.toList++b.toList) out.toList (a.toList.drop ia) (b.toList.drop ib)
 la:ia<=a.size
 lb:ib<=b.size
variable{a b out:Array Keyed}{ia ib:Nat}
theorem gd.pushA(h:gd κ a b out ia ib)(hi:ia<a.size)(hx:∀ j (hj:j<b.size),ib<=j->bV κ a[ia] b[j]):gd κ a b (out.push a[ia]) (ia+1) ib:=by refine⟨?_,hi,h.lb⟩;rw[vU];refine MS.stepA (by rw[Dg,← GG hi]; exact h.ms) λu hu v hv=>?_;obtain⟨j,hj,f9,rfl⟩:=rD hv;rw[hZ.mp hu]; exact hx j hj f9
theorem gd.pushB(h:gd κ a b out ia ib)(hi:ib<b.size)(hx:∀ j (hj:j<a.size),ia<=j->bV κ b[ib] a[j]):gd κ a b (out.push b[ib]) ia (ib+1):=by refine⟨?_,h.la,hi⟩;rw[vU];refine MS.stepB (by rw[Dg,← GG hi]; exact h.ms) λu hu v hv=>?_;obtain⟨j,hj,f9,rfl⟩:=rD hv;rw[hZ.mp hu]; exact hx j hj f9
theorem gd.extA{k:Nat}(h:gd κ a b out ia ib)(hk:ia+k<=a.size)(hx:∀ i (hi:i<a.size),ia<=i->i<ia+k->∀ j (hj:j<b.size),ib<=j->bV κ a[i] b[j]):gd κ a b (out++a.extract ia (ia+k)) (ia+k) ib:=by refine⟨?_,hk,h.lb⟩;rw[iE];refine MS.stepA (by rw[← Jh]; exact h.ms) λu hu v hv=>?_;obtain⟨j,hj,f9,rfl⟩:=rD hv;obtain⟨i,hi,h1,h2,rfl⟩:=GA hu;exact hx i hi h1 h2 j hj f9
theorem gd.extB{k:Nat}(h:gd κ a b out ia ib)(hk:ib+k<=b.size)(hx:∀ i (hi:i<b.size),ib<=i->i<ib+k->∀ j (hj:j<a.size),ia<=j->bV κ b[i] a[j]):gd κ a b (out++b.extract ib (ib+k)) ia (ib+k):=by refine⟨?_,h.la,hk⟩;rw[iE];refine MS.stepB (by rw[← Jh]; exact h.ms) λu hu v hv=>?_;obtain⟨j,hj,f9,rfl⟩:=rD hv;obtain⟨i,hi,h1,h2,rfl⟩:=GA hu;exact hx i hi h1 h2 j hj f9
theorem gd.doneA(h:gd κ a b out ia ib)(e:ib=b.size):g7 κ (a.toList++b.toList) (out++a.extract ia a.size++b.extract ib b.size):=by have:=h.ms;rw[show b.toList.drop ib=[] by rw[Dh]; simp[e]]at this;refine this.endA ?_;rw[iE,iE,sB,sB,show b.toList.drop ib=[] by rw[Dh]; simp[e],jg]
theorem gd.doneB(h:gd κ a b out ia ib)(e:ia=a.size):g7 κ (a.toList++b.toList) (out++a.extract ia a.size++b.extract ib b.size):=by have:=h.ms;rw[show a.toList.drop ia=[] by rw[Dh]; simp[e]]at this;refine this.swap.endA ?_;rw[iE,iE,sB,sB,show a.toList.drop ia=[] by rw[Dh]; simp[e],jg]
theorem gd.last(h:gd κ a b out ia ib)(e:ia+1=a.size)(hl:∀ j (hj:j<b.size),bV κ b[j] (a[ia]'∅)):g7 κ (a.toList++b.toList) (out++b.extract ib b.size++a.extract ia a.size):=by
 refine h.ms.last (λu hu v hv=>?_) (by rw[iE,iE,sB,sB,gx]);obtain⟨j,hj,h1,rfl⟩:=rD hu;obtain⟨i,hi,h2,rfl⟩:=rD hv;have:i=ia:=∅
 subst this; exact hl j hj
end
section
variable{prog:aX}{w:aN}{A:be}{E:am->aq->Prop}{s:aq}{κ:KeyKind}
theorem BJ(hO:κ.OneLt){st:bW}(hk:SB st){key:Keyed}{arr:Array Keyed}{base n hint:Nat}{Q:Option Nat->bW->Prop}(jk:io κ key)(hn:base+n<=arr.size)(hA:∀ i (hi:i<arr.size),io κ arr[i]) (hs:∀ i j (bZ:i<=j) (hj:j<base+n),base<=i->bV κ (arr[i]'∅) (arr[j]'∅)) (hh:hint<n)(h:∀ r,r<=n->(∀ i (hi:i<arr.size),base<=i->i<base+r->bV κ arr[i] key)->(∀ i (hi:i<arr.size),base+r<=i->i<base+n->κ.klt (kO κ key) (kO κ arr[i]))->Q (aa r) st) : wpS (ay prog w) A E s (yh ao key arr base n hint) Q st:=by
 refine HQ hO hk jk hn hA (λi=>if hi:i<n then mC κ ao key (arr[base+i]'∅)else ao) (λi hi=>by rw[dif_pos hi]) ?_ hh ?_
 ·intro i j bZ hj e;rw[dif_pos hj]at e; rw[dif_pos ∅];simp only[mC,pG,if_false,JZ]at e ⊢;exact v6 (hs (base+i) (base+j) ∅ ∅ ∅) e
 ·intro r hr h1 h2;refine h r hr (λi hi hb bv=>?_) (λi hi hb bv=>?_)
  ·have:=h1 (i-base) ∅;rw[dif_pos ∅]at this;simp only[mC,pG,if_false,JZ,show base+(i-base)=i by lia]at this;exact this
  ·have:=h2 (i-base) ∅ ∅;rw[dif_pos ∅]at this;simp only[mC,pG,if_false,Bool.not_eq_false',show base+(i-base)=i by lia]at this;exact this
theorem Be(hO:κ.OneLt){st:bW}(hk:SB st){key:Keyed}{arr:Array Keyed}{base n hint:Nat}{Q:Option Nat->bW->Prop}(jk:io κ key)(hn:base+n<=arr.size)(hA:∀ i (hi:i<arr.size),io κ arr[i]) (hs:∀ i j (bZ:i<=j) (hj:j<base+n),base<=i->bV κ (arr[i]'∅) (arr[j]'∅)) (hh:hint<n)(h:∀ r,r<=n->(∀ i (hi:i<arr.size),base<=i->i<base+r->κ.klt (kO κ arr[i]) (kO κ key))->(∀ i (hi:i<arr.size),base+r<=i->i<base+n->bV κ key arr[i])->Q (aa r) st) : wpS (ay prog w) A E s (yh ai key arr base n hint) Q st:=by
 refine HQ hO hk jk hn hA (λi=>if hi:i<n then mC κ ai key (arr[base+i]'∅)else ao) (λi hi=>by rw[dif_pos hi]) ?_ hh ?_
 ·intro i j bZ hj e;rw[dif_pos hj]at e; rw[dif_pos ∅];simp only[mC,if_true]at e ⊢;exact KeyOrd.klt_of_kle_of_klt (hs (base+i) (base+j) ∅ ∅ ∅) e
 ·intro r hr h1 h2;refine h r hr (λi hi hb bv=>?_) (λi hi hb bv=>?_)
  ·have:=h1 (i-base) ∅;rw[dif_pos ∅]at this;simp only[mC,if_true,show base+(i-base)=i by lia]at this;exact this
  ·have:=h2 (i-base) ∅ ∅;rw[dif_pos ∅]at this;simp only[mC,if_true,show base+(i-base)=i by lia]at this;exact this
end
structure gZ(st aA:bW):Prop where
 kind:kindOf aA=kindOf st
 arr:arrOf aA=arrOf st
 pend:bF aA=bF st
 failed:failedOf aA=failedOf st
theorem gZ.rfl{st:bW}:gZ st st:=⟨_root_.rfl,_root_.rfl,_root_.rfl,_root_.rfl⟩
theorem gZ.sb{st aA:bW}(h:gZ st aA)(k:SB st):SB aA:=⟨h.kind.trans k.kind,h.failed.trans k.failed⟩
section
variable{prog:aX}{w:aN}{A:be}{E:am->aq->Prop}{s:aq}{κ:KeyKind}
theorem c8{σ α:Type}{M:Model}{c:Prop}[Decidable c]{t e:StateT σ Sem α}{Q:α->σ->Prop}{st:σ}(h1:c->wpS M A E s t Q st)(h2:¬ c->wpS M A E s e Q st):wpS M A E s (if c then t else e) Q st:=by
 split
 ·exact h1 ‹_›
 ·exact h2 ‹_›
def PB:Nat->StateT bW Sem Unit:=sortPriv% PySem.Builtin.setMinGallop
theorem gZ.trans{a b c:bW}(h1:gZ a b)(h2:gZ b c):gZ a c:=⟨h2.kind.trans h1.kind,h2.arr.trans h1.arr,h2.pend.trans h1.pend,h2.failed.trans h1.failed⟩
theorem AN{st kc:bW}{g:Nat}{Q:Unit->bW->Prop}(hS:gZ kc st)(h:∀ aA,gZ kc aA->Q () aA):wpS (ay prog w) A E s (PB g) Q st :=oy (h _ (hS.trans ⟨rfl,rfl,rfl,rfl⟩))
theorem Q3(hO:κ.OneLt){st:bW}(hk:SB st){a b:Array Keyed}{Q:Array Keyed->bW->Prop}(ha:0<a.size)(hb:0<b.size)(hA:∀ i (hi:i<a.size),io κ a[i]) (hB:∀ i (hi:i<b.size),io κ b[i]) (sa:uT κ a) (sb:uT κ b)(h0:bV κ b[0] a[0]) (hl:∀ j (hj:j<b.size),bV κ b[j] a[a.size-1])(h:∀ r aA,gZ st aA->g7 κ (a.toList++b.toList) r->Q r aA) : wpS (ay prog w) A E s (HG a b) Q st:=by
 have ke:∀ {i:Nat} (hi:i<a.size),i+1=a.size->∀ j (hj:j<b.size),bV κ b[j] a[i]:=λ{i} hi e j hj=>by
  have:i=a.size-1:=∅
  subst this; exact hl j hj
 have I0:gd κ a b #[b[0]] 0 1:=by
  have h1:gd κ a b #[] 0 0:=⟨⟨by simp,by simp,by simpa using sa.pw,by simpa using sb.pw,by simp,by simp⟩,∅,∅⟩
  exact h1.pushB hb λj hj _=>h0.trans (sa 0 j hj ∅)
 unfold HG;refine aK (tR (ln ⟨rfl,?_⟩));refine aK (fR hb ?_);by_cases e1:1=b.size
 ·rw[if_pos (by simp[← e1])];exact aT (h _ _ .rfl (I0.doneA e1))
 rw[if_neg (by simpa using e1)];by_cases e2:0+1=a.size
 ·rw[if_pos (by simp[← e2])];exact aT (h _ _ .rfl (I0.last e2 (ke ∅ ∅)))
 rw[if_neg (by simpa using e2)];refine aK (lW ?_);refine aK (h_ (ic (I:=λx c aA=>gZ st aA/\∃ out ia ib mg,c=(ae,out,ia,ib,mg)/\gd κ a b out ia ib/\ia+1<a.size/\ib<b.size/\x+1<=ia+ib) (Q:=λc aA=>gZ st aA/\∃ r,c.1=aa r/\g7 κ (a.toList++b.toList) r) ?_ ?_ ?_) ?_);rotate_left
 ·rintro c aA ⟨_,out,ia,ib,mg,rfl,hI,h1,h2,h3⟩;lia
 ·exact⟨.rfl,_,0,1,_,rfl,I0,∅,∅,∅⟩
 ·rintro⟨c1,c⟩ aA ⟨hS,r,rfl,hD⟩;exact aT (h r aA hS hD)
 rintro x c aA _ hx ⟨hS,out,ia,ib,mg,rfl,hI,h1,h2,h3⟩;refine aK (h_ (ic (I:=λy c cN=>cN=aA/\∃ out ia ib ac bc,c=(ae,out,ia,ib,ac,bc)/\gd κ a b out ia ib/\ia+1<a.size/\ib<b.size/\x+1+y<=ia+ib) (Q:=λc cN=>cN=aA/\((∃ r c',c=(aa r,c')/\g7 κ (a.toList++b.toList) r)\/∃ out ia ib ac bc,c=(ae,out,ia,ib,ac,bc)/\gd κ a b out ia ib/\ia+1<a.size/\ib<b.size/\x+1+1<=ia+ib)) ?_ ?_ ?_) ?_)
 ·rintro y c cN _ hy ⟨rfl,out,ia,ib,ac,bc,rfl,hI,h1,h2,h3⟩;dsimp only;refine aK (fR h2 (aK (fR ∅ (aK (vD hO (hS.sb hk) (hB ib h2) (hA ia ∅) ?_)))));cases e:κ.blt (kO κ b[ib]) (kO κ (a[ia]'∅))with
  | true=>
   dsimp only;rw[if_pos rfl];refine aK (fR h2 ?_);have mi:=hI.pushB h2 λj hj f9=>bV.trans (lX e) (sa ia j hj f9);by_cases e3:ib+1=b.size
   ·rw[if_pos (by simp[e3])];exact aT ⟨rfl,.inl ⟨_,_,rfl,mi.doneA e3⟩⟩
   rw[if_neg (by simpa using e3)];split
   ·exact aT ⟨rfl,.inr ⟨_,_,_,_,_,rfl,mi,∅,∅,∅⟩⟩
   ·exact aT ⟨rfl,_,_,_,_,_,rfl,mi,∅,∅,∅⟩
  | false=>
   dsimp only;rw[if_neg (by simp)];refine aK (fR ∅ ?_);have mi:=hI.pushA ∅ λj hj f9=>bV.trans (show bV κ (a[ia]'∅) b[ib] from e) (sb ib j hj f9);by_cases e3:ia+1+1=a.size
   ·rw[if_pos (by simp[e3])];exact aT ⟨rfl,.inl ⟨_,_,rfl,mi.last e3 (ke ∅ ∅)⟩⟩
   rw[if_neg (by simpa using e3)];split
   ·exact aT ⟨rfl,.inr ⟨_,_,_,_,_,rfl,mi,∅,∅,∅⟩⟩
   ·exact aT ⟨rfl,_,_,_,_,_,rfl,mi,∅,∅,∅⟩
 ·rintro c cN ⟨rfl,out,ia,ib,ac,bc,rfl,hI,h1,h2,h3⟩;lia
 ·exact⟨rfl,_,_,_,_,_,rfl,hI,h1,h2,∅⟩
 rintro c cN ⟨rfl,⟨r,c',rfl,hD⟩ | ⟨out,ia,ib,ac,bc,rfl,hI,h1,h2,h3⟩⟩
 ·exact aT ⟨hS,r,rfl,hD⟩
 refine aK (tR (ln ⟨rfl,?_⟩));refine aK (h_ (ic (I:=λy c cN=>gZ st cN/\∃ out ia ib mg ac bc,c=(ae,out,ia,ib,mg,ac,bc)/\gd κ a b out ia ib/\ia+1<a.size/\ib<b.size/\x+2+y<=ia+ib) (Q:=λc cN=>gZ st cN/\((∃ r c',c=(aa r,c')/\g7 κ (a.toList++b.toList) r)\/∃ out ia ib mg ac bc,c=(ae,out,ia,ib,mg,ac,bc)/\gd κ a b out ia ib/\ia+1<a.size/\ib<b.size/\x+1+1<=ia+ib)) ?_ ?_ ?_) ?_);rotate_left
 ·rintro c cN ⟨_,out,ia,ib,mg,ac,bc,rfl,hI,h1,h2,h3⟩;lia
 ·exact⟨hS,_,_,_,_,_,_,rfl,hI,h1,h2,∅⟩
 ·rintro c cN ⟨hS,⟨r,c',rfl,hD⟩ | ⟨out,ia,ib,mg,ac,bc,rfl,hI,h1,h2,h3⟩⟩
  ·exact aT ⟨hS,r,rfl,hD⟩
  ·dsimp only;refine aK (oy (aT ⟨⟨hS.kind,hS.arr,hS.pend,hS.failed⟩,_,_,_,_,rfl,hI,h1,h2,∅⟩))
 clear h1 h2 h3 hI hS I0 e1 e2;rintro y c cN _ hy ⟨hS,out,ia,ib,mg,ac,bc,rfl,hI,h1,h2,h3⟩;clear hx hy;have jm:∀ {i j:Nat} (bZ:i<=j) (hj:j<b.size),bV κ (b[i]'∅) b[j]:=λ{i j} bZ hj=>sb i j hj bZ;have q8:∀ {i j:Nat} (bZ:i<=j) (hj:j<a.size),bV κ (a[i]'∅) a[j]:=λ{i j} bZ hj=>sa i j hj bZ;refine(?_:wpS (ay prog w) A E s _ ?Q _);extract_lets -merge x1 x2 x3 x4 x5 x6 x7 x8 x9 xa xb xc jp;have hj:∀ g bM,gZ st bM->wpS (ay prog w) A E s (jp () g) ?Q bM:=by
  intro g bM gE;dsimp -zeta only[jp,x1,x2,x3,x4,x5,x6,x7,x8,x9,xa,xb,xc];refine aK (AN gE λbM gE=>?_);refine aK (fR h2 ?_);refine aK (BJ hO (gE.sb hk) (base:=ia) (n:=a.size-ia) (hint:=0) (hB ib h2) ∅ hA (λi j bZ hj _=>q8 bZ ∅) ∅ λk oF eF gF=>?_);dsimp -zeta only;extract_lets -merge y1 jp2;have wN:∀ o n,gd κ a b o n ib->ia+k<=n->n+1<a.size->wpS (ay prog w) A E s (jp2 () o n) ?Q bM:=by
   intro o n wO pM e4;dsimp -zeta only[jp2,y1];refine aK (fR h2 ?_);have hI3:=wO.pushB h2 λj hj g=>lX (gF j hj ∅ ∅);refine c8 (λe5=>?_) λe5=>?_
   ·exact aT ⟨gE,.inl ⟨_,_,rfl,hI3.doneA (by simpa using e5)⟩⟩
   have e5':ib+1≠b.size:=by simpa using e5
   refine aK (fR ∅ ?_);refine aK (Be hO (gE.sb hk) (base:=ib+1) (n:=b.size-(ib+1)) (hint:=0) (hA _ _) ∅ hB (λi j bZ hj _=>jm bZ ∅) ∅ λk' m1 m2 m3=>?_);dsimp -zeta only;extract_lets -merge z1 z2 jp3;have wP:∀ o m,gd κ a b o n m->ib+1+k'<=m->m<b.size->wpS (ay prog w) A E s (jp3 () o m) ?Q bM:=by
    intro o m wQ e6 e7;dsimp -zeta only[jp3,z1,z2];refine aK (fR ∅ ?_);have wR:=wQ.pushA ∅ (λj hj g=>m3 j hj ∅ ∅);refine c8 (λe7=>?_) λe7=>?_
    ·have e7':n+1+1=a.size:=by simpa using e7
     exact aT ⟨gE,.inl ⟨_,_,rfl,wR.last e7' (ke ∅ e7')⟩⟩
    have e7':n+1+1≠a.size:=by simpa using e7
    refine c8 (λe8=>?_) λe8=>?_
    ·exact aT ⟨gE,.inr ⟨_,_,_,_,_,_,rfl,wR,∅,∅,∅⟩⟩
    ·exact aT ⟨gE,_,_,_,_,_,_,rfl,wR,∅,∅,∅⟩
   clear_value jp3;refine c8 (λDZ=>?_) (λDZ=>?_)
   ·have wQ:=hI3.extB (k:=k') ∅ (λi hi g1 g2 j hj g3=>bV.trans (lX (m2 i hi g1 g2)) (q8 g3 hj));refine c8 (λe6=>?_) λe6=>?_
    ·exact aT ⟨gE,.inl ⟨_,_,rfl,wQ.doneA (by simpa using e6)⟩⟩
    have e6':ib+1+k'≠b.size:=by simpa using e6
    exact wP _ _ wQ ∅ ∅
   ·exact wP _ _ hI3 ∅ ∅
  clear_value jp2;refine c8 (λhk0=>?_) (λhk0=>?_)
  ·have wO:gd κ a b (out++a.extract ia (ia+k)) (ia+k) ib:=hI.extA ∅ λi hi g1 g2 j hj g3=>(eF i hi g1 g2).trans (jm g3 hj);refine c8 (λe3=>?_) λe3=>?_
   ·have pM:ia+k+1=a.size:=by simpa using e3
    exact aT ⟨gE,.inl ⟨_,_,rfl,wO.last pM (ke ∅ pM)⟩⟩
   have pM:ia+k+1≠a.size:=by simpa using e3
   refine c8 (λe4=>?_) λe4=>?_
   ·exact aT ⟨gE,.inl ⟨_,_,rfl,wO.doneB (by simpa using e4)⟩⟩
   have e4':ia+k≠a.size:=by simpa using e4
   exact wN _ _ wO ∅ ∅
  ·exact wN _ _ hI ∅ ∅
 exact c8 (λ_=>hj _ _ hS) λ_=>hj _ _ hS
end
def BG(κ:KeyKind):KeyKind where
 α:=κ.α
 blt:=λa b=>κ.blt b a
 irrefl:=κ.irrefl
 trans:=λa b c h1 h2=>κ.trans c b a h2 h1
 negTrans:=λa b c h=>(κ.negTrans c b a h).symm
 total:=λa b h1 h2=>κ.total a b h2 h1
 keyOf:=κ.keyOf
 dflt:=κ.dflt
section
variable{κ:KeyKind}
theorem uo{x y:Keyed}(h:bV κ y x):bV (BG κ) x y:=h
theorem Ei{a:Array Keyed}{n:Nat}(h:0<n)(hn:n<=a.size):(a.toList.take n).reverse=(a[n-1]'∅)::(a.toList.take (n-1)).reverse:=by
 obtain⟨m,rfl⟩:∃ m,n=m+1:=⟨n-1,∅⟩
 rw[List.take_succ_eq_append_getElem (by simp; lia),J4];simp
theorem Ik(a:Array Keyed)(p n:Nat)(hp:p<=n):a.toList.take n=a.toList.take p++(a.extract p n).toList:=by
 rw[lL]
 conv=>lhs; rw[show n=p+(n-p) by lia]
 rw[List.take_add]
theorem r8{a:Array Keyed}{n:Nat}(hn:n<=a.size){x:Keyed}(h:x∈a.toList.take n):∃ j,∃ hj:j<a.size,j<n/\a[j]=x:=by
 obtain⟨m,hm,e⟩:=zJ h;rw[J3]at e;have h1:m<n:=by simp at hm; lia
 exact⟨m,∅,h1,by simpa using e⟩
theorem Bg{a:Array Keyed}{p n:Nat}(hn:n<=a.size){x:Keyed}(h:x∈(a.extract p n).toList):∃ j,∃ hj:j<a.size,p<=j/\j<n/\a[j]=x:=by
 rw[lL]at h;obtain⟨m,hm,e⟩:=zJ h;rw[J3,J2]at e;have h1:p+m<n:=by simp at hm; lia
 exact⟨p+m,∅,∅,h1,by simpa using e⟩
theorem p_(a:Array Keyed)(n:Nat):(a.extract 0 n).toList=a.toList.take n:=by rw[lL]; simp
structure gm(κ:KeyKind)(a b out:Array Keyed)(na nb:Nat):Prop where
 ms:MS (BG κ) (a.toList++b.toList) out.toList (a.toList.take na).reverse (b.toList.take nb).reverse
 la:na<=a.size
 lb:nb<=b.size
variable{a b out:Array Keyed}{na nb:Nat}
theorem gm.pushA(h:gm κ a b out na nb)(hn:0<na)(hla:na-1<a.size)(hx:∀ j (hj:j<b.size),j<nb->bV κ b[j] a[na-1]):gm κ a b (out.push a[na-1]) (na-1) nb:=by refine⟨?_,∅,h.lb⟩;rw[vU];refine MS.stepA (by rw[Dg,← Ei hn h.la]; exact h.ms) λu hu v hv=>?_;obtain⟨j,hj,f9,rfl⟩:=r8 h.lb (qR.mp hv);rw[hZ.mp hu]; exact uo (hx j hj f9)
theorem gm.pushB(h:gm κ a b out na nb)(hn:0<nb)(hlb:nb-1<b.size)(hx:∀ j (hj:j<a.size),j<na->bV κ a[j] b[nb-1]):gm κ a b (out.push b[nb-1]) na (nb-1):=by refine⟨?_,h.la,∅⟩;rw[vU];refine MS.stepB (by rw[Dg,← Ei hn h.lb]; exact h.ms) λu hu v hv=>?_;obtain⟨j,hj,f9,rfl⟩:=r8 h.la (qR.mp hv);rw[hZ.mp hu]; exact uo (hx j hj f9)
theorem gm.extA{p:Nat}(h:gm κ a b out na nb)(hp:p<=na)(hx:∀ i (hi:i<a.size),p<=i->i<na->∀ j (hj:j<b.size),j<nb->bV κ b[j] a[i]):gm κ a b (out++(a.extract p na).reverse) p nb:=by refine⟨?_,cL hp h.la,h.lb⟩;rw[iE,Array.toList_reverse];refine MS.stepA (by rw[← J4,← Ik _ _ _ hp]; exact h.ms) λu hu v hv=>?_;obtain⟨j,hj,f9,rfl⟩:=r8 h.lb (qR.mp hv);obtain⟨i,hi,h1,h2,rfl⟩:=Bg h.la (qR.mp hu);exact uo (hx i hi h1 h2 j hj f9)
theorem gm.extB{p:Nat}(h:gm κ a b out na nb)(hp:p<=nb)(hx:∀ i (hi:i<b.size),p<=i->i<nb->∀ j (hj:j<a.size),j<na->bV κ a[j] b[i]):gm κ a b (out++(b.extract p nb).reverse) na p:=by refine⟨?_,h.la,cL hp h.lb⟩;rw[iE,Array.toList_reverse];refine MS.stepB (by rw[← J4,← Ik _ _ _ hp]; exact h.ms) λu hu v hv=>?_;obtain⟨j,hj,f9,rfl⟩:=r8 h.la (qR.mp hv);obtain⟨i,hi,h1,h2,rfl⟩:=Bg h.lb (qR.mp hu);exact uo (hx i hi h1 h2 j hj f9)
theorem Ah{T:List Keyed}{r q:Array Keyed}(h:g7 (BG κ) T q)(e:r.toList=q.toList.reverse):g7 κ T r:=by refine⟨by rw[e]; exact(J5 _).trans h.1,?_⟩;rw[e,J7];exact h.2
theorem gm.doneA(h:gm κ a b out na nb)(e:na=0):g7 κ (a.toList++b.toList) (a.extract 0 na++b.extract 0 nb++out.reverse):=by have:=h.ms;rw[e,Dc,List.reverse_nil]at this;refine Ah (q:=(out.toList++(b.toList.take nb).reverse).toArray) (this.swap.endA (by simp)) ?_;rw[iE,iE,p_,p_,e]; simp
theorem gm.doneB(h:gm κ a b out na nb)(e:nb=0):g7 κ (a.toList++b.toList) (a.extract 0 na++b.extract 0 nb++out.reverse):=by have:=h.ms;rw[e,Dc,List.reverse_nil]at this;refine Ah (q:=(out.toList++(a.toList.take na).reverse).toArray) (this.endA (by simp)) ?_;rw[iE,iE,p_,p_,e]; simp
theorem gm.first(h:gm κ a b out na nb)(e:nb=1)(hf:∀ j (hj:j<a.size),bV κ (b[0]'(by have:=h.lb; lia)) a[j]):g7 κ (a.toList++b.toList) (b.extract 0 nb++a.extract 0 na++out.reverse):=by
 refine Ah (q:=(out.toList++((a.toList.take na).reverse++(b.toList.take nb).reverse)).toArray) (h.ms.swap.last (λu hu v hv=>?_) (by simp)) ?_
 ·obtain⟨i,hi,h1,rfl⟩:=r8 h.la (qR.mp hu);obtain⟨j,hj,h2,rfl⟩:=r8 h.lb (qR.mp hv);have:j=0:=∅
  subst this; exact uo (hf i hi)
 ·rw[iE,iE,p_,p_]; simp
end
section
variable{prog:aX}{w:aN}{A:be}{E:am->aq->Prop}{s:aq}{κ:KeyKind}
theorem Nz(hO:κ.OneLt){st:bW}(hk:SB st){a b:Array Keyed}{Q:Array Keyed->bW->Prop}(ha:0<a.size)(hb:0<b.size)(hA:∀ i (hi:i<a.size),io κ a[i]) (hB:∀ i (hi:i<b.size),io κ b[i]) (sa:uT κ a) (sb:uT κ b)(h0:bV κ b[0] a[0]) (hl:∀ j (hj:j<b.size),bV κ b[j] a[a.size-1])(h:∀ r aA,gZ st aA->g7 κ (a.toList++b.toList) r->Q r aA) : wpS (ay prog w) A E s (HI a b) Q st:=by
 have jm:∀ {i j:Nat} (bZ:i<=j) (hj:j<b.size),bV κ (b[i]'∅) b[j]:=λ{i j} bZ hj=>sb i j hj bZ;have q8:∀ {i j:Nat} (bZ:i<=j) (hj:j<a.size),bV κ (a[i]'∅) a[j]:=λ{i j} bZ hj=>sa i j hj bZ;have hf:∀ j (hj:j<a.size),bV κ b[0] a[j]:=λj hj=>h0.trans (q8 ∅ hj);have I0:gm κ a b #[a[a.size-1]] (a.size-1) b.size:=by
  have h1:gm κ a b #[] a.size b.size:=by
   refine⟨⟨?_,by simp,?_,?_,by simp,by simp⟩,∅,∅⟩
   ·simp only[← iz,Di,eV];exact List.Perm.append (J5 _) (J5 _)
   ·simp only[← iz,Di,J7];exact sa.pw
   ·simp only[← iz,Di,J7];exact sb.pw
  exact h1.pushA ha ∅ λj hj _=>hl j hj
 unfold HI;refine aK (tR (ln ⟨rfl,?_⟩));refine aK (fR ∅ ?_);refine c8 (λe1=>aT (h _ _ .rfl (I0.doneA (by simpa using e1)))) λe1=>?_;have f_:a.size-1≠0:=by simpa using e1
 refine c8 (λe2=>?_) λe2=>?_
 ·have me:b.size=1:=by simpa using e2
  exact aT (h _ _ .rfl (I0.first me hf))
 have me:b.size≠1:=by simpa using e2
 refine aK (lW ?_);refine aK (h_ (ic (I:=λx c aA=>gZ st aA/\∃ out na nb mg,c=(ae,na,nb,out,mg)/\gm κ a b out na nb/\0<na/\na<=a.size/\1<nb/\nb<=b.size/\x+1+na+nb<=a.size+b.size) (Q:=λc aA=>gZ st aA/\∃ r,c.1=aa r/\g7 κ (a.toList++b.toList) r) ?_ ?_ ?_) ?_);rotate_left
 ·rintro c aA ⟨_,out,na,nb,mg,rfl,hI,h1,iV,h2,iW,h3⟩;lia
 ·exact⟨.rfl,_,_,_,_,rfl,I0,∅,∅,∅,∅,∅⟩
 ·rintro⟨c1,c⟩ aA ⟨hS,r,rfl,hD⟩;exact aT (h r aA hS hD)
 rintro x c aA _ hx ⟨hS,out,na,nb,mg,rfl,hI,h1,iV,h2,iW,h3⟩;refine aK (h_ (ic (I:=λy c cN=>cN=aA/\∃ out na nb ac bc,c=(ae,na,nb,out,ac,bc)/\gm κ a b out na nb/\0<na/\na<=a.size/\1<nb/\nb<=b.size/\x+1+y+na+nb<=a.size+b.size) (Q:=λc cN=>cN=aA/\((∃ r c',c=(aa r,c')/\g7 κ (a.toList++b.toList) r)\/∃ out na nb ac bc,c=(ae,na,nb,out,ac,bc)/\gm κ a b out na nb/\0<na/\na<=a.size/\1<nb/\nb<=b.size/\x+1+1+na+nb<=a.size+b.size)) ?_ ?_ ?_) ?_)
 ·rintro y c cN _ hy ⟨rfl,out,na,nb,ac,bc,rfl,hI,h1,iV,h2,iW,h3⟩;dsimp only;refine aK (fR ∅ (aK (fR ∅ (aK (vD hO (hS.sb hk) (hB (nb-1) ∅) (hA (na-1) ∅) ?_)))));cases e:κ.blt (kO κ (b[nb-1]'∅)) (kO κ (a[na-1]'∅))with
  | true=>
   dsimp only;rw[if_pos rfl];refine aK (fR ∅ ?_);have mi:=hI.pushA h1 ∅ λj hj f9=>bV.trans (jm (show j<=nb-1 by lia) ∅) (lX e);refine c8 (λe3=>?_) λe3=>?_
   ·exact aT ⟨rfl,.inl ⟨_,_,rfl,mi.doneA (by simpa using e3)⟩⟩
   have pM:na-1≠0:=by simpa using e3
   refine c8 (λe4=>?_) λe4=>?_
   ·exact aT ⟨rfl,.inr ⟨_,_,_,_,_,rfl,mi,∅,∅,∅,∅,∅⟩⟩
   ·exact aT ⟨rfl,_,_,_,_,_,rfl,mi,∅,∅,∅,∅,∅⟩
  | false=>
   dsimp only;rw[if_neg (by simp)];refine aK (fR ∅ ?_);have mi:=hI.pushB ∅ ∅ λj hj f9=>bV.trans (q8 (show j<=na-1 by lia) ∅) (show bV κ (a[na-1]'∅) (b[nb-1]'∅)from e);refine c8 (λe3=>?_) λe3=>?_
   ·exact aT ⟨rfl,.inl ⟨_,_,rfl,mi.first (by simpa using e3) hf⟩⟩
   have pM:nb-1≠1:=by simpa using e3
   refine c8 (λe4=>?_) λe4=>?_
   ·exact aT ⟨rfl,.inr ⟨_,_,_,_,_,rfl,mi,∅,∅,∅,∅,∅⟩⟩
   ·exact aT ⟨rfl,_,_,_,_,_,rfl,mi,∅,∅,∅,∅,∅⟩
 ·rintro c cN ⟨rfl,out,na,nb,ac,bc,rfl,hI,h1,iV,h2,iW,h3⟩;lia
 ·exact⟨rfl,_,_,_,_,_,rfl,hI,h1,iV,h2,iW,∅⟩
 rintro c cN ⟨rfl,⟨r,c',rfl,hD⟩ | ⟨out,na,nb,ac,bc,rfl,hI,h1,iV,h2,iW,h3⟩⟩
 ·exact aT ⟨hS,r,rfl,hD⟩
 refine aK (tR (ln ⟨rfl,?_⟩));refine aK (h_ (ic (I:=λy c cN=>gZ st cN/\∃ out na nb mg ac bc,c=(ae,na,nb,out,mg,ac,bc)/\gm κ a b out na nb/\0<na/\na<=a.size/\1<nb/\nb<=b.size/\x+2+y+na+nb<=a.size+b.size) (Q:=λc cN=>gZ st cN/\((∃ r c',c=(aa r,c')/\g7 κ (a.toList++b.toList) r)\/∃ out na nb mg ac bc,c=(ae,na,nb,out,mg,ac,bc)/\gm κ a b out na nb/\0<na/\na<=a.size/\1<nb/\nb<=b.size/\x+1+1+na+nb<=a.size+b.size)) ?_ ?_ ?_) ?_);rotate_left
 ·rintro c cN ⟨_,out,na,nb,mg,ac,bc,rfl,hI,h1,iV,h2,iW,h3⟩;lia
 ·exact⟨hS,_,_,_,_,_,_,rfl,hI,h1,iV,h2,iW,∅⟩
 ·rintro c cN ⟨hS,⟨r,c',rfl,hD⟩ | ⟨out,na,nb,mg,ac,bc,rfl,hI,h1,iV,h2,iW,h3⟩⟩
  ·exact aT ⟨hS,r,rfl,hD⟩
  ·dsimp only;exact aK (AN hS λbM gE=>aT ⟨gE,_,_,_,_,rfl,hI,h1,iV,h2,iW,∅⟩)
 clear h1 iV h2 iW h3 hI hS I0 e1 e2;rintro y c cN _ hy ⟨hS,out,na,nb,mg,ac,bc,rfl,hI,h1,iV,h2,iW,h3⟩;clear hx hy;refine(?_:wpS (ay prog w) A E s _ ?Q _);extract_lets -merge x1 x2 x3 x4 x5 x6 x7 x8 x9 xa xb xc jp;have hj:∀ g bM,gZ st bM->wpS (ay prog w) A E s (jp () g) ?Q bM:=by
  intro g bM gE;dsimp -zeta only[jp,x1,x2,x3,x4,x5,x6,x7,x8,x9,xa,xb,xc];refine aK (AN gE λbM gE=>?_);refine aK (fR ∅ ?_);refine aK (BJ hO (gE.sb hk) (base:=0) (n:=na) (hint:=na-1) (hB (nb-1) ∅) ∅ hA (λi j bZ hj _=>q8 bZ ∅) ∅ λp oF eF gF=>?_);dsimp -zeta only;extract_lets -merge y1 y2 jp2;have wN:∀ n o,gm κ a b o n nb->0<n->n<=p->wpS (ay prog w) A E s (jp2 () n o) ?Q bM:=by
   intro n o wO pM e4;dsimp -zeta only[jp2,y1,y2];refine aK (fR ∅ ?_);have hI3:=wO.pushB ∅ ∅ λj hj g=>eF j hj ∅ ∅;refine c8 (λe5=>?_) λe5=>?_
   ·exact aT ⟨gE,.inl ⟨_,_,rfl,hI3.first (by simpa using e5) hf⟩⟩
   have e5':nb-1≠1:=by simpa using e5
   refine aK (fR ∅ ?_);refine aK (Be hO (gE.sb hk) (base:=0) (n:=nb-1) (hint:=nb-1-1) (hA _ _) ∅ hB (λi j bZ hj _=>jm bZ ∅) ∅ λp' m1 m2 m3=>?_);dsimp -zeta only;extract_lets -merge z1 z2 z3 jp3;have wP:∀ m o,gm κ a b o n m->1<m->m<=p'->wpS (ay prog w) A E s (jp3 () m o) ?Q bM:=by
    intro m o wQ e6 e7;dsimp -zeta only[jp3,z1,z2,z3];refine aK (fR ∅ ?_);have wR:=wQ.pushA ∅ ∅ (λj hj g=>lX (m2 j hj ∅ ∅));refine c8 (λe7=>?_) λe7=>?_
    ·exact aT ⟨gE,.inl ⟨_,_,rfl,wR.doneA (by simpa using e7)⟩⟩
    have e7':n-1≠0:=by simpa using e7
    refine c8 (λe8=>?_) λe8=>?_
    ·exact aT ⟨gE,.inr ⟨_,_,_,_,_,_,rfl,wR,∅,∅,∅,∅,∅⟩⟩
    ·exact aT ⟨gE,_,_,_,_,_,_,rfl,wR,∅,∅,∅,∅,∅⟩
   clear_value jp3;refine c8 (λDZ=>?_) (λDZ=>?_)
   ·have wQ:=hI3.extB (p:=p') ∅ (λi hi g1 g2 j hj g3=>bV.trans (q8 (show j<=n-1 by lia) ∅) (m3 i hi ∅ ∅));refine c8 (λe6=>?_) λe6=>?_
    ·exact aT ⟨gE,.inl ⟨_,_,rfl,wQ.first (by simpa using e6) hf⟩⟩
    refine c8 (λe9=>?_) λe9=>?_
    ·exact aT ⟨gE,.inl ⟨_,_,rfl,wQ.doneB (by simpa using e9)⟩⟩
    have e6':p'≠1:=by simpa using e6
    have e9':p'≠0:=by simpa using e9
    exact wP _ _ wQ ∅ ∅
   ·exact wP _ _ hI3 ∅ ∅
  clear_value jp2;refine c8 (λhk0=>?_) (λhk0=>?_)
  ·have wO:gm κ a b (out++(a.extract p na).reverse) p nb:=hI.extA ∅ λi hi g1 g2 j hj g3=>bV.trans (jm (show j<=nb-1 by lia) ∅) (lX (gF i hi ∅ ∅));refine c8 (λe3=>?_) λe3=>?_
   ·exact aT ⟨gE,.inl ⟨_,_,rfl,wO.doneA (by simpa using e3)⟩⟩
   have pM:p≠0:=by simpa using e3
   exact wN _ _ wO ∅ ∅
  ·exact wN _ _ hI ∅ ∅
 exact c8 (λ_=>hj _ _ hS) λ_=>hj _ _ hS
end
def putL(a:Array Keyed)(lo:Nat)(l:List Keyed):Array Keyed:=l.zipIdx.foldl (λa (pj:Keyed×Nat)=>a.setIfInBounds (lo+pj.2) pj.1) a
theorem As:∀ (l:List Keyed) (n lo:Nat) (a:Array Keyed),lo+n+l.length<=a.size -> ((l.zipIdx n).foldl (λa (pj:Keyed×Nat)=>a.setIfInBounds (lo+pj.2) pj.1) a).size=a.size /\ ∀ k,((l.zipIdx n).foldl (λa (pj:Keyed×Nat)=>a.setIfInBounds (lo+pj.2) pj.1) a)[k]?=if lo+n<=k/\k<lo+n+l.length then l[k-(lo+n)]? else a[k]?
 | [],n,lo,a,_=>⟨rfl,λk=>by rw[if_neg (by simp)]; rfl⟩
 | x::l,n,lo,a,h=>by
  have h':lo+(n+1)+l.length<=(a.setIfInBounds (lo+n) x).size:=by simp at h ⊢; lia
  obtain⟨e1,e2⟩:=As l (n+1) lo (a.setIfInBounds (lo+n) x) h';rw[List.zipIdx_cons,jL];refine⟨by rw[e1]; simp,λk=>?_⟩;rw[e2];by_cases h1:lo+n=k
  ·subst h1;rw[if_neg ∅,if_pos (by simp)];rw[Array.getElem?_setIfInBounds_self_of_lt (by simp at h; lia)];simp
  ·by_cases h2:lo+(n+1)<=k/\k<lo+(n+1)+l.length
   ·rw[if_pos h2,if_pos (by simp; lia)];rw[show k-(lo+n)=k-(lo+(n+1))+1 by lia,List.getElem?_cons_succ]
   ·rw[if_neg h2,if_neg (by simp; lia),Array.getElem?_setIfInBounds_ne h1]
theorem Mw{a:Array Keyed}{lo:Nat}{l:List Keyed}(h:lo+l.length<=a.size):(putL a lo l).size=a.size:=(As l 0 lo a ∅).1
theorem Bo{a:Array Keyed}{lo:Nat}{l:List Keyed}(h:lo+l.length<=a.size)(k:Nat):(putL a lo l)[k]?=if lo<=k/\k<lo+l.length then l[k-lo]? else a[k]? :=(As l 0 lo a ∅).2 k
theorem Q4{a:Array Keyed}{lo n:Nat}{l:List Keyed}(h:lo+n<=a.size)(hp:l.Perm ((a.toList.drop lo).take n)):(putL a lo l).toList.Perm a.toList:=by
 have hl:l.length=n:=by rw[hp.length_eq,j5,j6]; simp; lia
 have e:(putL a lo l).toList=a.toList.take lo++(l++a.toList.drop (lo+n)):=by
  apply kE;intro k;rw[Db,Bo ∅,List.getElem?_append,List.getElem?_append,j5,jj,kF,hl];simp only[iz,Db];rw[show min lo a.size=lo by lia];by_cases h1:k<lo
  ·rw[if_neg ∅,if_pos h1,if_pos h1]
  ·rw[if_neg h1];by_cases h2:k<lo+n
   ·rw[if_pos ∅,if_pos ∅]
   ·rw[if_neg ∅,if_neg ∅]; congr 1; lia
 rw[e];have e2:a.toList=a.toList.take lo++((a.toList.drop lo).take n++a.toList.drop (lo+n)):=by rw[← List.drop_drop,ng,ng]
 conv=>rhs; rw[e2]
 exact JT _ (List.Perm.append_right _ hp)
section
variable{κ:KeyKind}
def Run(κ:KeyKind)(a:Array Keyed)(lo n:Nat):Prop:=∀ i j x y,lo<=i->i<=j->j<lo+n->a[i]?=aa x->a[j]?=aa y->bV κ x y
theorem bV.refl(x:Keyed):bV κ x x:=oz _
structure Wr(a a':Array Keyed)(lo n:Nat):Prop where
 perm:a'.toList.Perm a.toList
 size:a'.size=a.size
 out:∀ k,k<lo\/lo+n<=k->a'[k]?=a[k]?
theorem Run.keep{a a':Array Keyed}{lo n lo' n':Nat}(h:Run κ a lo n)(w:Wr a a' lo' n')(d:lo+n<=lo'\/lo'+n'<=lo):Run κ a' lo n:=by intro i j x y h1 h2 h3 hx hy;rw[w.out i ∅]at hx;rw[w.out j ∅]at hy;exact h i j x y h1 h2 h3 hx hy
end
section
variable{prog:aX}{w:aN}{A:be}{E:am->aq->Prop}{s:aq}{κ:KeyKind}
theorem R4{σ:Type}{M:Model}{Q:PUnit->σ->Prop}{st aA:σ}(h:Q ⟨⟩ aA):wpS M A E s (set aA:StateT σ Sem PUnit) Q st:=by unfold wpS; rw[StateT.run_set]; exact aD ⟨rfl,h⟩
theorem Ur(a:Array Keyed){p q t:Nat}(h1:p<=q)(h2:q<=t):(a.extract p q).toList++(a.extract q t).toList=(a.extract p t).toList:=by rw[lL,lL,lL,show t-p=(q-p)+(t-q) by lia,List.take_add,List.drop_drop,show p+(q-p)=q by lia]
theorem Ti{arr:Array Keyed}{sa na nb k nb':Nat}(hsz:sa+na+nb<=arr.size)(hk:k<na)(h0:0<nb')(hnb:nb'<=nb)(r1:Run κ arr sa na)(r2:Run κ arr (sa+na) nb)(a1:∀ i (hi:i<arr.size),sa<=i->i<sa+k->bV κ arr[i] (arr[sa+na]'∅)) (b2:∀ i (hi:i<arr.size),sa+na+nb'<=i->i<sa+na+nb->bV κ (arr[sa+na-1]'∅) arr[i]){r:Array Keyed} (hD:g7 κ ((arr.extract (sa+k) (sa+na)).toList++(arr.extract (sa+na) (sa+na+nb')).toList) r) : Wr arr (putL arr (sa+k) r.toList) sa (na+nb)/\Run κ (putL arr (sa+k) r.toList) sa (na+nb):=by
 rw[Ur _ ∅ ∅]at hD;have cb:r.toList.length=na-k+nb':=by rw[hD.1.length_eq,lL,j5,j6,iz]; lia
 have hb:sa+k+r.toList.length<=arr.size:=∅
 have hm:∀ m∈r.toList,∃ t,∃ ht:t<arr.size,sa+k<=t/\t<sa+na+nb'/\arr[t]=m:=λm hm=>Bg ∅ (hD.1.mem_iff.mp hm);have g1:∀ {i j:Nat} (bZ:i<=j) (hj:j<sa+na),sa<=i->bV κ (arr[i]'∅) (arr[j]'∅):=λ{i j} bZ hj hi=>r1 i j _ _ hi bZ hj (getElem?_pos _ _ _) (getElem?_pos _ _ _);have g2:∀ {i j:Nat} (bZ:i<=j) (hj:j<sa+na+nb),sa+na<=i->bV κ (arr[i]'∅) (arr[j]'∅):=λ{i j} bZ hj hi=>r2 i j _ _ hi bZ hj (getElem?_pos _ _ _) (getElem?_pos _ _ _);have pS:∀ i (hi:i<arr.size) j (hj:j<arr.size),sa<=i->i<sa+k->sa+na<=j->j<sa+na+nb->bV κ arr[i] arr[j]:=λi hi j hj c1 c2 c3 c4=>(a1 i hi c1 c2).trans (g2 c3 c4 (bo _));refine⟨⟨?_,Mw hb,λq hq=>?_⟩,?_⟩
 ·refine Q4 (n:=na-k+nb') ∅ ?_;have:=hD.1;rwa[lL,show sa+na+nb'-(sa+k)=na-k+nb' by lia]at this
 ·rw[Bo hb,if_neg ∅]
 ·intro i j x y h1 h2 h3 hx hy;rw[Bo hb]at hx hy;by_cases ci:sa+k<=i/\i<sa+k+r.toList.length
  ·rw[if_pos ci]at hx;obtain⟨t,ht,t1,t2,rfl⟩:=hm x (vP hx);by_cases cj:sa+k<=j/\j<sa+k+r.toList.length
   ·rw[if_pos cj]at hy;by_cases eij:i=j
    ·subst eij; rw[hx]at hy; cases hy; exact bV.refl _
    ·obtain⟨u1,u2⟩:=eE.mp hx;obtain⟨v1,v2⟩:=eE.mp hy;have:=List.pairwise_iff_getElem.mp hD.2 (i-(sa+k)) (j-(sa+k)) u1 v1 ∅;rw[u2,v2]at this;exact this
   ·rw[if_neg cj]at hy;obtain⟨hj,rfl⟩:=tI.mp hy;by_cases ct:t<sa+na
    ·exact(g1 (show t<=sa+na-1 by lia) ∅ ∅).trans (b2 j hj ∅ ∅)
    ·exact g2 ∅ ∅ ∅
  ·rw[if_neg ci]at hx;obtain⟨hi,rfl⟩:=tI.mp hx;by_cases cj:sa+k<=j/\j<sa+k+r.toList.length
   ·rw[if_pos cj]at hy;obtain⟨t,ht,t1,t2,rfl⟩:=hm y (vP hy);by_cases ct:t<sa+na
    ·exact g1 ∅ ct ∅
    ·exact pS i hi t ht ∅ ∅ ∅ ∅
   ·rw[if_neg cj]at hy;obtain⟨hj,rfl⟩:=tI.mp hy;by_cases c2:i<sa+k
    ·by_cases c3:j<sa+k
     ·exact g1 h2 ∅ h1
     ·exact pS i hi j hj ∅ c2 ∅ ∅
    ·exact g2 h2 ∅ ∅
theorem Ew{arr:Array Keyed}{sa na nb:Nat}(hsz:sa+na+nb<=arr.size)(hna:0<na)(hnb:0<nb)(r1:Run κ arr sa na)(r2:Run κ arr (sa+na) nb)(hj:bV κ (arr[sa+na-1]'∅) (arr[sa+na]'∅)):Run κ arr sa (na+nb):=by
 intro i j x y h1 h2 h3 hx hy;by_cases c1:j<sa+na
 ·exact r1 i j x y h1 h2 c1 hx hy
 ·by_cases c2:i<sa+na
  ·exact((r1 i (sa+na-1) x _ h1 ∅ ∅ hx (getElem?_pos _ _ _)).trans hj).trans (r2 (sa+na) j _ y ∅ ∅ ∅ (getElem?_pos _ _ _) hy)
  ·exact r2 i j x y ∅ h2 ∅ hx hy
theorem Wr.same{a:Array Keyed}{lo n:Nat}:Wr a a lo n:=⟨m9 _,rfl,λ_ _=>rfl⟩
theorem QY(hO:κ.OneLt){st:bW}(hk:SB st)(hA:∀ i (hi:i<(arrOf st).size),io κ (arrOf st)[i]){i sa na pw nb pw':Nat}(p1:(bF st)[i]?=aa (sa,na,pw)) (p2:(bF st)[i+1]?=aa (sa+na,nb,pw')) (hna:0<na) (hnb:0<nb) (hsz:sa+na+nb<=(arrOf st).size)(r1:Run κ (arrOf st) sa na) (r2:Run κ (arrOf st) (sa+na) nb) {Q:Bool->bW->Prop}(h:∀ aA,SB aA->bF aA=((bF st).setIfInBounds i (sa,na+nb,pw)).eraseIdxIfInBounds (i+1)->Wr (arrOf st) (arrOf aA) sa (na+nb)->Run κ (arrOf aA) sa (na+nb)->Q ai aA) : wpS (ay prog w) A E s (mergeAt' i) Q st:=by
 obtain⟨kd,arr,pd,mg,fl⟩:=st;have hkd:kd=oneType':=hk.kind;have hfl:fl=ae:=hk.failed;subst hkd hfl;replace hA:∀ i (hi:i<arr.size),io κ arr[i]:=hA;replace hsz:sa+na+nb<=arr.size:=hsz;replace r1:Run κ arr sa na:=r1;replace r2:Run κ arr (sa+na) nb:=r2;replace p1:pd[i]?=aa (sa,na,pw):=p1;replace p2:pd[i+1]?=aa (sa+na,nb,pw'):=p2;replace h:∀ aA,SB aA->bF aA=(pd.setIfInBounds i (sa,na+nb,pw)).eraseIdxIfInBounds (i+1)->Wr arr (arrOf aA) sa (na+nb)->Run κ (arrOf aA) sa (na+nb)->Q ai aA:=h;have g1:∀ {i j:Nat} (bZ:i<=j) (hj:j<sa+na),sa<=i->bV κ (arr[i]'∅) (arr[j]'∅):=λ{i j} bZ hj hi=>r1 i j _ _ hi bZ hj (getElem?_pos _ _ _) (getElem?_pos _ _ _);have g2:∀ {i j:Nat} (bZ:i<=j) (hj:j<sa+na+nb),sa+na<=i->bV κ (arr[i]'∅) (arr[j]'∅):=λ{i j} bZ hj hi=>r2 i j _ _ hi bZ hj (getElem?_pos _ _ _) (getElem?_pos _ _ _);unfold mergeAt';refine aK (lW ?_);dsimp only;rw[p1,p2];dsimp only;refine aK (R4 ?_);generalize (pd.setIfInBounds i (sa,na+nb,pw)).eraseIdxIfInBounds (i+1)=pend at *;refine aK (fR ∅ ?_);refine aK (BJ hO ⟨rfl,rfl⟩ (base:=sa) (n:=na) (hint:=0) (hA _ _) ∅ hA (λi j bZ hj hi=>g1 bZ hj hi) hna λk m1 m2 m3=>?_);dsimp only;refine c8 (λe1=>?_) λe1=>?_
 ·have f_:na<=k:=by have:na-k=0:=(by simpa using e1); lia
  refine aT (h _ ⟨rfl,rfl⟩ rfl Wr.same (Ew hsz hna hnb r1 r2 (m2 _ _ ∅ ∅)))
 have f_:k<na:=by have:na-k≠0:=(by simpa using e1); lia
 refine aK (fR ∅ ?_);refine aK (Be hO ⟨rfl,rfl⟩ (base:=sa+na) (n:=nb) (hint:=nb-1) (hA _ _) ∅ hA (λi j bZ hj hi=>g2 bZ hj hi) ∅ λnb' n1 n2 n3=>?_);dsimp only;have hidx:sa+k+(na-k)-1=sa+na-1:=∅
 simp only[hidx]at n2 n3;refine c8 (λe2=>?_) λe2=>?_
 ·have me:nb'=0:=by simpa using e2
  refine aT (h _ ⟨rfl,rfl⟩ rfl Wr.same (Ew hsz hna hnb r1 r2 (n3 _ _ ∅ ∅)))
 have me:nb'≠0:=by simpa using e2
 have xs:(arr.extract (sa+k) (sa+na)).size=na-k:=by simp; lia
 have ys:(arr.extract (sa+na) (sa+na+nb')).size=nb':=by simp; lia
 refine c8 (λ_=>?_) λ_=>?_
 all_goals
  first
   | refine aK (Q3 hO ⟨rfl,rfl⟩ ∅ ∅ ?_ ?_ ?_ ?_ ?_ ?_ ?_)
   | refine aK (Nz hO ⟨rfl,rfl⟩ ∅ ∅ ?_ ?_ ?_ ?_ ?_ ?_ ?_)
  ·intro j hj; rw[oA]; exact hA _ _
  ·intro j hj; rw[oA]; exact hA _ _
  ·intro i j hj bZ;rw[oA,oA];exact g1 ∅ ∅ ∅
  ·intro i j hj bZ;rw[oA,oA];exact g2 ∅ ∅ ∅
  ·rw[oA,oA];exact lX (m3 _ _ ∅ ∅)
  ·intro j hj;rw[oA,oA];have:=n2 (sa+na+j) ∅ ∅ ∅;have e:sa+k+((arr.extract (sa+k) (sa+na)).size-1)=sa+na-1:=∅
   simp only[e];exact lX this
  ·rintro r ⟨kd',arr',pd',mg',fl'⟩ ⟨c1,c2,c3,c4⟩ hD;change kd'=oneType' at c1;change arr'=arr at c2;change pd'=pend at c3;change fl'=ae at c4;subst c1 c2 c3 c4;refine aK (oy ?_);refine aK (lW ?_);obtain⟨w1,w2⟩:=Ti hsz f_ ∅ n1 r1 r2 (λi hi c1 c2=>m2 i hi c1 c2) (λi hi c1 c2=>n3 i hi c1 c2) hD;exact aT (h _ ⟨rfl,rfl⟩ rfl w1 w2)
end
section
variable{κ:KeyKind}
theorem AH{a:Array Keyed}{i:Nat}{x:Keyed}(h:a[i]?=aa x):KK κ a i=kO κ x:=by unfold KK kO; rw[h]
theorem yK{a:Array Keyed}{i:Nat}(h:i<a.size):KK κ a i=kO κ a[i]:=AH (getElem?_pos _ _ _)
def iI(κ:KeyKind)(a:Array Keyed)(lo n:Nat):Prop:=∀ i j,lo<=i->i<=j->j<lo+n->κ.kle (KK κ a i) (KK κ a j)
def oM(κ:KeyKind)(a:Array Keyed)(lo n:Nat):Prop:=∀ i j,lo<=i->i<=j->j<lo+n->κ.kle (KK κ a j) (KK κ a i)
theorem iI.run{a:Array Keyed}{lo n:Nat}(h:iI κ a lo n):Run κ a lo n:=by intro i j x y h1 h2 h3 hx hy;have:=h i j h1 h2 h3;rw[AH hx,AH hy]at this;exact this
theorem Wr.trans{a b c:Array Keyed}{lo n:Nat}(h1:Wr a b lo n)(h2:Wr b c lo n):Wr a c lo n :=⟨h2.perm.trans h1.perm,h2.size.trans h1.size,λk hk=>(h2.out k hk).trans (h1.out k hk)⟩
theorem Wr.mono{a b:Array Keyed}{lo n lo' n':Nat}(h:Wr a b lo n)(h1:lo'<=lo)(h2:lo+n<=lo'+n'):Wr a b lo' n' :=⟨h.perm,h.size,λk hk=>h.out k ∅⟩
theorem KP{a:Array Keyed}{i j:Nat}(hj:j<=a.size)(bZ:i<=j):Wr a (mirror a i j ((j-i) / 2)) i (j-i) :=⟨J8.mp (mirror_perm _ _ _ _),mirror_size _ _ _ _,λk hk=>by rw[getElem?_mirror_all hj,if_neg ∅]⟩
theorem ON{a:Array Keyed}{src d:Nat}(hs:src<a.size)(hd:d<=src):Wr a (bubble a src d) (src-d) (d+1) :=⟨J8.mp (bubble_perm _ _ _),bubble_size _ _ _,λk hk=>by rw[getElem?_bubble hs d hd,if_neg ∅,if_neg ∅]⟩
def AllK(κ:KeyKind)(a:Array Keyed):Prop:=∀ i (hi:i<a.size),io κ a[i]
theorem AllK.of{a b:Array Keyed}(h:AllK κ a)(p:b.toList.Perm a.toList):AllK κ b:=by intro i hi;have hm:b[i]∈a.toList:=p.mem_iff.mp (by simp);obtain⟨j,hj,e⟩:=zJ hm;rw[← e];simpa using h j (by simpa using hj)
end
section
variable{prog:aX}{w:aN}{A:be}{E:am->aq->Prop}{s:aq}{κ:KeyKind}
theorem pY(hO:κ.OneLt){st:bW}(hk:SB st)(hA:AllK κ (arrOf st)){i j:Nat}{Q:Option Bool->bW->Prop}(hi:i<(arrOf st).size)(hj:j<(arrOf st).size)(h:Q (aa (κ.blt (KK κ (arrOf st) i) (KK κ (arrOf st) j))) st):wpS (ay prog w) A E s (ltAt' i j) Q st:=by rw[yK hi,yK hj]at h;rw[ltAt'_eq];refine aK (lW ?_);exact aK (fR hi (aK (fR hj (vD hO hk (hA i hi) (hA j hj) h))))
theorem uW{kc st:bW}{lo n i j:Nat}{Q:Unit->bW->Prop}(hk:SB st)(hp:bF st=bF kc)(hw:Wr (arrOf kc) (arrOf st) lo n)(bZ:i<=j)(hj:j<=(arrOf kc).size)(c1:lo<=i)(c2:j<=lo+n)(h:∀ ba,SB ba->bF ba=bF kc->Wr (arrOf kc) (arrOf ba) lo n->(∀ k,KK κ (arrOf ba) k=if i<=k/\k<j then KK κ (arrOf st) (i+j-1-k)else KK κ (arrOf st) k)->Q () ba) : wpS (ay prog w) A E s (reverseSlice' i j) Q st:=by
 have mj:j<=(arrOf st).size:=by rw[hw.size]; exact hj
 exact wpS_reverse (h _ ⟨hk.kind,hk.failed⟩ hp (hw.trans ((KP mj bZ).mono c1 ∅)) λk=>KK_mirror mj k)
theorem Ue{α:Type}{c:Prop}[Decidable c]{p1 p2:StateT bW Sem α}{Q:α->bW->Prop}{st:bW}{J:bW->Prop}(h2:¬ c->J st)(key:∀ ba,J ba->wpS (ay prog w) A E s p2 Q ba)(h1:c->(∀ ba,J ba->wpS (ay prog w) A E s p2 Q ba)->wpS (ay prog w) A E s p1 Q st):wpS (ay prog w) A E s (if c then p1 else p2) Q st :=c8 (λe=>h1 e key) λe=>key st (h2 e)
theorem Bf{a:Array Keyed}{lo x:Nat}(hr:iI κ a lo x)(h:1<=x)(e:κ.kle (KK κ a (lo+x-1)) (KK κ a (lo+x))):iI κ a lo (x+1):=λi j a1 a2 a3=>by
 by_cases hj:j<lo+x
 ·exact hr i j a1 a2 hj
 ·have mj:j=lo+x:=∅
  subst mj;by_cases hi:i=lo+x
  ·subst hi; exact oz _
  ·exact v6 (hr i (lo+x-1) a1 ∅ ∅) e
theorem Eo{a:Array Keyed}{lo x:Nat}(hr:oM κ a lo x)(h:1<=x)(e:κ.kle (KK κ a (lo+x)) (KK κ a (lo+x-1))):oM κ a lo (x+1):=λi j a1 a2 a3=>by
 by_cases hj:j<lo+x
 ·exact hr i j a1 a2 hj
 ·have mj:j=lo+x:=∅
  subst mj;by_cases hi:i=lo+x
  ·subst hi; exact oz _
  ·exact v6 e (hr i (lo+x-1) a1 ∅ ∅)
theorem N4{a:Array Keyed}{lo x neq:Nat}(he:∀ i,lo+x-(neq+1)<=i->i<lo+x->KK κ a i=KK κ a (lo+x-1))(ex:KK κ a (lo+x)=KK κ a (lo+x-1)):∀ i,lo+(x+1)-(neq+1+1)<=i->i<lo+(x+1)->KK κ a i=KK κ a (lo+(x+1)-1):=λi a1 a2=>by
 rw[show lo+(x+1)-1=lo+x by lia];by_cases hi:i=lo+x
 ·rw[hi]
 ·rw[he i ∅ ∅,ex]
theorem Fb{a b:Array Keyed}{i j n:Nat}(nu:∀ k,KK κ b k=if i<=k/\k<j then KK κ a (i+j-1-k)else KK κ a k)(he:∀ k,i<=k->k<j->KK κ a k=KK κ a n):∀ k,KK κ b k=KK κ a k:=λk=>by
 rw[nu];split
 ·rw[he _ ∅ ∅,he k ∅ ∅]
 ·rfl
theorem LR(hO:κ.OneLt){st:bW}(hk:SB st)(hA:AllK κ (arrOf st)){lo dJ:Nat}(h1:1<=dJ)(hsz:lo+dJ<=(arrOf st).size){Q:Option Nat->bW->Prop}(h:∀ n aA,SB aA->bF aA=bF st->Wr (arrOf st) (arrOf aA) lo dJ->1<=n->n<=dJ->iI κ (arrOf aA) lo n->Q (aa n) aA) : wpS (ay prog w) A E s (countRun' lo dJ) Q st:=by
 have one:iI κ (arrOf st) lo 1:=λi j a1 a2 a3=>by
  have:i=j:=∅
  subst this; exact oz _
 have go:∀ {cq:bW},Wr (arrOf st) (arrOf cq) lo dJ->(arrOf cq).size=(arrOf st).size:=λw=>w.size;unfold countRun';refine aK (h_ (ic (I:=λx c fe=>fe=st/\c=(ae,x)/\iI κ (arrOf st) lo x) (Q:=λc fe=>fe=st/\∃ n,c=(ae,n)/\1<=n/\n<=dJ/\iI κ (arrOf st) lo n/\(n=dJ\/κ.klt (KK κ (arrOf st) (lo+n)) (KK κ (arrOf st) (lo+n-1)))) ?_ ?_ ?_) ?_)
 ·rintro x c fe ub pN ⟨rfl,rfl,hr⟩;dsimp only;refine aK (pY hO hk hA ∅ ∅ ?_);cases e:κ.blt (KK κ (arrOf fe) (lo+x)) (KK κ (arrOf fe) (lo+x-1))with
  | true=>exact aT ⟨rfl,x,rfl,∅,∅,hr,.inr e⟩
  | false=>exact aT ⟨rfl,rfl,Bf hr ∅ e⟩
 ·rintro c fe ⟨rfl,rfl,hr⟩;rw[show max 1 dJ=dJ by lia]at hr ⊢;exact⟨rfl,dJ,rfl,∅,∅,hr,.inl rfl⟩
 ·exact⟨rfl,rfl,one⟩
 rintro c aA ⟨rfl,n,rfl,n1,n2,hr,hn⟩;dsimp only;refine c8 (λe1=>aT (h n aA hk rfl Wr.same n1 n2 hr)) λe1=>?_;have f_:n≠dJ:=by simpa using e1
 replace hn:κ.klt (KK κ (arrOf aA) (lo+n)) (KK κ (arrOf aA) (lo+n-1)):=hn.resolve_left f_;refine Ue (J:=λba=>SB ba/\bF ba=bF aA/\Wr (arrOf aA) (arrOf ba) lo dJ/\oM κ (arrOf ba) lo (n+1)) (λen=>⟨hk,rfl,Wr.same,λi j a1 a2 a3=>?_⟩) (λba ⟨eF,fH,pO,hD⟩=>?_) λen key=>?_
 ·have en':n=1:=∅
  by_cases hi:i=j
  ·subst hi; exact oz _
  ·have e1:i=lo+n-1:=∅
   have e2:j=lo+n:=∅
   rw[e1,e2]; exact lX hn
 ·refine aK (tR (ln ⟨rfl,?_⟩));refine aK (h_ (ic (I:=λx c bM=>∃ neq,c=(ae,x,neq)/\SB bM/\bF bM=bF aA/\Wr (arrOf aA) (arrOf bM) lo dJ/\oM κ (arrOf bM) lo x/\neq+1<=x/\(∀ i,lo+x-(neq+1)<=i->i<lo+x->KK κ (arrOf bM) i=KK κ (arrOf bM) (lo+x-1))) (Q:=λc bM=>∃ m neq,c=(ae,m,neq)/\SB bM/\bF bM=bF aA/\Wr (arrOf aA) (arrOf bM) lo dJ/\1<=m/\m<=dJ/\oM κ (arrOf bM) lo m/\neq+1<=m/\(∀ i,lo+m-(neq+1)<=i->i<lo+m->KK κ (arrOf bM) i=KK κ (arrOf bM) (lo+m-1))) ?_ ?_ ?_) ?_)
  ·rintro x c bM ub pN ⟨neq,rfl,gF,gA,jn,hd,hq,he⟩;have sz3:=jn.size;dsimp only;refine aK (pY hO gF (hA.of jn.perm) ∅ ∅ ?_);cases e3:κ.blt (KK κ (arrOf bM) (lo+x)) (KK κ (arrOf bM) (lo+x-1))with
   | true=>
    have hd':oM κ (arrOf bM) lo (x+1):=Eo hd ∅ (lX e3);dsimp only;rw[if_pos rfl];refine c8 (λD1=>?_) λD1=>?_
    ·refine aK (uW (κ:=κ) (lo:=lo) (n:=dJ) gF gA jn ∅ ∅ ∅ ∅ λbX kK iY uc D3=>?_);have wq:=Fb D3 he;exact aT ⟨0,rfl,kK,iY,uc,λi j a1 a2 a3=>by rw[wq,wq]; exact hd' i j a1 a2 a3,∅,λi a1 a2=>by congr 1; lia⟩
    ·exact aT ⟨0,rfl,gF,gA,jn,hd',∅,λi a1 a2=>by congr 1; lia⟩
   | false=>
    dsimp only;rw[if_neg (by simp)];refine aK (pY hO gF (hA.of jn.perm) ∅ ∅ ?_);cases e4:κ.blt (KK κ (arrOf bM) (lo+x-1)) (KK κ (arrOf bM) (lo+x))with
    | true=>exact aT ⟨x,neq,rfl,gF,gA,jn,∅,∅,hd,hq,he⟩
    | false=>have ex:KK κ (arrOf bM) (lo+x)=KK κ (arrOf bM) (lo+x-1):=KeyOrd.kle_antisymm e4 e3;exact aT ⟨neq+1,rfl,gF,gA,jn,Eo hd ∅ (by rw[ex]; exact oz _),∅,N4 he ex⟩
  ·rintro c bM ⟨neq,rfl,gF,gA,jn,hd,hq,he⟩;rw[show max (n+1) dJ=dJ by lia]at hd hq he ⊢;exact⟨dJ,neq,rfl,gF,gA,jn,∅,∅,hd,hq,he⟩
  ·exact⟨0,rfl,eF,fH,pO,hD,∅,λi a1 a2=>by congr 1; lia⟩
  rintro c bM ⟨m,neq,rfl,gF,gA,jn,m1,m2,hd,hq,he⟩;dsimp only;refine c8 (λD1=>?_) λD1=>?_
  ·refine aK (uW (κ:=κ) (lo:=lo) (n:=dJ) gF gA jn ∅ ∅ ∅ ∅ λbX kK iY uc D3=>?_);have wq:=Fb D3 he;have hd4:oM κ (arrOf bX) lo m:=λi j a1 a2 a3=>by rw[wq,wq]; exact hd i j a1 a2 a3
   refine aK (uW (κ:=κ) (lo:=lo) (n:=dJ) kK iY uc ∅ ∅ ∅ ∅ λcq oG hp5 q_ wt=>?_);have hr5:iI κ (arrOf cq) lo m:=λi j a1 a2 a3=>by rw[wt,wt,if_pos ⟨a1,∅⟩,if_pos ⟨∅,a3⟩];exact hd4 _ _ ∅ ∅ ∅
   have sz5:=q_.size;refine aK (h_ (ic (I:=λx c fe=>fe=cq/\c=(ae,x)/\iI κ (arrOf cq) lo x) (Q:=λc fe=>fe=cq/\∃ n,c=(ae,n)/\1<=n/\n<=dJ/\iI κ (arrOf cq) lo n/\(n=dJ\/κ.klt (KK κ (arrOf cq) (lo+n)) (KK κ (arrOf cq) (lo+n-1)))) ?_ ?_ ?_) ?_)
   ·rintro x c fe ub pN ⟨rfl,rfl,hr⟩;dsimp only;refine aK (pY hO oG (hA.of q_.perm) ∅ ∅ ?_);cases e:κ.blt (KK κ (arrOf fe) (lo+x)) (KK κ (arrOf fe) (lo+x-1))with
    | true=>exact aT ⟨rfl,x,rfl,∅,∅,hr,.inr e⟩
    | false=>exact aT ⟨rfl,rfl,Bf hr ∅ e⟩
   ·rintro c fe ⟨rfl,rfl,hr⟩;rw[show max m dJ=dJ by lia]at hr ⊢;exact⟨rfl,dJ,rfl,∅,∅,hr,.inl rfl⟩
   ·exact⟨rfl,rfl,hr5⟩
   rintro c fe ⟨rfl,q,rfl,q1,q2,hrq,_⟩;exact aT (h q fe oG hp5 q_ q1 q2 hrq)
  ·have kK:=gF;have iY:=gA;have uc:=jn;have hd4:=hd;refine aK (uW (κ:=κ) (lo:=lo) (n:=dJ) kK iY uc ∅ ∅ ∅ ∅ λcq oG hp5 q_ wt=>?_);have hr5:iI κ (arrOf cq) lo m:=λi j a1 a2 a3=>by rw[wt,wt,if_pos ⟨a1,∅⟩,if_pos ⟨∅,a3⟩];exact hd4 _ _ ∅ ∅ ∅
   have sz5:=q_.size;refine aK (h_ (ic (I:=λx c fe=>fe=cq/\c=(ae,x)/\iI κ (arrOf cq) lo x) (Q:=λc fe=>fe=cq/\∃ n,c=(ae,n)/\1<=n/\n<=dJ/\iI κ (arrOf cq) lo n/\(n=dJ\/κ.klt (KK κ (arrOf cq) (lo+n)) (KK κ (arrOf cq) (lo+n-1)))) ?_ ?_ ?_) ?_)
   ·rintro x c fe ub pN ⟨rfl,rfl,hr⟩;dsimp only;refine aK (pY hO oG (hA.of q_.perm) ∅ ∅ ?_);cases e:κ.blt (KK κ (arrOf fe) (lo+x)) (KK κ (arrOf fe) (lo+x-1))with
    | true=>exact aT ⟨rfl,x,rfl,∅,∅,hr,.inr e⟩
    | false=>exact aT ⟨rfl,rfl,Bf hr ∅ e⟩
   ·rintro c fe ⟨rfl,rfl,hr⟩;rw[show max m dJ=dJ by lia]at hr ⊢;exact⟨rfl,dJ,rfl,∅,∅,hr,.inl rfl⟩
   ·exact⟨rfl,rfl,hr5⟩
   rintro c fe ⟨rfl,q,rfl,q1,q2,hrq,_⟩;exact aT (h q fe oG hp5 q_ q1 q2 hrq)
 ·refine aK (pY hO hk hA ∅ ∅ ?_);cases e2:κ.blt (KK κ (arrOf aA) lo) (KK κ (arrOf aA) (lo+n-1))with
  | true=>exact aT (h n aA hk rfl Wr.same n1 n2 hr)
  | false=>
   dsimp only;rw[if_neg (by simp)];have t4:∀ i,lo<=i->i<lo+n->KK κ (arrOf aA) i=KK κ (arrOf aA) lo:=λi a1 a2=>KeyOrd.kle_antisymm (v6 (hr i (lo+n-1) a1 ∅ ∅) e2) (hr lo i (bo _) a1 a2);refine aK (uW (κ:=κ) (lo:=lo) (n:=dJ) hk rfl Wr.same ∅ ∅ ∅ ∅ λba eF fH pO nu=>?_);have hD:oM κ (arrOf ba) lo (n+1):=by
    have hv:∀ i,lo<=i->i<lo+n->KK κ (arrOf ba) i=KK κ (arrOf aA) lo:=λi a1 a2=>by rw[nu,if_pos ⟨a1,a2⟩]; exact t4 _ ∅ ∅
    have hl:κ.klt (KK κ (arrOf ba) (lo+n)) (KK κ (arrOf aA) lo):=by rw[nu,if_neg ∅,← t4 (lo+n-1) ∅ ∅]; exact hn
    intro i j a1 a2 a3;by_cases hj:j<lo+n
    ·rw[hv i a1 ∅,hv j ∅ hj]; exact oz _
    ·have mj:j=lo+n:=∅
     subst mj;by_cases hi:i=lo+n
     ·subst hi; exact oz _
     ·rw[hv i a1 ∅]; exact lX hl
   exact key ba ⟨eF,fH,pO,hD⟩
theorem Qj{kc st:bW}{lo n src dst:Nat}{Q:Unit->bW->Prop}(hk:SB st)(hp:bF st=bF kc)(hw:Wr (arrOf kc) (arrOf st) lo n)(bZ:dst<=src)(hj:src<(arrOf kc).size)(c1:lo<=dst)(c2:src<lo+n)(h:∀ ba,SB ba->bF ba=bF kc->Wr (arrOf kc) (arrOf ba) lo n->(∀ k,KK κ (arrOf ba) k=if k=dst then KK κ (arrOf st) src else if dst<k/\k<=src then KK κ (arrOf st) (k-1)else KK κ (arrOf st) k)->Q () ba) : wpS (ay prog w) A E s (moveDown' src dst) Q st:=by
 have mj:src<(arrOf st).size:=by rw[hw.size]; exact hj
 rw[moveDown'_eq];refine oy (h _ ⟨hk.kind,hk.failed⟩ hp (hw.trans ((ON mj (show src-dst<=src by lia)).mono ∅ ∅)) λk=>?_);have:=KK_bubble (κ:=κ) mj (show src-dst<=src by lia) k;rw[show src-(src-dst)=dst by lia]at this;exact this
theorem K3(hO:κ.OneLt){st:bW}(hk:SB st)(hA:AllK κ (arrOf st)){lo n ok:Nat}(hok:ok<=n)(hsz:lo+n<=(arrOf st).size)(hr:iI κ (arrOf st) lo ok){Q:Bool->bW->Prop}(h:∀ aA,SB aA->bF aA=bF st->Wr (arrOf st) (arrOf aA) lo n->iI κ (arrOf aA) lo n->Q ai aA) : wpS (ay prog w) A E s (binarySort' lo n ok) Q st:=by
 unfold binarySort';refine aK (h_ (ic (I:=λk c cH=>c=(ae,())/\SB cH/\bF cH=bF st/\Wr (arrOf st) (arrOf cH) lo n/\iI κ (arrOf cH) lo (min k n)) (Q:=λc cH=>c=(ae,())/\SB cH/\bF cH=bF st/\Wr (arrOf st) (arrOf cH) lo n/\iI κ (arrOf cH) lo n) ?_ ?_ ?_) ?_)
 ·rintro k c cH oF eF ⟨rfl,ud,ij,re,jU⟩;have sz:=re.size;rw[show min k n=k by lia]at jU;refine aK (h_ (ic (I:=λx c ba=>ba=cH/\∃ l r,c=(ae,l,r)/\l<=r/\r<=k/\r-l<=k-x /\ (∀ i,i<l->κ.kle (KK κ (arrOf cH) (lo+i)) (KK κ (arrOf cH) (lo+k)))/\(∀ i,r<=i->i<k->κ.klt (KK κ (arrOf cH) (lo+k)) (KK κ (arrOf cH) (lo+i)))) (Q:=λc ba=>ba=cH/\∃ l r,c=(ae,l,r)/\l<=k /\ (∀ i,i<l->κ.kle (KK κ (arrOf cH) (lo+i)) (KK κ (arrOf cH) (lo+k)))/\(∀ i,l<=i->i<k->κ.klt (KK κ (arrOf cH) (lo+k)) (KK κ (arrOf cH) (lo+i)))) ?_ ?_ ?_) ?_)
  ·rintro x c ba _ hx ⟨rfl,l,r,rfl,a1,a2,a3,a4,a5⟩;dsimp only;refine c8 (λfu=>?_) λfu=>?_
   ·have:l=r:=∅
    subst this;exact aT ⟨rfl,l,l,rfl,a2,a4,a5⟩
   ·refine aK (pY hO ud (hA.of re.perm) ∅ ∅ ?_);cases e:κ.blt (KK κ (arrOf ba) (lo+k)) (KK κ (arrOf ba) (lo+(l+r) / 2))with
    | true=>exact aT ⟨rfl,l,(l+r) / 2,rfl,∅,∅,∅,a4,λi h1 h2=>KeyOrd.klt_of_klt_of_kle e (jU _ _ ∅ ∅ ∅)⟩
    | false=>exact aT ⟨rfl,(l+r) / 2+1,r,rfl,∅,∅,∅,λi h1=>v6 (jU (lo+i) (lo+(l+r) / 2) ∅ ∅ ∅) e,a5⟩
  ·rintro c ba ⟨rfl,l,r,rfl,a1,a2,a3,a4,a5⟩;have:l=r:=∅
   subst this;exact⟨rfl,l,l,rfl,a2,a4,a5⟩
  ·exact⟨rfl,0,k,rfl,∅,∅,∅,λi hi=>∅,λi h1 h2=>∅⟩
  ·rintro c ba ⟨rfl,l,r,rfl,a2,a4,a5⟩;dsimp only;refine aK (Qj (κ:=κ) (lo:=lo) (n:=n) ud ij re ∅ ∅ ∅ ∅ λbM hb3 gA jn nu=>aT ⟨rfl,hb3,gA,jn,?_⟩);rw[show min (k+1) n=k+1 by lia];intro i j c1 c2 c3;rw[nu,nu]
   repeat' split
   all_goals first
    | (exfalso; lia)
    | exact oz _
    | (have:=a4 (i-lo) ∅; rw[show lo+(i-lo)=i by lia]at this; exact this)
    | (have:=a5 (j-1-lo) ∅ ∅; rw[show lo+(j-1-lo)=j-1 by lia]at this; exact lX this)
    | exact jU _ _ ∅ ∅ ∅
 ·rintro c cH ⟨rfl,ud,ij,re,jU⟩;rw[show min (max (max ok 1) n) n=n by lia]at jU;exact⟨rfl,ud,ij,re,jU⟩
 ·refine⟨rfl,hk,rfl,Wr.same,λi j c1 c2 c3=>?_⟩;by_cases h1:ok=0
  ·have:i=j:=∅
   subst this; exact oz _
  ·exact hr i j c1 c2 ∅
 ·rintro c cH ⟨rfl,ud,ij,re,jU⟩;exact aT (h cH ud ij re jU)
end
theorem Qe{c:Prop}[Decidable c]{a b n:Nat}(h1:a+1<n)(h2:b+1<n):(if c then a else b)+1<n:=by split <;> assumption
def lf:Nat->List (Nat×Nat)->Nat->Prop
 | f,[],t=>f=t
 | f,(a,n)::l,t=>a=f/\0<n/\lf (f+n) l t
theorem lf.app:∀ {l1:List (Nat×Nat)} {f t:Nat} {l2:List (Nat×Nat)},lf f (l1++l2) t↔∃ m,lf f l1 m/\lf m l2 t
 | [],f,t,l2=>by simp[lf]
 | (a,n)::l1,f,t,l2=>by
  simp only[Dj,lf,lf.app (l1:=l1)];constructor
  ·rintro⟨h1,h2,m,h3,h4⟩; exact⟨m,⟨h1,h2,h3⟩,h4⟩
  ·rintro⟨m,⟨h1,h2,h3⟩,h4⟩; exact⟨h1,h2,m,h3,h4⟩
theorem lf.le:∀ {l:List (Nat×Nat)} {f t:Nat},lf f l t->f+l.length<=t/\∀ e∈l,f<=e.1/\e.1+e.2<=t
 | [],f,t,h=>⟨by cases h; simp,by simp⟩
 | (a,n)::l,f,t,⟨h1,h2,h3⟩=>by
  obtain⟨i1,i2⟩:=lf.le h3;refine⟨by simp; lia,λe he=>?_⟩;rcases ca.mp he with rfl | he
  ·subst h1; exact⟨bo _,by simp; lia⟩
  ·have:=i2 e he; exact⟨∅,this.2⟩
def PL(pd:Array (Nat×Nat×Nat)):List (Nat×Nat):=pd.toList.map λe=>(e.1,e.2.1)
structure jb(κ:KeyKind)(arr:Array Keyed)(pd:Array (Nat×Nat×Nat))(lo:Nat):Prop where
 ch:lf 0 (PL pd) lo
 run:∀ e∈PL pd,Run κ arr e.1 e.2
theorem yA(pd:Array (Nat×Nat×Nat)):(PL pd).length=pd.size:=by simp[PL]
theorem oO(pd:Array (Nat×Nat×Nat))(e:Nat×Nat×Nat):PL (pd.push e)=PL pd++[(e.1,e.2.1)]:=by simp[PL]
theorem xW(pd:Array (Nat×Nat×Nat))(k pw:Nat):PL (pd.modify k λx=>(x.1,x.2.1,pw))=PL pd:=by
 apply kE;intro i;simp only[PL,jh,Db,Array.getElem?_modify];split
 ·cases pd[i]? <;> rfl
 ·rfl
theorem OR{pd:Array (Nat×Nat×Nat)}{i:Nat}(h:i+1<pd.size):∃ l1 l2 sa na pa sb nb pb,pd[i]?=aa (sa,na,pa)/\pd[i+1]?=aa (sb,nb,pb)/\PL pd=l1++(sa,na)::(sb,nb)::l2 /\ PL ((pd.setIfInBounds i (sa,na+nb,pa)).eraseIdxIfInBounds (i+1))=l1++(sa,na+nb)::l2:=by
 obtain⟨l⟩:=pd;simp only[dH]at h;have e:l=l.take i++l[i]::l[i+1]::l.drop (i+2):=by rw[← zG,← zG,ng]
 obtain⟨l1,x,y,l2,hl,e2⟩:∃ l1 x y l2,l1.length=i/\l=l1++x::y::l2:=⟨l.take i,l[i],l[i+1],l.drop (i+2),by simp; lia,e⟩
 subst hl e2;obtain⟨sa,na,pa⟩:=x;obtain⟨sb,nb,pb⟩:=y;refine⟨l1.map λe=>(e.1,e.2.1),l2.map λe=>(e.1,e.2.1),sa,na,pa,sb,nb,pb,by simp,by simp[jK],by simp[PL],?_⟩;have e3:((l1++(sa,na,pa)::(sb,nb,pb)::l2).toArray.setIfInBounds l1.length (sa,na+nb,pa)).eraseIdxIfInBounds (l1.length+1)=(l1++(sa,na+nb,pa)::l2).toArray:=by rw[List.setIfInBounds_toArray,List.set_append_right _ _ (bo _),List.eraseIdxIfInBounds_toArray];congr 1;rw[List.eraseIdx_append_of_length_le ∅];simp
 rw[e3];simp[PL]
section
variable{prog:aX}{w:aN}{A:be}{E:am->aq->Prop}{s:aq}{κ:KeyKind}
theorem jb.keep{a a':Array Keyed}{pd:Array (Nat×Nat×Nat)}{lo n:Nat}(h:jb κ a pd lo)(w:Wr a a' lo n):jb κ a' pd lo :=⟨h.ch,λe he=>(h.run e he).keep w (.inl (h.ch.le.2 e he).2)⟩
theorem Bs(hO:κ.OneLt){st:bW}(hk:SB st)(hA:AllK κ (arrOf st)){i lo:Nat}(hP:jb κ (arrOf st) (bF st) lo)(hlo:lo<=(arrOf st).size)(hi:i+1<(bF st).size){Q:Bool->bW->Prop}(h:∀ aA,SB aA->Wr (arrOf st) (arrOf aA) 0 lo->jb κ (arrOf aA) (bF aA) lo->(bF aA).size+1=(bF st).size->Q ai aA) : wpS (ay prog w) A E s (mergeAt' i) Q st:=by
 obtain⟨l1,l2,sa,na,pa,sb,nb,pb,e1,e2,e3,e4⟩:=OR hi;have hc:=hP.ch;rw[e3]at hc;obtain⟨m,c1,c2,c3,c4,c5,c6⟩:=lf.app.mp hc;subst c2 c4;have b1:=c1.le;have b2:=c6.le;have r1:Run κ (arrOf st) sa na:=hP.run (sa,na) (by rw[e3]; simp);have r2:Run κ (arrOf st) (sa+na) nb:=hP.run (sa+na,nb) (by rw[e3]; simp);refine QY hO hk hA e1 e2 c3 c5 ∅ r1 r2 λaA wJ iU hw hr=>h aA wJ (hw.mono ∅ ∅) ⟨?_,?_⟩ ?_
 ·rw[iU,e4];exact lf.app.mpr ⟨sa,c1,rfl,∅,by rw[← v5]; exact c6⟩
 ·rw[iU,e4];intro e he;rcases eY.mp he with he | he
  ·exact(hP.run e (by rw[e3]; exact zk _ he)).keep hw (.inl (b1.2 e he).2)
  ·rcases ca.mp he with rfl | he
   ·exact hr
   ·exact(hP.run e (by rw[e3]; simp[he])).keep hw (.inr (by have:=(b2.2 e he).1; lia))
 ·have q1:=yA (bF aA);have q2:=yA (bF st);rw[iU,e4]at q1;rw[e3]at q2;rw[iU,← q1,← q2]; simp; lia
theorem Ma(hO:κ.OneLt){st:bW}(hk:SB st)(hA:AllK κ (arrOf st))(hp:bF st = #[]){Q:Unit->bW->Prop}(h:∀ aA,SB aA->(arrOf aA).toList.Perm (arrOf st).toList->Run κ (arrOf aA) 0 (arrOf st).size->Q () aA) : wpS (ay prog w) A E s sortRuns' Q st:=by
 unfold sortRuns';refine aK (lW ?_);dsimp only;obtain⟨size,UF⟩:∃ size,size=(arrOf st).size:=⟨_,rfl⟩
 have Ux:((sortPriv% PySem.Builtin.SortState.a) st).size=size:=UF.symm;simp only[Ux];refine aK (h_ (ic (I:=λx c cH=>∃ lo,c=(ae,lo)/\x<=lo/\lo<=size/\SB cH/\(arrOf cH).toList.Perm (arrOf st).toList/\(arrOf cH).size=size/\jb κ (arrOf cH) (bF cH) lo) (Q:=λc cH=>c=(ae,size)/\SB cH/\(arrOf cH).toList.Perm (arrOf st).toList/\(arrOf cH).size=size/\jb κ (arrOf cH) (bF cH) size) ?_ ?_ ?_) ?_);rotate_left
 ·rintro c cH ⟨lo,rfl,b1,b2,oF,ij,rf,hP⟩;have:lo=size:=∅
  subst this;exact⟨rfl,oF,ij,rf,hP⟩
 ·exact⟨0,rfl,∅,∅,hk,m9 _,UF.symm,by rw[hp]; exact⟨rfl,by simp[PL]⟩⟩
 ·rintro c cH ⟨rfl,oF,ij,rf,hP⟩;dsimp only;refine aK (h_ (ic (I:=λx c ba=>c=(ae,())/\SB ba/\(arrOf ba).toList.Perm (arrOf st).toList/\(arrOf ba).size=size/\jb κ (arrOf ba) (bF ba) size/\(bF ba).size+x<=size+1) (Q:=λc ba=>c=(ae,())/\SB ba/\(arrOf ba).toList.Perm (arrOf st).toList/\(arrOf ba).size=size/\jb κ (arrOf ba) (bF ba) size/\(bF ba).size<=1) ?_ ?_ ?_) ?_)
  ·rintro x c ba _ hx ⟨rfl,eF,fH,nq,wS,hb⟩;refine aK (lW ?_);refine c8 (λe1=>aT ⟨rfl,eF,fH,nq,wS,e1⟩) λe1=>?_;have f_:1<(bF ba).size:=Nat.lt_of_not_le e1;refine aK (Bs hO eF (hA.of fH) wS ∅ ?_ λbM gF jn wT hq=>?_)
   ·exact Qe (show(bF ba).size-2-1+1<(bF ba).size by lia) (show(bF ba).size-2+1<(bF ba).size by lia)
   ·exact aT ⟨rfl,gF,jn.perm.trans fH,jn.size.trans nq,wT,∅⟩
  ·rintro c ba ⟨rfl,eF,fH,nq,wS,hb⟩;exact⟨rfl,eF,fH,nq,wS,∅⟩
  ·have:=hP.ch.le.1;rw[yA]at this;exact⟨rfl,oF,ij,rf,hP,∅⟩
  ·rintro c ba ⟨rfl,eF,fH,nq,wS,hb⟩;refine aT (h ba eF fH ?_);rw[← UF];have hc:=wS.ch;have hr:=wS.run;have hl:=yA (bF ba)
   match hq:PL (bF ba),hc,hr,hl with
   | [],hc,hr,hl=>
    cases hc;intro i j x y a1 a2 a3; lia
   | [(a,n)],hc,hr,hl=>
    obtain⟨d1,d2,d3⟩:=hc;cases d1;have d3':0+n=size:=d3;have:=hr (0,n) (by simp);rw[show size=n by lia]; exact this
   | _::_::_,hc,hr,hl=>simp at hl; lia
 rintro x c cH _ hx ⟨lo,rfl,b1,b2,oF,ij,rf,hP⟩;dsimp only;refine c8 (λe1=>?_) λe1=>?_
 ·have:lo=size:=∅
  subst this;exact aT ⟨rfl,oF,ij,rf,hP⟩
 refine aK (LR hO oF (hA.of ij) ∅ ∅ λdQ ba eF wU pO f1 f2 lu=>?_);dsimp only;refine c8 (λe2=>?_) λe2=>?_
 ·refine aK (tR (ln ⟨rfl,?_⟩));refine aK (K3 hO eF ((hA.of ij).of pO.perm) ∅ (by rw[pO.size]; lia) lu λbM gF hq3 jn hr3=>?_);rw[if_neg (by simp)];have hw:Wr (arrOf cH) (arrOf bM) lo (size-lo):=pO.trans (jn.mono ∅ ∅);have wV:bF bM=bF cH:=hq3.trans wU;generalize hn:min (size-lo) _=n at *;have n1:0<n:=∅
  have n2:lo+n<=size:=∅
  clear eF pO lu wU jn hq3;have wT:jb κ (arrOf bM) (bF bM) lo:=by rw[wV]; exact hP.keep hw
  have gA:(arrOf bM).toList.Perm (arrOf st).toList:=hw.perm.trans ij;have mf:(arrOf bM).size=size:=hw.size.trans rf;have hR:Run κ (arrOf bM) lo n:=hr3.run;clear hw wV;refine aK (lW ?_);obtain⟨kd,arr,pd,mg,fl⟩:=bM;dsimp only;cases hbk:pd.back? with
  | none=>
   dsimp only;refine aK (oy (aT ⟨lo+n,rfl,∅,n2,⟨gF.kind,gF.failed⟩,gA,mf,?_⟩));refine⟨?_,?_⟩
   ·show lf 0 (PL (pd.push (lo,n,0))) _;rw[oO]; exact lf.app.mpr ⟨lo,wT.ch,rfl,n1,rfl⟩
   ·show ∀ e∈PL (pd.push (lo,n,0)),_;rw[oO];intro e he;rcases eY.mp he with he | he
    ·exact wT.run e he
    ·rw[hZ.mp he]; exact hR
  | some bk=>
   obtain⟨s1,m1,q1⟩:=bk;dsimp only;refine aK (h_ (ic (I:=λx c bX=>c=(ae,())/\SB bX/\(arrOf bX).toList.Perm (arrOf st).toList/\(arrOf bX).size=size/\jb κ (arrOf bX) (bF bX) lo/\Run κ (arrOf bX) lo n) (Q:=λc bX=>c=(ae,())/\SB bX/\(arrOf bX).toList.Perm (arrOf st).toList/\(arrOf bX).size=size/\jb κ (arrOf bX) (bF bX) lo/\Run κ (arrOf bX) lo n) ?_ (λ_ _ hh=>hh) ?_) ?_)
   ·rintro y c bX _ hy ⟨rfl,kK,iY,oH,rg,rh⟩;refine aK (lW ?_);have wn:∀ {cq:bW},cq=bX->((ae,()):Option Unit×Unit)=(ae,())/\SB cq/\(arrOf cq).toList.Perm (arrOf st).toList/\(arrOf cq).size=size/\jb κ (arrOf cq) (bF cq) lo/\Run κ (arrOf cq) lo n:=λe=>by subst e; exact⟨rfl,kK,iY,oH,rg,rh⟩
    by_cases hg:1<(bF bX).size
    ·obtain⟨kd4,arr4,pd4,mg4,fl4⟩:=bX;have mh:pd4.size > 1:=hg;dsimp only;rw[if_pos mh,getElem?_pos pd4 (pd4.size-2) ∅];obtain⟨u1,u2,u3⟩:=pd4[pd4.size-2];dsimp only;refine c8 (λ_=>aT (wn rfl)) λ_=>?_;refine aK (Bs hO kK (hA.of iY) rg ∅ (show pd4.size-2+1<pd4.size by lia) λcq oG q_ hP5 _=>?_);exact aT ⟨rfl,oG,q_.perm.trans iY,q_.size.trans oH,hP5,rh.keep q_ (.inr ∅)⟩
    ·obtain⟨kd4,arr4,pd4,mg4,fl4⟩:=bX;have mh:¬ pd4.size > 1:=hg;dsimp only;rw[if_neg mh];exact aT (wn rfl)
   ·exact⟨rfl,gF,gA,mf,wT,hR⟩
   rintro c bX ⟨rfl,kK,iY,oH,rg,rh⟩;obtain⟨kd4,arr4,pd4,mg4,fl4⟩:=bX;dsimp only;refine aK (oy (aK (oy (aT ⟨lo+n,rfl,∅,n2,⟨kK.kind,kK.failed⟩,iY,oH,?_⟩))));refine⟨?_,?_⟩
   ·show lf 0 (PL ((pd4.modify (pd4.size-1) λx=>(x.1,x.2.1,_)).push (lo,n,0))) _;rw[oO,xW]; exact lf.app.mpr ⟨lo,rg.ch,rfl,n1,rfl⟩
   ·show ∀ e∈PL ((pd4.modify (pd4.size-1) λx=>(x.1,x.2.1,_)).push (lo,n,0)),_;rw[oO,xW];intro e he;rcases eY.mp he with he | he
    ·exact rg.run e he
    ·rw[hZ.mp he]; exact rh
 ·have gF:=eF;have hr3:=lu;have hw:Wr (arrOf cH) (arrOf ba) lo (size-lo):=pO;have wV:bF ba=bF cH:=wU;have n1:0<dQ:=∅
  have n2:lo+dQ<=size:=∅
  have wT:jb κ (arrOf ba) (bF ba) lo:=by rw[wV]; exact hP.keep hw
  have gA:(arrOf ba).toList.Perm (arrOf st).toList:=hw.perm.trans ij;have mf:(arrOf ba).size=size:=hw.size.trans rf;have hR:Run κ (arrOf ba) lo dQ:=hr3.run;clear hw wV;refine aK (lW ?_);obtain⟨kd,arr,pd,mg,fl⟩:=ba;dsimp only;cases hbk:pd.back? with
  | none=>
   dsimp only;refine aK (oy (aT ⟨lo+dQ,rfl,∅,n2,⟨gF.kind,gF.failed⟩,gA,mf,?_⟩));refine⟨?_,?_⟩
   ·show lf 0 (PL (pd.push (lo,dQ,0))) _;rw[oO]; exact lf.app.mpr ⟨lo,wT.ch,rfl,n1,rfl⟩
   ·show ∀ e∈PL (pd.push (lo,dQ,0)),_;rw[oO];intro e he;rcases eY.mp he with he | he
    ·exact wT.run e he
    ·rw[hZ.mp he]; exact hR
  | some bk=>
   obtain⟨s1,m1,q1⟩:=bk;dsimp only;refine aK (h_ (ic (I:=λx c bX=>c=(ae,())/\SB bX/\(arrOf bX).toList.Perm (arrOf st).toList/\(arrOf bX).size=size/\jb κ (arrOf bX) (bF bX) lo/\Run κ (arrOf bX) lo dQ) (Q:=λc bX=>c=(ae,())/\SB bX/\(arrOf bX).toList.Perm (arrOf st).toList/\(arrOf bX).size=size/\jb κ (arrOf bX) (bF bX) lo/\Run κ (arrOf bX) lo dQ) ?_ (λ_ _ hh=>hh) ?_) ?_)
   ·rintro y c bX _ hy ⟨rfl,kK,iY,oH,rg,rh⟩;refine aK (lW ?_);have wn:∀ {cq:bW},cq=bX->((ae,()):Option Unit×Unit)=(ae,())/\SB cq/\(arrOf cq).toList.Perm (arrOf st).toList/\(arrOf cq).size=size/\jb κ (arrOf cq) (bF cq) lo/\Run κ (arrOf cq) lo dQ:=λe=>by subst e; exact⟨rfl,kK,iY,oH,rg,rh⟩
    by_cases hg:1<(bF bX).size
    ·obtain⟨kd4,arr4,pd4,mg4,fl4⟩:=bX;have mh:pd4.size > 1:=hg;dsimp only;rw[if_pos mh,getElem?_pos pd4 (pd4.size-2) ∅];obtain⟨u1,u2,u3⟩:=pd4[pd4.size-2];dsimp only;refine c8 (λ_=>aT (wn rfl)) λ_=>?_;refine aK (Bs hO kK (hA.of iY) rg ∅ (show pd4.size-2+1<pd4.size by lia) λcq oG q_ hP5 _=>?_);exact aT ⟨rfl,oG,q_.perm.trans iY,q_.size.trans oH,hP5,rh.keep q_ (.inr ∅)⟩
    ·obtain⟨kd4,arr4,pd4,mg4,fl4⟩:=bX;have mh:¬ pd4.size > 1:=hg;dsimp only;rw[if_neg mh];exact aT (wn rfl)
   ·exact⟨rfl,gF,gA,mf,wT,hR⟩
   rintro c bX ⟨rfl,kK,iY,oH,rg,rh⟩;obtain⟨kd4,arr4,pd4,mg4,fl4⟩:=bX;dsimp only;refine aK (oy (aK (oy (aT ⟨lo+dQ,rfl,∅,n2,⟨kK.kind,kK.failed⟩,iY,oH,?_⟩))));refine⟨?_,?_⟩
   ·show lf 0 (PL ((pd4.modify (pd4.size-1) λx=>(x.1,x.2.1,_)).push (lo,dQ,0))) _;rw[oO,xW]; exact lf.app.mpr ⟨lo,rg.ch,rfl,n1,rfl⟩
   ·show ∀ e∈PL ((pd4.modify (pd4.size-1) λx=>(x.1,x.2.1,_)).push (lo,dQ,0)),_;rw[oO,xW];intro e he;rcases eY.mp he with he | he
    ·exact rg.run e he
    ·rw[hZ.mp he]; exact rh
end
theorem xZ{n:Nat}(h:n<=1000000):n<bx:=qN h (by decide)
theorem Run.sortedTo{κ:KeyKind}{a:Array Keyed}{n:Nat}(h:Run κ a 0 n)(hn:n<=a.size):SortedToK κ a n:=by intro i j bZ hj;have:=h i j _ _ (lj _) bZ ∅ (getElem?_pos a i ∅) (getElem?_pos a j ∅);rw[yK (show i<a.size by lia),yK (show j<a.size by lia)];exact this
theorem KeysOf.all{κ:KeyKind}{a:Array Keyed}(h:KeysOf κ a):AllK κ a:=λi hi=>h _ (by simp)
section
variable{P:aX}{w:aN}{A:be}{E:am->aq->Prop}{s:aq}
theorem SE{κ:KeyKind}(hO:κ.OneLt){a:af}{vs:List am}{n:Nat}{F:Fin->aq->Prop}(ho:s.heap.get? a=aa (lU "list" vs.toArray n))(h0:KeysOf κ (pairsOf vs)) (nu:∀ v₁ v₂ rest,vs=v₁::v₂::rest->keyKind' (v₁::v₂::rest).toArray=pure oneType') (hz:vs.length<=1000000)(h:∀ aA:bW,(arrOf aA).Perm (pairsOf vs)->SortedToK κ (arrOf aA) (pairsOf vs).size->F (.done (.ret .none)) { s with heap:=sortedHeap s.heap a vs ((arrOf aA).map (·.2)) }) : ax (ay P w) A (Builtin.«list.sort» ⟨[.ref a],[]⟩) F E s:=by
 by_cases iX:vs.length<64
 ·exact list_sort_treeK hO ho h0 nu iX h
 obtain⟨v₁,v₂,rest,rfl⟩:∃ v₁ v₂ rest,vs=v₁::v₂::rest:=by
  match vs,iX with
  | [],iX=>simp at iX
  | [_],iX=>simp at iX
  | v₁::v₂::rest,_=>exact⟨v₁,v₂,rest,rfl⟩
 rw[list_sort_plain];have ha:a<s.heap.objs.size:=bE ho;have hl:(v₁::v₂::rest).length<=bx:=lN (xZ hz);refine ar (listItems_at ho rfl ?_);refine ar (Dk ho rfl ?_);obtain⟨e1,nv⟩:∃ e1,(s.heap.update a (pC λ_=>#[])).get? a=aa (lU "list" #[] e1):=⟨_,get?_update_seq ho (λ_=>#[])⟩
 refine ar (seqEpoch_at nv rfl ?_);refine ar (wpAny_newTuple ?_ (hsz:=by rw[J9]; exact hl));refine ar (wpAny_newList ?_);refine lS ?_;have ho6:(((s.heap.update a (pC λ_=>#[])).push (lU "tuple" (v₁::v₂::rest).toArray 0)).push (lU "list" #[] 0)).get? a=aa (lU "list" #[] e1):=by rw[Heap.get?_push_ne _ _ _ (by rw[j7,JY]; exact c_ (m_ ha)),Heap.get?_push_ne _ _ _ (by rw[JY]; exact c_ ha)];exact nv
 show ax (ay P w) A _ F E { s with heap:=((s.heap.update a (pC λ_=>#[])).push (lU "tuple" (v₁::v₂::rest).toArray 0)).push (lU "list" #[] 0) };dsimp only;have h2:¬ (v₁::v₂::rest).toArray.size<2:=by simp
 rw[if_neg h2,if_neg h2,nu _ _ _ rfl];refine ar (aD ?_);refine ar (d_ (Ma (κ:=κ) hO (st:=SortSt.mk' oneType' ((v₁::v₂::rest).toArray.zip (v₁::v₂::rest).toArray) #[] 7 ae) (Q:=λ_ aA=>SB aA/\(arrOf aA).toList.Perm (pairsOf (v₁::v₂::rest)).toList/\Run κ (arrOf aA) 0 (pairsOf (v₁::v₂::rest)).size) ⟨rfl,rfl⟩ (KeysOf.all h0) rfl λaA a1 a2 a3=>⟨a1,a2,a3⟩) ?_ λ_ _ e=>e);rintro⟨⟨⟩,aA⟩ s' ⟨rfl,hb,hp,hs⟩;have iU:(arrOf aA).Perm (pairsOf (v₁::v₂::rest)):=J8.mpr hp;dsimp only;refine ar (seqEpoch_at ho6 rfl ?_);refine ar (Dk ho6 rfl ?_ (hsz2:=by refine cL (mX ((Array.size_map ..).trans (iU.size_eq.trans (pairsOf_size _)))) (Nat.le_succ_of_le hl)));rw[show failedOf aA=ae from hb.failed];simp only[bne_self_eq_false,pG,if_false];exact aD (h aA iU (hs.sortedTo (by rw[iU.size_eq]; exact bo _)))
theorem GI{v:am}{Q:am->aq->Prop}(hc:ax (ay P w) A.in1 (collect v) (λvs s1=>∃ ss:List Str,eT vs ss/\vs.length<=1000000/\∀ (h':aF) (out:Array am) (aR:List Str) (e:Nat),(∀ b o,s1.heap.get? b=aa o->h'.get? b=aa o) -> h'.get? s1.heap.objs.size=aa (lU "list" out e)->eT out.toList aR->aR.Perm ss->sortedS aR=ai->Q (.ref s1.heap.objs.size) { s1 with heap:=h' }) E s) : ax (ay P w) A (call (.builtin "sorted") [v]) Q E s:=by refine Calls.call_function_entry kind_sorted plain_sorted entry_sorted (args_sorted1 _) ?_;unfold Builtin.«sorted»;refine ar (m:=checkCount "sorted" 1 1 _) (aD ?_);refine ar (aW hc λvs s1 ⟨ss,hS,iX,fin⟩=>?_);refine ar (wpAny_newList ?_);have ww:(s1.heap.push (lU "list" vs.toArray 0)).get? s1.heap.objs.size=aa (lU "list" vs.toArray 0):=dG _ rfl;refine ar (lS (vQ slot_list_sort ⟨_,ww,rfl⟩ entry_list_sort (SE strKind_oneLt ww hS.keysOf (λa b c e=>keyKind_strs (by rw[← e]; exact hS)) iX λaA hp hs=>⟨_,rfl,?_⟩) (args_list_sort _)));obtain⟨aR,a1,a2,a3⟩:=sorted_out_str hS hp hs;obtain⟨e,he⟩:=sortedHeap_at (out:=(arrOf aA).map (·.2)) ww;refine aD ⟨_,rfl,fin _ _ aR e (λb o hb=>?_) he a1 a2 a3⟩;have bv:b<s1.heap.objs.size:=bE hb;rw[sortedHeap_old (c_ bv) (by rw[j7]; exact m_ bv)];exact bK _ hb
end
section
variable{X:Cx}
theorem Inv.sorted2{ah:List (af×Obj)}{σ:St}{H:Hp}{s1:aq}{ls:List Tx}{ss aR:List Str}{h':aF}{out:Array am}{e:Nat}(I:Inv X ah σ H s1)(hl:ss=ls.map tS)(iX:ls.length<=1000000)(k:∀ b o,s1.heap.get? b=aa o->h'.get? b=aa o) (ho:h'.get? s1.heap.objs.size=aa (lU "list" out e)) (a1:eT out.toList aR) (a2:aR.Perm ss) (a3:sortedS aR=ai) : Inv X ah σ (upd H s1.heap.objs.size (.lst (d8 (bD ls)))) { s1 with heap:=h' }:=by
 have e1:aR.map (λz=>z.cps.toList)=bD ls:=by
  refine qx ?_ (IV a3);have:=a2.map λz=>z.cps.toList;rw[hl,eJ]at this;have e2:(ls.map ((λz:Str=>z.cps.toList) ∘ tS))=ls:=by simp[JM,o_]
  rw[e2]at this;exact this
 have hv:bJ (d8 (bD ls)) out.toList:=by rw[← e1]; exact Bk a1
 refine I.laid (t':=s1.toks) k (bo _) ⟨?_,out.toList,e,hv,?_⟩
 ·rw[yR,BI];exact lN (xZ ∅)
 ·rw[Array.toArray_toList]; exact ho
theorem E3:im X (.builtin "sorted") (λxs H Q=>∃ (p:af) (ls:List Tx),xs=[.ref p]/\(cg X.K H p (d8 ls)\/dz X.K H p (d8 ls))/\ls.length<=1000000/\∀ l,H l=ae->Q (.ref l) (upd H l (.lst (d8 (bD ls))))):=by
 intro ah s σ H xs us Q I r h;obtain⟨p,ls,rfl,hq,iX,q⟩:=h;obtain⟨u,rfl,ru⟩:=vals1 r;cases ru;have core:∀ (T:String) (o:Obj) (its:List am) (n:Nat),(T = "list"\/T = "tuple")->s.heap.get? p=aa o->o.cls = .type T->o.data = .seq its.toArray n->bJ (d8 ls) its ->
   ax (ay X.prog X.w) X.A (call (.builtin "sorted") [Value.ref p]) (EP X ah σ Q) X.xe s:=λT o its n hT ho hc hd rv=>by
  have hl:=rv.length;rw[yR]at hl;have h1000:=xZ (n:=its.length) ∅;refine GI (wpAny_collect_seq p hT ho hc hd (λh1 k1=>?_) (by rw[dH]; lia));have I1:=I.kept (t':=s.toks) k1;refine⟨_,z8 rv,by rw[J9]; lia,λh' out aR e k ho a1 a2 a3=>?_⟩;exact⟨.ref _,_,Inv.sorted2 I1 rfl iX k ho a1 a2 a3,rfl,q _ I1.fresh⟩
 rcases hq with hq | hq
 ·obtain⟨its,rv,pl,hz⟩:=I.list hq;obtain⟨o,e,hc,n,hd⟩:=pl.isList;exact core "list" o its n (.inl rfl) e hc hd rv
 ·obtain⟨its,rv,⟨o,e,hc,n,hd⟩,hz⟩:=I.tuple hq;exact core "tuple" o its n (.inr rfl) e hc hd rv
end
end L2
namespace Pu
open L2
section
variable{X:Cx}{K:az}
def ql:List PV->Option PO
 | [.lst xs]=>(gW xs).bind λls=>if ls.length<=1000000 then aa (.lst (aj (bD ls)))else ae
 | [.tup xs]=>(gW xs).bind λls=>if ls.length<=1000000 then aa (.lst (aj (bD ls)))else ae
 | _=>ae
theorem IL:p5 K (λxs H Q=>∃ (p:af) (ls:List Tx),xs=[.ref p]/\(cg K H p (d8 ls)\/dz K H p (d8 ls))/\ls.length<=1000000/\∀ l,H l=ae->Q (.ref l) (upd H l (.lst (d8 (bD ls))))) ql:=λF H xs vs Q po hF rs e q=>by
 have fin:∀ {ys:List PV} {us:List V} {a:af},((gW ys).bind λls=>if ls.length<=1000000 then aa (PO.lst (aj (bD ls)))else ae)=aa po->bq K H F ys us->(cg K H a us\/dz K H a us) ->
   ∃ (p:af) (ls:List Tx),[V.ref a]=[.ref p]/\(cg K H p (d8 ls)\/dz K H p (d8 ls))/\ls.length<=1000000/\∀ l,H l=ae->Q (.ref l) (upd H l (.lst (d8 (bD ls)))):=λ{ys us a} e ra hs=>by
  cases q1:gW ys with
  | none=>rw[q1]at e; cases e
  | some ls=>
   rw[q1]at e;simp only[iD]at e;split at e
   ·rename_i iX;cases e;rw[ur q1]at ra;obtain⟨rfl,hm⟩:=UM.mp ra;refine⟨a,ls,rfl,hs,iX,λl hl=>q l F _ _ (Al.new0 hl) (xO hl (UM.mpr ⟨rfl,λx hx=>hm x ((js ls).mem_iff.mp hx)⟩)) (yc hl hF trivial)⟩
   ·cases e
 unfold ql at e;split at e
 ·obtain⟨v,rfl,a,us,rfl,ha,_,ra⟩:=iN rs;exact fin e ra (.inl (.inl ha))
 ·obtain⟨v,rfl,a,us,rfl,ha,ra⟩:=iN rs;exact fin e ra (.inr (dz.of ha))
 ·cases e
end
theorem MM(H:Hp)(p:af)(a b:HO):L2.upd (L2.upd H p a) p b=L2.upd H p b:=by
 funext q;by_cases h:q=p
 ·subst h; rw[cF,cF]
 ·rw[cu h,cu h,cu h]
end Pu
namespace L2
section
variable{P:aX}{w:aN}{A:be}{E:am->aq->Prop}{s:aq}
theorem Mq{I a:af}{es:Array (Int×am)}{ep:Nat}{t:gQ}(cO:a≠I)(hf:t.fits es.size=ai)(hb:dw w=ao)(h1:es.size=0)(hh:A.handled=ae) : Walks P w A I [I,a] [I] 0 (λi v=>(es.toList.map (·.2))[i]?=aa v) (λi h=>h.get? I=aa (ju (eZ 0) 0 a es.size ep)/\h.get? a=aa (qr es ep t)):=by
 have he:es = #[]:=Array.eq_empty_of_size_eq_zero h1;have body:∀ (s:aq) (slot:Nat) (i:Nat) (Q:Option (am×Nat)->aq->Prop) (E:am->aq->Prop),s.heap.get? a=aa (qr es ep t) ->
   Q ae s->ax (ay P w) A.in1 (oq a slot i ep) Q E s:=λs slot i Q E ha hq=>by
  unfold oq;refine ar (iC ha rfl hf ?_);unfold ou;refine ar (ar (lp (aD ?_)));show ax _ _ (if dw w=ai then _ else _) _ _ s;rw[if_neg (by rw[hb]; decide)];refine gy (λhc=>absurd (show(!t.plain && decide (es.size > 1))=ai from hc) (by rw[h1]; simp)) (λ_=>?_);refine ar ?_;refine d_ (Q:=λ_ s'=>s'=s) (E:=E) ?_ (λ_ s' wI=>?_) (λ_ _ x=>x)
  ·refine gy (λhc=>absurd (show(!t.led && !es.isEmpty)=ai from hc) (by rw[he]; simp)) (λ_=>aD rfl)
  ·subst wI;rw[he];have e2:∀ k:Nat,(#[]:Array (Int×am))[k]?=ae:=λk=>by simp
   dsimp only;rw[e2];exact aD hq
 refine⟨λb hb=>by simp at hb; simp[hb],λi h h' st k=>⟨k I (by simp) _ st.1,k a (by simp) _ st.2⟩,λi s Q E hi st hQ=>absurd hi (zu i),λs Q E st hQ=>?_,λi s Q E st hQ=>w6 st.1 hQ⟩;refine p8 st.2 hf st.1 ?_;show ax _ _ (oq a (0:Int).toNat ((0:Nat):Int).toNat (ep:Int).toNat >>= _) _ _ s;simp only[lR,Int.toNat_zero];refine ar (body s 0 0 _ _ st.2 ?_);dsimp only;refine ar (xU st.1 λh1 jS _=>?_);exact xk (s:={ s with heap:=h1 }) hh λh2 k2=>hQ h2 s.toks λb o hb e=>k2 b o ((jS.2 b (by simpa using hb)).trans e)
theorem Th{a:af}{ks:List Str}{Q:am->aq->Prop}(S:b7 P w s.heap a ks)(h:∀ s' I fp n Pv St,Hh P w s s' a I ks fp n Pv St->Q (.ref I) s'):ax (ay P w) A (pr (.ref a)) Q E s:=by
 obtain⟨es,ep,t,ss,ho,hS,hp,fY,hsz,hf,ie,df⟩:=S.ex;have hT:s.TypeIs (.ref a) "set":=⟨_,ho,rfl⟩
 have gk:=bE ho;have ordP:∀ l:List (Int×am),l.Perm es.toList->∃ aR,eT (l.map (·.2)) aR/\aR.Perm ks:=λl pl=>by obtain⟨aR,q1,q2⟩:=uE (pl.map (λe:Int×am=>e.2)) hS;exact⟨aR,q1,q2.trans hp⟩
 refine wpAny_pyIter_slot hT F.slot_set_iter (vQ F.slot_set_iter hT KW ?_ (F.args_set_iter_1 _));unfold Builtin.«frozenset.__iter__» Builtin.Frozenset.slot0 slotArgs Builtin.Frozenset.addrOf J_;refine ar (aD ?_);refine ar (ar (C_ ho rfl hf (aD ?_)));unfold setDrawn;refine ar (ar (iC ho rfl hf ?_));unfold ou;refine ar (ar (lp (aD ?_)));refine aD ?_;have fin:∀ (first:am) (s1:aq) (fp:List af) (n:Nat) (Pv:Nat->am->Prop) (St:Nat->aF->Prop),s1.heap.get? a=aa { cls:=.type "set",dict:=ae,data:=.set es ep t } ->
   Hh P w s { s1 with heap:=s1.heap.push (ju first 0 a es.size ep) } a s1.heap.objs.size ks fp n Pv St ->
   ax (ay P w) A.in1 (do
    let e ← setEpoch a
    let f ← newFields "set_iterator" [first,eZ 0,Value.ref a,eZ (es.size:Nat),eZ (e:Nat)]
    ret f) (λfin s'=>∃ v,fin=Fin.done (Flow.ret v)/\∃ T' r,s'.TypeIs v T'/\typeLookup (Value.type T') (CK "__next__")=pure (aa r)/\Q v s') E s1:=λfirst s1 fp n Pv St ha W=>by
  refine ar (zK ha rfl hf ?_);refine ar (m8 ?_);exact aD ⟨_,rfl,"set_iterator",_,⟨_,dG _ rfl,rfl⟩,FC.lookup,h _ _ fp n Pv St W⟩
 refine gy (λhc=>?_) (λhc=>?_)
 ·have iF:(!dw w && (!t.plain && decide (es.size > 1)))=ai:=hc;refine ar (FV es.size (bQ es.size) s _ (by simp) λys d hy=>?_);refine ar (wpAny_newTuple ?_ (hsz:=by rw[cD,hy.length_eq,List.length_range]; exact lN (Iy ∅)));refine fin _ _ _ _ _ _ (bK _ ho) ⟨λA' hA=>Uc (T:=s.heap.objs.size) (c_ (by rw[j7]; exact m_ gk)) (c_ (by rw[j7]; exact mY _)) hf hy hA,⟨dG _ rfl,?_,?_⟩,?_,?_,?_,rfl,?_,hsz,?_⟩
  ·exact bK _ (bK _ ho)
  ·exact bK _ (dG _ rfl)
  ·exact λb o e=>bK _ (bK _ e)
  ·rw[j7]; exact zz _
  ·intro b hb;simp only[ca,kD,or_false]at hb;rw[j7,j7];rcases hb with rfl | rfl | rfl
   ·rw[j7]; exact mY _
   ·exact m_ (m_ gk)
   ·exact m_ (mY _)
  ·intro au l0;have e0:(ys.filterMap λj=>(es[j]?).map (·.2))=(ys.filterMap λj=>es[j]?).map (·.2):=by rw[List.map_filterMap]
   have pl:(ys.filterMap λj=>es[j]?).Perm es.toList:=by have:=hy.filterMap λj=>es[j]?;rwa[filterMap_getElem?_range]at this
   rw[e0]at l0;rw[yr (by rw[cD,pl.length_eq]; simp) l0];exact ordP _ pl
  ·intro b hb;simp only[ca,kD,or_false]at hb;rcases hb with rfl | rfl | rfl
   ·rw[j7]; exact .inr (zz _)
   ·exact .inl rfl
   ·exact .inr (bo _)
 ·have iF:¬ (!dw w && (!t.plain && decide (es.size > 1)))=ai:=hc;refine ar (aD ?_);cases hb:dw w with
  | true=>
   refine fin _ _ _ _ _ _ ho ⟨λA' hA=>Qd (c_ gk) hf hb hA,⟨dG _ rfl,bK _ ho⟩,λb o e=>bK _ e,bo _,?_,rfl,?_,hsz,λb hb=>?_⟩
   ·intro b hb;simp only[ca,kD,or_false]at hb;rw[j7];rcases hb with rfl | rfl
    ·exact mY _
    ·exact m_ gk
   ·intro au l0;have pl:=AJ (w.params.setOrder a ep) es;rw[yr (by rw[cD,pl.length_eq]; simp) l0];exact ordP _ pl
   ·simp only[ca,kD,or_false]at hb;exact hb.elim (λz=>.inr (mX z.symm)) .inl
  | false=>
   have h01:es.size=1\/es.size=0:=by
    by_cases hk:ks=[]
    ·right;have e1:=hp.length_eq;have e2:ss.length=es.size:=by rw[← hS.strs]; simp
     rw[hk,tE]at e1;lia
    ·rw[hb,df hk]at iF;simp at iF;lia
   rcases h01 with h1 | h1
   ·refine fin _ _ _ _ _ _ ho ⟨λA' hA=>L7 (c_ gk) hf hb (by rw[ie,hb]; rfl) h1 hA,⟨dG _ rfl,bK _ ho⟩,λb o e=>bK _ e,bo _,?_,rfl,?_,by decide,λb hb=>?_⟩
    ·intro b hb;simp only[ca,kD,or_false]at hb;rw[j7];rcases hb with rfl | rfl
     ·exact mY _
     ·exact m_ gk
    ·intro au l0;rw[yr (by simp[h1]) l0];exact ordP _ (m9 _)
    ·simp only[ca,kD,or_false]at hb;exact hb.elim (λz=>.inr (mX z.symm)) .inl
   ·refine fin _ _ _ _ _ _ ho ⟨λA' hA=>Mq (c_ gk) hf hb h1 hA,⟨dG _ rfl,bK _ ho⟩,λb o e=>bK _ e,bo _,?_,rfl,?_,by decide,λb hb=>?_⟩
    ·intro b hb;simp only[ca,kD,or_false]at hb;rw[j7];rcases hb with rfl | rfl
     ·exact mY _
     ·exact m_ gk
    ·intro au l0;rw[yr (by simp[h1]) l0];exact ordP _ (m9 _)
    ·simp only[ca,kD,or_false]at hb;exact hb.elim (λz=>.inr (mX z.symm)) .inl
theorem OK{a:af}{ks:List Str}{Q:List am->aq->Prop}(hh:A.handled=ae)(S:b7 P w s.heap a ks)(h:∀ (s':aq) (vs:List am) (ss:List Str),eT vs ss->ss.Perm ks->vs.length<4090->(∀ b o,s.heap.get? b=aa o->s'.heap.get? b=aa o)->s'.gens=s.gens->s'.os=s.os->Q vs s'):ax (ay P w) A (collect (.ref a)) Q E s:=by
 obtain⟨es,ep,t,_,ho,_⟩:=S.ex;have gk:=bE ho;unfold collect;refine ar (wpAny_runValue (vW F.entry_proto_collect ?_));rw[zC F.plain_proto_collect _];show ax _ A.in1 (newList [] >>= λl=>again (.builtin "list.__iadd__" ⟨[l,.ref a],[]⟩)) _ _ s;refine ar (m8 ?_);refine aD ⟨C8 F.plain_list_iadd _,vW F.entry_list_iadd ?_⟩;rw[zC F.plain_list_iadd _];show ax _ A.in1 (Builtin.List.listExtendWith (.ref s.heap.objs.size) (.ref a) (.ref s.heap.objs.size)) _ _ _;unfold Builtin.List.listExtendWith;have hT:∀ s1:aq,s1.heap.get? a=aa { cls:=.type "set",dict:=ae,data:=.set es ep t }->s1.TypeIs (.ref a) "set":=λs1 e=>⟨_,e,rfl⟩
 have nv:(s.heap.push { cls:=.type "list",data:=.seq ([]:List am).toArray }).get? a=aa { cls:=.type "set",dict:=ae,data:=.set es ep t }:=bK _ ho;refine ar (wpAny_typeOf (hT _ nv) ?_);have h1:Builtin.List.listSameRef (.ref s.heap.objs.size) (.ref a)=ao:=by have:¬ (s.heap.objs.size=a):=mW gk;simp[Builtin.List.listSameRef,this]
 rw[if_neg (by rw[h1]; decide)];refine ar (Th (S.at λo e=>bK _ e) λs2 I fp n Pv St W=>?_);have pK:=W.old a _ nv;refine ar (lS ?_);unfold Builtin.List.listLengthHint;refine ar (wpAny_specialOf (hT _ pK) Q8 ?_)
 wp_delta
 refine ar (zD (T:="set") (b:=ai) (hT _ pK) (by rw[isSubtype_type]; kernel_rfl) ?_);show ax _ A.in1 (typeOf (Value.ref a) >>= _) _ _ _;refine ar (wpAny_typeOf (T:="set") (hT _ pK) ?_);refine aD ?_;rw[if_pos (by decide)];refine ar (ln ?_);have hL:(s.heap.push { cls:=.type "list",data:=.seq ([]:List am).toArray }).get? s.heap.objs.size=aa { cls:=.type "list",data:=.seq ([]:List am).toArray }:=dG _ rfl;have hL2:=W.old _ _ hL;unfold Builtin.List.listTouch;refine ar (ar (Dk hL2 rfl ?_ (by decide) (by show 1<=bx+1; decide)));have hL3:=get?_update_seq hL2 (λa:Array am=>a.push Value.none);refine Dk hL3 rfl ?_ (by show 1<=bx; decide) (by show 0<=bx+1; decide);have hL4:=get?_update_seq hL3 (λa:Array am=>a.pop);have Ku:s.heap.objs.size∉fp:=λz=>by
  rcases W.fps _ z with q | q
  ·exact absurd gk (by rw[← q]; exact fG _)
  ·rw[j7]at q;exact absurd (mY _) (tT.mpr q)
 have k4:∀ b o,b≠s.heap.objs.size->s2.heap.get? b=aa o->(((s2.heap.update s.heap.objs.size (pC λa=>a.push Value.none)).update s.heap.objs.size (pC λa=>a.pop))).get? b=aa o:=λb o hb e=>by rw[Heap.get?_update_ne _ _ _ _ hb,Heap.get?_update_ne _ _ _ _ hb]; exact e
 have bX:St 0 (((s2.heap.update s.heap.objs.size (pC λa=>a.push Value.none)).update s.heap.objs.size (pC λa=>a.pop))):=(W.wk A.in1 hh).frame 0 _ _ W.st λb hb o e=>k4 b o (λz=>Ku (z ▸ hb)) e;refine aD ⟨C8 F.plain_extend_loop _,codeAny_extend_loopS (W.wk A.in1 hh).toS (lN (Iy (by have:=W.len; lia))) _ Ku _ n 0 _ _ _ rfl (lj _) bX hL4 (ItemsOf.nil _) λs' acc' c' hm wH l0=>?_⟩;show ax _ A (load s.heap.objs.size >>= _) _ _ s';refine ar (wpAny_load wH ?_);obtain⟨ss,q1,q2⟩:=W.ord acc' l0;refine aD (h s' acc'.toList ss q1 q2 (by rw[iz,l0.1]; exact W.len) (λb o e=>?_) ?_ ?_)
 ·have bv:=bE e;refine hm.heap b o (λhb=>?_) (k4 b o (c_ bv) (W.old b o (bK _ e)));rcases ca.mp hb with z | z
  ·exact absurd bv (by rw[z]; exact fG _)
  ·rw[hZ.mp z]at bv;have:=W.new;rw[j7]at this;exact absurd bv (tT.mpr (Nat.le_of_succ_le this))
 ·rw[hm.gens,W.rest]
 ·rw[hm.os,W.rest]
end
section
variable{X:Cx}
theorem GL(hc:X.calm=ai):im X (.builtin "sorted") (λxs H Q=>∃ (p:af) (ls:List Tx),xs=[.ref p]/\H p=aa (iK X p ls)/\ls.length<4000/\∀ l,H l=ae->Q (.ref l) (upd H l (.lst (d8 (bD ls))))):=by
 intro ah s σ H xs us Q I r h;obtain⟨p,ls,rfl,hq,iX,q⟩:=h;obtain⟨u,rfl,ru⟩:=vals1 r;cases ru;obtain⟨S,_,_⟩:=(show ef X.prog X.w H s.heap p (iK X p ls)from I.hok p _ hq)
 refine GI (OK (w_ (I.ok.hd hc)) S λs' vs ss a1 a2 a3 k eg eo=>?_);obtain⟨h',g',d',t',o'⟩:=s';obtain rfl:g'=s.gens:=eg;obtain rfl:o'=s.os:=eo;have I1:Inv X ah σ H { s with heap:=h',drawn:=d',toks:=t' }:=by have:=Inv.call (ch:=[]) I (g':=s.gens) (d':=d') (t':=t') (Un.kept (fs:=gG X.stack) (ex:=[]) k) (I.hok.kept k) I.bare (λb hb=>absurd hb (by simp));exact this
 refine⟨ss,a1,∅,λh2 out aR e k2 ho b1 b2 b3=>?_⟩;exact⟨.ref _,_,Inv.sorted2 (s1:={ s with heap:=h',drawn:=d',toks:=t' }) (ss:=ls.map tS) I1 rfl ∅ k2 ho b1 (b2.trans a2) b3,rfl,q _ I1.fresh⟩
end
theorem b7.perm{P:aX}{w:aN}{h:aF}{a:af}{ks ls:List Str}(S:b7 P w h a ks)(p:ks.Perm ls):b7 P w h a ls:=by obtain⟨es,ep,t,ss,e,h1,h2,h3,h4,h5,h6,h7⟩:=S.ex;exact⟨es,ep,t,ss,e,h1,h2.trans p,h3,h4,h5,h6,λz=>h7 λq=>z (by subst q; exact p.symm.eq_nil)⟩
section
variable{P:aX}{w:aN}{A:be}{E:am->aq->Prop}{s:aq}
theorem qD(x y:Str)(t':Tok):(dP P w).is x (.str y t')=decide (y=x):=by
 show qI x (.str y t')=_;rw[pt];simp[qI]
 try exact eq_comm
theorem Lw{a:af}{ks:List Str}{x:Str}{tk:Tok}{Q:Option Nat->aq->Prop}(S:b7 P w s.heap a ks)(h:∀ r:Option Nat,r.isSome=decide (x∈ks)->Q r s) : ax (ay P w) A (setFind a (.str x tk) ((dP P w).hash x)) Q E s:=by
 obtain⟨es,ep,t,ss,ho,hS,hp,fY,hsz,hf,ie,df⟩:=S.ex;have jk:(dP P w).is x (.str x tk)=ai:=by rw[qD]; simp
 have hb:es.size<scanBound:=oh hsz (by decide);have memx:x∈ks↔∃ e∈es.toList,(dP P w).is x e.2=ai:=by
  rw[← hp.mem_iff,yI hS x];constructor
  ·rintro⟨t',q⟩;obtain⟨e,he,ee⟩:=cM.mp q;exact⟨e,he,by rw[ee,qD]; simp⟩
  ·rintro⟨e,he,q⟩;obtain⟨y,t',ey⟩:=hS.all e.2 (cM.mpr ⟨e,he,rfl⟩);rw[ey,qD]at q;have:y=x:=of_decide_eq_true q;subst this;exact⟨t',cM.mpr ⟨e,he,ey⟩⟩
 unfold setFind setFindIn;refine ar (iC ho rfl hf ?_);dsimp only;rw[byScan_of (knd:=dP P w) (x:=.str x tk) rfl hb fY];simp only[if_true];refine ar (ln (ar (JP jk ho rfl hf fY ?_)));cases hr:List.findIdx? (λe=>(dP P w).is x e.2) es.toList with
 | some j=>obtain⟨hj,wG,_⟩:=JQ.mp hr;exact aD (h _ (by rw[decide_eq_true (memx.mpr ⟨_,C7 hj,wG⟩)]; rfl))
 | none=>refine aD (h _ ?_);rw[decide_eq_false λhm=>by obtain⟨e,he,q⟩:=memx.mp hm;have:=JR.mp hr e he;rw[q]at this;exact Bool.noConfusion this];rfl
structure rq(P:aX)(w:aN)(ks:List Str)(arr:Array (Int×am)):Prop where
 ex:∃ ss:List Str,arr.toList.map (λe=>e.1)=ss.map (dP P w).hash/\eT (arr.toList.map (·.2)) ss/\ss.Perm ks
theorem E_:∀ {l:List (Int×am)} {ss:List Str},ElemsOf (dP P w) l->eT (l.map (·.2)) ss->l.map (λe=>e.1)=ss.map (dP P w).hash
 | [],[],_,_=>rfl
 | [],_::_,_,h=>by cases h
 | e::l,[],_,h=>absurd h.length (by simp)
 | e::l,x::ss,he,h=>by
  obtain⟨h1,v⟩:=e;cases h with
  | cons _ t hr=>obtain⟨⟨k,q1,q2⟩,_⟩:=he.head;rw[qD]at q1;have:x=k:=of_decide_eq_true q1;subst this;rw[eC,eC,E_ he.tail hr,q2]
theorem rq.of{es arr:Array (Int×am)}{ss ks:List Str}(hS:eT (es.toList.map (·.2)) ss)(hp:ss.Perm ks)(fY:ElemsOf (dP P w) es.toList)(p:arr.toList.Perm es.toList):rq P w ks arr:=by obtain⟨aR,q1,q2⟩:=uE (p.map (λe:Int×am=>e.2)) hS;exact⟨aR,E_ (fY.perm p) q1,q1,q2.trans hp⟩
theorem Im{a:af}{ks:List Str}{Q:Array (Int×am)->aq->Prop}(S:b7 P w s.heap a ks)(hq:dw w=ai\/(∃ es ep t,s.heap.get? a=aa { cls:=.type "set",dict:=ae,data:=.set es ep t }/\(t.plain=ai\/es.size<=1)))(h:∀ arr,rq P w ks arr->Q arr s):ax (ay P w) A (setWalk a) Q E s:=by
 obtain⟨es,ep,t,ss,ho,hS,hp,fY,hsz,hf,ie,df⟩:=S.ex;unfold setWalk;refine ar (iC ho rfl hf ?_);unfold ou;dsimp only;refine ar (ar (lp (aD ?_)));show ax _ _ (if dw w=ai then _ else _) _ _ s;cases hb:dw w with
 | true=>rw[if_pos rfl];refine ar (lp (aD ?_));exact h _ (rq.of hS hp fY (AJ _ _))
 | false=>
  rw[if_neg (by decide)];have hq':t.plain=ai\/es.size<=1:=by
   rcases hq with hq | ⟨es',ep',t',e',q⟩
   ·rw[hb]at hq; cases hq
   ·rw[ho]at e'; cases e'; exact q
  refine gy (λhc=>absurd (show(!t.plain && decide (es.size > 1))=ai from hc) ?_) (λ_=>?_)
  ·rcases hq' with q | q
   ·rw[q]; simp
   ·rw[decide_eq_false ∅]; simp
  refine ar ?_;refine d_ (Q:=λ_ s'=>s'=s) (E:=E) ?_ (λ_ s' wI=>?_) (λ_ _ x=>x)
  ·refine gy (λhc=>absurd (show(!t.led && decide (es.size > 1))=ai from hc) (by rw[ie,hb]; simp)) (λ_=>aD rfl)
  ·subst wI;exact aD (h _ (rq.of hS hp fY (m9 _)))
theorem R7:∀ (sets:List af),(∀ b∈sets,∃ ls,b7 P w s.heap b ls)->∀ {Q:Bool->aq->Prop},Q ai s->ax (ay P w) A (setsQuiet sets) Q E s:=by
 intro sets hs Q hq;unfold setsQuiet;refine ar (d_ (wpAny_forIn_list _ (λrest (c:Option Bool×Unit) s'=>s'=s/\c=(ae,())/\∀ b∈rest,b∈sets) (λc s'=>s'=s/\c=(ae,())) ?_ (λc s' h=>⟨h.1,h.2.1⟩) sets _ ⟨rfl,rfl,λb hb=>hb⟩) (λc s' hc=>?_) (λ_ _ x=>x))
 ·rintro b rest c s' ⟨rfl,rfl,hm⟩;obtain⟨ls,S⟩:=hs b (hm b (by simp));obtain⟨es,ep,t,ss,ho,hS,hp,fY,hsz,hf,ie,df⟩:=S.ex;refine ar (C_ ho rfl hf ?_);refine ar (d_ (wpAny_forIn_array' _ (λrest (c:Option Bool×Unit) s''=>s''=s'/\c=(ae,())/\∀ e∈rest,e∈es.toList) (λc s''=>s''=s'/\c=(ae,())) ?_ (λc s'' h=>⟨h.1,h.2.1⟩) es _ ⟨rfl,rfl,λe he=>he⟩) (λc s'' hc=>?_) (λ_ _ x=>x))
  ·rintro e r2 c2 s2 ⟨rfl,rfl,ml⟩;obtain⟨y,t',ey⟩:=hS.all e.2 (cM.mpr ⟨e,ml e (by simp),rfl⟩);obtain⟨h1,v⟩:=e;obtain rfl:v = .str y t':=ey;exact aD ⟨rfl,rfl,λe he=>ml e (by simp[he])⟩
  ·obtain⟨rfl,rfl⟩:=hc;exact aD ⟨rfl,rfl,λb hb=>hm b (by simp[hb])⟩
 ·obtain⟨rfl,rfl⟩:=hc;exact aD hq
theorem MW{a r:af}{ks:List Str}{others:List af}{Q:Array (Int×am)->aq->Prop}(S:b7 P w s.heap a ks)(R:b7 P w s.heap r [])(oth:∀ b∈others,∃ ls,b7 P w s.heap b ls)(h:∀ h' arr,jf r s.heap h'->b7 P w h' r []->rq P w ks arr->Q arr { s with heap:=h' }):ax (ay P w) A (Dl a others (aa r)) Q E s:=by
 obtain⟨es,ep,t,ss,ho,hS,hp,fY,hsz,hf,ie,df⟩:=id S.ex;obtain⟨er,epr,tr,sr,hor,hSr,hpr,helr,Kv,kI,Ko,hplr⟩:=id R.ex;unfold Dl;refine ar (iC ho rfl hf ?_);unfold ou;dsimp only;refine ar (ar (lp (aD ?_)));have same:∀ arr,rq P w ks arr->Q arr s:=λarr wk=>h s.heap arr (vT r s.heap) R wk;refine gy (λhc=>?_) (λhc=>?_)
 ·have iF:(dw w || (t.led && t.plain) || decide (es.size<=1))=ai:=hc;refine Im S ?_ same;simp only[zB,iA,decide_eq_true_eq]at iF;rcases iF with(z | z) | z
  ·exact .inl z
  ·exact .inr ⟨es,ep,t,ho,.inl z.2⟩
  ·exact .inr ⟨es,ep,t,ho,.inr z⟩
 ·refine ar (R7 (a::others) (λb hb=>?_) ?_)
  ·rcases ca.mp hb with rfl | hb
   ·exact⟨_,S⟩
   ·exact oth b hb
  refine gy (λhc=>absurd hc (by decide)) (λ_=>?_);refine ar (ln ?_);refine ar (iC hor rfl kI ?_);dsimp only;refine gy (λhc=>?_) (λhc=>?_)
  ·have hl:(tr.led && t.led)=tr.led:=by rw[Ko,ie]; cases dw w <;> rfl
   have qY:({ tr with led:=tr.led && t.led,plain:=tr.plain && t.plain }:gQ).fits er.size=ai:=kI;refine ar (tO hor rfl ?_ (vV (oh Kv (by decide))));refine aD (h _ _ (om ..) ⟨er,epr+1,_,sr,b7.put hor,hSr,hpr,helr,Kv,qY,?_,λz=>absurd rfl z⟩ (rq.of hS hp fY (m9 _)));show(tr.led && t.led)=_;rw[hl,Ko]
  ·refine aD ?_;exact same _ (rq.of hS hp fY (m9 _))
theorem b7.ty{a:af}{ks:List Str}(S:b7 P w s.heap a ks):s.TypeIs (.ref a) "set":=by obtain⟨es,ep,t,ss,ho,_⟩:=S.ex;exact⟨_,ho,rfl⟩
theorem xo{a:af}{ks:List Str}{Q:Bool->aq->Prop}(S:b7 P w s.heap a ks)(h:Q ai s):ax (ay P w) A (Builtin.Frozenset.isAnySet (.ref a)) Q E s:=by unfold Builtin.Frozenset.isAnySet;refine ar (zD S.ty C9 ?_);exact aD h
theorem xM{a:af}{ks:List Str}{Q:Nat->aq->Prop}(S:b7 P w s.heap a ks)(h:Q ks.length s):ax (ay P w) A (J_ a) Q E s:=by
 obtain⟨es,ep,t,ss,ho,hS,hp,fY,hsz,hf,ie,df⟩:=S.ex;have klen:ks.length=es.size:=by
  have e1:=hp.length_eq;have e2:ss.length=es.size:=by rw[← hS.strs]; simp
  lia
 unfold J_;refine ar (C_ ho rfl hf (aD ?_));rw[← klen]; exact h
theorem M9{Q:am->aq->Prop}(h:∀ h',b7 P w h' s.heap.objs.size []->(∀ b o,s.heap.get? b=aa o->h'.get? b=aa o)->h'.objs.size=s.heap.objs.size+1->Q (.ref s.heap.objs.size) { s with heap:=h' }) : ax (ay P w) A (newSet (.type "set")) Q E s:=by unfold newSet ou;refine ar (ar (lp (aD ?_)));dsimp only;simp only[newObj];refine ar (CT (aD (h _ ⟨#[],0,_,[],dG _ rfl,.nil,m9 _,λe he=>by simp at he,by decide,rfl,rfl,λh=>absurd rfl h⟩ (λb o e=>bK _ e) (j7 ..))))
end
section
variable{X:Cx}
theorem R9{ls:List Tx}(h:ls.Nodup):(ls.map tS).Nodup:=by rw[List.Nodup,C5];exact h.imp λne e=>ne (p7 e)
end
end L2
namespace Pu
open L2
section
variable{X:Cx}{E:XK}{pin:List Nat}{e e2:aC}{ds ds2:ak->R (List PV)}{pos p q pos' p4 q2 pos2:Pos}
theorem QJ(l:List Tx):(cf l).Nodup:=by
 unfold cf;have:∀ (l au:List Tx),au.Nodup->(l.foldl (λks x=>if x∈ks then ks else ks++[x]) au).Nodup:=by
  intro l
  induction l with
  | nil=>exact λau h=>h
  | cons x l ih=>
   intro au h;rw[jL];refine ih _ ?_;split
   ·exact h
   ·rename_i hx;rw[zF];exact⟨h,by simp,λy hy z hz e=>by simp at hz; subst hz; subst e; exact hx hy⟩
 exact this l [] List.nodup_nil
def lJ:List PV->Option PO
 | [.lst xs]=>(gW xs).bind λls=>if(cf ls).length<4000 then aa (.lst (aj (bD (cf ls))))else ae
 | _=>ae
def Mm(X:Cx):List V->Hp->VK->Prop:=λxs H Q=>∃ (p:af) (ls:List Tx),xs=[.ref p]/\H p=aa (iK X p ls)/\ls.length<4000/\∀ l,H l=ae->Q (.ref l) (upd H l (.lst (d8 (bD ls))))
theorem Mg:p5 X.K (QE X (Mm X)) lJ:=λF H xs vs Q po hF rs e q=>by
 unfold lJ at e;split at e
 ·obtain⟨v,rfl,a,us,rfl,ha,_,ru⟩:=iN rs;obtain⟨ls,e1,e2⟩:=Option.bind_eq_some_iff.mp e;rw[ur e1]at ru;obtain⟨rfl,hl⟩:=UM.mp ru;split at e2
  ·rename_i hh;cases e2;refine⟨a,ls,rfl,.inl ha,hh,λb hb=>⟨b,cf ls,rfl,cF,hh,λl ke=>?_⟩⟩;have hlb:l≠b:=by rintro rfl; rw[cF]at ke; cases ke
   have ue:H l=ae:=by rw[cu hlb]at ke; exact ke
   have al:Al F F H (upd (upd H b (iK X b (cf ls))) l (.lst (d8 (bD (cf ls))))):=(Al.new0 hb).trans (Al.new0 ke);refine q l F _ (λc=>c=l) al ⟨⟨_,cF,UM.mpr ⟨rfl,λx hx=>hl x ((mI _ _).mp ((js _).mem_iff.mp hx))⟩⟩,λc=>Iff.rfl⟩ λc z=>?_;subst z;exact⟨ue,λz=>Exists.elim (hF _ z) (λo w=>by rw[ue]at w; cases w),_,cF,trivial⟩
  ·cases e2
 ·cases e
theorem AF(hc:X.calm=ai)(ha:DA X E [e] ds)(hm:X.mg "sorted" = ae)(ml:X.mg "set" = ae)(hg:Gl X "sorted":=by rfl)(hg2:Gl X "set":=by rfl)(h:mL e=ao:=by rfl) : DN X E (.Call (.Name "sorted" p) [.Call (.Name "set" q) [e] [] pos'] [] pos) (dL lJ ds):=λF S ε σ H Q rl h'=>c7 (sW (GL hc) hg hm ye (kX (vg (AO hc) hg2 ml AX iw (by decide) (by decide) (kg h) rfl) nH (kg rfl)) (by decide) (by decide) (kg rfl) rfl) (yg Mg ha rl h')
def sJ:List PV->Option (List Tx)
 | [.lst xs]=>(gW xs).bind λls=>if(cf ls).length<4000 then aa (cf ls)else ae
 | _=>ae
theorem Fp{H:Hp}{F:af->Prop}{xs:List PV}{vs:List V}{ls:List Tx}(rs:bq X.K H F xs vs)(e:sJ xs=aa ls) : ∃ (p:af) (zs:List Tx),vs=[.ref p]/\cg X.K H p (d8 zs)/\(cf zs).length<4000/\ls=cf zs/\∀ x∈zs,x.length<=bI:=by
 unfold sJ at e;split at e
 ·obtain⟨v,rfl,a,us,rfl,ha,_,ru⟩:=iN rs;obtain⟨zs,e1,e2⟩:=Option.bind_eq_some_iff.mp e;rw[ur e1]at ru;obtain⟨rfl,hl⟩:=UM.mp ru;split at e2
  ·cases e2; exact⟨a,zs,rfl,.inl ha,by assumption,rfl,hl⟩
  ·cases e2
 ·cases e
end
theorem NX:fM "max" = aa (.builtin "max"):=by decide +kernel
section
variable{K:az}{H:Hp}{F:af->Prop}
theorem sj.len{fs:List (Str×PV)}{ws:List (Str×V)}(h:sj K H F fs ws):ws.length=fs.length:=by
 unfold sj at h
 induction h with
 | nil=>rfl
 | cons _ _ ih=>simp[ih]
end
end Pu
namespace Mx
theorem LK(p:Nat):∃ o,5 ^ (2 ^ p)=1+2 ^ (p+2) * (2 * o+1):=by
 induction p with
 | zero=>exact⟨0,by decide⟩
 | succ p ih=>
  obtain⟨o,h⟩:=ih;refine⟨o+2 ^ p * (2 * o+1) * (2 * o+1),?_⟩;rw[show 2 ^ (p+1)=2 ^ p * 2 from qS ..,Nat.pow_mul,h];rw[show(2:Nat) ^ (p+1+2)=8 * 2 ^ p from by rw[Nat.pow_add,qS]; lia,show(2:Nat) ^ (p+2)=4 * 2 ^ p from by rw[Nat.pow_add]; lia];generalize 2 ^ p=q
  grind
def F5:Nat->Nat->Nat
 | 0,x=>x
 | n+1,x=>F5 n (5 * x+1)
theorem Ln(m n x:Nat):F5 (m+n) x=F5 n (F5 m x):=by
 induction m generalizing x with
 | zero=>simp[F5]
 | succ m ih=>rw[zH]; exact ih _
theorem LL(n x:Nat):4 * F5 n x+1=5 ^ n * (4 * x+1):=by
 induction n generalizing x with
 | zero=>simp[F5]
 | succ n ih=>show 4 * F5 n (5 * x+1)+1=_; rw[ih,qS]; grind
theorem SK(p x:Nat):∃ o,F5 (2 ^ p) x=x+2 ^ p * (2 * o+1):=by
 obtain⟨o,h⟩:=LK p;have c:=LL (2 ^ p) x;rw[h,show(2:Nat) ^ (p+2)=4 * 2 ^ p from by rw[Nat.pow_add]; lia]at c;refine⟨o * (4 * x+1)+2 * x,?_⟩;generalize 2 ^ p=q at c;generalize F5 q x=y at c
 grind
theorem SN(p:Nat):∀ x y,y<2 ^ p->∃ n,n<2 ^ p/\F5 n x % 2 ^ p=y:=by
 induction p with
 | zero=>intro x y h; exact⟨0,by decide,by simp at h; subst h; simp[Nat.mod_one]⟩
 | succ p ih=>
  intro x y hy;obtain⟨n,hn,e⟩:=ih x (y % 2 ^ p) (qP _ (Nat.two_pow_pos p));have hp:(2:Nat) ^ (p+1)=2 * 2 ^ p:=by rw[qS]; lia
  obtain⟨o,j⟩:=SK p (F5 n x);have pos:=Nat.two_pow_pos p;by_cases q:F5 n x % 2 ^ (p+1)=y
  ·exact⟨n,∅,q⟩
  ·refine⟨n+2 ^ p,∅,?_⟩;rw[Ln,j];rw[hp]at q hy ⊢;generalize 2 ^ p=N at *;generalize F5 n x=z at *;have h1:z % (2 * N) % N=z % N:=Nat.mod_mod_of_dvd _ ⟨2,∅⟩;have h2:(z+N * (2 * o+1)) % (2 * N)=(z+N) % (2 * N):=by rw[show z+N * (2 * o+1)=(z+N)+(2 * N) * o by grind,Nat.add_mul_mod_self_left]
   rw[h2];have hz:=qP z (show 2 * N > 0 by lia);have h3:(z+N) % (2 * N)=(z % (2 * N)+N) % (2 * N):=by rw[tU]; simp[tU,pH (show N<2 * N by lia)]
   rw[h3];generalize z % (2 * N)=u at *;rw[← h1]at e;have a1:=Nat.div_add_mod u N;have a2:=Nat.div_add_mod y N;have b1:u / N<2:=Nat.div_lt_of_lt_mul (by rw[zL]; exact hz);have b2:y / N<2:=Nat.div_lt_of_lt_mul (by rw[zL]; exact hy);rw[e]at a1;generalize u / N=uq at a1 b1;generalize y / N=yq at a2 b2;have m1:=qP y pos;rcases(show uq=0\/uq=1 by lia)with c1 | c1 <;> rcases(show yq=0\/yq=1 by lia)with c2 | c2 <;> subst c1 <;> subst c2 <;> simp only[Nat.mul_zero,Nat.mul_one,ox]at a1 a2
   ·exact absurd (a1.symm.trans a2) q
   ·rw[pH ∅]; lia
   ·rw[show u+N=y+2 * N by lia,Nat.add_mod_right,pH ∅]
   ·exact absurd (a1.symm.trans a2) q
end Mx
namespace L2
open Mx
def iR(mask:Nat):Nat->Nat->Nat->Nat×Nat
 | 0,i,p=>(i,p)
 | n+1,i,p=>iR mask n (SetTable.leap mask i p).1 (SetTable.leap mask i p).2
theorem Fo(mask:Nat):∀ (m n i p:Nat),iR mask (m+n) i p=iR mask n (iR mask m i p).1 (iR mask m i p).2
 | 0,n,i,p=>by rw[ox]; rfl
 | m+1,n,i,p=>by rw[zH]; exact Fo mask m n _ _
theorem Ht(mask:Nat):∀ (m i p:Nat),(iR mask m i p).2=p / 32 ^ m
 | 0,i,p=>by simp[iR]
 | m+1,i,p=>by show(iR mask m _ _).2=_;rw[Ht mask m];show p / 32 / 32 ^ m=_;rw[Nat.div_div_eq_div_mul,qS,zL]
theorem Hk(mask:Nat):∀ (n i:Nat),(iR mask n i 0).1 % (mask+1)=F5 n i % (mask+1)
 | 0,i=>rfl
 | n+1,i=>by show(iR mask n ((i * 5+1+0 / 32) % (mask+1)) (0 / 32)).1 % _=F5 n (5 * i+1) % _;rw[show 0 / 32=0 from rfl,Hk mask n,Nat.add_zero,zL i 5];exact F5_mod n (mask+1) (5 * i+1)
where
 F5_mod:∀ (n N x:Nat),F5 n (x % N) % N=F5 n x % N
  | 0,N,x=>by simp[F5]
  | n+1,N,x=>by show F5 n (5 * (x % N)+1) % N=F5 n (5 * x+1) % N;rw[← F5_mod n N (5 * (x % N)+1),← F5_mod n N (5 * x+1)];congr 2;rw[tU,Nat.mul_mod,Nat.mod_mod,← Nat.mul_mod,← tU]
theorem IC(mask:Nat):∀ (n i p:Nat),(iR mask (n+1) i p).1<mask+1
 | 0,i,p=>qP _ (Nat.succ_pos _)
 | n+1,i,p=>IC mask n _ _
theorem E2{mask:Nat}{owner:Array (Option Nat)}:∀ (bp i p:Nat),(∃ t,t<bp/\(owner.getD (iR mask t i p).1 (aa 0)).isNone=ai)->∃ j,v7 mask owner bp i p=aa j/\(owner.getD j (aa 0)).isNone=ai
 | 0,i,p,⟨t,h,_⟩=>absurd h (zu _)
 | bp+1,i,p,⟨t,h,e⟩=>by
  unfold v7;cases q:(bQ (SetTable.runEnd mask i+1-i)).find? (λk=>(owner.getD (i+k) (aa 0)).isNone)with
  | some k=>exact⟨i+k,rfl,by have:=List.find?_some q; exact this⟩
  | none=>
   cases t with
   | zero=>have:=zM.mp q 0 (by rw[nZ]; unfold SetTable.runEnd; split <;> lia);exact absurd (show(owner.getD (i+0) (aa 0)).isNone=ai from e) this
   | succ t=>exact E2 bp _ _ ⟨t,∅,e⟩
theorem Ls{mask q:Nat}{owner:Array (Option Nat)}(hm:mask+1=2 ^ q)(hs:owner.size=mask+1){y:Nat}(hy:y<owner.size)(he:owner[y]?=aa ae)(i p:Nat)(hp:p<2 ^ 64) : ∃ j,v7 mask owner (v8 mask) i p=aa j/\owner[j]?=aa ae:=by
 obtain⟨n,hn,e⟩:=SN q (iR mask 13 i p).1 y (by rw[← hm,← hs]; exact hy);have h0:(iR mask 13 i p).2=0:=by rw[Ht];exact Nat.div_eq_of_lt (fW hp (by decide))
 have bv:(iR mask (13+n) i p).1<mask+1:=by rw[show 13+n=(12+n)+1 by lia]; exact IC mask _ _ _
 have e1:(iR mask (13+n) i p).1=y:=by
  have e2:(iR mask (13+n) i p).1 % (mask+1)=y:=by rw[Fo,h0,Hk,hm]; exact e
  rwa[pH bv]at e2
 obtain⟨j,f1,f2⟩:=E2 (mask:=mask) (owner:=owner) (v8 mask) i p ⟨13+n,by unfold v8; lia,by rw[e1,Ka,he]; rfl⟩;refine⟨j,f1,?_⟩;rw[Ka]at f2;cases hj:owner[j]? with
 | none=>rw[hj]at f2; cases f2
 | some o=>
  rw[hj]at f2;cases o with
  | none=>rfl
  | some v=>cases f2
theorem IG:∀ (l:List (Option Nat)) (j k:Nat),l[j]?=aa ae->((l.set j (aa k)).filterMap id).Perm (k::l.filterMap id)
 | [],j,k,h=>by simp at h
 | x::l,0,k,h=>by simp at h;subst h;simp
 | x::l,j+1,k,h=>by
  have ih:=IG l j k (by simpa using h);cases x with
  | none=>simpa using ih
  | some v=>simp only[List.set_cons_succ,n5,id];exact(ih.cons v).trans (List.Perm.swap ..)
theorem Hu:∀ (l:List (Option Nat)),(∀ y,y<l.length->l[y]?≠aa ae)->(l.filterMap id).length=l.length
 | [],_=>rfl
 | x::l,h=>by
  have ih:=Hu l λy hy e=>h (y+1) (by simp; lia) (by simpa using e);cases x with
  | none=>exact absurd rfl (h 0 (by simp))
  | some v=>simp[ih]
def Laid(mask:Nat)(owner:Array (Option Nat))(k:Nat):Prop:=owner.size=mask+1/\(owner.toList.filterMap id).Perm (bQ k)
theorem Tn{mask q k:Nat}{owner:Array (Option Nat)}(hm:mask+1=2 ^ q)(L:Laid mask owner k)(hk:k<mask+1)(h:Int) : ∃ j,v7 mask owner (v8 mask) (pI h % (mask+1)) (pI h)=aa j/\Laid mask (owner.setIfInBounds j (aa k)) (k+1):=by
 obtain⟨hs,hp⟩:=L;have:∃ y,y<owner.toList.length/\owner.toList[y]?=aa ae:=by
  by_cases z:∃ y,y<owner.toList.length/\owner.toList[y]?=aa ae
  ·exact z
  ·have:=Hu owner.toList λy hy e=>z ⟨y,hy,e⟩;have:=hp.length_eq;simp at this;simp at *;lia
 obtain⟨y,hy,he⟩:=this;have hb:pI h<2 ^ 64:=by unfold pI;have:=zN h (show(0:Int)<2 ^ 64 by decide);have:=v9 h (show(2 ^ 64:Int)≠0 by decide);lia
 obtain⟨j,f1,f2⟩:=Ls hm hs (by simpa using hy) (by simpa using he) (pI h % (mask+1)) _ hb;refine⟨j,f1,by simpa using hs,?_⟩;rw[Array.toList_setIfInBounds,tJ];exact(IG owner.toList j k (by simpa using f2)).trans ((hp.cons k).trans (List.perm_append_singleton ..).symm)
theorem Tf{mask q:Nat}(hm:mask+1=2 ^ q)(Uy:Array Int)(hn:Uy.size<=mask):∃ owner,JO mask Uy=aa owner/\Laid mask owner Uy.size:=by
 unfold JO;have gen:∀ (l:List Int) (owner:Array (Option Nat)) (k:Nat),Laid mask owner k->k+l.length<=mask+1->∃ owner',l.foldl (λau h=>do
   let (owner,k) ← au
   let j ← v7 mask owner (v8 mask) (pI h % (mask+1)) (pI h)
   pure (owner.setIfInBounds j (aa k),k+1)) (aa (owner,k))=aa (owner',k+l.length)/\Laid mask owner' (k+l.length):=by
  intro l
  induction l with
  | nil=>intro owner k L _; exact⟨owner,rfl,L⟩
  | cons h l ih=>intro owner k L hk;simp only[eI]at hk;obtain⟨j,f1,L2⟩:=Tn hm L ∅ h;obtain⟨owner',e,L3⟩:=ih _ _ L2 ∅;refine⟨owner',?_,by rw[eI,show k+(l.length+1)=k+1+l.length by lia]; exact L3⟩;rw[jL];show l.foldl _ ((v7 mask owner (v8 mask) (pI h % (mask+1)) (pI h)).bind λj=>aa (owner.setIfInBounds j (aa k),k+1))=_;rw[f1,eI,show k+(l.length+1)=k+1+l.length by lia];exact e
 obtain⟨owner',e,L⟩:=gen Uy.toList (Array.replicate (mask+1) ae) 0 ⟨by simp,by simp⟩ (by simp; lia);refine⟨owner',?_,by simpa using L⟩;rw[← Array.foldl_toList];have e':=congrArg (Option.map (·.1)) e;exact e'
theorem Sf(n:Nat)(hn:n<2 ^ 60):∃ q,oj n=2 ^ q/\n<oj n/\(oj n<=2 * n\/oj n=8)/\8<=oj n:=by
 have gen:∀ (bp size:Nat),(∃ q,size=2 ^ q)->(size<=2 * n\/size=8)->8<=size->n<size * 2 ^ bp->∃ q,v_ n bp size=2 ^ q/\n<v_ n bp size/\(v_ n bp size<=2 * n\/v_ n bp size=8)/\8<=v_ n bp size:=by
  intro bp
  induction bp with
  | zero=>intro size ⟨q,hq⟩ h1 h8 h2; exact⟨q,hq,by show n<size; simpa using h2,h1,h8⟩
  | succ bp ih=>
   intro size ⟨q,hq⟩ h1 h8 h2;unfold v_;split
   ·refine ih (size * 2) ⟨q+1,by rw[hq,qS]⟩ (.inl ∅) ∅ ?_;rw[qS]at h2;rw[Nat.mul_assoc,zL 2]; exact h2
   ·rename_i h;exact⟨q,hq,∅,h1,h8⟩
 exact gen 64 8 ⟨3,rfl⟩ (.inr rfl) (bo _) (fW hn (by decide))
theorem FS{mask q finger moves:Nat}{led plain:Bool}(hm:mask+1=2 ^ q)(es:Array (Int×am))(hn:es.size<=mask) : ∃ (t:gQ) (order:Array Nat),SetTable.laid mask finger moves led plain (es.map (·.1))=aa (t,order)/\order.toList.Perm (bQ es.size)/\t.fits es.size=ai/\t.led=led/\t.plain=plain/\t.dummies = #[]/\t.mask=mask/\t.place.size=es.size:=by
 obtain⟨owner,e,hs,hp⟩:=Tf hm (es.map (·.1)) (by simpa using hn);simp only[Array.size_map]at hp;have e2:((bQ (mask+1)).filterMap λj=>(owner.getD j ae).map (j,·)).map (·.2)=owner.toList.filterMap id:=by
  rw[List.map_filterMap];have:(λx=>Option.map (λx:Nat×Nat=>x.2) (Option.map (λx_1=>(x,x_1)) (owner.getD x ae)))=λj=>owner.getD j ae:=by
   funext j; cases owner.getD j ae <;> rfl
  rw[this,← hs];have gen:∀ (l:List (Option Nat)),(bQ l.length).filterMap (λj=>l.getD j ae)=l.filterMap id:=by
   intro l
   induction l with
   | nil=>rfl
   | cons x l ih=>
    rw[eI,qO,n5,JE,n5];have e3:((λj=>(x::l).getD j ae) ∘ Nat.succ)=λj=>l.getD j ae:=by funext j; simp
    rw[e3,ih];cases x <;> rfl
  have:=gen owner.toList;rw[iz]at this;rw[← this];congr 1;funext j;simp[Ka,Kb]
 have cb:((bQ (mask+1)).filterMap λj=>(owner.getD j ae).map (j,·)).length=es.size:=by rw[← cD (f:=λx:Nat×Nat=>x.2),e2];have:=hp.length_eq;simpa using this
 refine⟨_,_,by unfold SetTable.laid; rw[e]; rfl,?_,?_,rfl,rfl,rfl,rfl,?_⟩
 ·show(((bQ (mask+1)).filterMap λj=>(owner.getD j ae).map (j,·)).map (·.2)).toArray.toList.Perm _;rw[J9,e2]; exact hp
 ·unfold tP tW;simp only[dH,cD,cb];simp[hn]
 ·show(((bQ (mask+1)).filterMap λj=>(owner.getD j ae).map (j,·)).map (·.1)).toArray.size=_;rw[dH,cD,cb]
theorem Ri{es:Array (Int×am)}{order:Array Nat}(h:order.toList.Perm (bQ es.size)):(order.filterMap (es[·]?)).toList.Perm es.toList:=by
 rw[Array.toList_filterMap];refine(h.filterMap _).trans ?_;have:(bQ es.size).filterMap (λx=>es[x]?)=es.toList:=by
  have gen:∀ l:List (Int×am),(bQ l.length).filterMap (λx=>l[x]?)=l:=by
   intro l
   induction l with
   | nil=>rfl
   | cons x l ih=>
    rw[eI,qO,n5,JE];have e3:((λj=>(x::l)[j]?) ∘ Nat.succ)=λj=>l[j]?:=by funext j; simp
    rw[e3,ih]; rfl
  have:=gen es.toList;rw[iz]at this;simpa using this
 rw[this]
section
variable{P:aX}{w:aN}{A:be}{E:am->aq->Prop}{s:aq}
structure Bl(P:aX)(w:aN)(h:aF)(a:af)(ks:List Str)(es:Array (Int×am))(ep:Nat)(t:gQ)(ss:List Str):Prop where
 at_:h.get? a=aa { cls:=.type "set",dict:=ae,data:=.set es ep t }
 texts:eT (es.toList.map (·.2)) ss
 perm:ss.Perm ks
 el:ElemsOf (dP P w) es.toList
 sz:es.size<4090
 fits:t.fits es.size=ai
 led:t.led=(!dw w)
 plain:t.plain=ao
 dum:t.dummies = #[]
 mask:7<=t.mask
theorem Bl.toS{h:aF}{a:af}{ks:List Str}{es:Array (Int×am)}{ep:Nat}{t:gQ}{ss:List Str}(x:Bl P w h a ks es ep t ss):b7 P w h a ks :=⟨es,ep,t,ss,x.at_,x.texts,x.perm,x.el,x.sz,x.fits,x.led,λ_=>x.plain⟩
theorem b7.len{h:aF}{a:af}{ks:List Str}{es:Array (Int×am)}{ss:List Str}(hS:eT (es.toList.map (·.2)) ss)(hp:ss.Perm ks):ks.length=es.size:=by
 have e1:=hp.length_eq;have e2:ss.length=es.size:=by rw[← hS.strs]; simp
 lia
theorem To{a:af}{ks:List Str}{Q:am->aq->Prop}(S:b7 P w s.heap a ks)(h8:8<=ks.length)(hk:ks.length<4000)(h:∀ h' es ep t ss,Bl P w h' s.heap.objs.size ks es ep t ss->(∀ b o,s.heap.get? b=aa o->h'.get? b=aa o)->Q (.ref s.heap.objs.size) { s with heap:=h' }) : ax (ay P w) A (Builtin.Frozenset.copyOf a) Q E s:=by
 obtain⟨es,ep,t,ss,ho,hS,hp,fY,hsz,hf,ie,df⟩:=id S.ex;have klen:=b7.len (h:=s.heap) (a:=a) hS hp;have cO:a≠s.heap.objs.size:=c_ (bE ho);have zT:t.plain=ao:=df λz=>by rw[z]at h8; simp at h8
 unfold Builtin.Frozenset.copyOf Builtin.Frozenset.baseOf;refine ar (ar (zD S.ty C9 (aD ?_)));rw[if_pos rfl];unfold newSet ou;refine ar (ar (ar (lp (aD ?_))));dsimp only;simp only[newObj];refine ar (CT (aD ?_));refine ar (aD ?_);generalize hT0:(SetTable.fresh 0 0 _:gQ)=t0;have t0m:t0.mask=7:=by rw[← hT0]; rfl
 have t0p:t0.place = #[]:=by rw[← hT0]; rfl
 have t0d:t0.dummies = #[]:=by rw[← hT0]; rfl
 have t0l:t0.led=(!dw w):=by rw[← hT0]; rfl
 have old:∀ b o,s.heap.get? b=aa o->(s.heap.push { cls:=.type "set",data:=.set #[] 0 t0 }).get? b=aa o:=λb o e=>bK _ e;have hr:(s.heap.push { cls:=.type "set",data:=.set #[] 0 t0 }).get? s.heap.objs.size=aa { cls:=.type "set",dict:=ae,data:=.set #[] 0 t0 }:=dG _ rfl;have nv:=old a _ ho;generalize s.heap.push { cls:=.type "set",data:=.set #[] 0 t0 }=h1 at old hr nv;unfold setMerge;refine ar ?_;refine gy (λhc=>absurd (show(s.heap.objs.size == a)=ai from hc) (by simp; exact λz=>cO z.symm)) (λ_=>?_);refine ar (iC (s:={ s with heap:=h1 }) nv rfl hf ?_);dsimp only;refine gy (λhc=>by
  have hc:es.isEmpty=ai:=hc;rw[Array.isEmpty_iff]at hc;have:es.size=0:=by rw[hc]; rfl
  lia) (λ_=>?_)
 obtain⟨q,hq,bv,f9,fu⟩:=Sf (es.size * 2) ∅;have relay:∀ {QQ:Unit->aq->Prop},(∀ h2 (t2:gQ),h2.get? s.heap.objs.size=aa { cls:=.type "set",dict:=ae,data:=.set #[] 1 t2 }->t2.mask=oj (es.size * 2)-1->t2.place = #[]->t2.dummies = #[]->t2.led=(!dw w)->jf s.heap.objs.size h1 h2->QQ () { s with heap:=h2 }) ->
   ax (ay P w) A (setRoomFor s.heap.objs.size es.size) QQ E { s with heap:=h1 }:=λ{QQ} wW=>by
  have hf0:t0.fits (#[]:Array (Int×am)).size=ai:=by unfold tP tW; rw[t0p,t0d,t0m]; rfl
  unfold setRoomFor;refine ar (iC (s:={ s with heap:=h1 }) hr rfl hf0 ?_);have wm:t0.roomFor es.size=aa (es.size * 2):=by unfold SetTable.roomFor tW;rw[t0p,t0d,t0m];rw[if_pos (by simp; lia)];simp
  dsimp only;rw[wm];show ax _ _ (setRelay s.heap.objs.size (es.size * 2)) _ _ _;unfold setRelay;refine ar (iC (s:={ s with heap:=h1 }) hr rfl hf0 ?_);dsimp only;refine gy (λhc=>absurd (show oj (es.size * 2) > bx from hc) (tT.mpr (lN (xZ ∅)))) (λ_=>?_);obtain⟨t2,order,l1,l2,l3,l4,l5,l6,l7,l8⟩:=FS (mask:=oj (es.size * 2)-1) (q:=q) (finger:=t0.finger) (moves:=t0.movedTo (oj (es.size * 2)-1)) (led:=t0.led) (plain:=t0.plain) ∅ #[] (lj _);have l1':t0.relaid ((#[]:Array (Int×am)).map (·.1)) (es.size * 2)=aa (t2,order):=l1;rw[l1'];have ho0:order = #[]:=by have:=l2.length_eq;simp at this;exact this
  subst ho0;refine ar (d_ (Q:=λr s'=>r=((#[]:Array (Int×am)),t2)/\s'={ s with heap:=h1 }) (E:=E) ?_ (λr s' gS=>?_) (λ_ _ x=>x))
  ·exact aD ⟨rfl,rfl⟩
  ·obtain⟨rfl,rfl⟩:=gS;refine tO (s:={ s with heap:=h1 }) hr rfl ?_ (lj _);refine wW _ t2 (b7.put hr) l7 (by have:=l8; simpa using this) l6 (l4.trans t0l) (om ..)
 refine ar (relay λh2 t2 g1 g2 g3 g4 g5 g6=>?_);have qY:t2.fits (#[]:Array (Int×am)).size=ai:=by unfold tP tW; rw[g3,g4]; simp
 refine ar (iC (s:={ s with heap:=h2 }) g1 rfl qY ?_);dsimp only;have DB:15<=t2.mask:=by rw[g2]; lia
 have qV:t2.road t = .slotForSlot/\t2.mask=t.mask/\t.dummies = #[]\/t2.road t = .clean:=by
  unfold SetTable.road tW;rw[g3,g4];by_cases hc:(t2.mask == t.mask && t.dummies.isEmpty)=ai
  ·refine .inl ⟨?_,?_⟩
   ·simp[hc]
   ·rw[iA]at hc;exact⟨by simpa using hc.1,by simpa using hc.2⟩
  ·refine .inr ?_;simp[hc]
 have oldF:∀ {h3:aF},jf s.heap.objs.size h2 h3->∀ b o,s.heap.get? b=aa o->h3.get? b=aa o:=λ{h3} sb b o e=>by have hb:b≠s.heap.objs.size:=c_ (bE e);exact(sb.2 b hb).trans ((g6.2 b hb).trans (old b o e))
 rcases qV with⟨qV,hm1,ml⟩ | qV
 ·rw[qV];dsimp only;refine tO (s:={ s with heap:=h2 }) g1 rfl ?_ (vV (oh hsz (by decide)));refine aD (h _ es 2 _ ss ⟨b7.put g1,hS,hp,fY,hsz,hf,?_,?_,ml,?_⟩ (oldF (om ..)))
  ·show(t2.led && t.led)=_;rw[g5,ie]; cases dw w <;> rfl
  ·show(t2.plain && t.plain)=_;rw[zT,C4]
  ·show 7<=t.mask;rw[← hm1]; lia
 ·rw[qV];dsimp only;obtain⟨t3,order,l1,l2,l3,l4,l5,l6,l7,l8⟩:=FS (mask:=t2.mask) (q:=q) (finger:=t2.finger) (moves:=t2.moves) (led:=t2.led && t.led) (plain:=t2.plain && t.plain) (by rw[g2,← hq]; lia) es (by rw[g2]; lia);rw[l1];have op:=Ri l2;have osz:(order.filterMap (es[·]?)).size=es.size:=by have:=op.length_eq; rw[iz,iz]at this; exact this
  refine ar (d_ (Q:=λr s'=>r=(order.filterMap (es[·]?),t3)/\s'={ s with heap:=h2 }) (E:=E) ?_ (λr s' gS=>?_) (λ_ _ x=>x))
  ·refine gy (λhc=>absurd (show((order.filterMap (es[·]?)).size != es.size)=ai from hc) (by rw[osz]; simp)) (λ_=>aD ⟨rfl,rfl⟩)
  ·obtain⟨rfl,rfl⟩:=gS;refine tO (s:={ s with heap:=h2 }) g1 rfl ?_ (vV (oh (by rw[osz]; exact hsz) (by decide)));obtain⟨aR,u1,u2⟩:=uE (op.map (λe:Int×am=>e.2)) hS;refine aD (h _ _ 2 t3 aR ⟨b7.put g1,u1,u2.trans hp,fY.perm op,by rw[osz]; exact hsz,by rw[osz]; exact l3,?_,?_,l6,?_⟩ (oldF (om ..)))
   ·rw[l4,g5,ie]; cases dw w <;> rfl
   ·rw[l5,zT,C4]
   ·rw[l7]; lia
end
theorem MG:entryFor table "set.__sub__" = aa Builtin.«frozenset.__sub__»:=entryFor_alias (id':="frozenset.__sub__") (by kernel_rfl) rfl (by decide +kernel) (by kernel_rfl)
section
variable{P:aX}{w:aN}{A:be}{E:am->aq->Prop}{s:aq}
theorem Tz{asked walked r:af}{ks ls:List Str}{arr:Array (Int×am)}{id:String}{was:Nat}{Q:PUnit->aq->Prop}(Sk:b7 P w s.heap walked ks) (Sl:b7 P w s.heap asked ls) (R:b7 P w s.heap r []) (h1:walked≠r) (h2:asked≠r) (nk:ks.Nodup) (hk:ks.length<4000) (wk:rq P w ks arr)(hw:∃ es t,s.heap.get? walked=aa { cls:=.type "set",dict:=ae,data:=.set es was t }/\t.fits es.size=ai)(h:∀ h',jf r s.heap h'->b7 P w h' r (ks.filter (·∉ls))->Q ⟨⟩ { s with heap:=h' }) : ax (ay P w) A (forIn arr PUnit.unit λx __s=>do
    holding [x.snd] (do
     let f ← setFind asked x.snd x.fst
     let there ← pure f.isSome
     if(!there)=ai then do
      let _ ← setAddHashed r x.snd x.fst
      pure ()
     else pure ())
    Dm id walked was
    pure (ForInStep.yield PUnit.unit)) Q E s:=by
 obtain⟨ss,e1,e2,e3⟩:=wk.ex;have ns:ss.Nodup:=e3.nodup_iff.mpr nk;have fin:∀ {zs:List Str},zs=ss->(zs.filter (·∉ls)).Perm (ks.filter (·∉ls)):=λ{zs} e=>by subst e; exact e3.filter _
 refine wpAny_forIn_array' _ (λrest _ s'=>∃ h' jl j_,s'={ s with heap:=h' }/\ss=jl++j_/\rest.map (λe=>e.1)=j_.map (dP P w).hash/\eT (rest.map (·.2)) j_/\jf r s.heap h'/\b7 P w h' r (jl.filter (·∉ls))) Q ?_ ?_ arr _ ⟨s.heap,[],ss,rfl,rfl,e1,e2,vT r s.heap,R⟩
 ·rintro⟨hx,x⟩ rest _ s' ⟨h',jl,j_,rfl,oI,f1,f2,jm,R'⟩;cases j_ with
  | nil=>exact absurd f2.length (by simp)
  | cons y j_=>
   rw[eC,eC,wa]at f1;obtain⟨f0,f1⟩:=f1;obtain rfl:hx=(dP P w).hash y:=f0;cases f2 with
   | cons _ tk f2=>
    have Sl':b7 P w h' asked ls:=Sl.at λo e=>(jm.2 asked h2).trans e;have nd:=ns;rw[oI]at nd;have hy:y∉jl:=λhm=>by rw[zF]at nd;exact nd.2.2 y hm y (by simp) rfl
    have cb:(jl.filter (·∉ls)).length<4000:=by have q1:=wb (λz=>decide (z∉ls)) jl;have q2:=e3.length_eq;rw[oI,cZ]at q2;lia
    have stay:∀ ig,jf r h' ig->b7 P w ig r ((jl++[y]).filter (·∉ls))->∀ {QQ:ForInStep PUnit->aq->Prop},(∀ s',(∃ h' jl j_,s'={ s with heap:=h' }/\ss=jl++j_/\rest.map (λe=>e.1)=j_.map (dP P w).hash/\eT (rest.map (·.2)) j_/\jf r s.heap h'/\b7 P w h' r (jl.filter (·∉ls)))->QQ (.yield PUnit.unit) s') ->
      ax (ay P w) A (do
      Dm id walked was
      pure (ForInStep.yield PUnit.unit)) QQ E { s with heap:=ig }:=λig fP R2 QQ wW=>by
     obtain⟨es,t,re,pO⟩:=hw;have jn:ig.get? walked=aa { cls:=.type "set",dict:=ae,data:=.set es was t }:=(fP.2 walked h1).trans ((jm.2 walked h1).trans re);unfold Dm;refine ar (ar (zK (s:={ s with heap:=ig }) jn rfl pO ?_));refine gy (λhc=>absurd hc (by simp)) (λ_=>aD (aD ?_));exact wW _ ⟨ig,jl++[y],j_,rfl,by rw[oI]; simp,f1,f2,jm.trans fP,R2⟩
    refine ar (lS (ar (Lw (s:={ s with heap:=h' }) Sl' λr' hr=>?_)));refine ar (aD ?_);by_cases hm:y∈ls
    ·rw[decide_eq_true hm]at hr;rw[if_neg (by rw[hr]; decide)];refine aD (stay h' (vT r h') ?_ λ_ z=>z);rw[Dn];simpa[hm]using R'
    ·rw[decide_eq_false hm]at hr;rw[if_pos (by rw[hr]; rfl)];refine ar (E4 (s:={ s with heap:=h' }) R' cb λig b fP R2=>aD (stay ig fP ?_ λ_ z=>z));have:jz (jl.filter (·∉ls)) y=(jl++[y]).filter (·∉ls):=by unfold jz;rw[if_neg (λz=>hy (kA.mp z).1),Dn];simp[hm]
     rw[← this]; exact R2
 ·rintro _ s' ⟨h',jl,j_,rfl,oI,f1,f2,jm,R'⟩;cases j_ with
  | cons y j_=>exact absurd f2.length (by simp)
  | nil=>rw[jg]at oI;exact h h' jm (R'.perm (fin oI.symm))
theorem ze{α:Type}(xs:Array α)(i:Nat):(oB xs i).toList=xs.toList.eraseIdx i:=by unfold oB;rw[iE,J1,J1,List.eraseIdx_eq_take_drop_succ];simp[List.extract];exact lT (by simp)
theorem Ia:∀ {vs:List am} {ss:List Str} (i:Nat),eT vs ss->eT (vs.eraseIdx i) (ss.eraseIdx i)
 | _,_,i,.nil=>by simpa using StrsAre.nil
 | _,_,0,.cons y t h=>by simpa using h
 | _,_,i+1,.cons y t h=>by simpa using StrsAre.cons y t (Ia i h)
theorem HZ:∀ {ss:List Str} {i:Nat} {x:Str},ss.Nodup->ss[i]?=aa x->ss.eraseIdx i=ss.filter (·≠x)
 | [],i,x,_,h=>by simp at h
 | y::ss,0,x,nd,h=>by simp at h;subst h;have hn:=(jJ.mp nd).1;rw[List.eraseIdx_cons_zero,List.filter_cons_of_neg (by simp)];exact(oC.mpr λz hz=>by simp; rintro rfl; exact hn hz).symm
 | y::ss,i+1,x,nd,h=>by
  have h':ss[i]?=aa x:=by simpa using h
  have hn:=jJ.mp nd;have hx:x∈ss:=vP h';rw[List.eraseIdx_cons_succ,List.filter_cons_of_pos (by simp; rintro rfl; exact hn.1 hx),HZ hn.2 h']
theorem Ps{r:af}{ks:List Str}{es:Array (Int×am)}{ep:Nat}{t:gQ}{ss:List Str}{x:Str}{tk:Tok}{Q:Bool->aq->Prop}(X:Bl P w s.heap r ks es ep t ss)(nk:ks.Nodup)(h:∀ h' b (es':Array (Int×am)) (t':gQ) ep',jf r s.heap h'->b7 P w h' r (ks.filter (·≠x))->h'.get? r=aa { cls:=.type "set",dict:=ae,data:=.set es' ep' t' }->t'.fits es'.size=ai->t'.dummies.size<=1->7<=t'.mask->Q b { s with heap:=h' }) : ax (ay P w) A (setDiscardHashed r (.str x tk) ((dP P w).hash x)) Q E s:=by
 obtain⟨ho,hS,hp,fY,hsz,hf,ie,df,D4,DB⟩:=X;have ns:ss.Nodup:=hp.nodup_iff.mpr nk;have jk:(dP P w).is x (.str x tk)=ai:=by rw[qD]; simp
 have hb:es.size<scanBound:=oh hsz (by decide);unfold setDiscardHashed;refine ar ?_;unfold setFind setFindIn;refine ar (iC ho rfl hf ?_);dsimp only;rw[byScan_of (knd:=dP P w) (x:=.str x tk) rfl hb fY];simp only[if_true];refine ar (ln (ar (JP jk ho rfl hf fY ?_)));cases hr:List.findIdx? (λe=>(dP P w).is x e.2) es.toList with
 | some i=>
  obtain⟨hi,wG,_⟩:=JQ.mp hr;refine aD ?_;dsimp only;simp only[ox];have hi':i<es.size:=by simpa using hi
  have hsi:ss[i]?=aa x:=by
   have e1:(es.toList.map (·.2))[i]?=aa es.toList[i].2:=by rw[jh,iB hi]; rfl
   have gen:∀ {vs:List am} {zs:List Str} (j:Nat) (v:am),eT vs zs->vs[j]?=aa v->(dP P w).is x v=ai->zs[j]?=aa x:=by
    intro vs zs j v hh
    induction hh generalizing j with
    | nil=>intro e _; simp at e
    | cons y t' _ ih=>
     intro e q;cases j with
     | zero=>simp at e; subst e; rw[qD]at q; have:y=x:=of_decide_eq_true q; subst this; rfl
     | succ j=>simpa using ih j (by simpa using e) q
   exact gen i _ hS e1 wG
  refine ar (iC ho rfl hf ?_);dsimp only;have t9:t.place.size=es.size:=by unfold tP at hf;simp only[iA,beq_iff_eq]at hf;exact hf.1
  have DC:t.fill<=t.mask:=by unfold tP at hf;simp only[iA,decide_eq_true_eq]at hf;exact hf.2
  have hpl2:t.place[i]?=aa t.place[i]:=zE (by rw[t9]; exact hi');have esz:(oB es i).size=es.size-1:=by rw[← iz,ze,Da,if_pos hi,iz]
  have psz:(oB t.place i).size=es.size-1:=by rw[← iz,ze,Da,if_pos (by rw[iz,t9]; exact hi'),iz,t9]
  have wo:t.drop i={ t with place:=oB t.place i,dummies:=JN t.dummies (JU t.dummies t.place[i]) t.place[i] }:=by unfold SetTable.drop;rw[hpl2]
  have dsz:(t.drop i).dummies.size=1:=by rw[wo,D4];unfold JN;simp
  have Kw:(t.drop i).fits (oB es i).size=ai:=by unfold tP tW;rw[dsz,esz];rw[wo];simp only[psz,beq_self_eq_true,C1,decide_eq_true_eq];show es.size-1+1<=t.mask;unfold tW at DC;rw[t9,D4]at DC;simp at DC;lia
  refine ar (tO ho rfl ?_ (vV (oh (show(oB es i).size<4090 by lia) (by decide))));refine ar (wpAny_point (aD ?_));have at2:(s.heap.update r (Obj.putSet (oB es i) (t.drop i))).get? r=aa { cls:=.type "set",dict:=ae,data:=.set (oB es i) (ep+1) (t.drop i) }:=b7.put ho;refine h _ _ (oB es i) (t.drop i) (ep+1) (om ..) ⟨_,_,_,ss.eraseIdx i,at2,?_,?_,?_,∅,Kw,by rw[wo]; exact ie,λ_=>by rw[wo]; exact df⟩ at2 Kw (by rw[dsz]; exact bo _) (by rw[wo]; exact DB)
  ·have em:∀ (l:List (Int×am)) (j:Nat),(l.eraseIdx j).map (·.2)=(l.map (·.2)).eraseIdx j:=by
    intro l
    induction l with
    | nil=>intro j; rfl
    | cons x l ih=>intro j; cases j with | zero=>rfl | succ j=>simp[ih]
   rw[ze,em]; exact Ia i hS
  ·rw[HZ ns hsi]; exact hp.filter _
  ·rw[ze]; exact λe he=>fY e (List.mem_of_mem_eraseIdx he)
 | none=>
  refine aD ?_;dsimp only;have hx:x∉ks:=λhm=>by have ml:=hp.mem_iff.mpr hm;obtain⟨t',q⟩:=(yI hS x).mp ml;obtain⟨e,he,ee⟩:=cM.mp q;have:=JR.mp hr e he;rw[ee,qD]at this;simp at this
  refine aD (h s.heap _ es t ep (vT ..) ?_ ho hf (by rw[D4]; simp) DB);rw[oC.mpr λz hz=>by simp; rintro rfl; exact hx hz];exact⟨es,ep,t,ss,ho,hS,hp,fY,hsz,hf,ie,λ_=>df⟩
theorem Lq{a b:af}{ks:List Str}{x0:Str}{Q:am->aq->Prop}(oE:a≠b)(Sa:b7 P w s.heap a ks)(Sb:b7 P w s.heap b [x0])(nk:ks.Nodup)(hk:ks.length<4000)(h:∀ h',b7 P w h' s.heap.objs.size (ks.filter (·≠x0))->(∀ c o,s.heap.get? c=aa o->h'.get? c=aa o)->Q (.ref s.heap.objs.size) { s with heap:=h' }) : ax (ay P w) A (jI .Sub (.ref a) (.ref b)) Q E s:=by
 refine wpAny_binaryOp_same (T:="set") (id:="set.__sub__") Sa.ty Sb.ty F.fills_set_sub F.slot_set_sub ?_;refine vQ F.slot_set_sub Sa.ty MG ?_ (F.args_set_sub_2 _ _);unfold Builtin.«frozenset.__sub__»;refine ar (ar (aD (aD ?_)));dsimp only;refine ar (ar (xo Sa ?_));refine(xo Sb ?_);refine gy (λhc=>absurd hc (by decide)) (λ_=>?_);refine ar (aD (ar ?_));unfold Builtin.Frozenset.difference;refine ar (xo Sb ?_);simp only[zO,pG,if_false,Bool.false_and,if_true];have lt:∀ {c:af} {zs:List Str},b7 P w s.heap c zs->c≠s.heap.objs.size:=λ{c zs} S=>by obtain⟨_,_,_,_,e,_⟩:=S.ex;exact c_ (bE e)
 have last:∀ h',b7 P w h' s.heap.objs.size (ks.filter (·≠x0))->(∀ c o,s.heap.get? c=aa o->h'.get? c=aa o)->ax (ay P w) A.in1 (pure (Value.ref s.heap.objs.size)) (λa s'=>ax (ay P w) A.in1 (ret a) (λfin s'=>∃ v,fin=Fin.done (Flow.ret v)/\v≠Value.notImplemented/\Q v s') E s') E { s with heap:=h' }:=λh' S k=>
  aD (aD ⟨_,rfl,(by intro z; cases z),h h' S k⟩)
 refine ar (aD ?_);refine ar (xM Sb ?_);refine ar (xM Sa ?_);refine gy (λhc=>?_) (λhc=>?_)
 ·have hk8:8<=ks.length:=by simp at hc; lia
  refine ar (ln ?_);refine ar (To Sa hk8 hk λh1 es ep t ss X old=>?_);refine ar (aD ?_);refine ar (lS ?_);have Sb1:b7 P w h1 b [x0]:=Sb.at λo e=>old _ _ e;have hb:=lt Sb;unfold Builtin.Frozenset.differenceUpdate;refine gy (λhc=>absurd (show(Value.ref b == Value.ref s.heap.objs.size)=ai from hc) (by simp; exact hb)) (λ_=>?_);refine ar (xo (s:={ s with heap:=h1 }) Sb1 ?_);simp only[if_true];refine ar (aD ?_);refine ar (xM (s:={ s with heap:=h1 }) Sb1 ?_);refine ar (xM (s:={ s with heap:=h1 }) X.toS ?_);refine gy (λhc=>absurd (show([x0].length / 8 > ks.length)from hc) (by simp)) (λ_=>?_);obtain⟨eb,epb,tb,sb,hob,hSb,hpb,helb,hszb,hfb,hledb,hplb⟩:=id Sb1.ex;refine ar (zK (s:={ s with heap:=h1 }) hob rfl hfb ?_);refine ar (lS ?_);have lb:eb.size=1:=(b7.len (h:=h1) (a:=b) hSb hpb).symm;have AL:∀ {QQ:Array (Int×am)->aq->Prop},(∀ arr,rq P w [x0] arr->QQ arr { s with heap:=h1 })->ax (ay P w) A.in1 (Dl b [s.heap.objs.size] ae) QQ E { s with heap:=h1 }:=λ{QQ} wW=>by unfold Dl;refine ar (iC (s:={ s with heap:=h1 }) hob rfl hfb ?_);unfold ou;dsimp only;refine ar (ar (lp (aD ?_)));refine gy (λ_=>?_) (λhc=>absurd (show(dw w || (tb.led && tb.plain) || decide (eb.size<=1))=ai by rw[lb]; simp) hc);exact Im (s:={ s with heap:=h1 }) Sb1 (.inr ⟨eb,epb,tb,hob,.inr ∅⟩) wW
  refine ar (AL λarr wk=>?_);obtain⟨aR,e1,e2,e3⟩:=wk.ex;obtain rfl:aR=[x0]:=List.perm_singleton.mp e3;obtain⟨tk,harr⟩:∃ tk,arr.toList=[((dP P w).hash x0,.str x0 tk)]:=by
   cases hl:arr.toList with
   | nil=>rw[hl]at e1; simp at e1
   | cons p r=>
    rw[hl]at e1 e2;obtain⟨hx,v⟩:=p;cases r with
    | cons=>simp at e1
    | nil=>
     simp only[eC,vS,wa,and_true]at e1;cases e2 with
     | cons _ tk h2=>exact⟨tk,by rw[e1]⟩
  rw[← Array.forIn_toList,harr,List.forIn_cons];refine ar (ar (ar (lS (Ps (s:={ s with heap:=h1 }) X nk λh2 bb es' t' ep' fP S2 at2 fit2 dm mk=>?_))));have hob2:h2.get? b=aa { cls:=.type "set",dict:=ae,data:=.set eb epb tb }:=(fP.2 b hb).trans hob;unfold Dm;refine ar (ar (zK (s:={ s with heap:=h2 }) hob2 rfl hfb ?_));refine gy (λhc=>absurd hc (by simp)) (λ_=>aD (aD ?_));dsimp only;rw[List.forIn_nil];refine aD (aD ?_);unfold setTidy;refine ar (iC (s:={ s with heap:=h2 }) at2 rfl fit2 ?_);dsimp only;refine gy (λhc=>absurd (show t'.tooManyDummies=ai from hc) ?_) (λ_=>aD ?_)
  ·unfold SetTable.tooManyDummies;simp only[decide_eq_true_eq];lia
  ·exact last h2 S2 λc o e=>(fP.2 c (c_ (bE e))).trans (old c o e)
 ·have Q1:=Sa;unfold Builtin.Frozenset.baseOf;refine ar (ar (zD Sa.ty C9 (aD ?_)));rw[if_pos rfl];refine ar (M9 λh1 R k1 z1=>?_);have Sa1:b7 P w h1 a ks:=Sa.at λo e=>k1 _ _ e;have Sb1:b7 P w h1 b [x0]:=Sb.at λo e=>k1 _ _ e;refine ar (aD ?_);obtain⟨es,ep,t,ss,ho,hS,iU,fY,hsz,hf,ie,df⟩:=id Sa1.ex;refine ar (zK (s:={ s with heap:=h1 }) ho rfl hf ?_);refine ar (lS ?_);refine ar (MW (s:={ s with heap:=h1 }) Sa1 R (λc hc=>?_) λh2 arr fP R2 wk=>?_)
  ·simp only[ca,kD,or_false]at hc;rcases hc with rfl | rfl
   ·exact⟨_,Sb1⟩
   ·exact⟨_,R⟩
  have Sa2:b7 P w h2 a ks:=Sa1.at λo e=>(fP.2 _ (lt Sa)).trans e;have Sb2:b7 P w h2 b [x0]:=Sb1.at λo e=>(fP.2 _ (lt Sb)).trans e;refine ar (Tz (s:={ s with heap:=h2 }) Sa2 Sb2 R2 (lt Sa) (lt Sb) nk hk wk ⟨es,t,(fP.2 _ (lt Sa)).trans ho,hf⟩ λh3 sb3 R3=>?_);have e:ks.filter (·∉[x0])=ks.filter (·≠x0):=Kc λz _=>by simp
  refine aD (last h3 (e ▸ R3) λc o e=>?_);have hc:c≠s.heap.objs.size:=c_ (bE e);exact(sb3.2 c hc).trans ((fP.2 c hc).trans (k1 c o e))
end
section
variable{X:Cx}
def fi(ls:List Tx)(x:Tx):List Tx:=ls.filter λz=>decide (z≠x)
theorem Pl(ls:List Tx)(x:Tx):(ls.map tS).filter (λz=>decide (z≠tS x))=(fi ls x).map tS:=by unfold fi;rw[wc];congr 1;refine Kc λz _=>?_;simp only[qT];congr 1;exact propext ⟨λh e=>h (by rw[e]),λh e=>h (p7 e)⟩
theorem KQ:cx X (jI .Sub) (λx y H Q=>∃ (p q:af) (ls:List Tx) (m:Tx),x = .ref p/\y = .ref q/\p≠q/\H p=aa (iK X p ls)/\H q=aa (iK X q [m])/\ls.Nodup/\ls.length<4000 /\ ∀ a,H a=ae->Q (.ref a) (upd H a (iK X a (fi ls m)))):=by
 intro ah s σ H x y v u Q I rx ry h;obtain⟨p,q,ls,m,rfl,rfl,hpq,hp,hq,nl,l1,k⟩:=h;cases rx;cases ry;obtain⟨Sp,_,_⟩:=(show ef X.prog X.w H s.heap p (iK X p ls)from I.hok p _ hp)
 obtain⟨Sq,_,_⟩:=(show ef X.prog X.w H s.heap q (iK X q [m])from I.hok q _ hq)
 refine Lq hpq Sp Sq (R9 nl) (by rw[cD]; exact l1) λh' S old=>?_;rw[Pl]at S;refine⟨.ref s.heap.objs.size,_,I.laid (t':=s.toks) (o:=iK X s.heap.objs.size (fi ls m)) old (bo _) ?_,rfl,k _ I.fresh⟩;obtain⟨es,ep,t,ss,e,_⟩:=S.ex;exact⟨S,⟨_,e⟩,λh1 h2 q1 q2=>q1.at q2⟩
end
end L2
namespace Pu
open L2
section
variable{X:Cx}{E:XK}{e e2:aC}{ds ds2:ak->R (List PV)}{p q q2 p4 pos pos' pos2:Pos}
def Bp(ds ds2:ak->R (List PV)):ak->R PO:=λε=>(ds ε).bind λxs ε1=>(aS (sJ xs) ε1).bind λls ε1=>(ds2 ε1).bind λys ε2=>match ys with
 | [.lst [.str t]]=>.ok (.lst (aj (bD (fi ls t)))) ε2
 | _=>.no
theorem OG(hc:X.calm=ai)(ha:DA X E [e] ds)(hb:DA X E [e2] ds2)(hm:X.mg "sorted" = ae)(ml:X.mg "set" = ae)(hg:Gl X "sorted":=by rfl)(hg2:Gl X "set":=by rfl)(h:mL e=ao:=by rfl)(h2:mL e2=ao:=by rfl) : DN X E (.Call (.Name "sorted" p) [.BinOp (.Call (.Name "set" q) [e] [] pos') .Sub (.Call (.Name "set" q2) [e2] [] pos2) p4] [] pos) (Bp ds ds2):=λF S ε σ H Q rl h'=>by
 refine c7 (sW (GL hc) hg hm ye (kX (D9 KQ (vg (AO hc) hg2 ml AX iw (by decide) (by decide) (kg h) rfl) (vg (AO hc) hg2 ml AX iw (by decide) (by decide) (kg h2) rfl)) nH (kg rfl)) (by decide) (by decide) (kg rfl) rfl) ?_;refine ha F S ε σ H _ rl ((Ok.bind h').imp λxs ε1 F1 S1 H1 r1 g1 q1 vs jT=>?_);cases e1:sJ xs with
 | none=>rw[e1]at q1; exact q1.elim
 | some ls=>
  rw[e1]at q1;obtain⟨p,zs,rfl,hp,hz,rfl,hx⟩:=Fp jT e1;refine⟨p,zs,rfl,hp,hz,λa fa=>?_⟩;have al1:Al F1 F1 H1 (upd H1 a (iK X a (cf zs))):=Al.new0 fa;have q2:Ok X.K E σ F1 S1 H1 ((ds2 ε1).bind λys ε2=>match ys with
   | [.lst [.str t]]=>R.ok (PO.lst (aj (bD (fi (cf zs) t)))) ε2
   | _=>.no) _:=q1
  have q3:=Ok.from q2 (al1.grow (O:=U S1));refine hb F1 S1 ε1 σ _ _ (r1.al al1) ((Ok.bind q3).imp λys ε2 F2 S2 H2 r2 g2 q4 vs2 rvs2=>?_);have hys:∃ t,ys=[.lst [.str t]]:=by
   revert q4;split
   ·exact λ_=>⟨_,rfl⟩
   ·exact λz=>z.elim
  obtain⟨t,rfl⟩:=hys;have q5:Ok X.K E σ F2 S2 H2 (R.ok (PO.lst (aj (bD (fi (cf zs) t)))) ε2) _:=q4;have elt:sJ [.lst [.str t]]=aa [t]:=by rfl
  obtain⟨p2,zs2,rfl,fH,hz2,hu2,pN⟩:=Fp rvs2 elt;have na:¬ U S1 a:=λ⟨i,z⟩=>by
   obtain⟨_,_,o,w,_⟩:=r1.foot i a z;rw[fa]at w; cases w
  have ha2:H2 a=aa (iK X a (cf zs)):=g2.keep a _ cF na;refine⟨p2,zs2,rfl,fH,hz2,λb fb=>?_⟩;have oE:a≠b:=by rintro rfl; rw[ha2]at fb; cases fb
  refine⟨a,b,cf zs,t,rfl,rfl,oE,by rw[cu oE]; exact ha2,by rw[cF,← hu2],QJ _,hz,λc fc=>?_⟩;have cb:(fi (cf zs) t).length<4000:=qN (wb _ _) hz;refine⟨c,_,rfl,cF,cb,λl fl=>?_⟩;have al2:Al F2 F2 H2 (upd (upd (upd H2 b (iK X b (cf zs2))) c (iK X c (fi (cf zs) t))) l (.lst (d8 (bD (fi (cf zs) t))))):=((Al.new0 fb).trans (Al.new0 fc)).trans (Al.new0 fl);have ue:H2 l=ae:=by
   have h1:l≠c:=by rintro rfl; rw[cF]at fl; cases fl
   rw[cu h1]at fl;have h2:l≠b:=by rintro rfl; rw[cF]at fl; cases fl
   rwa[cu h2]at fl
  refine q5 F2 S2 _ (r2.al al2) al2.grow l (λc=>c=l) ⟨⟨_,cF,UM.mpr ⟨rfl,λx wE=>hx x ((mI _ _).mp (kA.mp ((js _).mem_iff.mp wE)).1)⟩⟩,λc=>Iff.rfl⟩ λd z=>?_;subst z;refine⟨oS (g1.trans (al1.grow.trans g2)) ue,λz=>?_,λ⟨i,z⟩=>?_,_,cF,trivial⟩
  ·obtain⟨o,w⟩:=r2.ex _ z; rw[ue]at w; cases w
  ·obtain⟨_,_,o,w,_⟩:=r2.foot i _ z; rw[ue]at w; cases w
end
def u9:List PV->Option PV
 | [.int i,.int j]=>aa (.int (if j > i then j else i))
 | _=>ae
theorem M0{K:az}:PL K (λxs H Q=>∃ i j,xs=[.int i,.int j]/\Q (.int (if j > i then j else i)) H) u9:=λF H xs vs Q pv rs e q=>by
 unfold u9 at e;split at e
 ·cases e;obtain⟨v,r',rfl,h2,h3⟩:=rs;obtain⟨u,rfl,h4⟩:=iN h3;exact⟨_,_,by rw[show v=V.int _ from h2,show u=V.int _ from h4],q _ F H (Al.refl ..) rfl⟩
 ·cases e
end Pu
namespace L2
theorem KV.at{kvs:List (aJ×V)}{vs:List (aJ×am)}(h:KV kvs vs){i:Nat}{p:aJ×V}(e:kvs[i]?=aa p):∃ q,vs[i]?=aa q/\p.1=q.1/\RelV p.2 q.2:=by
 unfold KV at h
 induction h generalizing i with
 | nil=>simp at e
 | cons r _ ih=>
  cases i with
  | zero=>simp at e; subst e; exact⟨_,rfl,r⟩
  | succ i=>exact ih (by simpa using e)
theorem KV.len{kvs:List (aJ×V)}{vs:List (aJ×am)}(h:KV kvs vs):kvs.length=vs.length:=by
 unfold KV at h
 induction h with
 | nil=>rfl
 | cons _ _ ih=>simp[ih]
end L2
namespace Pu
open L2
section
variable{X:Cx}{E:XK}{pin:List Nat}{e b c:aC}{de db dc:ak->R PV}{pos:Pos}
def oU(i:Nat)(n:Int):ak->R PO:=λε=>match ε[i]? with
 | some (.val (.str x))=>.ok (.dK [(.inr (tS x),.int n)]) ε
 | _=>.no
theorem Eu(i:Nat){y:Str}{yp q:Pos}{n:Int}{j:Nat}(hN:X.N[i]?=aa y:=by rfl)(gD:ga X.env.scope y:=by first | exact Or.inl rfl | exact Or.inr (Or.inl rfl) | exact Or.inr (Or.inr rfl))(hd:(y == ("__debug__" : Str))=ao:=by decide) (bR:(y == ("__classdict__" : Str))=ao:=by decide):DN X E (.Dict [aa (.Name y yp)] [.Constant (.int n) j q] pos) (oU i n):=λF S ε σ H Q rl h=>by
 unfold oU at h;split at h
 ·rename_i x ex;obtain⟨v,e1,e2⟩:=rl.val i _ ex;obtain⟨e2,hl⟩:=(show v=tV x/\_ from e2)
  subst e2;refine c7 (LW (Pe (ip hN gD hd bR) IP SF) rfl rfl (by simp) (by simp)) λp hp=>?_;refine⟨tV x,e1,cF,[(.inr (tS x),.int n)],rfl,by simp,?_⟩;rw[show s_ [] [((Sum.inr (tS x):aJ),V.int n)]=[((Sum.inr (tS x):aJ),V.int n)] from rfl,MM];have al:Al F F H (upd H p (.dK [(.inr (tS x),.int n)])):=Al.new0 hp;refine h F S _ (rl.al al) al.grow p (λb=>b=p) ⟨⟨_,cF,.cons ⟨rfl,rfl⟩ .nil⟩,λb=>Iff.rfl⟩ λb z=>?_;subst z;refine⟨hp,λz=>?_,λ⟨j,z⟩=>?_,_,cF,trivial⟩
  ·obtain⟨o,q⟩:=rl.ex b z; rw[hp]at q; cases q
  ·obtain⟨_,_,o,q,_⟩:=rl.foot j b z; rw[hp]at q; cases q
 ·exact h.elim
def fJ(neg:Bool)(i:Nat)(db:ak->R PV):ak->R PV:=λε=>(db ε).bind λk ε1=>(aS (eB ε1 i) ε1).bind λkvs ε1=>aS ((kq k).map λk=>.bl (neg ^^ (kQ kvs k).isSome)) ε1
theorem z5{i:Nat}(neg:Bool){F:af->Prop}{S:Nat->af->Prop}{ε:ak}{σ:St}{H:Hp}{Q:VK}(hb:DE X E b db)(rl:a_ X.K F S ε σ H)(h:Ok X.K E σ F S H (fJ neg i db ε) (λpv _ F' _ H'=>∀ v,bi X.K H' F' pv v->Q v H')) : i5 X b σ H λy H1=>∃ x,σ[i]?=aa (aa x)/\∃ a o,x = .ref a/\kR H1 a y o/\Q (.bl (neg ^^ o.isSome)) H1:=by
 unfold fJ at h;refine hb F S ε σ H _ rl ((Ok.bind h).imp λk ε1 F1 S1 H1 r1 g1 q u ru=>?_);cases e1:eB ε1 i with
 | none=>rw[e1]at q; exact q.elim
 | some kvs=>
  rw[e1]at q;simp only[dO,R.bind_ok]at q;obtain⟨a,ws,ea,ha,hk,_⟩:=r1.dkAt (mQ e1);cases e2:kq k with
  | none=>rw[e2]at q; exact q.elim
  | some ky=>
   rw[e2,lV]at q;rw[yU ru e2];refine⟨.ref a,ea,a,iP ws ky,rfl,kR.k ha,?_⟩;rcases hk.val ky with⟨x,v,h1,h2,h3⟩ | ⟨h1,h2⟩
   ·rw[h1]at q;rw[h2];exact q F1 S1 H1 r1 (bY.refl ..) _ rfl
   ·rw[h1]at q;rw[h2];exact q F1 S1 H1 r1 (bY.refl ..) _ rfl
theorem TD(i:Nat){y:Str}{yp:Pos}(hu:X.A.units+64<cLine)(hb:DE X E b db)(hN:X.N[i]?=aa y:=by rfl)(gD:ga X.env.scope y:=by first | exact Or.inl rfl | exact Or.inr (Or.inl rfl) | exact Or.inr (Or.inr rfl))(hd:(y == ("__debug__" : Str))=ao:=by decide) (bR:(y == ("__classdict__" : Str))=ao:=by decide) (hm:mU .In (.Name y yp)=ao:=by rfl):DE X E (.Compare b [.In] [.Name y yp] pos) (fJ ao i db):=λF S ε σ H Q rl h=>by refine c7 (MO (GQ ∅ cA (ip hN gD hd bR)) hm) ?_;have:=z5 ao hb rl h;simp only[lr]at this;exact this
theorem O4(i:Nat){y:Str}{yp:Pos}(hu:X.A.units+64<cLine)(hb:DE X E b db)(hN:X.N[i]?=aa y:=by rfl)(gD:ga X.env.scope y:=by first | exact Or.inl rfl | exact Or.inr (Or.inl rfl) | exact Or.inr (Or.inr rfl))(hd:(y == ("__debug__" : Str))=ao:=by decide) (bR:(y == ("__classdict__" : Str))=ao:=by decide) (hm:mU .In (.Name y yp)=ao:=by rfl):DT X E (.Compare b [.In] [.Name y yp] pos) (dB (fJ ao i db)):=λF S ε σ H Q rl h=>by refine sV (Il (GQ ∅ cA (ip hN gD hd bR)) hm) ?_;have:=z5 (Q:=λv H'=>∃ k,v = .bl k/\Q k H') ao hb rl (rH h);simp only[lr]at this;exact this
theorem GU(i:Nat){y:Str}{yp:Pos}(hu:X.A.units+64<cLine)(hb:DE X E b db)(hN:X.N[i]?=aa y:=by rfl)(gD:ga X.env.scope y:=by first | exact Or.inl rfl | exact Or.inr (Or.inl rfl) | exact Or.inr (Or.inr rfl))(hd:(y == ("__debug__" : Str))=ao:=by decide) (bR:(y == ("__classdict__" : Str))=ao:=by decide) (hm:mU .NotIn (.Name y yp)=ao:=by rfl):DT X E (.Compare b [.NotIn] [.Name y yp] pos) (dB (fJ ai i db)):=λF S ε σ H Q rl h=>by refine sV (Il (QP ∅ cA (ip hN gD hd bR)) hm) ?_;have:=z5 (Q:=λv H'=>∃ k,v = .bl k/\Q k H') ai hb rl (rH h);simp only[tX]at this;exact this
theorem fV.vals{K:az}{H:Hp}{F:af->Prop}{kvs:List (aJ×PV)}{ws:List (aJ×V)}(h:fV K H F kvs ws):bq K H F (kvs.map (·.2)) (ws.map (·.2)):=by
 unfold fV at h
 induction h with
 | nil=>rfl
 | cons r _ ih=>exact⟨_,_,rfl,r.2,ih⟩
def rR:List (aJ×PV)->Option (List (Tx×Int))
 | []=>aa []
 | (.inr x,.int n)::r=>(rR r).map λm=>(x.cps.toList,n)::m
 | _::_=>ae
theorem Ba(x:Str):tS x.cps.toList=x:=by simp[tS]
theorem IK{K:az}{H:Hp}{F:af->Prop}:∀ {kvs:List (aJ×PV)} {ws:List (aJ×V)} {m:List (Tx×Int)},fV K H F kvs ws->rR kvs=aa m->ws=m.map λp=>(Sum.inr (tS p.1),V.int p.2)
 | [],_,m,h,e=>by
  unfold fV at h;cases h;cases e;rfl
 | (.inr x,.int n)::r,_,m,h,e=>by
  unfold fV at h;cases h with
  | cons h1 h2=>obtain⟨m',e1,rfl⟩:=tF.mp e;rename_i q qs;obtain⟨q1,q2⟩:=q;have a1:Sum.inr x=q1:=h1.1;have a2:q2=V.int n:=h1.2;rw[IK (kvs:=r) h2 e1,← a1,a2,eC];simp only[Ba]
 | (.inl _,_)::r,_,m,h,e=>by cases e
 | (.inr _,.non)::r,_,m,h,e=>by cases e
 | (.inr _,.bl _)::r,_,m,h,e=>by cases e
 | (.inr _,.str _)::r,_,m,h,e=>by cases e
 | (.inr _,.tup _)::r,_,m,h,e=>by cases e
 | (.inr _,.lst _)::r,_,m,h,e=>by cases e
 | (.inr _,.raw _)::r,_,m,h,e=>by cases e
 | (.inr _,.exc _)::r,_,m,h,e=>by cases e
end
end Pu
namespace L2
section
variable{X:Cx}
theorem SQ(bs:List Bool):(bQ bs.length).any (λi=>bs.getD i ao)=bs.any id:=by
 induction bs with
 | nil=>rfl
 | cons b bs ih=>rw[eI,qO,og,De,og,← ih];rfl
theorem K7(hc:X.calm=ai):im X (.builtin "any") (λxs H Q=>∃ (p:af) (bs:List Bool),xs=[.ref p]/\cg X.K H p (bs.map V.bl)/\Q (.bl (bs.any id)) H):=by
 intro ah s σ H xs us Q I r h;obtain⟨p,bs,rfl,hq,q⟩:=h;obtain⟨u,rfl,ru⟩:=vals1 r;cases ru;obtain⟨its,rv,pl,hz⟩:=I.list hq;have hl:=rv.length;rw[cD]at hl;refine call_any_walk (CZ pl.isList ?_);have cO:p≠s.heap.objs.size:=by obtain⟨o,ho,_⟩:=pl.isList;exact c_ (bE ho)
 refine⟨s.heap.objs.size,_,_,_,_,_,λi=>bs.getD i ao,rfl,Walks.list (w_ (I.ok.hd hc)) s.heap.objs.size p cO its.toArray,⟨⟨_,dG _ rfl,rfl,rfl⟩,?_⟩,λi v s' Q' E' hv hQ=>?_,λh' tk k=>?_⟩
 ·obtain⟨o,ho,hc,hd⟩:=pl.isList;exact⟨o,bK _ ho,hc,hd⟩
 ·rw[Jj rv hv];exact n9 hQ
 ·have e:(bQ its.toArray.size).any (λi=>bs.getD i ao)=bs.any id:=by
   rw[dH,← hl];exact SQ bs
  rw[e];have I1:Inv X ah σ H { s with heap:=s.heap.push { cls:=.type "list_iterator",data:=.fields #[.ref p,.int 0 0] },toks:=s.toks }:=I.kept (t':=s.toks) λb o e=>bK _ e;exact⟨.bl _,H,Inv.turned (t':=tk) I1 (it:=s.heap.objs.size) (λb o hb e=>k b o (by simpa using hb) e) I.fresh (mW I.lt) (.inr I.sz) (λx c e z=>by obtain⟨v,qq⟩:=I.cell x c e;exact absurd qq.lt (by rw[z]; exact fG _)) (λpp hp z=>absurd (bE (I.pin pp hp).1) (by rw[z]; exact fG _)),rfl,q⟩
end
end L2
namespace Pu
open L2
def vj:List PV->Option PV
 | [.lst xs]=>(kM xs).map λbs=>.bl (bs.any id)
 | _=>ae
theorem Qr{K:az}:PL K (λxs H Q=>∃ (p:af) (bs:List Bool),xs=[.ref p]/\cg K H p (bs.map V.bl)/\Q (.bl (bs.any id)) H) vj:=λF H xs vs Q pv rs e q=>by
 unfold vj at e;split at e
 ·rename_i ys;cases q1:kM ys with
  | none=>rw[q1]at e; cases e
  | some bs=>
   rw[q1]at e;cases e;obtain⟨v,rfl,a,us,rfl,ha,_,ra⟩:=iN rs;rw[A7 ra q1]at ha;exact⟨a,bs,rfl,.inl ha,q _ F H (Al.refl ..) rfl⟩
 ·cases e
def dD(m:List (Tx×Int))(x:Tx):Option Int:=(m.find? λp=>decide (p.1=x)).map (·.2)
def rG(m:List (Tx×Int)):List Tx->Option Tx
 | []=>ae
 | x::r=>r.foldl (λb y=>b.bind λb=>(dD m b).bind λkb=>(dD m y).map λky=>if ky<kb then y else b) ((dD m x).map λ_=>x)
def pT(i j:Nat):ak->R PV:=λε=>match ε[i]? with
 | some (.val (.lst xs))=>(aS (gW xs) ε).bind λls ε=>(aS (eB ε j) ε).bind λkvs ε=>(aS (rR kvs) ε).bind λm ε=>(aS (rG m ls) ε).bind λx ε=>.ok (.str x) ε
 | _=>.no
end Pu
namespace L2
theorem Nx{pos:Pos}{a b:Int}{c cv:am}(l:List am)(h:TriplesOk l)(e:vJ pos (l++[eZ a,eZ b,c])=aa cv):vJ pos l=aa cv\/cv=c:=by
 fun_induction TriplesOk l with
 | case1=>simp[vJ,eZ]at e;exact .inr e.2.symm
 | case2 a' t b' u x rest ih=>
  simp only[Dj,vJ]at e ⊢;split at e
  ·rename_i hc; rw[if_pos hc]; exact .inl e
  ·rename_i hc; rw[if_neg hc]; exact ih h e
 | case3 l h1 h2=>exact h.elim
section
variable{X:Cx}{ah:List (af×Obj)}{σ:St}{H:Hp}{s:aq}
structure LamAt(X:Cx)(x:Str)(c P:af):Prop where
 mem:x∈vq
 tab:lM X.K x=aa (c,P)
 hd:zv X.K c P=ai
 code:X.env.code = .ref c
theorem SC(I:Inv X ah σ H s){x:Str}{c P:af}(L:LamAt X x c P){params:tt}{body:aC}{scope:eG}{pos:Pos}{clos:List (Str×af)}(hq:X.env.qual++"<lambda>" = x++".<locals>.<lambda>") (jR:zw scope X.env=pure clos) (wu:defaultsOf params X.env=([],[])) {Q:am->aq->Prop}(h:∀ f c' ctv H' s',Inv X ah σ H' s'->(∀ b o,H b=aa o->H' b=aa o)->s'.heap.get? f=aa (Do "<lambda>" (X.env.qual++"<lambda>") params body scope clos ((X.mg "__name__").getD .none) c' ctv)->f≠X.env.locals -> s'.heap.CodeRec (.ref c') (X.env.qual++"<lambda>")->c'≠X.env.locals->Q (.ref f) s') : ax (ay X.prog X.w) X.A (bz (.Lambda params body scope pos) X.env) Q X.xe s:=by
 have tb:=I.tab x L.mem c P L.tab;obtain⟨ps,hP,tri,g⟩:=I.hok P _ tb;have hgl:s.heap.Ns cG X.mg:=I.mod.glob.keeps I.bk;have hgP:cG≠P:=λz=>by
  obtain⟨o,es,ep,e,hd,_⟩:=hgl;rw[z,hP]at e; cases e; cases hd
 have hbl:s.heap.BuiltinsAt X.mg P:=by
  obtain⟨bm,ob,b1,b2,b3,b4,b5,b6⟩:=I.mod.bm;refine⟨bm,ob,b1,b2,λz=>?_,λz=>?_,I.bk _ _ b3,b4,b5,b6⟩
  ·obtain⟨o,es,ep,e,hd,_⟩:=I.mod.glob;rw[← z,b3]at e; cases e; rw[b6]at hd; cases hd
  ·have e:=I.bk _ _ b3;rw[z,hP]at e; cases e; simp at b4
 have hC:=PySem.W.codeHd_of_K I.kIn L.hd;have Lne:X.env.locals≠P:=λz=>by have:=I.free; rw[z,tb]at this; cases this
 refine PySem.W.kla_eval wu ?_;cases hf:vJ pos ps.toList with
 | some cv=>
  obtain⟨c1,rfl,nh,zY⟩:=g pos _ hf;refine PySem.W.kla_makeFunctionHit (mg:=X.mg) jR I.ok.glob hgl L.code hC hP tri hf hbl λctv h' tk hk hsz=>?_;have eF:∀ b o,s.heap.get? b=aa o->(h'.push (Do "<lambda>" (X.env.qual++"<lambda>") params body scope clos ((X.mg "__name__").getD .none) c1 ctv)).get? b=aa o:=λb o e=>bK _ (hk b o e);refine h _ c1 ctv H _ (I.un (Un.kept eF) (I.hok.kept eF)) (λ_ _ e=>e) (dG _ rfl) (mW (fW I.lt hsz)) ?_ λz=>?_
  ·have hrec':s.heap.CodeRec (.ref c1) (X.env.qual++"<lambda>"):=by rw[hq]; exact zY
   exact hrec'.keeps eF
  ·have:=I.free; rw[← z,nh]at this; cases this
 | none=>
  refine PySem.W.kla_makeFunction (mg:=X.mg) jR I.ok.glob hgl L.code hC hP tri hf hgP hbl λc1 ctv h' tk hx fu bv zY htb=>?_;generalize ho:Do "<lambda>" (X.env.qual++"<lambda>") params body scope clos ((X.mg "__name__").getD .none) c1 ctv=fo;have eF:∀ b o,b≠P->s.heap.get? b=aa o->(h'.push fo).get? b=aa o:=λb o n e=>bK _ (hx b o n e);have fr:H c1=ae:=I.hok.fresh fu;have rec2:(h'.push fo).CodeRec (.ref c1) (X.env.qual++"<lambda>"):=zY.keeps λb o e=>bK _ e;have nP:∀ b,H b=ae->b≠P:=λb n z=>by rw[z,tb]at n; cases n
  have nc:∀ b o,s.heap.get? b=aa o->b≠c1:=λb o e=>c_ (fW (bE e) fu);have up:∀ b o,H b=aa o->(upd H c1 (.own P)) b=aa o:=λb o e=>by rw[cu (nB e fr)]; exact e
  have I':Inv X ah σ (upd H c1 (.own P)) { s with heap:=h'.push fo,gens:=s.gens,drawn:=s.drawn,toks:=tk }:=by
   refine I.step (ch:=[]) (λ_ z=>nomatch z) (λb o _ _ _ e n=>eF b o (nP b n) e) (λb o _ _ _ e n=>⟨o.slots,eF b o (nP b n) e⟩) (λb o _ e n=>by rw[cu (nc b o e)]; exact n)
    (λb o _ e=>?_) (λb xs e=>up b _ e) (λb o u e=>up b _ e) (λb q e=>up b _ e) (λm hm=>?_) (λa u e=>?_) I.bare
   ·by_cases hb:b=P
    ·subst hb; exact⟨_,bK _ htb⟩
    ·exact⟨o,eF b o hb e⟩
   ·exact(hm.extBut hx Lne).push _
   ·by_cases ha:a=c1
    ·subst ha;rw[cF]at e;cases e;obtain⟨_,o,_,_,z,e2,_⟩:=rec2;cases z;exact⟨o,e2⟩
    ·rw[cu ha]at e;by_cases hb:a=P
     ·subst hb;rw[tb]at e;cases e;refine⟨_,bK _ htb,by rw[iE]; exact TriplesOk_snoc _ _ _ _ tri,λpos' cv hc=>?_⟩;rw[iE]at hc;rcases Nx _ tri hc with z | rfl
      ·obtain⟨c2,rfl,h1,h2⟩:=g pos' cv z;refine⟨c2,rfl,up c2 _ h1,?_⟩;obtain⟨c3,o,vs,t,z,e2,r⟩:=h2;cases z;exact⟨c2,o,vs,t,rfl,eF c2 o (λz=>by rw[z,tb]at h1; cases h1) e2,r⟩
      ·exact⟨c1,rfl,cF,hq ▸ rec2⟩
     ·refine(I.hok a u e).stay (λb v hc r=>eF b v ?_ r) (λb r=>up b _ r) λb xs r=>up b _ r;rcases hc with rfl | hc
      ·exact hb
      ·rintro rfl; rw[tb]at hc; cases hc
  exact h _ c1 ctv _ _ I' up (by rw[← ho]; exact dG _ rfl) (mW (fW I.lt (cL fu (lN bv)))) rec2 (mW (fW I.lt fu))
end
open Att
section
variable{prog:aX}{w:aN}{A:be}{E:am->aq->Prop}{s:aq}
structure Ae(x y:Str)(params:tt)(scope:eG):Prop where
 bind:∀ (name qual:Str) (body:aC) (cl:List (Str×af)) (pm aQ ct v:am),gM (PySem.W.kla_fn name qual params body scope cl pm aQ ct) ⟨[v],[]⟩=pure [(x,v)]
 lx:scope.names.lookup x=aa .local
 ly:scope.names.lookup y=aa .free
 nc:∀ z∈scope.names,z.2≠.cell
 co:scope.isCoroutine=ao
 gen:scope.isGenerator=ao
 kind:scope.kind = .function
 dx:(x == ("__debug__" : Str))=ao
 dy:(y == ("__debug__" : Str))=ao
 cy:(y == ("__classdict__" : Str))=ao
theorem S6{f c' d cell:af}{x y qual:Str}{params:tt}{scope:eG}{p1 p2 p3:Pos}{clos:List (Str×af)}{pm ctv v r:am}{vs:List (aJ×am)}{k:aJ}{Q:am->aq->Prop}(L:Ae x y params scope)(wm:A.depth<vN) (ho:s.heap.get? f=aa (Do "<lambda>" qual params (.Subscript (.Name y p1) (.Name x p2) p3) scope clos pm c' ctv)) (bR:s.heap.CodeRec (.ref c') qual) (lim:s.heap.NoLimit)(jR:clos.lookup y=aa cell) (lZ:s.heap.IsCell cell (aa (.ref d))) (hD:s.heap.DictOf (gI prog w) d vs) (hk:RelV (kV k) v) (hw:pE vs k=aa r)(h:∀ h' tk,(∀ b o,s.heap.get? b=aa o->h'.get? b=aa o)->Q r { s with heap:=h',toks:=tk }):ax (ay prog w) A (call (.ref f) [v]) Q E s:=by
 refine wpAny_call (PySem.W.kla_callFunE wm ho rfl L.co L.gen rfl bR ?_);rw[L.bind];refine aD (wpAny_newFunctionEnv L.nc (λz hz=>by rw[hZ.mp hz]; exact L.lx) (λh₁ kH jm=>?_) L.kind);have keep:∀ b o,s.heap.get? b=aa o->h₁.get? b=aa o:=λb o e=>(jm.2 b (c_ (bE e))).trans (bK _ e);refine⟨lim.keeps keep,PySem.W.kla_codeExpr ?_⟩;obtain⟨oc,hoc,hdc⟩:=lZ;have hD':h₁.DictOf (gI prog w) d vs:=by obtain⟨ob,es,ep,e,r⟩:=hD;exact⟨ob,es,ep,keep _ _ e,r⟩
 refine IN PySem.F.slot_dict_getitem.lookup (λ_ _=>rfl) ?_;refine zm (wpAny_loadName_free L.kind L.ly jR ⟨oc,keep _ _ hoc,hdc⟩ ?_ L.cy) L.dy;refine zm (wpAny_loadName_local L.kind L.lx kH (v:=v) (by simp) ?_) L.dx;exact⟨hD'.typeIs,wpAny_getItem_of (ph hk) hD'.mapOf hw (h _ _ keep)⟩
end
theorem BX:∀ {xs:List V} {vs:List am} {i:Nat} {v:am},bJ xs vs->vs[i]?=aa v->∃ x,xs[i]?=aa x/\RelV x v
 | _,_,_,_,.nil,e=>by simp at e
 | _,_,0,_,.cons h _,e=>by simp at e; subst e; exact⟨_,rfl,h⟩
 | _,_,i+1,_,.cons _ t,e=>by obtain⟨x,a,b⟩:=BX (i:=i) t (by simpa using e);exact⟨x,by simpa using a,b⟩
def Bc(h:aF)(L:af):List (af×Obj):=BK h L L
theorem U_{h:aF}{L a:af}{o:Obj}:(a,o)∈Bc h L↔a≠L/\h.get? a=aa o:=by unfold Bc;rw[O0];exact⟨λz=>⟨z.1,z.2.2⟩,λz=>⟨z.1,z.1,z.2⟩⟩
section
variable{X:Cx}{ah:List (af×Obj)}{σ:St}{H:Hp}{s:aq}
theorem Inv.mapKept{h':aF}{tk:Nat}{m:Str->Option am}(I:Inv X ah σ H s)(hm:s.heap.Ns X.env.locals m)(hm':h'.Ns X.env.locals m)(k:∀ b o,b≠X.env.locals->s.heap.get? b=aa o->h'.get? b=aa o):Inv X ah σ H { s with heap:=h',toks:=tk }:=by
 refine I.step (g':=s.gens) (d':=s.drawn) (ch:=[]) (λ_ z=>nomatch z) (λb o hL _ _ e _=>k b o hL e) (λb o hL _ _ e _=>⟨o.slots,k b o hL e⟩) (λ_ _ _ _ n=>n) (λb o _ e=>?_) (λ_ _ e=>e) (λ_ _ _ e=>e) (λ_ _ e=>e) (λm2 h2=>?_) (λa u e=>?_) I.bare
 ·by_cases hb:b=X.env.locals
  ·subst hb;obtain⟨o',_,_,e',_⟩:=hm';exact⟨o',e'⟩
  ·exact⟨o,k b o hb e⟩
 ·have:m2=m:=h2.eq_nsMap.trans hm.eq_nsMap.symm;rw[this]; exact hm'
 ·refine(I.hok a u e).stay (λb v hc r=>k b v ?_ r) (λ_ r=>r) λ_ _ r=>r;rintro rfl;have:=I.free;rcases hc with rfl | hc
  ·rw[e]at this; cases this
  ·rw[hc]at this; cases this
def PZ(iy:Nat)(te:TA):TE:=λσ H Q=>te σ H λls H1=>∃ (a d:af) (xs:List V) (kvs:List (aJ×V)) (kf:Nat->Int),ls=[.ref a]/\Rd H1 a (.lst xs)/\xs≠[]/\σ[iy]?=aa (aa (.ref d))/\Rd H1 d (.dK kvs) /\
 (∀ i v,xs[i]?=aa v->∃ k,v=kV k/\iP kvs k=aa (.int (kf i)))/\∀ i v H2,xs[i]?=aa v->(∀ j,j<xs.length->kf i<=kf j/\(j<i->kf i<kf j))->(∀ b o,H1 b=aa o->H2 b=aa o)->Q v H2
theorem Tg{z x y n:Str}{p0:Pos}{c P cell:af}{params:tt}{scope:eG}{p p1 p2 p3 lpos kp pos:Pos}{iy:Nat}{ta:TA}(hc:X.calm=ai)(hr:X.A.depth+1<vN)(LA:LamAt X n c P)(LO:Ae x y params scope)(hq:X.env.qual++"<lambda>" = n++".<locals>.<lambda>")(hy:X.N[iy]?=aa y) (hyk:X.env.kindOf y=aa .cell) (lZ:X.env.cells.lookup y=aa cell) (wK:zw scope X.env=pure [(y,cell)]) (wu:defaultsOf params X.env=([],[]))(hg:Gl X "min") (hm:X.mg "min" = ae) (ha:PA X [.Name z p0] ta):PE X (.Call (.Name "min" p) [.Name z p0] [⟨aa "key",.Lambda params (.Subscript (.Name y p1) (.Name x p2) p3) scope lpos,kp⟩] pos) (PZ iy ta):=by
 intro ah s σ H Q I h;refine CI (sR I hg hm (show fM "min" = aa (.builtin "min") by kernel_rfl) ?_ (by decide) (by decide));refine callWith_kw (aW (ha pos ah s σ H _ I h) λus s1 ⟨vs,H1,I1,r1,q⟩=>?_);obtain⟨a,d,xs,kvs,kf,rfl,hA,cO,hσ,hD,hkf,hQ⟩:=q;obtain⟨u,rfl⟩:∃ u,us=[u]:=by
  cases r1 with
  | cons _ t=>cases t; exact⟨_,rfl⟩
 obtain rfl:u = .ref a:=by
  cases r1 with
  | cons z _=>exact z
 refine kws_cons (SC I1 LA hq wK wu λf c' ctv H2 s2 I2 sub hf hfL zY hcL=>kws_nil ?_);have hA2:Rd H2 a (.lst xs):=hA.elim (λz=>.inl (sub _ _ z)) λ⟨o,z⟩=>.inr ⟨o,sub _ _ z⟩;have hD2:Rd H2 d (.dK kvs):=hD.elim (λz=>.inl (sub _ _ z)) λ⟨o,z⟩=>.inr ⟨o,sub _ _ z⟩;obtain⟨m,kH,hl⟩:=id I2.loc;obtain⟨zl,its,n0,rv,eL⟩:=hA2.ok I2.hok;obtain⟨zd,hsm,dv,rel,dd⟩:=hD2.ok I2.hok;have neT:∀ {b:af} {u:HO},Rd H2 b u->b≠X.env.locals:=λ{b u} r z=>by
  have:=I2.free;rcases r with r | ⟨_,r⟩ <;> rw[← z,r]at this <;> cases this
 obtain⟨u,ru,lk⟩:=hl iy y _ hy hσ (.inr (.inl hyk));obtain rfl:u = .ref d:=ru;have jR:s2.heap.IsCell cell (aa (.ref d)):=by
  rcases lk with⟨z,_⟩ | ⟨_,c2,e2,z⟩
  ·rw[hyk]at z; cases z
  ·rw[lZ]at e2; cases e2; exact z
 have lenI:its.length=xs.length:=rv.length.symm;show ax _ _ (call (.builtin "min") [.ref a] [(CK "key",.ref f)]) _ _ _;refine kmk_min (h₀:=yY s2.heap) (L:=X.env.locals) (m:=m) (news:=Bc s2.heap X.env.locals) (vs:=its) kf (I2.ok.hd hc) (RV kH) (λ⟨b,o⟩ hp=>?_) (λh' F' N'=>?_) (by rw[lenI]; exact List.length_pos_iff.mpr cO) (λi v hv h' tk own F' N'=>?_) λi v h' tk hv D5 F' N'=>?_
 ·obtain⟨n1,e1⟩:=U_.mp hp;exact⟨e1,n1,Jo _ _⟩
 ·exact⟨_,(N' _ (U_.mpr ⟨neT hA2,eL⟩)).1,rfl,n0,rfl⟩
 ·have k:∀ b o,b≠X.env.locals->s2.heap.get? b=aa o->h'.get? b=aa o:=λb o n e=>(N' (b,o) (zk _ (U_.mpr ⟨n,e⟩))).1;obtain⟨xv,hx,rx⟩:=BX rv hv;obtain⟨ky,rfl,DY⟩:=hkf i xv hx;obtain⟨r,lu,rr⟩:=pi.some_of (v:=.int (kf i)) (o:=pE dv ky) (by rw[← DY]; exact rel.val ky);obtain⟨t,rfl⟩:=rr;obtain⟨cc,oc,vc,tc,z,ec,rc⟩:=zY;cases z;obtain⟨ob,es,ep,e3,r3⟩:=dd;obtain⟨ol,t8,t_⟩:=jR;refine S6 (s:={ s2 with heap:=h',toks:=tk }) LO (zP hr) (k _ _ hfL hf) ⟨_,oc,vc,tc,rfl,k _ _ hcL ec,rc⟩ (I2.mod.nolimit.keeps λb o e=>k b o (c_ (fW (bE e) (cL I2.ok.bsz I2.ok.above))) (I2.bk b o e))
   (by simp[zy]) ⟨ol,k _ _ (I2.cne y cell lZ) t8,t_⟩ ⟨ob,es,ep,k _ _ (neT hD2) e3,r3⟩ rx lu λh2 tk2 k2=>?_
  exact⟨h2,tk2,t,rfl,rfl,⟨F'.ns.keeps k2,λb o e=>k2 b o (F'.keep b o e),F'.above⟩,λq hq=>⟨k2 _ _ (N' q hq).1,(N' q hq).2⟩⟩
 ·obtain⟨xv,hx,rx⟩:=BX rv hv;exact⟨xv,H2,I2.mapKept kH F'.ns λb o n e=>(N' (b,o) (U_.mpr ⟨n,e⟩)).1,rx,hQ i xv H2 hx (λj hj=>D5 j (by rw[lenI]; exact hj)) sub⟩
end
end L2
namespace Pu
open L2
theorem N_(m:List (Tx×Int))(x:Tx):iP (m.map λp=>((Sum.inr (tS p.1):aJ),V.int p.2)) (Sum.inr (tS x))=(dD m x).map V.int:=by
 unfold dD
 induction m with
 | nil=>rfl
 | cons p m ih=>
  rw[eC,fX];by_cases h:p.1=x
  ·rw[vd (by rw[h]),decide_eq_true h]; rfl
  ·rw[uL (λz=>h (p7 (Sum.inr.inj z))),decide_eq_false h]; exact ih
theorem Gd(m:List (Tx×Int))(r:List Tx):r.foldl (λb y=>b.bind λb=>(dD m b).bind λkb=>(dD m y).map λky=>if ky<kb then y else b) (ae:Option Tx)=ae:=by
 induction r with
 | nil=>rfl
 | cons y r ih=>exact ih
theorem AZ(m:List (Tx×Int)):∀ (r pre:List Tx) (b:Tx) (kb:Int) (i0:Nat),pre[i0]?=aa b->dD m b=aa kb->(∀ (j:Nat) y,pre[j]?=aa y->∃ k,dD m y=aa k/\kb<=k/\(j<i0->kb<k))->∀ x, r.foldl (λb y=>b.bind λb=>(dD m b).bind λkb=>(dD m y).map λky=>if ky<kb then y else b) (aa b)=aa x -> ∃ i kx,(pre++r)[i]?=aa x/\dD m x=aa kx/\∀ (j:Nat) y,(pre++r)[j]?=aa y->∃ k,dD m y=aa k/\kx<=k/\(j<i->kx<k)
 | [],pre,b,kb,i0,h1,h2,h3,x,e=>by
  cases e;rw[jg];exact⟨i0,kb,h1,h2,h3⟩
 | y::r,pre,b,kb,i0,h1,h2,h3,x,e=>by
  rw[jL,iD,h2,iD]at e;have i0l:i0<pre.length:=(eE.mp h1).1;cases ey:dD m y with
  | none=>rw[ey,C0,Gd]at e; cases e
  | some ky=>
   rw[ey,lV]at e;rw[List.append_cons pre y r];by_cases c:ky<kb
   ·rw[if_pos c]at e;refine AZ m r (pre++[y]) y ky pre.length (by simp) ey (λj z hz=>?_) x e;by_cases hj:j<pre.length
    ·rw[fO hj]at hz;obtain⟨k,a1,a2,_⟩:=h3 j z hz;exact⟨k,a1,∅,λ_=>∅⟩
    ·rw[jK ∅]at hz;obtain rfl:z=y:=by
      cases hq:j-pre.length with
      | zero=>rw[hq]at hz; simpa using hz.symm
      | succ n=>rw[hq]at hz; simp at hz
     exact⟨ky,ey,Int.le_refl _,λz=>absurd z hj⟩
   ·rw[if_neg c]at e;refine AZ m r (pre++[y]) b kb i0 (by rw[fO i0l]; exact h1) h2 (λj z hz=>?_) x e;by_cases hj:j<pre.length
    ·rw[fO hj]at hz;exact h3 j z hz
    ·rw[jK ∅]at hz;obtain rfl:z=y:=by
      cases hq:j-pre.length with
      | zero=>rw[hq]at hz; simpa using hz.symm
      | succ n=>rw[hq]at hz; simp at hz
     exact⟨ky,ey,∅,λz=>∅⟩
theorem L9{m:List (Tx×Int)}{ls:List Tx}{x:Tx}(h:rG m ls=aa x):∃ i kx,ls[i]?=aa x/\dD m x=aa kx/\∀ (j:Nat) y,ls[j]?=aa y->∃ k,dD m y=aa k/\kx<=k/\(j<i->kx<k):=by
 cases ls with
 | nil=>cases h
 | cons y r=>
  unfold rG at h;dsimp only at h;cases e:dD m y with
  | none=>rw[e,C0,Gd]at h; cases h
  | some k=>
   rw[e,lV]at h;refine AZ m r [y] y k 0 rfl e (λj z hz=>?_) x h;cases j with
   | zero=>cases hz; exact⟨k,e,Int.le_refl _,λz=>absurd z (zu _)⟩
   | succ j=>simp at hz
section
variable{X:Cx}{E:XK}
theorem MZ(i j:Nat){z x y n:Str}{c P cell:af}{params:tt}{scope:eG}{p p0 p1 p2 p3 lpos kp pos:Pos}(hc:X.calm=ai)(hr:X.A.depth+1<vN)(LA:LamAt X n c P)(hm:X.mg "min" = ae)(hq:X.env.qual++"<lambda>" = n++".<locals>.<lambda>":=by rfl) (lZ:X.env.cells.lookup y=aa cell:=by rfl) (wK:zw scope X.env=pure [(y,cell)]:=by rfl)(LO:Ae x y params scope:=by exact⟨λ_ _ _ _ _ _ _ _=>rfl,rfl,rfl,by decide,rfl,rfl,rfl,by decide,by decide,by decide⟩)(hN:X.N[i]?=aa z:=by rfl) (gD:ga X.env.scope z:=by first | exact Or.inl rfl | exact Or.inr (Or.inl rfl) | exact Or.inr (Or.inr rfl)) (hd:(z == ("__debug__" : Str))=ao:=by decide) (bR:(z == ("__classdict__" : Str))=ao:=by decide)(hj:X.N[j]?=aa y:=by rfl) (hyk:X.env.kindOf y=aa .cell:=by rfl) (wu:defaultsOf params X.env=([],[]):=by rfl) (hg:Gl X "min":=by rfl) : DE X E (.Call (.Name "min" p) [.Name z p0] [⟨aa "key",.Lambda params (.Subscript (.Name y p1) (.Name x p2) p3) scope lpos,kp⟩] pos) (pT i j):=λF S ε σ H Q rl h=>by
 unfold pT at h;split at h
 ·rename_i xs e0;cases e1:gW xs with
  | none=>rw[e1]at h; exact h.elim
  | some ls=>
   rw[e1]at h;simp only[dO,R.bind_ok]at h;cases e2:eB ε j with
   | none=>rw[e2]at h; exact h.elim
   | some kvs=>
    rw[e2]at h;simp only[dO,R.bind_ok]at h;cases e3:rR kvs with
    | none=>rw[e3]at h; exact h.elim
    | some m=>
     rw[e3]at h;simp only[dO,R.bind_ok]at h;cases e4:rG m ls with
     | none=>rw[e4]at h; exact h.elim
     | some r=>
      rw[e4]at h;simp only[dO,R.bind_ok]at h;obtain rfl:=ur e1;obtain⟨v,ev,a,us,rfl,ha,hF,ra⟩:=rl.val i _ e0;obtain⟨rfl,cb⟩:=UM.mp ra;obtain⟨d,ws,ed,hD,hk,_⟩:=rl.dkAt (mQ e2);have hws:=IK hk e3;obtain⟨i0,kx,g1,g2,g3⟩:=L9 e4;have kfe:∀ (t:Nat) u,ls[t]?=aa u->dD m u=aa (((ls[t]?).bind (dD m)).getD 0):=λt u hu=>by obtain⟨k,a1,_⟩:=g3 t u hu;rw[hu,iD,a1]; rfl
      refine c7 (Tg hc hr LA LO hq hj hyk lZ wK wu hg hm (kX (ip hN gD hd bR) nH (by rfl))) ?_;refine⟨_,ev,a,d,d8 ls,ws,λt=>((ls[t]?).bind (dD m)).getD 0,rfl,ha,λz=>?_,ed,.inl hD,λt v hv=>?_,λt v H2 hv D5 sub=>?_⟩
      ·have:ls=[]:=by unfold d8 at z; exact List.map_eq_nil_iff.mp z
       rw[this]at g1; simp at g1
      ·unfold d8 at hv;rw[jh]at hv;obtain⟨u,hu,rfl⟩:=tF.mp hv;refine⟨.inr (tS u),rfl,?_⟩;rw[hws,N_,kfe t u hu]; rfl
      ·unfold d8 at hv;rw[jh]at hv;obtain⟨u,hu,rfl⟩:=tF.mp hv;have tl:t<ls.length:=(eE.mp hu).1;have il:i0<ls.length:=(eE.mp g1).1;have k1:((ls[t]?).bind (dD m)).getD 0=kx\/True:=.inr trivial;have ki0:((ls[i0]?).bind (dD m)).getD 0=kx:=by rw[g1,iD,g2]; rfl
       obtain⟨k,a1,a2,a3⟩:=g3 t u hu;have kt:((ls[t]?).bind (dD m)).getD 0=k:=by rw[hu,iD,a1]; rfl
       obtain⟨m1,m2⟩:=D5 i0 (by unfold d8; rw[cD]; exact il);have m1':((ls[t]?).bind (dD m)).getD 0<=((ls[i0]?).bind (dD m)).getD 0:=m1;have m2':i0<t->((ls[t]?).bind (dD m)).getD 0<((ls[i0]?).bind (dD m)).getD 0:=m2;rw[kt,ki0]at m1' m2';have et:t=i0:=by
        rcases Nat.lt_trichotomy t i0 with q | q | q
        ·have:=a3 q; lia
        ·exact q
        ·have:=m2' q; lia
       subst et;rw[g1]at hu;cases hu;have al:Al F F H H2:=⟨λ_ z=>z,λb o e=>sub b o e,λ_ z=>.inl z⟩
       exact h F S H2 (rl.al al) al.grow (tV r) ⟨rfl,cb r (vP g1)⟩
 ·exact h.elim
end
structure B1(K:az)(mg:Str->Option am)(x:Str)(c T:af):Prop where
 tab:lM K x=aa (c,T)
 hd:zv K c T=ai
 code:∀ f fd oc od osl,mg x=aa (.ref f)->K.lookup f=aa ⟨oc,od,.func fd,osl⟩->fd.code = .ref c
theorem QL{K:az}{h:aF}{mg:Str->Option am}{x:Str}{c T:af}(X:K.In h)(G:h.Ns cG mg)(h1:lM K x=aa (c,T))(h2:zv K c T=ai):B1 K mg x c T:=by
 refine⟨h1,h2,λf fd oc od osl hm hl=>?_⟩;unfold lM at h1;split at h1
 ·rename_i f' e;have e':=jN X G e;rw[hm]at e';cases e';rw[hl]at h1;dsimp only at h1;split at h1
  ·rename_i c' e3;split at h1
   ·split at h1
    ·cases h1; exact e3
    ·cases h1
   ·cases h1
  ·cases h1
 ·cases h1
theorem RT{CX:fQ}{P:aX}{w:aN}{K:az}{mg:Str->Option am}{base:aF}{x:Str}{st:bf}{N ps:List Str}{k n:Nat}{d:ak->R aH}{pin:List Nat}(LF:∃ c T,B1 K mg x c T)(hx:x∈vq)(D:cB K mg x st)(Sc:b_ N ps (aZ st))(hn:N.length=ps.length+n)(hb:∀ (kV doc pm:am) (an:Option af) (aQ ct:am) (us:List am),us.length=ps.length->gM (kC x x (kU st) (gY st) (aZ st) .none kV doc pm an aQ ct) ⟨us,[]⟩=pure (ps.zip us))(jO:∀ (f:af) (aQ:am) (c T:af) (A:be) (outer:List Env) (s:aq) (H:Hp) (E:XK),Room k (A.deeper (j4 x (aZ st) s.heap.objs.size f aQ))->LamAt (i8 CX P w K mg base N x (aZ st) f aQ A outer s H E) x c T->jr (i8 CX P w K mg base N x (aZ st) f aQ A outer s H E) E pin (gY st) d) : cr CX P w K mg base x (k+1) ps (b0 K (bw ps.length pin (bB n d))):=by
 have no:∀ {ss},bw ps.length pin (bB n d) ss≠.no->ss.length=ps.length/\fg pin 0 ss=ai:=λ{ss} h=>by
  unfold bw at h;by_cases z:ss.length=ps.length/\fg pin 0 ss=ai
  ·exact z
  ·rw[if_neg z]at h; exact absurd rfl h
 obtain⟨f,fd,hm,Fn⟩:=D.ex;obtain⟨c,T,L⟩:=LF;refine⟨f,fd,hm,Ex Fn Sc hn hb (λss h=>(no h).1) (λss h i po e=>by have:=rW (no h).2 i po e; rwa[ox]at this) (λss h=>by unfold bw; rw[if_pos (no h)]) λA outer s H E hr=>?_,Fn.binds hb,Fn.kp⟩;obtain⟨oc,od,_,_,_,_,_,_,osl,_,lk,_⟩:=Fn.ex;exact jO f fd.code c T A outer s H E hr ⟨hx,L.tab,L.hd,L.code f fd oc od osl hm lk⟩
end Pu
local macro_rules | `(tactic| simp! [$xs,*]) => `(tactic| simp [Pu.aE, Pu.dq, Pu.dB, Pu.d2, Pu.d1, Pu.dV, Pu.dC, Pu.dL, Pu.dF, Pu.aw, Pu.aB, Pu.dS, Pu.rP, Pu.bt, Pu.cJ, Pu.aG, Pu.gV, Pu.gO, Pu.bN, Pu.eK, Pu.dY, Pu.cp, Pu.dI, Pu.dN, Pu.R.bind, Pu.aS, Pu.bw, Pu.fg, Pu.bB, Pu.back, Pu.jx, Pu.rA, Pu.RP, Pu.Fe, Pu.IA, Pu.Qw, Pu.aU, Pu.kW, Pu.b8, Pu.sL, Pu.d9, Pu.IT, Pu.lg, Pu.U7, Pu.kj, Pu.Ir, Pu.UP, Pu.oK, Pu.oN, Pu.U2, Pu.qa, Pu.jt, Pu.f6, Pu.i9, Pu.yD, Pu.nA, Pu.imm, Pu.U5, Pu.se, bH, vO, $xs,*])
theorem L2.Room.d1{k:Nat}{A:PySem.Around}(r:L2.Room k A):A.depth+1<PySem.recursionLimit:=by have:=r.dp; lia
theorem L2.LamAt.nox{X:L2.Cx}{x:PySem.Str}{c T:PySem.Addr}(h:L2.LamAt X x c T):L2.LamAt X.nox x c T:=⟨h.mem,h.tab,h.hd,h.code⟩
namespace Sh
open L2 Pu
set_option genInjectivity false in
structure Ad where
 SlitError:af
 NoText:af
 NoWidth:af
 NoView:af
 NoWindow:af
 Never:af
 Full:af
 Nothing:af
 Unlike:af
 NoPlace:af
 NoLetters:af
 BadText:af
 Seeker:af
 Slit:af
def yap(a:Ad):ak->R aH:=dS (dL u6 (aw (dF (c9 [1] (cI (dV 0)) (dW) (d2 (rQ ao) (dV 0) (dV 1)))) (aB)))
def vp(a:Ad):ak->R Slot:=bw 2 [] (bB 0 (yap a))
def yat(a:Ad):ak->R aH:=dS (oN (dL jd (aw (dV 0) (aw (dC (.raw (.ty "int"))) (aB)))) (Ir (dL jd (aw (dV 0) (aw (dC (.raw (.ty "bool"))) (aB))))))
def xl(a:Ad):ak->R Slot:=bw 1 [] (bB 0 (yat a))
def yau(a:Ad):ak->R aH:=dS (oN (aU (aG (xl a) (gV (dV 0) (bN)))) (qa (jt λi j=>decide (i<=j)) (jt λi j=>decide (i<=j)) (dC (.int 1)) (dV 0) (dC (.int 4))))
def qC(a:Ad):ak->R Slot:=bw 1 [] (bB 0 (yau a))
def yav(a:Ad):ak->R aH:=dS (oN (dL jd (aw (dV 0) (aw (dC (.raw (.ty "str"))) (aB)))) (oN (d2 (eqT ao) (dL br (aw (dV 0) (aB))) (dV 1)) (aU (aG (vp a) (gV (dV 0) (gV (dV 2) (bN)))))))
def sN(a:Ad):ak->R Slot:=bw 3 [] (bB 0 (yav a))
def yag(a:Ad):ak->R aH:=aE (dq (oK (kj (dB (dL jd (aw (dV 0) (aw (dC (.raw (.ty "tuple"))) (aB)))))) (kj (dB (qa (jt λi j=>decide (i<=j)) (jt λi j=>decide (i<=j)) (dC (.int 1)) (dL br (aw (dV 0) (aB))) (dC (.int 9)))))) (dS (dC (.bl ao))) (d9))
 (aE (dq (kj (dB (dL u6 (aw (dF (c9 [1,2] (cI (dV 0)) (dW) (aU (aG (sN a) (gV (dV 0) (gV (dV 1) (gV (dV 2) (bN)))))))) (aB))))) (dS (dC (.bl ao))) (d9))
 (dS (d2 (eqT ao) (dF (dL yu (aw (dV 0) (aB)))) (dF (dL ql (aw (dV 0) (aB)))))))
def o4(a:Ad):ak->R Slot:=bw 3 [] (bB 0 (yag a))
def yas(a:Ad):ak->R aH:=aE (dq (oK (kj (dB (dL jd (aw (dV 0) (aw (dC (.raw (.ty "tuple"))) (aB)))))) (dB (d2 (eqT ai) (dL br (aw (dV 0) (aB))) (dC (.int 2))))) (dS (dC (.bl ao))) (d9))
 (dS (oN (aU (aG (qC a) (gV (d2 a8 (dV 0) (dC (.int 0))) (bN)))) (aU (aG (o4 a) (gV (d2 a8 (dV 0) (dC (.int 1))) (gV (d2 a8 (dV 0) (dC (.int 0))) (gV (dV 1) (bN))))))))
def sA(a:Ad):ak->R Slot:=bw 2 [] (bB 0 (yas a))
def yar(a:Ad):ak->R aH:=rP (aG (sA a) (gV (dV 0) (gV (dC (.str [97,98,99])) (bN))))
def yy(a:Ad):ak->R Slot:=bw 1 [] (bB 0 (yar a))
def yaj(a:Ad):ak->R aH:=dq (kj (dB (aU (aG (yy a) (gV (dV 0) (bN)))))) (rX (.ref a.NoView) (λε=>cX ((dC (.str [97,32,118,105,101,119,32,105,115,32,97,32,116,117,112,108,101,32,111,102,32,97,32,119,105,100,116,104,32,97,110,100,32,97,32,114,105,115,105,110,103,32,116,117,112,108,101,32,111,102,32,49,32,116,111,32,57,32,119,105,110,100,111,119,115])) ε))) (d9)
def xN(a:Ad):ak->R Slot:=bw 1 [] (bB 0 (yaj a))
def yaR(a:Ad):ak->R aH:=aE (dq (kj (dB (qa (jt λi j=>decide (i<=j)) (jt λi j=>decide (i<=j)) (dC (.int 1)) (dL br (aw (dV 1) (aB))) (dC (.int 9))))) (rX (.ref a.NoView) (λε=>cX ((dC (.str [97,32,118,105,101,119,32,104,97,115,32,49,32,116,111,32,57,32,119,105,110,100,111,119,115])) ε))) (d9))
 (dS (dL sL (aw (dV 0) (aw (dL yf (aw (dF (dL ql (aw (dV 1) (aB)))) (aB))) (aB)))))
def y_(a:Ad):ak->R Slot:=bw 2 [] (bB 0 (yaR a))
def yal(a:Ad):ak->R aH:=aE (cJ 1 (AU))
 (aE (λε=>cn (cE 2 (cI (dV 0)) (jo 1 (dV 2) (d2 aL (nQ 1 (dV 2) (dC (.int 0))) (dC (.int 1)))) ε))
 (fA 1))
def vy(a:Ad):ak->R Slot:=bw 1 [] (bB 2 (yal a))
def yaf(a:Ad)(rc:ak->R Slot):ak->R aH:=aE (dq (kj (dB (uQ 2))) (aE (i9 3 (dV 0)) (IT (.ret (.val .non)))) (d9))
 (aE (bt 4 (bj bg (dV 0) (aM (d2 aL (d2 cz (dL br (aw (dV 0) (aB))) (dV 1)) (dC (.int 1)))) (b9)))
 (λε=>cn (cE 5 (cI (dC (.str [97,98,99]))) (aE (bt 6 (d2 aL (dV 4) (dV 5)))
 (dq (dB (d2 (jt λi j=>decide (j<i)) (nQ 2 (dV 6) (dC (.int 0))) (dC (.int 0)))) (aE (jo 2 (dV 6) (d2 cz (jD 2 (dV 6)) (dC (.int 1))))
 (aE (lg (aG (rc) (gV (d2 aL (dV 0) (dV 5)) (gV (dV 1) (gO 2 (gO 3 (bN)))))))
 (jo 2 (dV 6) (d2 aL (jD 2 (dV 6)) (dC (.int 1)))))) (d9))) ε)))
def pc(a:Ad):Nat->ak->R Slot
 | 0=>bw 4 [2,3] (bB 3 Gs)
 | k+1=>bw 4 [2,3] (bB 3 (yaf a (pc a k)))
def yaN(a:Ad):ak->R aH:=aE (lg (aG (xN a) (gV (dV 0) (bN))))
 (aE (bt 1 (d2 a8 (dV 0) (dC (.int 0))))
 (aE (cJ 2 (dL b8 (aB)))
 (aE (λε=>cn (cE 3 (cI (dF (dL lJ (aw (dF (c9 [] (cI (d2 a8 (dV 0) (dC (.int 1)))) (dW) (bj bg (dV 0) (b9) (aM (d1 dU (dC (.int 1))))))) (aB))))) (lg (um (pc a 12) (sw (dV 3) (sw (dV 1) (gN (kW (aG (vy a) (gV (d2 a8 (dV 0) (dC (.int 1))) (bN)))) (gO 2 (bN))))))) ε))
 (fA 2))))
def qy(a:Ad):ak->R Slot:=bw 1 [] (bB 3 (yaN a))
def yax(a:Ad):ak->R aH:=aE (dq (dB (d2 (jt λi j=>decide (i<j)) (dV 1) (dL br (aw (dV 0) (aB))))) (dS (d2 a8 (dV 0) (dV 1))) (d9))
 (aE (dq (dB (d2 (eqT ao) (dV 0) (dF (dL b8 (aB))))) (dS (dC (.int 0))) (d9))
 (dS (d2 aL (d2 iS (d2 a8 (dV 0) (d2 ge (dV 1) (dL br (aw (dV 0) (aB))))) (dC (.int 31))) (dV 1))))
def su(a:Ad):ak->R Slot:=bw 2 [] (bB 0 (yax a))
def yaB(a:Ad):ak->R aH:=aE (bt 3 (d2 ge (d2 aL (d2 aL (d2 iS (aU (aG (su a) (gV (dV 0) (gV (dV 1) (bN))))) (dC (.int 1103515245))) (d2 iS (dC (.int 7919)) (dV 1))) (dC (.int 12345))) (dC (.int 2147483647))))
 (dS (d2 ge (d2 ge (d2 ge (d2 uI (dV 3) (dC (.int 5))) (dC (.int 2147483647))) (dC (.int 999983))) (dV 2)))
def y6(a:Ad):ak->R Slot:=bw 3 [] (bB 1 (yaB a))
def yay(a:Ad):ak->R aH:=aE (i9 1 (dC (.int 0)))
 (rP (aG (y6 a) (gV (dV 0) (gV (yD (λxs=>nA (br xs)) 1) (gV (dV 2) (bN))))))
def kz(a:Ad):ak->R Slot:=bw 3 [1] (bB 0 (yay a))
def yaD(a:Ad):ak->R aH:=dS (d2 a8 (dV 2) (aU (aG (kz a) (gV (dV 0) (gO 1 (gV (dL br (aw (dV 2) (aB))) (bN)))))))
def lF(a:Ad):ak->R Slot:=bw 3 [1] (bB 0 (yaD a))
def yaG(a:Ad):ak->R aH:=aE (bt 4 (aU (aG (lF a) (gV (dV 0) (gO 1 (gV (dF (dL b8 (aw (dC (.int 1)) (aw (dC (.int 2)) (aw (dC (.int 2)) (aw (dC (.int 3)) (aw (dC (.int 3)) (aw (dC (.int 3)) (aB))))))))) (bN)))))))
 (aE (bt 5 (dC (.str [])))
 (aE (λε=>cn (cE 6 (dL ir (aw (d2 aL (dV 2) (aU (aG (kz a) (gV (dV 0) (gO 1 (gV (d2 aL (d2 cz (dV 3) (dV 2)) (dC (.int 1))) (bN))))))) (aB))) (bt 5 (d2 aL (dV 5) (d2 a8 (dC (.str [97,98,99])) (aU (aG (kz a) (gV (dV 0) (gO 1 (gV (dV 4) (bN))))))))) ε))
 (dS (dV 5))))
def oQ(a:Ad):ak->R Slot:=bw 4 [1] (bB 3 (yaG a))
def yaq(a:Ad):ak->R aH:=dS (oN (dL jd (aw (dV 0) (aw (dC (.raw (.ty "str"))) (aB)))) (oN (qa (jt λi j=>decide (i<=j)) (jt λi j=>decide (i<=j)) (dC (.int 1)) (dL br (aw (dV 0) (aB))) (dV 1)) (aU (aG (vp a) (gV (dV 0) (gV (dC (.str [97,98,99])) (bN)))))))
def y0(a:Ad):ak->R Slot:=bw 2 [] (bB 0 (yaq a))
def yai(a:Ad):ak->R aH:=dq (kj (dB (aU (aG (y0 a) (gV (dV 0) (gV (dC (.int 12)) (bN))))))) (rX (.ref a.NoText) (λε=>cX ((dC (.str [97,32,116,101,120,116,32,104,97,115,32,49,32,116,111,32,49,50,32,108,101,116,116,101,114,115,32,97,44,32,98,44,32,99])) ε))) (d9)
def yS(a:Ad):ak->R Slot:=bw 1 [] (bB 0 (yai a))
def yak(a:Ad):ak->R aH:=dq (kj (dB (aU (aG (qC a) (gV (dV 0) (bN)))))) (rX (.ref a.NoWidth) (λε=>cX ((dC (.str [97,32,119,105,100,116,104,32,105,115,32,97,32,119,104,111,108,101,32,110,117,109,98,101,114,32,102,114,111,109,32,49,32,116,111,32,52])) ε))) (d9)
def yH(a:Ad):ak->R Slot:=bw 1 [] (bB 0 (yak a))
def yaI(a:Ad):ak->R aH:=kL (c9 [0,1] (dL ir (aw (d2 aL (d2 cz (dL br (aw (dV 0) (aB))) (dV 1)) (dC (.int 1))) (aB))) (dW) (bj bg (dV 1) (aM (dV 0)) (aM (d2 aL (dV 0) (dV 2)))))
def sZ(a:Ad):ak->R Slot:=bw 2 [] (bB 0 (yaI a))
def yaM(a:Ad):ak->R aH:=aE (lg (aG (yS a) (gV (dV 0) (bN))))
 (aE (lg (aG (yH a) (gV (dV 1) (bN))))
 (rP (aG (y_ a) (gV (dV 1) (gV (aU (aG (sZ a) (gV (dV 0) (gV (dV 1) (bN))))) (bN))))))
def pf(a:Ad):ak->R Slot:=bw 2 [] (bB 0 (yaM a))
def yaP(a:Ad):ak->R aH:=dS (bj bg (d2 iS (dV 0) (dV 1)) (b9) (aM (d2 cz (d2 aL (dL br (aw (dV 0) (aB))) (dV 1)) (dC (.int 1)))))
def rO(a:Ad):ak->R Slot:=bw 2 [] (bB 0 (yaP a))
def yao(a:Ad):ak->R aH:=aE (cJ 4 (dL b8 (aB)))
 (aE (λε=>cn (cE 5 (dL iq (aw (d2 aL (dV 2) (dC (.int 1))) (aw (d2 aL (dV 3) (dC (.int 1))) (aB)))) (cE 6 (dL iq (aw (d2 aL (dV 3) (dC (.int 1))) (aw (dL br (aw (dV 1) (aB))) (aB)))) (dq (dB (d2 (eqT ao) (d2 a8 (dV 1) (dV 5)) (d2 a8 (dV 1) (dV 6)))) (i9 4 (d2 aL (d2 aL (d2 aL (d2 aL (bj bg (dV 0) (b9) (aM (dV 2))) (bj bg (dV 0) (aM (dV 3)) (aM (dV 6)))) (bj bg (dV 0) (aM (dV 5)) (aM (dV 3)))) (bj bg (dV 0) (aM (dV 2)) (aM (dV 5)))) (bj bg (dV 0) (aM (dV 6)) (b9)))) (d9))) ε))
 (fA 4))
def u_(a:Ad):ak->R Slot:=bw 4 [] (bB 3 (yao a))
def yan(a:Ad):ak->R aH:=aE (cJ 2 (dL b8 (aB)))
 (aE (λε=>cn (cE 3 (dL ir (aw (dL br (aw (dV 1) (aB))) (aB))) (cE 4 (dL iq (aw (d2 aL (dV 3) (dC (.int 1))) (aw (dL br (aw (dV 1) (aB))) (aB)))) (dq (dB (d2 (eqT ao) (d2 a8 (dV 1) (dV 3)) (d2 a8 (dV 1) (dV 4)))) (kZ 2 (aU (aG (u_ a) (gV (dV 0) (gV (dV 1) (gV (dV 3) (gV (dV 4) (bN)))))))) (d9))) ε))
 (fA 2))
def Aa(a:Ad):ak->R Slot:=bw 2 [] (bB 3 (yan a))
def yaO(a:Ad):ak->R aH:=aE (dq (dB (d2 (eqT ai) (d2 a8 (dV 1) (dC (.int 0))) (d2 a8 (dV 1) (d1 dU (dC (.int 1)))))) (kL (dL b8 (aB))) (d9))
 (aE (bt 3 (bj bg (dV 0) (b9) (aM (d2 cz (dL br (aw (dV 1) (aB))) (dC (.int 1))))))
 (kL (c9 [3,2] (dL iq (aw (dC (.int 1)) (aw (dL br (aw (dV 3) (aB))) (aB)))) (dW) (aU (aG (rO a) (gV (d2 aL (bj bg (dV 1) (aM (dV 0)) (b9)) (bj bg (dV 1) (b9) (aM (dV 0)))) (gV (dV 2) (bN))))))))
def uX(a:Ad):ak->R Slot:=bw 3 [] (bB 1 (yaO a))
def yaH(a:Ad):ak->R aH:=aE (bt 2 (aU (aG (sZ a) (gV (dV 0) (gV (d2 cz (dV 1) (dC (.int 1))) (bN))))))
 (kL (Bp (aw (d2 aL (aU (aG (Aa a) (gV (dV 0) (gV (dV 2) (bN))))) (aU (aG (uX a) (gV (dV 0) (gV (dV 2) (gV (dV 1) (bN))))))) (aB)) (aw (dF (dL b8 (aw (dV 0) (aB)))) (aB))))
def kN(a:Ad):ak->R Slot:=bw 2 [] (bB 1 (yaH a))
def yaA(a:Ad):ak->R aH:=aE (bt 4 (d2 aL (dC (.int 1)) (aU (aG (lF a) (gV (dV 0) (gO 1 (gV (dF (dL b8 (aw (dC (.int 1)) (aw (dC (.int 1)) (aw (dC (.int 2)) (aw (dC (.int 2)) (aw (dC (.int 3)) (aB)))))))) (bN))))))))
 (aE (bt 5 (aU (aG (oQ a) (gV (dV 0) (gO 1 (gV (dV 2) (gV (dC (.int 4)) (bN))))))))
 (aE (λε=>cn (d4 (dB (d2 (jt λi j=>decide (i<j)) (dL br (aw (dV 5) (aB))) (d2 cz (dV 3) (dC (.int 2))))) (bt 5 (d2 aL (dV 5) (aU (aG (lF a) (gV (dV 0) (gO 1 (gV (dF (dL b8 (aw (bj bg (dV 5) (b9) (aM (dC (.int 2)))) (aw (bj bg (dV 5) (b9) (aM (dC (.int 3)))) (aw (bj bg (dV 5) (aM (dC (.int 1))) (aM (dC (.int 3)))) (aw (dC (.str [97])) (aw (dC (.str [98])) (aw (bj bg (dV 5) (aM (d1 dU (dC (.int 2)))) (b9)) (aB))))))))) (bN)))))))) 1000 ε))
 (dS (dL sL (aw (bj bg (dV 5) (b9) (aM (dL u9 (aw (dV 4) (aw (d2 cz (dV 3) (aU (aG (kz a) (gV (dV 0) (gO 1 (gV (dC (.int 3)) (bN))))))) (aB)))))) (aw (dV 4) (aB)))))))
def pW(a:Ad):ak->R Slot:=bw 4 [1] (bB 2 (yaA a))
def yaE(a:Ad):ak->R aH:=kL (c9 [0,1] (dL ir (aw (d2 aL (d2 cz (dL br (aw (dV 0) (aB))) (dV 1)) (dC (.int 2))) (aB))) (dW) (bj bg (dV 1) (aM (dV 0)) (aM (d2 cz (d2 aL (dV 0) (dV 2)) (dC (.int 1))))))
def pZ(a:Ad):ak->R Slot:=bw 2 [] (bB 0 (yaE a))
def yaF(a:Ad):ak->R aH:=aE (cJ 4 (dL b8 (aB)))
 (aE (λε=>cn (cE 5 (dL iq (aw (dV 2) (aw (dV 3) (aB)))) (cE 6 (dL ir (aw (dV 2) (aB))) (dq (dB (d2 (eqT ao) (d2 a8 (dV 1) (dV 6)) (d2 a8 (dV 1) (dV 5)))) (aE (bt 7 (d2 aL (bj bg (dV 0) (b9) (aM (dV 6))) (bj bg (dV 0) (aM (dV 5)) (aM (dV 3)))))
 (aE (bt 7 (d2 aL (dV 7) (bj bg (dV 0) (aM (dV 2)) (aM (dV 5)))))
 (i9 4 (d2 aL (d2 aL (dV 7) (bj bg (dV 0) (aM (dV 6)) (aM (dV 2)))) (bj bg (dV 0) (aM (dV 3)) (b9)))))) (d9))) ε))
 (fA 4))
def vF(a:Ad):ak->R Slot:=bw 4 [] (bB 4 (yaF a))
def yaC(a:Ad):ak->R aH:=aE (bt 2 (aU (aG (pZ a) (gV (dV 0) (gV (dV 1) (bN))))))
 (aE (cJ 3 (dL b8 (aB)))
 (aE (λε=>cn (cE 4 (dL ir (aw (dL br (aw (dV 2) (aB))) (aB))) (cE 5 (dL ir (aw (dV 4) (aB))) (dq (dB (d2 (eqT ao) (d2 a8 (dV 2) (dV 5)) (d2 a8 (dV 2) (dV 4)))) (kZ 3 (aU (aG (vF a) (gV (dV 0) (gV (dV 2) (gV (dV 5) (gV (dV 4) (bN)))))))) (d9))) ε))
 (aE (dq (dB (d2 (eqT ao) (d2 a8 (dV 2) (dC (.int 0))) (d2 a8 (dV 2) (d1 dU (dC (.int 1)))))) (aE (bt 6 (d2 iS (bj bg (dV 0) (b9) (aM (d2 cz (dL br (aw (dV 2) (aB))) (dC (.int 1))))) (dC (.int 3))))
 (kZ 3 (dF (c9 [6,0] (dL iq (aw (dC (.int 1)) (aw (d2 cz (dL br (aw (dV 2) (aB))) (dC (.int 1))) (aB)))) (dW) (bj bg (dV 1) (aM (dV 0)) (aM (d2 aL (dV 0) (dL br (aw (dV 2) (aB)))))))))) (d9))
 (dS (dF (dL lJ (aw (dF (c9 [0] (cI (dM 3)) (dB (d2 (eqT ai) (dV 0) (dV 1))) (dV 0))) (aB))))))))
def mJ(a:Ad):ak->R Slot:=bw 2 [] (bB 5 (yaC a))
def yaQ(a:Ad):ak->R aH:=rP (aG (pf a) (gV (dV 0) (gV (dV 1) (bN))))
def qG(a:Ad):ak->R Slot:=bw 2 [] (bB 0 (yaQ a))
def yaK(a:Ad):ak->R aH:=aE (cJ 4 (dL b8 (aB)))
 (aE (λε=>cn (cE 5 (cI (dV 0)) (cE 6 (cI (aU (aG (kN a) (gV (dV 5) (gV (dV 1) (bN)))))) (dq (dB (fJ ai 3 (dV 6))) (aE (jo 3 (dV 6) (d2 aL (dV 2) (dC (.int 1))))
 (i9 4 (dV 6))) (d9))) ε))
 (fA 4))
def sU(a:Ad):ak->R Slot:=bw 4 [3] (bB 3 (yaK a))
def yam(a:Ad):ak->R aH:=aE (bt 3 (aU (aG (kN a) (gV (dV 1) (gV (dV 2) (bN))))))
 (aE (cJ 4 (oU 0 0))
 (aE (bt 5 (dF (dL b8 (aw (dV 0) (aB)))))
 (aE (bt 6 (dC (.int 0)))
 (aE (λε=>cn (d4 (kj (dB (dL vj (aw (dF (c9 [4] (cI (dV 3)) (dW) (fJ ao 1 (dV 0)))) (aB))))) (aE (bt 5 (aU (aG (sU a) (gV (dV 5) (gV (dV 2) (gV (dV 6) (gO 4 (bN))))))))
 (bt 6 (d2 aL (dV 6) (dC (.int 1))))) 1000 ε))
 (fA 4)))))
def pX(a:Ad):ak->R Slot:=bw 3 [] (bB 4 (yam a))
def yah(a:Ad):ak->R aH:=aE (bt 3 (aU (aG (pf a) (gV (dV 0) (gV (dV 2) (bN))))))
 (dq (dB (d2 (eqT ai) (dV 3) (aU (aG (pf a) (gV (dV 1) (gV (dV 2) (bN))))))) (rX (.ref a.Unlike) (λε=>cX ((dC (.str [116,104,101,32,116,119,111,32,116,101,120,116,115,32,104,97,118,101,32,117,110,108,105,107,101,32,118,105,101,119,115])) ε))) (d9))
def qw(a:Ad):ak->R Slot:=bw 3 [] (bB 1 (yah a))
def yaJ(a:Ad):ak->R aH:=aE (lg (aG (qw a) (gV (dV 0) (gV (dV 1) (gV (dV 2) (bN))))))
 (aE (cJ 3 (dL b8 (aw (dV 0) (aB))))
 (aE (dq (dB (d2 (eqT ao) (dV 0) (dV 1))) (fA 3) (d9))
 (aE (cJ 4 (kW (aG (pX a) (gV (dV 1) (gV (dV 0) (gV (dV 2) (bN)))))))
 (aE (λε=>cn (d4 (dB (d2 (eqT ai) (jq a8 3 (d1 dU (dC (.int 1)))) (dV 1))) (aE (bt 5 (dF (c9 [4] (cI (aU (aG (kN a) (gV (jq a8 3 (d1 dU (dC (.int 1)))) (gV (dV 2) (bN)))))) (dB (fJ ao 1 (dV 0))) (dV 0))))
 (i9 3 (pT 5 4))) 1000 ε))
 (fA 3)))))
def oZ(a:Ad):ak->R Slot:=bw 3 [] (bB 3 (yaJ a))
def yaL(a:Ad):ak->R aH:=dS (d2 cz (dL br (aw (aU (aG (oZ a) (gV (dV 0) (gV (dV 1) (gV (dV 2) (bN)))))) (aB))) (dC (.int 1)))
def uY(a:Ad):ak->R Slot:=bw 3 [] (bB 0 (yaL a))
def yaz(a:Ad):ak->R aH:=aE (cJ 2 (oU 0 0))
 (aE (bt 3 (dF (dL b8 (aw (dV 0) (aB)))))
 (aE (λε=>cn (d4 (dB (d2 (eqT ai) (dV 3) (dF (dL b8 (aB))))) (aE (cJ 4 (dL b8 (aB)))
 (aE (cE 5 (cI (dV 3)) (kZ 4 (dF (c9 [2] (cI (aU (aG (mJ a) (gV (dV 5) (gV (dV 1) (bN)))))) (dB (fJ ai 1 (dV 0))) (dV 0)))))
 (aE (cE 6 (cI (dM 4)) (jo 2 (dV 6) (d2 aL (jD 2 (d2 a8 (dV 3) (dC (.int 0)))) (dC (.int 1)))))
 (bt 3 (dF (dL lJ (aw (dV 4) (aB)))))))) 1000 ε))
 (fA 2)))
def vE(a:Ad):ak->R Slot:=bw 2 [] (bB 5 (yaz a))
end Sh
local macro_rules | `(tactic| and_intros) => `(tactic| (refine' Pu.UH ?a ?l ?c ?k; (case a => k_is); (case l => k_is); (case c => k_is); (case k => k_is)))
namespace K18
open L2 Pu Sh
def cU(i:Nat):bf:=PySem.Challenge.pw_slitview_k18_whole_roads.main.body.getD i (.Pass ⟨0,0,0,0⟩)
abbrev Ak:bf:=cU 43
abbrev Ab:bf:=cU 44
abbrev Bb:bf:=cU 45
abbrev Cb:bf:=cU 46
abbrev AW:bf:=cU 47
abbrev BN:bf:=cU 48
abbrev AG:bf:=cU 12
abbrev Cu:bf:=cU 14
abbrev xH:bf:=cU 11
abbrev BW:bf:=cU 15
abbrev xK:bf:=cU 16
abbrev BL:bf:=cU 17
abbrev Bn:bf:=cU 18
abbrev Cz:bf:=cU 21
abbrev AQ:bf:=cU 30
abbrev At:bf:=cU 29
abbrev za:bf:=cU 31
abbrev B2:bf:=cU 13
abbrev Cm:bf:=cU 19
abbrev CB:bf:=cU 20
abbrev Az:bf:=cU 23
abbrev xY:bf:=cU 22
abbrev AB:bf:=cU 24
abbrev Ay:bf:=cU 39
abbrev AY:bf:=cU 33
abbrev AK:bf:=cU 34
abbrev Bt:bf:=cU 25
abbrev y4:bf:=cU 35
abbrev Cq:bf:=cU 36
abbrev Ao:bf:=cU 37
abbrev xL:bf:=cU 38
abbrev zf:bf:=cU 40
abbrev yQ:bf:=cU 50
abbrev Cv:bf:=cU 52
abbrev ve:bf:=cU 51
abbrev yO:bf:=cU 53
abbrev B8:bf:=cU 27
abbrev BQ:bf:=cU 41
abbrev uj:bf:=cU 54
def mP(a:Ad):List af:=[a.NoText,a.NoWidth,a.NoView,a.Unlike]
structure cR(K:az)(mg:Str->Option am)(base:aF)(a:Ad):Prop where
 yax:cB K mg "_law_cell_at" Ak
 yaB:cB K mg "_law_mixed" Ab
 yay:cB K mg "_law_draw" Bb
 yaD:cB K mg "_law_pick" Cb
 yaG:cB K mg "_law_text" AW
 yaA:cB K mg "_law_like" BN
 yat:cB K mg "is_whole_number" AG
 yau:cB K mg "is_width" Cu
 yap:cB K mg "has_only" xH
 yav:cB K mg "is_window" BW
 yag:cB K mg "are_windows" xK
 yas:cB K mg "is_view_with" BL
 yar:cB K mg "is_view" Bn
 yaj:cB K mg "check_view" Cz
 yaf:cB K mg "add_endings" AQ
 yal:cB K mg "counted" At
 yaN:cB K mg "texts" za
 yaq:cB K mg "is_text_up_to" B2
 yai:cB K mg "check_text" Cm
 yak:cB K mg "check_width" CB
 yaR:cB K mg "view_of" Az
 yaI:cB K mg "pieces" xY
 yaM:cB K mg "text_view" AB
 yah:cB K mg "check_alike" Ay
 yao:cB K mg "exchanges_from" AY
 yan:cB K mg "exchanges" AK
 yaP:cB K mg "unrolled" Bt
 yaO:cB K mg "turns" y4
 yaH:cB K mg "one_step_off" Cq
 yaK:cB K mg "spread" Ao
 yam:cB K mg "distances" xL
 yaJ:cB K mg "road" zf
 yaE:cB K mg "_law_row" yQ
 yaF:cB K mg "_law_stretches" Cv
 yaC:cB K mg "_law_moved" ve
 yaz:cB K mg "_law_levels" yO
 yaQ:cB K mg "view" B8
 yaL:cB K mg "steps" BQ
 yaw:cB K mg "law" uj
 yaT:mg "all" = ae
 yaU:mg "any" = ae
 yaV:mg "bool" = ae
 yaW:mg "int" = ae
 yaX:mg "isinstance" = ae
 yaY:mg "len" = ae
 yaZ:mg "list" = ae
 ya0:mg "max" = ae
 ya1:mg "min" = ae
 ya2:mg "range" = ae
 ya3:mg "set" = ae
 ya4:mg "sorted" = ae
 ya5:mg "str" = ae
 ya6:mg "tuple" = ae
 ybb:∃ t,mg "LETTERS" = aa (.str (tS [97,98,99]) t)
 ybc:∃ t,mg "MOST_LETTERS" = aa (.int 12 t)
 ybd:∃ t,mg "MOST_WINDOWS" = aa (.int 9 t)
 ybe:∃ t,mg "WIDEST" = aa (.int 4 t)
 yad:mg "SlitError" = aa (.ref a.SlitError)
 yaa:mg "NoText" = aa (.ref a.NoText)
 yac:mg "NoWidth" = aa (.ref a.NoWidth)
 yab:mg "NoView" = aa (.ref a.NoView)
 yae:mg "Unlike" = aa (.ref a.Unlike)
 ya8:OwnCls "NoView" a.NoView [.type "ValueError",.type "Exception",.type "BaseException",.type "object"] "ValueError.__new__" mg base
 ya7:OwnCls "NoText" a.NoText [.type "ValueError",.type "Exception",.type "BaseException",.type "object"] "ValueError.__new__" mg base
 ya9:OwnCls "NoWidth" a.NoWidth [.type "ValueError",.type "Exception",.type "BaseException",.type "object"] "ValueError.__new__" mg base
 yba:OwnCls "Unlike" a.Unlike [.type "ValueError",.type "Exception",.type "BaseException",.type "object"] "ValueError.__new__" mg base
 yaS:∃ c T,B1 K mg "road" c T
section
variable{P:aX}{w:aN}{K:az}{mg:Str->Option am}{base:aF}{a:Ad}
theorem QS:b_ ["_law_script","_law_k"] ["_law_script","_law_k"] (aZ Ak):=by ac_nf
theorem Q6(G:cR K mg base a):cr (ce P w) P w K mg base "_law_cell_at" 1 ["_law_script","_law_k"] (b0 K (su a)) :=
 cW (k:=0) (pin:=[]) G.yax QS rfl (λ_ _ _ _ _ _ us hl=>Pu.UI (λ_ _=>rfl) us hl) (λf aQ A outer s H E hr=>by exact
  (bh (gs (gb Ig lI (ap 1) (dE fj fq G.yaY fh (aP (ap 0) bd)) rfl) (a9 (fU (eW dZ d7 (ap 0) (ap 1)))) gc)
  (bh (gs (gb (lK hr.units) lA (ap 0) (o9 bd) rfl) (a9 (fU aV)) gc)
  (a9 (fU (bC dr dj (bC uR uF (eW dZ d7 (ap 0) (bC rN tf (ap 1) (dE fj fq G.yaY fh (aP (ap 0) bd)))) aV) (ap 1)))))))
theorem PX:b_ ["_law_script","_law_k","_law_many","_law_drawn"] ["_law_script","_law_k","_law_many"] (aZ Ab):=by ac_nf
theorem KF(G:cR K mg base a):cr (ce P w) P w K mg base "_law_mixed" 2 ["_law_script","_law_k","_law_many"] (b0 K (y6 a)) :=
 cW (k:=1) (pin:=[]) G.yaB PX rfl (λ_ _ _ _ _ _ us hl=>Pu.UU (λ_ _ _=>rfl) us hl) (λf aQ A outer s H E hr=>by exact
  (bh (eM 3 PX.nd (bC rN tf (bC dr dj (bC dr dj (bC uR uF ((bU (Q6 G) (hr.mono (by decide)) cT (aI (ap 0) (aI (ap 1) bT)))).de aV) (bC uR uF aV (ap 1))) aV) aV))
  (a9 (fU (bC rN tf (bC rN tf (bC rN tf (bC RN Ug (ap 3) aV) aV) aV) (ap 2))))))
theorem S8:b_ ["_law_script","_law_town","_law_many"] ["_law_script","_law_town","_law_many"] (aZ Bb):=by ac_nf
theorem ut(G:cR K mg base a):cr (ce P w) P w K mg base "_law_draw" 3 ["_law_script","_law_town","_law_many"] (b0 K (kz a)) :=
 cW (k:=2) (pin:=[1]) G.yay S8 rfl (λ_ _ _ _ _ _ us hl=>Pu.UU (λ_ _ _=>rfl) us hl) (λf aQ A outer s H E hr=>by exact
  (bh (qh 1 aV)
  (a9 (xi (bU (KF G) (hr.mono (by decide)) cT (aI (ap 0) (aI (QR 1 fj fq G.yaY fh) (aI (ap 2) bT))))))))
theorem P4:b_ ["_law_script","_law_town","_law_some"] ["_law_script","_law_town","_law_some"] (aZ Cb):=by ac_nf
theorem Cn(G:cR K mg base a):cr (ce P w) P w K mg base "_law_pick" 4 ["_law_script","_law_town","_law_some"] (b0 K (lF a)) :=
 cW (k:=3) (pin:=[1]) G.yaD P4 rfl (λ_ _ _ _ _ _ us hl=>Pu.UU (λ_ _ _=>rfl) us hl) (λf aQ A outer s H E hr=>by exact
  (a9 (fU (eW dZ d7 (ap 2) ((bU (ut G) (hr.mono (by decide)) cT (aI (ap 0) (jV 1 (aI (dE fj fq G.yaY fh (aP (ap 2) bd)) bT))))).de))))
theorem TU:b_ ["_law_script","_law_town","_law_low","_law_most","_law_few","_law_made","_law_k"] ["_law_script","_law_town","_law_low","_law_most"] (aZ AW):=by ac_nf
theorem L6(G:cR K mg base a):cr (ce P w) P w K mg base "_law_text" 5 ["_law_script","_law_town","_law_low","_law_most"] (b0 K (oQ a)) :=
 cW (k:=4) (pin:=[1]) G.yaG TU rfl (λ_ _ _ _ _ _ us hl=>Pu.U6 (λ_ _ _ _=>rfl) us hl) (λf aQ A outer s H E hr=>by exact
  (bh (eM 4 TU.nd ((bU (Cn G) (hr.mono (by decide)) cT (aI (ap 0) (jV 1 (aI (o9 (aP aV (aP aV (aP aV (aP aV (aP aV (aP aV bd))))))) bT))))).de)
  (bh (eM 5 TU.nd (nU []))
  (bh (jY (i7 6 gR rfl TU.nd (pU G.ya2 (aP (bC dr dj (ap 2) ((bU (ut G) (hr.mono (by decide)) jE (aI (ap 0) (jV 1 (aI (bC dr dj (bC iZ i4 (ap 3) (ap 2)) aV) bT))))).de) bd)) (a9 (eM 5 TU.nd (bC dr dj (ap 5) (eW dZ d7 (nU [97,98,99]) ((bU (ut G) (hr.mono (by decide)) jE (aI (ap 0) (jV 1 (aI (ap 4) bT))))).de))))))
  (a9 (fU (ap 5)))))))
theorem Ov:b_ ["_law_script","_law_town","_law_low","_law_most","_law_width","_law_made"] ["_law_script","_law_town","_law_low","_law_most"] (aZ BN):=by ac_nf
theorem MF(G:cR K mg base a):cr (ce P w) P w K mg base "_law_like" 6 ["_law_script","_law_town","_law_low","_law_most"] (b0 K (pW a)) :=
 cW (k:=5) (pin:=[1]) G.yaA Ov rfl (λ_ _ _ _ _ _ us hl=>Pu.U6 (λ_ _ _ _=>rfl) us hl) (λf aQ A outer s H E hr=>by exact
  (bh (eM 4 Ov.nd (bC dr dj aV ((bU (Cn G) (hr.mono (by decide)) cT (aI (ap 0) (jV 1 (aI (o9 (aP aV (aP aV (aP aV (aP aV (aP aV bd)))))) bT))))).de))
  (bh (eM 5 Ov.nd ((bU (L6 G) (hr.mono (by decide)) cT (aI (ap 0) (jV 1 (aI (ap 2) (aI aV bT)))))).de)
  (bh (jY (uP (λ_=>1000) gR (gb Ig lI (dE fj fq G.yaY fh (aP (ap 5) bd)) (bC iZ i4 (ap 3) aV) rfl) (a9 (eM 5 Ov.nd (bC dr dj (ap 5) ((bU (Cn G) (hr.mono (by decide)) jE (aI (ap 0) (jV 1 (aI (o9 (aP (fD fF fE (ap 5) jy (dA aV)) (aP (fD fF fE (ap 5) jy (dA aV)) (aP (fD fF fE (ap 5) (dA aV) (dA aV)) (aP (nU [97]) (aP (nU [98]) (aP (fD fF fE (ap 5) (dA (mK mE mR aV)) jy) bd))))))) bT))))).de)))))
  (a9 (fU (Fm (aP (fD fF fE (ap 5) jy (dA (dE (O_ rfl) M0 G.ya0 NX (aP (ap 4) (aP (bC iZ i4 (ap 3) ((bU (ut G) (hr.mono (by decide)) cT (aI (ap 0) (jV 1 (aI aV bT))))).de) bd))))) (aP (ap 4) bd)))))))))
theorem NY:b_ ["thing"] ["thing"] (aZ AG):=by ac_nf
theorem LZ(G:cR K mg base a):cr (ce P w) P w K mg base "is_whole_number" 1 ["thing"] (b0 K (xl a)) :=
 cW (k:=0) (pin:=[]) G.yat NY rfl (λ_ _ _ _ _ _ us hl=>Pu.UX (λ_=>rfl) us hl) (λf aQ A outer s H E hr=>by exact
  (a9 (fU (qu (dE rL sv G.yaX sC (aP (ap 0) (aP (rS G.yaW Qh) bd))) (ul (Ro (dE rL sv G.yaX sC (aP (ap 0) (aP (rS G.yaV P9) bd)))))))))
theorem SI:b_ ["thing"] ["thing"] (aZ Cu):=by ac_nf
theorem Gb(G:cR K mg base a):cr (ce P w) P w K mg base "is_width" 2 ["thing"] (b0 K (qC a)) :=
 cW (k:=1) (pin:=[]) G.yau SI rfl (λ_ _ _ _ _ _ us hl=>Pu.UX (λ_=>rfl) us hl) (λf aQ A outer s H E hr=>by exact
  (a9 (fU (qu ((bU (LZ G) (hr.mono (by decide)) cT (aI (ap 0) bT))).de (ul (IU oJ oJ lI lI aV (ap 0) (yV G.ybe)))))))
theorem Me:b_ ["text","signs"] ["text","signs"] (aZ xH):=by ac_nf
theorem Hm(G:cR K mg base a):cr (ce P w) P w K mg base "has_only" 1 ["text","signs"] (b0 K (vp a)) :=
 cW (k:=0) (pin:=[]) G.yap Me rfl (λ_ _ _ _ _ _ us hl=>Pu.UI (λ_ _=>rfl) us hl) (λf aQ A outer s H E hr=>by exact
  (a9 (fU (dE (Ix rfl) Jv G.yaT Jk (aP (mq (cap:=[1]) (N':=["sign","signs"]) (mG.of ["text","signs"] (aZ xH) rfl rfl (by decide +kernel)) rfl (jG (ap 0)) (λC s₀ H₀ ex pn=>by exact oP) (λC s₀ H₀ ex pn=>by exact(yW R0 K1 (ap 0) (ap 1) rfl))).de bd)))))
theorem Mj:b_ ["thing","width","signs"] ["thing","width","signs"] (aZ BW):=by ac_nf
theorem NH(G:cR K mg base a):cr (ce P w) P w K mg base "is_window" 2 ["thing","width","signs"] (b0 K (sN a)) :=
 cW (k:=1) (pin:=[]) G.yav Mj rfl (λ_ _ _ _ _ _ us hl=>Pu.UU (λ_ _ _=>rfl) us hl) (λf aQ A outer s H E hr=>by exact
  (a9 (fU (qu (dE rL sv G.yaX sC (aP (ap 0) (aP (rS G.ya5 GC) bd))) (qu (yW (lK hr.units) lA (dE fj fq G.yaY fh (aP (ap 0) bd)) (ap 1) rfl) (ul ((bU (Hm G) (hr.mono (by decide)) cT (aI (ap 0) (aI (ap 2) bT)))).de))))))
theorem Rv:b_ ["thing","width","signs"] ["thing","width","signs"] (aZ xK):=by ac_nf
theorem On(G:cR K mg base a):cr (ce P w) P w K mg base "are_windows" 3 ["thing","width","signs"] (b0 K (o4 a)) :=
 cW (k:=2) (pin:=[]) G.yag Rv rfl (λ_ _ _ _ _ _ us hl=>Pu.UU (λ_ _ _=>rfl) us hl) (λf aQ A outer s H E hr=>by exact
  (bh (gs ((xw (my (pq (dE rL sv G.yaX sC (aP (ap 0) (aP (rS G.ya6 AM) bd))))) (Am (my (E7 oJ oJ lI lI aV (dE fj fq G.yaY fh (aP (ap 0) bd)) (yV G.ybd)))))).dt (a9 (fU yd)) gc)
  (bh (gs (my (pq (dE (Ix rfl) Jv G.yaT Jk (aP (mq (cap:=[1,2]) (N':=["window","width","signs"]) (mG.of ["thing","width","signs"] (aZ xK) rfl rfl (by decide +kernel)) rfl (jG (ap 0)) (λC s₀ H₀ ex pn=>by exact oP) (λC s₀ H₀ ex pn=>by exact((bU (NH G) (hr.mono (by decide)) jE (aI (ap 0) (aI (ap 1) (aI (ap 2) bT))))).de)).de bd)))) (a9 (fU yd)) gc)
  (a9 (fU (yW (lK hr.units) lA (Ou TQ Pw G.yaZ MX (aP (ap 0) bd)).de (E6 E3 IL G.ya4 ye (aP (ap 0) bd)).de rfl))))))
theorem KO:b_ ["thing","signs"] ["thing","signs"] (aZ BL):=by ac_nf
theorem Ml(G:cR K mg base a):cr (ce P w) P w K mg base "is_view_with" 4 ["thing","signs"] (b0 K (sA a)) :=
 cW (k:=3) (pin:=[]) G.yas KO rfl (λ_ _ _ _ _ _ us hl=>Pu.UI (λ_ _=>rfl) us hl) (λf aQ A outer s H E hr=>by exact
  (bh (gs ((xw (my (pq (dE rL sv G.yaX sC (aP (ap 0) (aP (rS G.ya6 AM) bd))))) (Am (gb (mx hr.units) mO (dE fj fq G.yaY fh (aP (ap 0) bd)) aV rfl)))).dt (a9 (fU yd)) gc)
  (a9 (fU (qu ((bU (Gb G) (hr.mono (by decide)) cT (aI (eW dZ d7 (ap 0) aV) bT))).de (ul ((bU (On G) (hr.mono (by decide)) cT (aI (eW dZ d7 (ap 0) aV) (aI (eW dZ d7 (ap 0) aV) (aI (ap 1) bT))))).de))))))
theorem LD:b_ ["thing"] ["thing"] (aZ Bn):=by ac_nf
theorem Rs(G:cR K mg base a):cr (ce P w) P w K mg base "is_view" 5 ["thing"] (b0 K (yy a)) :=
 cW (k:=4) (pin:=[]) G.yar LD rfl (λ_ _ _ _ _ _ us hl=>Pu.UX (λ_=>rfl) us hl) (λf aQ A outer s H E hr=>by exact
  (a9 (xi (bU (Ml G) (hr.mono (by decide)) cT (aI (ap 0) (aI (B5 G.ybb) bT))))))
theorem TX:b_ ["thing"] ["thing"] (aZ Cz):=by ac_nf
theorem RS(G:cR K mg base a):cr (ce P w) P w K mg base "check_view" 6 ["thing"] (b0 K (xN a)) :=
 cW (k:=5) (pin:=[]) G.yaj TX rfl (λ_ _ _ _ _ _ us hl=>Pu.UX (λ_=>rfl) us hl) (λf aQ A outer s H E hr=>by exact
  (a9 (gs (my (pq ((bU (Rs G) (hr.mono (by decide)) cT (aI (ap 0) bT))).de)) (a9 (uZ uw rfl G.ya8 zQ (nU [97,32,118,105,101,119,32,105,115,32,97,32,116,117,112,108,101,32,111,102,32,97,32,119,105,100,116,104,32,97,110,100,32,97,32,114,105,115,105,110,103,32,116,117,112,108,101,32,111,102,32,49,32,116,111,32,57,32,119,105,110,100,111,119,115]))) gc)))
theorem EU:b_ ["text","width","left","found","head","letter","window"] ["text","width","left","found"] (aZ AQ):=by ac_nf
theorem OF(G:cR K mg base a)(m:Nat):cr (ce P w) P w K mg base "add_endings" (1+m) ["text","width","left","found"] (b0 K (pc a m)):=by
 induction m with
 | zero=>exact cW (k:=0) (pin:=[2,3]) G.yaf EU rfl (λ_ _ _ _ _ _ us hl=>Pu.U6 (λ_ _ _ _=>rfl) us hl) (λf aQ A outer s H E hr=>S_)
 | succ m ih=>exact cW (k:=1+m) (pin:=[2,3]) G.yaf EU rfl (λ_ _ _ _ _ _ us hl=>Pu.U6 (λ_ _ _ _=>rfl) us hl) (λf aQ A outer s H E hr=>by exact
  (bh (gs (my (pq (Pm 2 rfl G.yaU))) (bh (qh 3 (ap 0))
  (a9 S7)) gc)
  (bh (eM 4 EU.nd (fD fF fE (ap 0) (dA (bC dr dj (bC iZ i4 (dE fj fq G.yaY fh (aP (ap 0) bd)) (ap 1)) aV)) jy))
  (a9 (jY (i7 5 gR rfl EU.nd (jG (B5 G.ybb)) (bh (eM 6 EU.nd (bC dr dj (ap 4) (ap 5)))
  (a9 (gs (gb N6 lI (HL 2 hr.units (ap 6) aV) aV rfl) (bh (vA 2 hr.units (ap 6) (bC iZ i4 (uJ 2 hr.units (ap 6)) aV))
  (bh (rE (bU ih (hr.mono ∅) jE (aI (bC dr dj (ap 0) (ap 5)) (aI (ap 1) (jV 2 (jV 3 bT))))))
  (a9 (vA 2 hr.units (ap 6) (bC dr dj (uJ 2 hr.units (ap 6)) aV))))) gc)))))))))
theorem Lk:b_ ["windows","counts","window"] ["windows"] (aZ At):=by ac_nf
theorem MT(G:cR K mg base a):cr (ce P w) P w K mg base "counted" 1 ["windows"] (b0 K (vy a)) :=
 cW (k:=0) (pin:=[]) G.yal Lk rfl (λ_ _ _ _ _ _ us hl=>Pu.UX (λ_=>rfl) us hl) (λf aQ A outer s H E hr=>by exact
  (bh (jC 1 Lk.nd (Mo))
  (bh (jY (i7 2 gR rfl Lk.nd (jG (ap 0)) (a9 (vA 1 hr.units (ap 2) (bC dr dj (HL 1 hr.units (ap 2) aV) aV)))))
  (a9 (mM 1)))))
theorem T6:b_ ["view","width","found","head"] ["view"] (aZ za):=by ac_nf
theorem Lo(G:cR K mg base a):cr (ce P w) P w K mg base "texts" 14 ["view"] (b0 K (qy a)) :=
 cW (k:=13) (pin:=[]) G.yaN T6 rfl (λ_ _ _ _ _ _ us hl=>Pu.UX (λ_=>rfl) us hl) (λf aQ A outer s H E hr=>by exact
  (bh (rE (bU (RS G) (hr.mono (by decide)) cT (aI (ap 0) bT)))
  (bh (eM 1 T6.nd (eW dZ d7 (ap 0) aV))
  (bh (jC 2 T6.nd (kS bd))
  (bh (jY (i7 3 gR rfl T6.nd (jG (AF rfl (aP (mq (cap:=[]) (N':=["window"]) (mG.of ["view","width","found","head"] (aZ za) rfl rfl (by decide +kernel)) rfl (jG (eW dZ d7 (ap 0) aV)) (λC s₀ H₀ ex pn=>by exact oP) (λC s₀ H₀ ex pn=>by exact(fD fF fE (ap 0) jy (dA (mK mE mR aV))))).de bd) G.ya4 G.ya3).de) (a9 (rE (Ry (OF G 12) (hr.mono (by decide)) jE (Ez (ap 3) (Ez (ap 1) (Nl (((bU (MT G) (hr.mono (by decide)) jE (aI (eW dZ d7 (ap 0) aV) bT))).dn) (jV 2 bT)))))))))
  (a9 (mM 2)))))))
theorem Lj:b_ ["thing","most"] ["thing","most"] (aZ B2):=by ac_nf
theorem Tk(G:cR K mg base a):cr (ce P w) P w K mg base "is_text_up_to" 2 ["thing","most"] (b0 K (y0 a)) :=
 cW (k:=1) (pin:=[]) G.yaq Lj rfl (λ_ _ _ _ _ _ us hl=>Pu.UI (λ_ _=>rfl) us hl) (λf aQ A outer s H E hr=>by exact
  (a9 (fU (qu (dE rL sv G.yaX sC (aP (ap 0) (aP (rS G.ya5 GC) bd))) (qu (IU oJ oJ lI lI aV (dE fj fq G.yaY fh (aP (ap 0) bd)) (ap 1)) (ul ((bU (Hm G) (hr.mono (by decide)) cT (aI (ap 0) (aI (B5 G.ybb) bT)))).de))))))
theorem PF:b_ ["thing"] ["thing"] (aZ Cm):=by ac_nf
theorem Ub(G:cR K mg base a):cr (ce P w) P w K mg base "check_text" 3 ["thing"] (b0 K (yS a)) :=
 cW (k:=2) (pin:=[]) G.yai PF rfl (λ_ _ _ _ _ _ us hl=>Pu.UX (λ_=>rfl) us hl) (λf aQ A outer s H E hr=>by exact
  (a9 (gs (my (pq ((bU (Tk G) (hr.mono (by decide)) cT (aI (ap 0) (aI (yV G.ybc) bT)))).de)) (a9 (uZ uw rfl G.ya7 zQ (nU [97,32,116,101,120,116,32,104,97,115,32,49,32,116,111,32,49,50,32,108,101,116,116,101,114,115,32,97,44,32,98,44,32,99]))) gc)))
theorem KI:b_ ["thing"] ["thing"] (aZ CB):=by ac_nf
theorem SY(G:cR K mg base a):cr (ce P w) P w K mg base "check_width" 3 ["thing"] (b0 K (yH a)) :=
 cW (k:=2) (pin:=[]) G.yak KI rfl (λ_ _ _ _ _ _ us hl=>Pu.UX (λ_=>rfl) us hl) (λf aQ A outer s H E hr=>by exact
  (a9 (gs (my (pq ((bU (Gb G) (hr.mono (by decide)) cT (aI (ap 0) bT))).de)) (a9 (uZ uw rfl G.ya9 zQ (nU [97,32,119,105,100,116,104,32,105,115,32,97,32,119,104,111,108,101,32,110,117,109,98,101,114,32,102,114,111,109,32,49,32,116,111,32,52]))) gc)))
theorem SG:b_ ["width","windows"] ["width","windows"] (aZ Az):=by ac_nf
theorem Mz(G:cR K mg base a):cr (ce P w) P w K mg base "view_of" 1 ["width","windows"] (b0 K (y_ a)) :=
 cW (k:=0) (pin:=[]) G.yaR SG rfl (λ_ _ _ _ _ _ us hl=>Pu.UI (λ_ _=>rfl) us hl) (λf aQ A outer s H E hr=>by exact
  (bh (gs (my (E7 oJ oJ lI lI aV (dE fj fq G.yaY fh (aP (ap 1) bd)) (yV G.ybd))) (a9 (uZ uw rfl G.ya8 zQ (nU [97,32,118,105,101,119,32,104,97,115,32,49,32,116,111,32,57,32,119,105,110,100,111,119,115]))) gc)
  (a9 (fU (Fm (aP (ap 0) (aP (TY RQ R8 G.ya6 AM (aP (E6 E3 IL G.ya4 ye (aP (ap 1) bd)).de bd)) bd)))))))
theorem Sn:b_ ["text","length"] ["text","length"] (aZ xY):=by ac_nf
theorem I_(G:cR K mg base a):cr (ce P w) P w K mg base "pieces" 1 ["text","length"] (b0 K (sZ a)) :=
 cW (k:=0) (pin:=[]) G.yaI Sn rfl (λ_ _ _ _ _ _ us hl=>Pu.UI (λ_ _=>rfl) us hl) (λf aQ A outer s H E hr=>by exact
  (a9 (uK (mq (cap:=[0,1]) (N':=["place","text","length"]) (mG.of ["text","length"] (aZ xY) rfl rfl (by decide +kernel)) rfl (pU G.ya2 (aP (bC dr dj (bC iZ i4 (dE fj fq G.yaY fh (aP (ap 0) bd)) (ap 1)) aV) bd)) (λC s₀ H₀ ex pn=>by exact oP) (λC s₀ H₀ ex pn=>by exact(fD fF fE (ap 1) (dA (ap 0)) (dA (bC dr dj (ap 0) (ap 2)))))))))
theorem Lm:b_ ["text","width"] ["text","width"] (aZ AB):=by ac_nf
theorem BH(G:cR K mg base a):cr (ce P w) P w K mg base "text_view" 4 ["text","width"] (b0 K (pf a)) :=
 cW (k:=3) (pin:=[]) G.yaM Lm rfl (λ_ _ _ _ _ _ us hl=>Pu.UI (λ_ _=>rfl) us hl) (λf aQ A outer s H E hr=>by exact
  (bh (rE (bU (Ub G) (hr.mono (by decide)) cT (aI (ap 0) bT)))
  (bh (rE (bU (SY G) (hr.mono (by decide)) cT (aI (ap 1) bT)))
  (a9 (xi (bU (Mz G) (hr.mono (by decide)) cT (aI (ap 1) (aI ((bU (I_ G) (hr.mono (by decide)) cT (aI (ap 0) (aI (ap 1) bT)))).de bT))))))))
theorem Ly:b_ ["one","other","width","one_view"] ["one","other","width"] (aZ Ay):=by ac_nf
theorem RL(G:cR K mg base a):cr (ce P w) P w K mg base "check_alike" 5 ["one","other","width"] (b0 K (qw a)) :=
 cW (k:=4) (pin:=[]) G.yah Ly rfl (λ_ _ _ _ _ _ us hl=>Pu.UU (λ_ _ _=>rfl) us hl) (λf aQ A outer s H E hr=>by exact
  (bh (eM 3 Ly.nd ((bU (BH G) (hr.mono (by decide)) cT (aI (ap 0) (aI (ap 2) bT)))).de)
  (a9 (gs (gb (mx hr.units) mO (ap 3) ((bU (BH G) (hr.mono (by decide)) cT (aI (ap 1) (aI (ap 2) bT)))).de rfl) (a9 (uZ uw rfl G.yba zQ (nU [116,104,101,32,116,119,111,32,116,101,120,116,115,32,104,97,118,101,32,117,110,108,105,107,101,32,118,105,101,119,115]))) gc))))
theorem K_:b_ ["text","row","start","again","found","end","last"] ["text","row","start","again"] (aZ AY):=by ac_nf
theorem Sv(G:cR K mg base a):cr (ce P w) P w K mg base "exchanges_from" 1 ["text","row","start","again"] (b0 K (u_ a)) :=
 cW (k:=0) (pin:=[]) G.yao K_ rfl (λ_ _ _ _ _ _ us hl=>Pu.U6 (λ_ _ _ _=>rfl) us hl) (λf aQ A outer s H E hr=>by exact
  (bh (jC 4 K_.nd (kS bd))
  (bh (jY (i7 5 gR rfl K_.nd (sq G.ya2 (aP (bC dr dj (ap 2) aV) (aP (bC dr dj (ap 3) aV) bd))) (a9 (i7 6 gR rfl K_.nd (sq G.ya2 (aP (bC dr dj (ap 3) aV) (aP (dE fj fq G.yaY fh (aP (ap 1) bd)) bd))) (a9 (gs (gb (lK hr.units) lA (eW dZ d7 (ap 1) (ap 5)) (eW dZ d7 (ap 1) (ap 6)) rfl) (a9 (qh 4 (bC dr dj (bC dr dj (bC dr dj (bC dr dj (fD fF fE (ap 0) jy (dA (ap 2))) (fD fF fE (ap 0) (dA (ap 3)) (dA (ap 6)))) (fD fF fE (ap 0) (dA (ap 5)) (dA (ap 3)))) (fD fF fE (ap 0) (dA (ap 2)) (dA (ap 5)))) (fD fF fE (ap 0) (dA (ap 6)) jy)))) gc))))))
  (a9 (mM 4)))))
theorem Qz:b_ ["text","row","found","start","again"] ["text","row"] (aZ AK):=by ac_nf
theorem NE(G:cR K mg base a):cr (ce P w) P w K mg base "exchanges" 2 ["text","row"] (b0 K (Aa a)) :=
 cW (k:=1) (pin:=[]) G.yan Qz rfl (λ_ _ _ _ _ _ us hl=>Pu.UI (λ_ _=>rfl) us hl) (λf aQ A outer s H E hr=>by exact
  (bh (jC 2 Qz.nd (kS bd))
  (bh (jY (i7 3 gR rfl Qz.nd (pU G.ya2 (aP (dE fj fq G.yaY fh (aP (ap 1) bd)) bd)) (a9 (i7 4 gR rfl Qz.nd (sq G.ya2 (aP (bC dr dj (ap 3) aV) (aP (dE fj fq G.yaY fh (aP (ap 1) bd)) bd))) (a9 (gs (gb (lK hr.units) lA (eW dZ d7 (ap 1) (ap 3)) (eW dZ d7 (ap 1) (ap 4)) rfl) (a9 (xV 2 ((bU (Sv G) (hr.mono (by decide)) jE (aI (ap 0) (aI (ap 1) (aI (ap 3) (aI (ap 4) bT)))))).de)) gc))))))
  (a9 (mM 2)))))
theorem Mt:b_ ["ring","width"] ["ring","width"] (aZ Bt):=by ac_nf
theorem Nu(G:cR K mg base a):cr (ce P w) P w K mg base "unrolled" 1 ["ring","width"] (b0 K (rO a)) :=
 cW (k:=0) (pin:=[]) G.yaP Mt rfl (λ_ _ _ _ _ _ us hl=>Pu.UI (λ_ _=>rfl) us hl) (λf aQ A outer s H E hr=>by exact
  (a9 (fU (fD fF fE (bC uR uF (ap 0) (ap 1)) jy (dA (bC iZ i4 (bC dr dj (dE fj fq G.yaY fh (aP (ap 0) bd)) (ap 1)) aV))))))
theorem M4:b_ ["text","row","width","ring"] ["text","row","width"] (aZ y4):=by ac_nf
theorem Oa(G:cR K mg base a):cr (ce P w) P w K mg base "turns" 2 ["text","row","width"] (b0 K (uX a)) :=
 cW (k:=1) (pin:=[]) G.yaO M4 rfl (λ_ _ _ _ _ _ us hl=>Pu.UU (λ_ _ _=>rfl) us hl) (λf aQ A outer s H E hr=>by exact
  (bh (gs (gb (mx hr.units) mO (eW dZ d7 (ap 1) aV) (eW dZ d7 (ap 1) (mK mE mR aV)) rfl) (a9 (uK (kS bd))) gc)
  (bh (eM 3 M4.nd (fD fF fE (ap 0) jy (dA (bC iZ i4 (dE fj fq G.yaY fh (aP (ap 1) bd)) aV))))
  (a9 (uK (mq (cap:=[3,2]) (N':=["place","ring","width"]) (mG.of ["text","row","width","ring"] (aZ y4) rfl rfl (by decide +kernel)) rfl (sq G.ya2 (aP aV (aP (dE fj fq G.yaY fh (aP (ap 3) bd)) bd))) (λC s₀ H₀ ex pn=>by exact oP) (λC s₀ H₀ ex pn=>by exact((bU (Nu G) (hr.mono (by decide)) jE (aI (bC dr dj (fD fF fE (ap 1) (dA (ap 0)) jy) (fD fF fE (ap 1) jy (dA (ap 0)))) (aI (ap 2) bT)))).de)))))))
theorem RY:b_ ["text","width","row"] ["text","width"] (aZ Cq):=by ac_nf
theorem BY(G:cR K mg base a):cr (ce P w) P w K mg base "one_step_off" 3 ["text","width"] (b0 K (kN a)) :=
 cW (k:=2) (pin:=[]) G.yaH RY rfl (λ_ _ _ _ _ _ us hl=>Pu.UI (λ_ _=>rfl) us hl) (λf aQ A outer s H E hr=>by exact
  (bh (eM 2 RY.nd ((bU (I_ G) (hr.mono (by decide)) cT (aI (ap 0) (aI (bC iZ i4 (ap 1) aV) bT)))).de)
  (a9 (uK (OG rfl (aP (bC dr dj ((bU (NE G) (hr.mono (by decide)) cT (aI (ap 0) (aI (ap 2) bT)))).de ((bU (Oa G) (hr.mono (by decide)) cT (aI (ap 0) (aI (ap 2) (aI (ap 1) bT))))).de) bd) (aP (o9 (aP (ap 0) bd)) bd) G.ya4 G.ya3)))))
theorem MR:b_ ["newest","width","number","far","added","text","other"] ["newest","width","number","far"] (aZ Ao):=by ac_nf
theorem Tu(G:cR K mg base a):cr (ce P w) P w K mg base "spread" 4 ["newest","width","number","far"] (b0 K (sU a)) :=
 cW (k:=3) (pin:=[3]) G.yaK MR rfl (λ_ _ _ _ _ _ us hl=>Pu.U6 (λ_ _ _ _=>rfl) us hl) (λf aQ A outer s H E hr=>by exact
  (bh (jC 4 MR.nd (kS bd))
  (bh (jY (i7 5 gR rfl MR.nd (jG (ap 0)) (a9 (i7 6 gR rfl MR.nd (jG ((bU (BY G) (hr.mono (by decide)) jE (aI (ap 5) (aI (ap 1) bT)))).de) (a9 (gs (GU 3 hr.units (ap 6)) (bh (vA 3 hr.units (ap 6) (bC dr dj (ap 2) aV))
  (a9 (qh 4 (ap 6)))) gc))))))
  (a9 (mM 4)))))
theorem Uq:b_ ["goal","start","width","near","far","newest","number"] ["goal","start","width"] (aZ xL):=by ac_nf
theorem Tw(G:cR K mg base a):cr (ce P w) P w K mg base "distances" 5 ["goal","start","width"] (b0 K (pX a)) :=
 cW (k:=4) (pin:=[]) G.yam Uq rfl (λ_ _ _ _ _ _ us hl=>Pu.UU (λ_ _ _=>rfl) us hl) (λf aQ A outer s H E hr=>by exact
  (bh (eM 3 Uq.nd ((bU (BY G) (hr.mono (by decide)) cT (aI (ap 1) (aI (ap 2) bT)))).de)
  (bh (jC 4 Uq.nd (Eu 0))
  (bh (eM 5 Uq.nd (o9 (aP (ap 0) bd)))
  (bh (eM 6 Uq.nd aV)
  (bh (jY (uP (λ_=>1000) gR (my (pq (dE (K7 rfl) Qr G.yaU Hn (aP (mq (cap:=[4]) (N':=["text","far"]) (mG.of ["goal","start","width","near","far","newest","number"] (aZ xL) rfl rfl (by decide +kernel)) rfl (jG (ap 3)) (λC s₀ H₀ ex pn=>by exact oP) (λC s₀ H₀ ex pn=>by exact(TD 1 hr.units (ap 0)))).de bd)))) (bh (eM 5 Uq.nd ((bU (Tu G) (hr.mono (by decide)) jE (aI (ap 5) (aI (ap 2) (aI (ap 6) (jV 4 bT)))))).de)
  (a9 (eM 6 Uq.nd (bC dr dj (ap 6) aV))))))
  (a9 (mM 4))))))))
theorem KH:b_ ["one","other","width","way","far","near"] ["one","other","width"] (aZ zf):=by ac_nf
theorem Ga(G:cR K mg base a):cr (ce P w) P w K mg base "road" 6 ["one","other","width"] (b0 K (oZ a)) :=
 RT (k:=5) (pin:=[]) G.yaS (by decide) G.yaJ KH rfl (λ_ _ _ _ _ _ us hl=>Pu.UU (λ_ _ _=>rfl) us hl) (λf aQ c T A outer s H E hr hL=>by exact
  (bh (rE (bU (RL G) (hr.mono (by decide)) cT (aI (ap 0) (aI (ap 1) (aI (ap 2) bT)))))
  (bh (jC 3 KH.nd (kS (aP (ap 0) bd)))
  (bh (gs (gb (lK hr.units) lA (ap 0) (ap 1) rfl) (a9 (mM 3)) gc)
  (bh (jC 4 KH.nd (((bU (Tw G) (hr.mono (by decide)) cT (aI (ap 1) (aI (ap 0) (aI (ap 2) bT))))).dn))
  (bh (jY (uP (λ_=>1000) gR (gb (mx hr.units) mO (vk 3 dZ d7 (mK mE mR aV)) (ap 1) rfl) (bh (Em 5 KH.nd (cap:=[4]) (N':=["text","far"]) (mG.of ["one","other","width","way","far","near"] (aZ zf) rfl rfl (by decide +kernel)) rfl (jG ((bU (BY G) (hr.mono (by decide)) jE (aI (vk 3 dZ d7 (mK mE mR aV)) (aI (ap 2) bT)))).de) (λC s₀ H₀ ex pn=>by exact yj (O4 1 hr.units (ap 0))) (λC s₀ H₀ ex pn=>by exact(ap 0)))
  (a9 (qh 3 (MZ 5 4 rfl hr.d1 (by first | exact hL | exact LamAt.nox hL) G.ya1))))))
  (a9 (mM 3))))))))
theorem MJ:b_ ["_law_text_here","_law_width"] ["_law_text_here","_law_width"] (aZ yQ):=by ac_nf
theorem RB(G:cR K mg base a):cr (ce P w) P w K mg base "_law_row" 1 ["_law_text_here","_law_width"] (b0 K (pZ a)) :=
 cW (k:=0) (pin:=[]) G.yaE MJ rfl (λ_ _ _ _ _ _ us hl=>Pu.UI (λ_ _=>rfl) us hl) (λf aQ A outer s H E hr=>by exact
  (a9 (uK (mq (cap:=[0,1]) (N':=["_law_at","_law_text_here","_law_width"]) (mG.of ["_law_text_here","_law_width"] (aZ yQ) rfl rfl (by decide +kernel)) rfl (pU G.ya2 (aP (bC dr dj (bC iZ i4 (dE fj fq G.yaY fh (aP (ap 0) bd)) (ap 1)) aV) bd)) (λC s₀ H₀ ex pn=>by exact oP) (λC s₀ H₀ ex pn=>by exact(fD fF fE (ap 1) (dA (ap 0)) (dA (bC iZ i4 (bC dr dj (ap 0) (ap 2)) aV))))))))
theorem Uo:b_ ["_law_text_here","_law_row_here","_law_j","_law_l","_law_made","_law_k","_law_i","_law_front"] ["_law_text_here","_law_row_here","_law_j","_law_l"] (aZ Cv):=by ac_nf
theorem QC(G:cR K mg base a):cr (ce P w) P w K mg base "_law_stretches" 1 ["_law_text_here","_law_row_here","_law_j","_law_l"] (b0 K (vF a)) :=
 cW (k:=0) (pin:=[]) G.yaF Uo rfl (λ_ _ _ _ _ _ us hl=>Pu.U6 (λ_ _ _ _=>rfl) us hl) (λf aQ A outer s H E hr=>by exact
  (bh (jC 4 Uo.nd (kS bd))
  (bh (jY (i7 5 gR rfl Uo.nd (sq G.ya2 (aP (ap 2) (aP (ap 3) bd))) (a9 (i7 6 gR rfl Uo.nd (pU G.ya2 (aP (ap 2) bd)) (a9 (gs (gb (lK hr.units) lA (eW dZ d7 (ap 1) (ap 6)) (eW dZ d7 (ap 1) (ap 5)) rfl) (bh (eM 7 Uo.nd (bC dr dj (fD fF fE (ap 0) jy (dA (ap 6))) (fD fF fE (ap 0) (dA (ap 5)) (dA (ap 3)))))
  (bh (eM 7 Uo.nd (bC dr dj (ap 7) (fD fF fE (ap 0) (dA (ap 2)) (dA (ap 5)))))
  (a9 (qh 4 (bC dr dj (bC dr dj (ap 7) (fD fF fE (ap 0) (dA (ap 6)) (dA (ap 2)))) (fD fF fE (ap 0) (dA (ap 3)) jy)))))) gc))))))
  (a9 (mM 4)))))
theorem Ph:b_ ["_law_text_here","_law_width","_law_row_here","_law_made","_law_l","_law_j","_law_ring"] ["_law_text_here","_law_width"] (aZ ve):=by ac_nf
theorem Gk(G:cR K mg base a):cr (ce P w) P w K mg base "_law_moved" 2 ["_law_text_here","_law_width"] (b0 K (mJ a)) :=
 cW (k:=1) (pin:=[]) G.yaC Ph rfl (λ_ _ _ _ _ _ us hl=>Pu.UI (λ_ _=>rfl) us hl) (λf aQ A outer s H E hr=>by exact
  (bh (eM 2 Ph.nd ((bU (RB G) (hr.mono (by decide)) cT (aI (ap 0) (aI (ap 1) bT)))).de)
  (bh (jC 3 Ph.nd (kS bd))
  (bh (jY (i7 4 gR rfl Ph.nd (pU G.ya2 (aP (dE fj fq G.yaY fh (aP (ap 2) bd)) bd)) (a9 (i7 5 gR rfl Ph.nd (pU G.ya2 (aP (ap 4) bd)) (a9 (gs (gb (lK hr.units) lA (eW dZ d7 (ap 2) (ap 5)) (eW dZ d7 (ap 2) (ap 4)) rfl) (a9 (xV 3 ((bU (QC G) (hr.mono (by decide)) jE (aI (ap 0) (aI (ap 2) (aI (ap 5) (aI (ap 4) bT)))))).de)) gc))))))
  (bh (gs (gb (lK hr.units) lA (eW dZ d7 (ap 2) aV) (eW dZ d7 (ap 2) (mK mE mR aV)) rfl) (bh (eM 6 Ph.nd (bC uR uF (fD fF fE (ap 0) jy (dA (bC iZ i4 (dE fj fq G.yaY fh (aP (ap 2) bd)) aV))) aV))
  (a9 (xV 3 (mq (cap:=[6,0]) (N':=["_law_at","_law_ring","_law_text_here"]) (mG.of ["_law_text_here","_law_width","_law_row_here","_law_made","_law_l","_law_j","_law_ring"] (aZ ve) rfl rfl (by decide +kernel)) rfl (sq G.ya2 (aP aV (aP (bC iZ i4 (dE fj fq G.yaY fh (aP (ap 2) bd)) aV) bd))) (λC s₀ H₀ ex pn=>by exact oP) (λC s₀ H₀ ex pn=>by exact(fD fF fE (ap 1) (dA (ap 0)) (dA (bC dr dj (ap 0) (dE fj fq G.yaY fh (aP (ap 2) bd))))))).de))) gc)
  (a9 (fU (AF rfl (aP (mq (cap:=[0]) (N':=["_law_other","_law_text_here"]) (mG.of ["_law_text_here","_law_width","_law_row_here","_law_made","_law_l","_law_j","_law_ring"] (aZ ve) rfl rfl (by decide +kernel)) rfl (jG (Ck 3)) (λC s₀ H₀ ex pn=>by exact yj (gb (mx hr.units) mO (ap 0) (ap 1) rfl)) (λC s₀ H₀ ex pn=>by exact(ap 0))).de bd) G.ya4 G.ya3).de)))))))
theorem QK:b_ ["_law_text_here","_law_width","_law_far","_law_level","_law_later","_law_here","_law_other"] ["_law_text_here","_law_width"] (aZ yO):=by ac_nf
theorem Pk(G:cR K mg base a):cr (ce P w) P w K mg base "_law_levels" 3 ["_law_text_here","_law_width"] (b0 K (vE a)) :=
 cW (k:=2) (pin:=[]) G.yaz QK rfl (λ_ _ _ _ _ _ us hl=>Pu.UI (λ_ _=>rfl) us hl) (λf aQ A outer s H E hr=>by exact
  (bh (jC 2 QK.nd (Eu 0))
  (bh (eM 3 QK.nd (o9 (aP (ap 0) bd)))
  (bh (jY (uP (λ_=>1000) gR (gb (mx hr.units) mO (ap 3) (o9 bd) rfl) (bh (jC 4 QK.nd (kS bd))
  (bh (i7 5 gR rfl QK.nd (jG (ap 3)) (a9 (xV 4 (mq (cap:=[2]) (N':=["_law_other","_law_far"]) (mG.of ["_law_text_here","_law_width","_law_far","_law_level","_law_later","_law_here","_law_other"] (aZ yO) rfl rfl (by decide +kernel)) rfl (jG ((bU (Gk G) (hr.mono (by decide)) jE (aI (ap 5) (aI (ap 1) bT)))).de) (λC s₀ H₀ ex pn=>by exact yj (GU 1 hr.units (ap 0))) (λC s₀ H₀ ex pn=>by exact(ap 0))).de)))
  (bh (i7 6 gR rfl QK.nd (jG (Ck 4)) (a9 (vA 2 hr.units (ap 6) (bC dr dj (uJ 2 hr.units (eW dZ d7 (ap 3) aV)) aV))))
  (a9 (eM 3 QK.nd (AF rfl (aP (ap 4) bd) G.ya4 G.ya3).de)))))))
  (a9 (mM 2))))))
theorem RC:b_ ["text","width"] ["text","width"] (aZ B8):=by ac_nf
theorem Sd(G:cR K mg base a):cr (ce P w) P w K mg base "view" 5 ["text","width"] (b0 K (qG a)) :=
 cW (k:=4) (pin:=[]) G.yaQ RC rfl (λ_ _ _ _ _ _ us hl=>Pu.UI (λ_ _=>rfl) us hl) (λf aQ A outer s H E hr=>by exact
  (a9 (xi (bU (BH G) (hr.mono (by decide)) cT (aI (ap 0) (aI (ap 1) bT))))))
theorem Uf:b_ ["one","other","width"] ["one","other","width"] (aZ BQ):=by ac_nf
theorem QU(G:cR K mg base a):cr (ce P w) P w K mg base "steps" 7 ["one","other","width"] (b0 K (uY a)) :=
 cW (k:=6) (pin:=[]) G.yaL Uf rfl (λ_ _ _ _ _ _ us hl=>Pu.UU (λ_ _ _=>rfl) us hl) (λf aQ A outer s H E hr=>by exact
  (a9 (fU (bC iZ i4 (dE fj fq G.yaY fh (aP ((bU (Ga G) (hr.mono (by decide)) cT (aI (ap 0) (aI (ap 1) (aI (ap 2) bT))))).de bd)) aV))))
def yaw(a:Ad):ak->R aH:=aE (cJ 1 (dL b8 (aB)))
 (aE (bt 2 (aU (aG (kz a) (gV (dV 0) (gO 1 (gV (dC (.int 9973)) (bN)))))))
 (aE (yv 3 4 (aU (aG (pW a) (gV (dV 0) (gO 1 (gV (dC (.int 2)) (gV (dC (.int 8)) (bN))))))))
 (aE (bt 5 (aU (aG (qy a) (gV (aU (aG (qG a) (gV (dV 3) (gV (dV 4) (bN))))) (bN)))))
 (aE (bt 6 (d2 a8 (dV 5) (d2 ge (dV 2) (dL br (aw (dV 5) (aB))))))
 (aE (bt 7 (aU (aG (oZ a) (gV (dV 3) (gV (dV 6) (gV (dV 4) (bN)))))))
 (aE (cJ 8 (kW (aG (vE a) (gV (dV 6) (gV (dV 4) (bN))))))
 (aE (dq (oK (dB (d2 (eqT ai) (d2 a8 (dV 7) (dC (.int 0))) (dV 3))) (oK (dB (d2 (eqT ai) (d2 a8 (dV 7) (d1 dU (dC (.int 1)))) (dV 6))) (dB (d2 (eqT ai) (aU (aG (uY a) (gV (dV 3) (gV (dV 6) (gV (dV 4) (bN)))))) (d2 cz (dL br (aw (dV 7) (aB))) (dC (.int 1))))))) (dS (dC (.bl ao))) (d9))
 (aE (cJ 9 (dL b8 (aw (dV 3) (aB))))
 (aE (λε=>cn (d4 (dB (d2 (eqT ai) (jq a8 9 (d1 dU (dC (.int 1)))) (dV 6))) (aE (bt 10 (dF (c9 [8,9] (cI (aU (aG (mJ a) (gV (jq a8 9 (d1 dU (dC (.int 1)))) (gV (dV 4) (bN)))))) (dB (d2 (eqT ao) (jD 1 (dV 0)) (d2 cz (jD 1 (jq a8 2 (d1 dU (dC (.int 1))))) (dC (.int 1))))) (dV 0))))
 (i9 9 (d2 a8 (dV 10) (dC (.int 0))))) 1000 ε))
 (dS (d2 (eqT ao) (dV 7) (dM 9))))))))))))
def uz(a:Ad):ak->R Slot:=bw 1 [] (bB 10 (yaw a))
theorem Pj:b_ ["_law_script","_law_town","_law_choice","_law_text_here","_law_width","_law_some","_law_other","_law_made","_law_back","_law_due","_law_near"] ["_law_script"] (aZ uj):=by ac_nf
theorem OY(G:cR K mg base a){f:af}{fd:g9}(Fn:oW K "law" "law" uj f fd):iM P w K mg base (ce P w) 15 f fd ["_law_script"] (b0 K (uz a)) :=
 N2 (k:=14) (pin:=[]) Fn Pj rfl (λ_ _ _ _ _ _ us hl=>Pu.UX (λ_=>rfl) us hl) (λf aQ A outer s H E hr=>by exact
  (bh (jC 1 Pj.nd (kS bd))
  (bh (eM 2 Pj.nd ((bU (ut G) (hr.mono (by decide)) cT (aI (ap 0) (jV 1 (aI aV bT))))).de)
  (bh (Ts 3 4 rfl Pj.nd ((bU (MF G) (hr.mono (by decide)) cT (aI (ap 0) (jV 1 (aI aV (aI aV bT)))))).de)
  (bh (eM 5 Pj.nd ((bU (Lo G) (hr.mono (by decide)) cT (aI ((bU (Sd G) (hr.mono (by decide)) cT (aI (ap 3) (aI (ap 4) bT)))).de bT))).de)
  (bh (eM 6 Pj.nd (eW dZ d7 (ap 5) (bC rN tf (ap 2) (dE fj fq G.yaY fh (aP (ap 5) bd)))))
  (bh (eM 7 Pj.nd ((bU (Ga G) (hr.mono (by decide)) cT (aI (ap 3) (aI (ap 6) (aI (ap 4) bT))))).de)
  (bh (jC 8 Pj.nd (((bU (Pk G) (hr.mono (by decide)) cT (aI (ap 6) (aI (ap 4) bT)))).dn))
  (bh (gs ((xw (gb (mx hr.units) mO (eW dZ d7 (ap 7) aV) (ap 3) rfl) (xw (gb (mx hr.units) mO (eW dZ d7 (ap 7) (mK mE mR aV)) (ap 6) rfl) (Am (gb (mx hr.units) mO ((bU (QU G) (hr.mono (by decide)) cT (aI (ap 3) (aI (ap 6) (aI (ap 4) bT))))).de (bC iZ i4 (dE fj fq G.yaY fh (aP (ap 7) bd)) aV) rfl))))).dt (a9 (fU yd)) gc)
  (bh (jC 9 Pj.nd (kS (aP (ap 3) bd)))
  (bh (jY (uP (λ_=>1000) gR (gb (mx hr.units) mO (vk 9 dZ d7 (mK mE mR aV)) (ap 6) rfl) (bh (Em 10 Pj.nd (cap:=[8,9]) (N':=["_law_one","_law_back","_law_due"]) (mG.of ["_law_script","_law_town","_law_choice","_law_text_here","_law_width","_law_some","_law_other","_law_made","_law_back","_law_due","_law_near"] (aZ uj) rfl rfl (by decide +kernel)) rfl (jG ((bU (Gk G) (hr.mono (by decide)) jE (aI (vk 9 dZ d7 (mK mE mR aV)) (aI (ap 4) bT)))).de) (λC s₀ H₀ ex pn=>by exact yj (gb (lK hr.units) lA (uJ 1 hr.units (ap 0)) (bC iZ i4 (uJ 1 hr.units (vk 2 dZ d7 (mK mE mR aV))) aV) rfl)) (λC s₀ H₀ ex pn=>by exact(ap 0)))
  (a9 (qh 9 (eW dZ d7 (ap 10) aV))))))
  (a9 (fU (yW (lK hr.units) lA (ap 7) (Ck 9) rfl))))))))))))))
end
end K18
namespace Mx
open L2 Pu
def cS:Tx:=[97,98,99]
def eN:Nat->List Tx
 | 0=>[[]]
 | k+1=>cS.flatMap λc=>(eN k).map (c::·)
theorem qj:∀ (k:Nat) (x:Tx),x∈eN k↔x.length=k/\∀ c∈x,c∈cS
 | 0,x=>by
  simp only[eN,hZ];constructor
  ·rintro rfl; simp
  ·rintro⟨h,_⟩; exact Dp.mp h
 | k+1,x=>by
  simp only[eN,wd,cM];constructor
  ·rintro⟨c,hc,y,hy,rfl⟩;obtain⟨h1,h2⟩:=(qj k y).mp hy;refine⟨by simp[h1],λd hd=>?_⟩;rcases ca.mp hd with rfl | hd
   ·exact hc
   ·exact h2 d hd
  ·rintro⟨h1,h2⟩;cases x with
   | nil=>cases h1
   | cons c y=>exact⟨c,h2 c (by simp),y,(qj k y).mpr ⟨zI h1,λd hd=>h2 d (by simp[hd])⟩,rfl⟩
theorem B9:∀ k:Nat,(eN k).length=3 ^ k
 | 0=>rfl
 | k+1=>by simp only[eN,cS,lY,Kd,cZ,cD,B9 k,tE,qS];lia
theorem OX(i j:Nat):eN (i+j)=(eN i).flatMap λh=>(eN j).map (h++·):=by
 induction i with
 | zero=>simp[eN]
 | succ i ih=>rw[show i+1+j=(i+j)+1 by lia];simp only[eN,ih,List.flatMap_assoc,List.map_flatMap,List.flatMap_map,eJ,JM,Dj]
theorem BZ:∀ k:Nat,(eN k).Pairwise (λa b=>a<b)
 | 0=>by simp[eN]
 | k+1=>by
  simp only[eN];rw[List.pairwise_flatMap];refine⟨λc _=>?_,?_⟩
  ·rw[C5];exact(BZ k).imp λh=>List.cons_lt_cons_iff.mpr (.inr ⟨rfl,h⟩)
  ·have:cS.Pairwise (λa b=>a<b):=by decide
   refine this.imp λh=>?_;intro x hx y hy;obtain⟨x',_,rfl⟩:=cM.mp hx;obtain⟨y',_,rfl⟩:=cM.mp hy;exact List.cons_lt_cons_iff.mpr (.inl h)
theorem KM{a b:Tx}(h:a<b):fL a b=ai:=by simp only[fL,decide_eq_true_eq];exact List.le_of_lt h
theorem Lg(k:Nat):(eN k).Pairwise (λa b=>fL a b=ai):=(BZ k).imp KM
theorem GR(k:Nat):(eN k).Nodup:=(BZ k).imp λh z=>by subst z; exact List.lt_irrefl _ h
def aY(z:Tx)(w:Nat):List Tx:=((bQ z.length).filter λi=>decide (i+w<=z.length)).map λi=>(z.drop i).take w
theorem G_(w L:Nat):∀ m:Nat,(bQ m).filter (λi=>decide (i+w<=L))=bQ (min m (L+1-w))
 | 0=>by simp
 | m+1=>by
  rw[tJ,Dn,G_ w L m];by_cases h:m+w<=L
  ·rw[show min m (L+1-w)=m by lia,show min (m+1) (L+1-w)=m+1 by lia,tJ];simp[h]
  ·rw[show min (m+1) (L+1-w)=min m (L+1-w) by lia];simp[h]
theorem nO(z:Tx)(w:Nat)(hw:1<=w):aY z w=(bQ (z.length+1-w)).map λi=>(z.drop i).take w:=by unfold aY;rw[G_,show min z.length (z.length+1-w)=z.length+1-w by lia]
def nw(w:Nat)(t:Tx):Tx->List Tx
 | []=>[]
 | c::s=>(t.drop (t.length+1-w)++[c])::nw w (t++[c]) s
theorem Iu(w:Nat)(hw:1<=w):∀ (s t:Tx),w<=t.length+1->nw w t s=(bQ s.length).map λi=>((t++s).drop (t.length+1-w+i)).take w
 | [],t,_=>by simp[nw]
 | c::s,t,h=>by
  rw[nw,Iu w hw s (t++[c]) (by simp; lia),eI,qO,eC,eJ];congr 1
  ·show _=((t++c::s).drop (t.length+1-w)).take w;rw[Ke ∅,List.take_append];have e1:(t.drop (t.length+1-w)).length=w-1:=by rw[j6]; lia
   rw[e1,lT (by rw[e1]; lia),show w-(w-1)=1 by lia];rfl
  ·refine gP λi _=>?_;simp only[qT];rw[cZ,pD,show t.length+1+1-w+i=t.length+1-w+Nat.succ i by lia];simp
theorem E5{w:Nat}(hw:1<=w){h s:Tx}(hh:h.length=w-1):aY (h++s) w=nw w h s:=by rw[nO _ _ hw,Iu w hw s h ∅,cZ,show h.length+s.length+1-w=s.length by lia];refine gP λi _=>?_;rw[show h.length+1-w+i=i by lia]
theorem FD{z:Tx}{w:Nat}{x:Tx}(hx:x∈aY z w):x.length=w/\∀ c∈x,c∈z:=by simp only[aY,cM,kA,nZ,decide_eq_true_eq]at hx;obtain⟨i,⟨_,h⟩,rfl⟩:=hx;exact⟨by rw[j5,j6]; lia,λc hc=>oD (j8 hc)⟩
def iQ(w:Nat):Nat->Tx->List Tx->List Tx
 | 0,t,_=>[t]
 | r+1,t,q=>cS.flatMap λc=>if t.drop (t.length+1-w)++[c]∈q then iQ w r (t++[c]) (q.erase (t.drop (t.length+1-w)++[c]))else []
theorem Er(w:Nat):∀ (r:Nat) (t:Tx) (q:List Tx),q.length=r->iQ w r t q=((eN r).filter λs=>(nw w t s).isPerm q).map (t++·)
 | 0,t,q,hq=>by have:q=[]:=Dp.mp hq;subst this;simp[iQ,eN,nw,List.isPerm]
 | r+1,t,q,hq=>by
  simp only[iQ,eN,List.filter_flatMap,List.map_flatMap];congr 1;funext c;rw[wc,eJ];by_cases h:t.drop (t.length+1-w)++[c]∈q
  ·rw[if_pos h,Er w r (t++[c]) _ (by rw[Kf h,hq]; rfl)];have e:((λs=>(nw w t s).isPerm q) ∘ λx=>c::x)=λs=>(nw w (t++[c]) s).isPerm (q.erase (t.drop (t.length+1-w)++[c])):=by funext s;show(q.contains (t.drop (t.length+1-w)++[c]) && (nw w (t++[c]) s).isPerm (q.erase (t.drop (t.length+1-w)++[c])))=_;rw[List.contains_iff_mem.mpr h,C1]
   rw[e];refine gP λs _=>?_;simp
  ·rw[if_neg h];have e:((λs=>(nw w t s).isPerm q) ∘ λx=>c::x)=λ_=>ao:=by
    funext s;show(q.contains (t.drop (t.length+1-w)++[c]) && (nw w (t++[c]) s).isPerm (q.erase (t.drop (t.length+1-w)++[c])))=_;have:q.contains (t.drop (t.length+1-w)++[c])=ao:=by rw[Bool.eq_false_iff]; intro z; exact h (List.contains_iff_mem.mp z)
    rw[this,Bool.false_and]
   rw[e];simp
def qb(w:Nat)(ls:List Tx):List Tx:=(bD (cf (ls.map qU))).flatMap λh=>iQ w ls.length h ls
theorem Pn{α β:Type}{l:List α}{f:α->List β}(p:α->Bool)(h:∀ x∈l,p x=ao->f x=[]):l.flatMap f=(l.filter p).flatMap f:=by
 induction l with
 | nil=>rfl
 | cons x l ih=>
  rw[lY,ih λy hy=>h y (by simp[hy]),pF];cases e:p x with
  | true=>simp
  | false=>rw[h x (by simp) e]; simp
theorem H_{w:Nat}{ls:List Tx}(hw:1<=w)(hn:1<=ls.length)(hl:∀ x∈ls,x.length=w/\∀ c∈x,c∈cS) : qb w ls=(eN (w-1+ls.length)).filter λz=>(aY z w).isPerm ls:=by
 rw[OX,List.filter_flatMap];have e1:(λh=>((eN ls.length).map (h++·)).filter λz=>(aY z w).isPerm ls)=λh=>((eN ls.length).filter λs=>(aY (h++s) w).isPerm ls).map (h++·):=by funext h;rw[wc]; rfl
 rw[e1,Pn (λh=>decide (h∈ls.map qU))]
 ·have e2:(eN (w-1)).filter (λh=>decide (h∈ls.map qU))=bD (cf (ls.map qU)):=by
   refine qx ?_ ((Lg (w-1)).filter _);refine(Kg ((GR (w-1)).filter _) (vC _)).mpr λx=>?_;rw[kA,decide_eq_true_eq,mI,qj];refine⟨λh=>h.2,λh=>⟨?_,h⟩⟩;obtain⟨y,hy,rfl⟩:=cM.mp h;obtain⟨h1,h2⟩:=hl y hy;exact⟨by rw[Df,h1],λc hc=>h2 c ((List.dropLast_sublist _).mem hc)⟩
  rw[e2];unfold qb;have:∀ l:List Tx,(∀ h∈l,h.length=w-1)->l.flatMap (λh=>iQ w ls.length h ls)=l.flatMap λh=>((eN ls.length).filter λs=>(aY (h++s) w).isPerm ls).map (h++·):=by
   intro l
   induction l with
   | nil=>intro _; rfl
   | cons h l ih=>
    intro hh;rw[lY,lY,ih λy hy=>hh y (by simp[hy]),Er w _ h ls rfl];have e3:(λs=>(nw w h s).isPerm ls)=λs=>(aY (h++s) w).isPerm ls:=by funext s; rw[E5 hw (hh h (by simp))]
    rw[e3]
  refine this _ λh hh=>?_;have hm:=(mI _ _).mp ((js _).mem_iff.mp hh);obtain⟨y,hy,rfl⟩:=cM.mp hm;rw[Df,(hl y hy).1]
 ·intro h hh hp;have cb:=((qj _ h).mp hh).1;rw[List.map_eq_nil_iff,List.filter_eq_nil_iff];intro s hs hq;have wX:=((qj _ s).mp hs).1;rw[E5 hw cb,Dq]at hq;cases s with
  | nil=>rw[tE]at wX; lia
  | cons c s=>rw[nw,show h.length+1-w=0 by lia,C3]at hq;have:h++[c]∈ls:=hq.mem_iff.mp (by simp);rw[decide_eq_false_iff_not]at hp;exact hp (cM.mpr ⟨_,this,by simp⟩)
end Mx
namespace Sh
open L2 Pu Mx
theorem gU{α:Type}{f:List PV->Option α}{ds:ak->R (List PV)}{ε ε1:ak}{xs:List PV}{v:α}(h:ds ε = .ok xs ε1)(hf:f xs=aa v):dL f ds ε = .ok v ε1:=by unfold dL; rw[h]; show aS (f xs) ε1=_; rw[hf]; rfl
theorem fK{d:ak->R PV}{ds:ak->R (List PV)}{ε ε1 ε2:ak}{x:PV}{xs:List PV}(h:d ε = .ok x ε1)(hs:ds ε1 = .ok xs ε2):aw d ds ε = .ok (x::xs) ε2:=by unfold aw; rw[h]; show(ds ε1).bind _=_; rw[hs]; rfl
theorem gT{ε:ak}:aB ε = .ok [] ε:=rfl
theorem jA(pv:PV)(ε:ak):dC pv ε = .ok pv ε:=rfl
theorem eO{f:PV->PV->Option PV}{da db:ak->R PV}{ε ε1 ε2:ak}{x y z:PV}(h:da ε = .ok x ε1)(h2:db ε1 = .ok y ε2)(hf:f x y=aa z):d2 f da db ε = .ok z ε2:=by unfold d2; rw[h]; show(db ε1).bind _=_; rw[h2]; show aS (f x y) ε2=_; rw[hf]; rfl
section
theorem Om{ls:List Tx}(h:ls.length<=1000000):ql [.lst (aj ls)]=aa (.lst (aj (bD ls))):=by show(gW (aj ls)).bind _=_;rw[pV,iD,if_pos h]
end
section
variable{a:Ad}
abbrev bG(ns:List Int):Slot:=.val (.lst (ns.map .int))
theorem IQ(ns:List Int)(k:Int)(h0:0<=k)(h:k<ns.length):∃ v,eh (ns.map PV.int) k=aa (.int v):=by
 have hk:k.toNat<ns.length:=∅
 refine⟨ns[k.toNat],?_⟩;rw[u8 h0 (by rw[cD]; exact hk)];simp
theorem eq_nil(ns:List Int):Pu.eqT ao (.lst (ns.map .int)) (.lst [])=aa (.bl ns.isEmpty):=by
 cases ns with
 | nil=>rfl
 | cons x xs=>
  have hd:∀ l:List Int,je (l.map .int)=0:=λl=>by induction l with | nil=>rfl | cons y l ih=>simp[je,ja,ih]
  have:je ((x::xs).map .int)=0:=hd _;simp only[eC]at this;simp[Pu.eqT,fI,cY,iu,ja,this]
theorem yx(neg:Bool)(i j:Int):Pu.eqT neg (.int i) (.int j)=aa (.bl (neg ^^ decide (i=j))):=by show(if qm (V.int i) (V.int j)then aa (PV.bl (neg ^^ decide (V.int i=V.int j)))else ae)=_;have:qm (V.int i) (V.int j)=ai:=rfl;rw[if_pos this];simp
theorem kT(neg:Bool)(x y:Tx):Pu.eqT neg (.str x) (.str y)=aa (.bl (neg ^^ decide (x=y))):=by show(if qm (tV x) (tV y)then aa (PV.bl (neg ^^ decide (tV x=tV y)))else ae)=_;have:qm (tV x) (tV y)=ai:=rfl;rw[if_pos this];have e:(tV x=tV y)=(x=y):=propext ⟨NP,λh=>by rw[h]⟩;simp only[e]
theorem Lu(ns:List Int)(k:Int)(h0:0<=k):∃ v,su a [bG ns,.val (.int k)] = .ok (.val (.int v)) [bG ns,.val (.int k)]:=by
 by_cases h:k<ns.length
 ·obtain⟨v,hv⟩:=IQ ns k h0 h;refine⟨v,?_⟩;simp![su,yax,br,a8,hv,h]
 ·have e:=eq_nil ns;by_cases hn:ns=[]
  ·subst hn;refine⟨0,?_⟩;simp only[vS,Kh]at e;have h':¬ k<0:=∅
   simp![su,yax,br,a8,e,h']
  ·have hpos:0<ns.length:=by cases ns with | nil=>exact absurd rfl hn | cons=>simp
   obtain⟨v,hv⟩:=IQ ns (k % ns.length) (v9 _ ∅) (zN _ ∅);refine⟨v * 31+k,?_⟩;have e2:ns.isEmpty=ao:=by cases ns with | nil=>exact absurd rfl hn | cons=>rfl
   rw[e2]at e;have hm:ge (.int k) (.int (ns.length:Int))=aa (.int (k % ns.length)):=by simp[ge]; lia
   have hmul:iS (.int v) (.int 31)=aa (.int (v * 31)):=by simp[iS,vn]
   simp![su,yax,br,a8,h,e,hm,hv,hmul,aL]
theorem OZ(ns:List Int)(k m:Int)(h0:0<=k)(hm:0<m):∃ v,0<=v/\v<m/\y6 a [bG ns,.val (.int k),.val (.int m)] = .ok (.val (.int v)) [bG ns,.val (.int k),.val (.int m)]:=by
 obtain⟨c,hc⟩:=Lu (a:=a) ns k h0;have d0:0<=(c * 1103515245+7919 * k+12345) % 2147483647:=v9 _ (by decide);have d1:(c * 1103515245+7919 * k+12345) % 2147483647<2147483647:=zN _ (by decide);have m1:iS (.int c) (.int 1103515245)=aa (.int (c * 1103515245)):=by simp[iS,vn]
 have m2:iS (.int 7919) (.int k)=aa (.int (7919 * k)):=by simp[iS,vn]
 have m3:ge (.int (c * 1103515245+7919 * k+12345)) (.int 2147483647)=aa (.int ((c * 1103515245+7919 * k+12345) % 2147483647)):=by simp[ge]
 generalize (c * 1103515245+7919 * k+12345) % 2147483647=d at d0 d1 m3;have m4:uI (.int d) (.int 5)=aa (.int (d ^ 5)):=by
  have:d.natAbs<2 ^ 64:=∅
  simp[uI,this]
 have m5:ge (.int (d ^ 5)) (.int 2147483647)=aa (.int (d ^ 5 % 2147483647)):=by simp[ge]
 generalize d ^ 5 % 2147483647=d5 at m5;have m6:ge (.int d5) (.int 999983)=aa (.int (d5 % 999983)):=by simp[ge]
 generalize d5 % 999983=d6 at m6;have m7:ge (.int d6) (.int m)=aa (.int (d6 % m)):=by simp[ge,hm]
 refine⟨d6 % m,v9 _ ∅,zN _ hm,?_⟩;simp![y6,yaB,hc,m1,m2,m3,m4,m5,m6,m7,aL]
theorem vz(ns:List Int)(xs:List PV)(m:Int)(hm:0<m)(hx:xs.length<=1000):∃ v,0<=v/\v<m/\kz a [bG ns,.own (.lst xs),.val (.int m)] = .ok (.val (.int v)) [bG ns,.own (.lst (xs++[.int 0])),.val (.int m)]:=by
 obtain⟨v,v0,v1,hv⟩:=OZ (a:=a) ns ((xs.length:Int)+1) m ∅ hm;refine⟨v,v0,v1,?_⟩;have wE:xs.length<bI:=by unfold bI; lia
 simp![kz,yay,br,wE,hv]
theorem FU{α:Type}(ps:List α)(v:Int)(h0:0<=v)(h1:v<ps.length):∃ x∈ps,eh ps v=aa x:=by
 have hk:v.toNat<ps.length:=∅
 exact⟨ps[v.toNat],C7 _,u8 h0 hk⟩
theorem BR(ns:List Int)(xs ps:List PV)(hx:xs.length<=1000)(hp:0<ps.length):∃ x∈ps,lF a [bG ns,.own (.lst xs),.val (.lst ps)] = .ok (.val x) [bG ns,.own (.lst (xs++[.int 0])),.val (.lst ps)]:=by obtain⟨v,v0,v1,hv⟩:=vz (a:=a) ns xs (ps.length:Nat) ∅ hx;obtain⟨x,hm,pN⟩:=FU ps v v0 v1;refine⟨x,hm,?_⟩;simp![lF,yaD,br,a8,hv,pN]
theorem yN{n:Nat}(h:n<=1000000):ir [.int n]=aa (fZ 0 n):=by show(if(n:Int)<=1000000/\-1000000<=(n:Int)then aa (fZ 0 (n:Int).toNat)else ae)=_;rw[if_pos ⟨∅,∅⟩]; simp
theorem kr{x y:Tx}(h:x.length+y.length<=bI):aL (.str x) (.str y)=aa (.str (x++y)):=by show(if(x++y).length<=bI then aa (PV.str (x++y))else ae)=_;rw[if_pos (by rw[cZ]; exact h)]
theorem cm{d1 d2:ak->R aH}{ε ε1:ak}(h:d1 ε = .ok .next ε1):aE d1 d2 ε=d2 ε1:=by unfold aE; rw[h]
theorem lc{i:Nat}{d:ak->R PV}{ε ε1:ak}{x:PV}(h:d ε = .ok x ε1):bt i d ε = .ok .next (ε1.set i (.val x)):=by unfold bt; rw[h]; rfl
theorem Ft{i:Nat}{db:ak->R aH}{I:Nat->ak->Prop}{N:Nat}(step:∀ k ε x,k<N->I k ε->∃ ε',db (ε.set i (.val x)) = .ok .next ε'/\I (k+1) ε'):∀ (xs:List PV) (k:Nat) (ε:ak),k+xs.length<=N->I k ε->∃ ε',eX i db xs ε = .ok .next ε'/\I (k+xs.length) ε'
 | [],k,ε,_,h=>⟨ε,rfl,h⟩
 | x::xs,k,ε,hk,h=>by simp only[eI]at hk;obtain⟨ε1,e1,h1⟩:=step k ε x ∅ h;obtain⟨ε2,e2,h2⟩:=Ft step xs (k+1) ε1 ∅ h1;refine⟨ε2,by unfold eX; rw[e1]; exact e2,?_⟩;rw[eI,show k+(xs.length+1)=k+1+xs.length by lia]; exact h2
theorem y9{i:Nat}{db:ak->R aH}{I:List PV->ak->Prop}(step:∀ (x:PV) (r:List PV) ε,I (x::r) ε->∃ ε',db (ε.set i (.val x)) = .ok .next ε'/\I r ε'):∀ (xs:List PV) (ε:ak),I xs ε->∃ ε',eX i db xs ε = .ok .next ε'/\I [] ε'
 | [],ε,h=>⟨ε,rfl,h⟩
 | x::xs,ε,h=>by obtain⟨ε1,e1,h1⟩:=step x xs ε h;obtain⟨ε2,e2,h2⟩:=y9 step xs ε1 h1;exact⟨ε2,by unfold eX; rw[e1]; exact e2,h2⟩
theorem Qc(ns:List Int)(xs:List PV)(low most:Nat)(hlm:low<=most)(hm:most<=100)(hx:xs.length<=500) : ∃ (z:Tx) (ys:List PV),low<=z.length/\z.length<=most/\(∀ c∈z,c∈cS)/\ys.length<=xs.length+2+most /\ oQ a [bG ns,.own (.lst xs),.val (.int low),.val (.int most)] = .ok (.val (.str z)) [bG ns,.own (.lst ys),.val (.int low),.val (.int most)]:=by
 obtain⟨f,hf,hp⟩:=BR (a:=a) ns xs [.int 1,.int 2,.int 2,.int 3,.int 3,.int 3] ∅ (by decide);obtain⟨few,rfl,f0,f1⟩:∃ few:Int,f = .int few/\0<few/\few<=3:=by simp only[ca,kD,or_false]at hf;rcases hf with rfl | rfl | rfl | rfl | rfl | rfl <;> exact⟨_,rfl,by decide,by decide⟩
 obtain⟨m,m0,m1,hd⟩:=vz (a:=a) ns (xs++[.int 0]) ((most:Int)-low+1) ∅ (by simp; lia);obtain⟨n,hn⟩:∃ n:Nat,(low:Int)+m=n:=⟨(low+m).toNat,∅⟩
 have hr:ir [.int ((low:Int)+m)]=aa (fZ 0 n):=by rw[hn];exact yN ∅
 have cb:(fZ 0 n).length=n:=by simp[fZ]
 obtain⟨ε',e1,ys,z,s6,rfl,hz,hy,D6⟩:=Ft (i:=6) (db:=bt 5 (d2 aL (dV 5) (d2 a8 (dC (.str [97,98,99])) (aU (aG (kz a) (gV (dV 0) (gO 1 (gV (dV 4) (Pu.bN)))))))))
  (I:=λk ε=>∃ ys z s6,ε=[bG ns,.own (.lst ys),.val (.int low),.val (.int most),.val (.int few),.val (.str z),s6]/\z.length=k/\ys.length<=xs.length+2+k/\∀ c∈z,c∈cS) (N:=n)
  (by
   rintro k ε x hk ⟨ys,z,s6,rfl,hz,hy,D6⟩;obtain⟨v,v0,v1,hv⟩:=vz (a:=a) ns ys few f0 ∅;obtain⟨c,hc,hc2⟩:=FU cS v v0 (by simp[cS]; lia);refine⟨[bG ns,.own (.lst (ys++[.int 0])),.val (.int low),.val (.int most),.val (.int few),.val (.str (z++[c])),.val x],?_,ys++[.int 0],z++[c],.val x,rfl,by simp[hz],by simp; lia,λd hd=>?_⟩
   ·have hc3:a8 (.str [97,98,99]) (.int v)=aa (.str [c]):=by
     show(eh cS v).map _=_;rw[hc2]; rfl
    have l9:aL (.str z) (.str [c])=aa (.str (z++[c])):=kr (by simp[bI]; lia);simp![hv,hc3,l9]
   ·simp only[eY,hZ]at hd;rcases hd with hd | rfl
    ·exact D6 d hd
    ·exact hc)
  (fZ 0 n) 0 [bG ns,.own (.lst (xs++[.int 0]++[.int 0])),.val (.int low),.val (.int most),.val (.int few),.val (.str []),.none] ∅ ⟨xs++[.int 0]++[.int 0],[],.none,rfl,rfl,by simp,by simp⟩
 refine⟨z,ys,∅,∅,D6,∅,?_⟩;have j9:cz (.int most) (.int low)=aa (.int ((most:Int)-low)):=rfl;have ha1:aL (.int ((most:Int)-low)) (.int 1)=aa (.int ((most:Int)-low+1)):=rfl;have ha2:aL (.int low) (.int m)=aa (.int ((low:Int)+m)):=rfl;simp only[gx,Dj,eV]at e1;simp![oQ,yaG,hp,j9,ha1,ha2,hd,cE,hr,cn,e1]
theorem ko{cap:List Nat}{dt:ak->R Bool}{de:ak->R PV}{ε:ak}(p:PV->Bool)(f:PV->PV):∀ (xs:List PV),(∀ x∈xs,cX (dX cap dt x ε) = .ok (p x) ε/\(p x=ai->cX (dX cap de x ε) = .ok (f x) ε))->∀ au,kY cap dt de xs au ε = .ok (au++(xs.filter p).map f) ε
 | [],_,au=>by simp[kY]
 | x::xs,h,au=>by
  have h1:=h x (by simp);have ih:=ko p f xs (λy hy=>h y (by simp[hy]));unfold kY;rw[h1.1];simp only[R.bind_ok];cases hp:p x with
  | false=>simp only[ih au,pF,hp]; simp
  | true=>simp only[h1.2 hp,R.bind_ok,ih (au++[f x]),pF,hp]; simp
theorem GM{z:Tx}{i w:Nat}(h:i+w<=z.length):ez z (aa (i:Int)) (aa ((i:Int)+w))=(z.drop i).take w:=by
 unfold ez;have e1:HT.sIx z.length 0 (aa (i:Int))=i:=by rw[HT.sIx_nat]; lia
 have e2:HT.sIx z.length z.length (aa ((i:Int)+w))=i+w:=by rw[show(i:Int)+w=((i+w:Nat):Int) by lia,HT.sIx_nat]; lia
 rw[e1,e2,we]
theorem Ec{z:Tx}{w:Nat}:∀ x∈aY z w,x.length=w/\∀ c∈x,c∈z:=by intro x hx;simp only[aY,cM,kA,nZ,decide_eq_true_eq]at hx;obtain⟨i,⟨_,h⟩,rfl⟩:=hx;exact⟨by rw[j5,j6]; lia,λc hc=>oD (j8 hc)⟩
theorem RO{z:Tx}{w m:Nat}(hw:1<=w)(h1:w<=z.length)(h2:z.length<=w+m):1<=(aY z w).length/\(aY z w).length<=m+1:=by
 unfold aY;rw[cD];have:∀ n,((bQ n).filter λi=>decide (i+w<=z.length)).length=min n (z.length+1-w):=by
  intro n
  induction n with
  | zero=>simp
  | succ n ih=>
   rw[tJ,Dn,cZ,ih];by_cases h:n+w<=z.length
   ·simp[List.filter,h]; lia
   ·simp[List.filter,h]; lia
 rw[this];lia
structure Good(l:Tx)(w:Nat)(ls:List Tx):Prop where
 len:∀ x∈ls,x.length=w
 abc:∀ x∈ls,∀ c∈x,c∈l
 some:1<=ls.length
 few:ls.length<=9
theorem Good.perm{l:Tx}{w:Nat}{ls ms:List Tx}(g:Good l w ls)(p:ms.Perm ls):Good l w ms:=⟨λx h=>g.len x (p.mem_iff.mp h),λx h=>g.abc x (p.mem_iff.mp h),by rw[p.length_eq]; exact g.some,by rw[p.length_eq]; exact g.few⟩
theorem gq(ls:List Tx):(aj ls).length=ls.length:=by simp[aj]
theorem IE{n:Nat}{v:Int}(h0:0<=v)(h1:v<n):jv n v=aa v.toNat:=by unfold jv; rw[if_pos h0,if_pos h1]
theorem vB(ls ms:List Tx):aj ls++aj ms=aj (ls++ms):=by simp[aj]
theorem F7{α:Type}(xs:List α)(n:Nat):ez xs ae (aa (n:Int))=xs.take n:=by
 unfold ez;have e1:HT.sIx xs.length 0 ae=0:=rfl;rw[e1,HT.sIx_nat,C3,Nat.sub_zero];by_cases h:n<=xs.length
 ·rw[zR h]
 ·rw[Ki ∅,lT (bo _),lT ∅]
theorem G5{α:Type}(xs:List α)(n:Nat):ez xs (aa (n:Int)) ae=xs.drop n:=by
 unfold ez;have e2:HT.sIx xs.length xs.length ae=xs.length:=rfl;rw[e2,HT.sIx_nat];by_cases h:n<=xs.length
 ·rw[zR h,lT (by rw[j6]; lia)]
 ·rw[Ki ∅,Dr ∅,Dr ∅]; simp
theorem qi{t T:String}{b:Bool}{x:PV}(h:vx x=aa t)(e:j3 [] (.type t) (.type T)=aa b):jd [x,.raw (.ty T)]=aa (.bl b):=by show((vx x).bind λt=>(j3 [] (.type t) (.type T)).map λb=>PV.bl b)=_;rw[h,iD,e]; rfl
theorem P8:j3 [] (.type "int") (.type "int")=aa ai:=by decide +kernel
theorem R5:j3 [] (.type "int") (.type "bool")=aa ao:=by decide +kernel
theorem GX:j3 [] (.type "str") (.type "str")=aa ai:=by decide +kernel
theorem Ar:j3 [] (.type "tuple") (.type "tuple")=aa ai:=by decide +kernel
theorem E1(bs:List Bool):kM (bs.map .bl)=aa bs:=by
 induction bs with
 | nil=>rfl
 | cons b bs ih=>show(kM (bs.map .bl)).map (b::·)=_; rw[ih]; rfl
theorem FZ(bs:List Bool):u6 [.lst (bs.map .bl)]=aa (.bl (bs.all id)):=by show(kM (bs.map .bl)).map _=_;rw[E1]; rfl
theorem GF(z s:Tx):vp a [.val (.str z),.val (.str s)] = .ok (.val (.bl (z.all s.contains))) [.val (.str z),.val (.str s)]:=by
 have hc:=ko (cap:=[1]) (dt:=dW) (de:=(d2 (rQ ao) (dV 0) (dV 1))) (ε:=[.val (.str z),.val (.str s)]) (λ_=>ai) (λx=>match x with | .str [c]=>.bl (s.contains c) | _=>.non) (z.map λc=>.str [c])
  (by
   intro x hx;obtain⟨c,_,rfl⟩:=cM.mp hx;refine⟨by simp![dX,dR,cX,dW],λ_=>?_⟩;have e_:rQ ao (.str [c]) (.str s)=aa (.bl (s.contains c)):=by rw[← LM]; simp[rQ]
   simp![dX,dR,cX,e_]) []
 have he:((z.map λc=>PV.str [c]).filter (λ_=>ai)).map (λx=>match x with | .str [c]=>PV.bl (s.contains c) | _=>.non)=(z.map s.contains).map .bl:=by rw[oC.mpr (by simp),eJ,eJ]; rfl
 rw[eV,he]at hc;have ka:(z.map s.contains).all id=z.all s.contains:=by rw[CY]; rfl
 generalize z.map s.contains=bs at hc ka;have ha:=FZ bs;rw[ka]at ha;simp![vp,yap,c9,cI,nS,hc,ha]
def kh(w:Int)(s z:Tx):Bool:=decide ((z.length:Int)=w) && z.all s.contains
theorem Mi(z s:Tx)(w:Int):sN a [.val (.str z),.val (.int w),.val (.str s)] = .ok (.val (.bl (kh w s z))) [.val (.str z),.val (.int w),.val (.str s)]:=by
 have h1:jd [.str z,.raw (.ty "str")]=aa (.bl ai):=qi rfl GX;have hh:=GF (a:=a) z s;have hl:br [.str z]=aa (.int (z.length:Nat)):=rfl;have he:=yx ao (z.length:Nat) w;unfold kh;by_cases h:((z.length:Nat):Int)=w
 ·simp only[h,decide_true,Bool.xor_true,Bool.not_false]at he;simp![sN,yav,h1,hl,he,hh,h]
 ·simp only[h,decide_false,Bool.xor_false]at he;simp![sN,yav,h1,hl,he,h]
theorem EI(ls ms:List Tx):iu (aj ls) (aj ms)=aa (decide (ls=ms)):=by
 induction ls generalizing ms with
 | nil=>cases ms <;> simp[aj,iu]
 | cons x ls ih=>
  cases ms with
  | nil=>simp[aj,iu]
  | cons y ms=>
   show(cY (.str x) (.str y)).bind (λa=>(iu (aj ls) (aj ms)).map λb=>a && b)=_;rw[ih];have:cY (.str x) (.str y)=aa (decide (x=y)):=by
    show aa (tS x == tS y)=_;by_cases h:x=y
    ·subst h; simp
    ·have:tS x≠tS y:=λz=>h (p7 z);simp[h,this]
   rw[this];simp[wa]
theorem EY(ls:List Tx):je (aj ls)=0:=by
 induction ls with
 | nil=>rfl
 | cons x ls ih=>show max (ja (.str x)) (je (aj ls))=0; rw[ih]; rfl
theorem B_(neg:Bool)(ls ms:List Tx):Pu.eqT neg (.lst (aj ls)) (.lst (aj ms))=aa (.bl (neg ^^ decide (ls=ms))):=by show(if ja (.lst (aj ls))<=8 then(iu (aj ls) (aj ms)).map (λk=>PV.bl (neg ^^ k))else ae)=_;rw[if_pos (by show je (aj ls)+1<=8; rw[EY]; decide),EI]; rfl
theorem MB(ls:List Tx)(w:Int)(s:Tx)(h1:1<=ls.length)(h9:ls.length<=9) : o4 a [.val (.tup (aj ls)),.val (.int w),.val (.str s)] = .ok (.val (.bl (ls.all (kh w s) && decide (ls=bD ls)))) [.val (.tup (aj ls)),.val (.int w),.val (.str s)]:=by
 have k1:jd [.tup (aj ls),.raw (.ty "tuple")]=aa (.bl ai):=qi rfl Ar;have hl:br [.tup (aj ls)]=aa (.int (ls.length:Nat)):=by simp[br,gq]
 have c1:(1:Int)<=(ls.length:Nat):=∅
 have c2:((ls.length:Nat):Int)<=9:=∅
 have hc:=ko (cap:=[1,2]) (dt:=dW) (de:=(aU (aG (sN a) (gV (dV 0) (gV (dV 1) (gV (dV 2) (Pu.bN))))))) (ε:=[.val (.tup (aj ls)),.val (.int w),.val (.str s)]) (λ_=>ai) (λx=>match x with | .str z=>.bl (kh w s z) | _=>.non) (aj ls)
  (by intro x hx;obtain⟨z,_,rfl⟩:=cM.mp hx;refine⟨by simp![dX,dR,cX,dW],λ_=>?_⟩;have hw:=Mi (a:=a) z s w;simp![dX,dR,cX,hw]) []
 have he:((aj ls).filter (λ_=>ai)).map (λx=>match x with | .str z=>PV.bl (kh w s z) | _=>.non)=(ls.map (kh w s)).map .bl:=by rw[oC.mpr (by simp)];unfold aj;rw[eJ,eJ]; rfl
 rw[eV,he]at hc;have ka:(ls.map (kh w s)).all id=ls.all (kh w s):=by rw[CY]; rfl
 generalize ls.map (kh w s)=bs at hc ka;have ha:=FZ bs;have iX:ls.length<=1000000:=∅
 have ri:=B_ ao ls (bD ls);cases hb:ls.all (kh w s)with
 | false=>rw[ka,hb]at ha;simp![o4,yag,k1,hl,c1,c2,c9,cI,nS,hc,ha]
 | true=>rw[ka,hb]at ha;simp only[lr]at ri;simp![o4,yag,k1,hl,c1,c2,c9,cI,nS,hc,ha,yu,ql,pV,iX,ri]
theorem TW(ls:List Tx)(w:Int)(s:Tx)(h9:ls.length=0\/9<ls.length):o4 a [.val (.tup (aj ls)),.val (.int w),.val (.str s)] = .ok (.val (.bl ao)) [.val (.tup (aj ls)),.val (.int w),.val (.str s)]:=by
 have k1:jd [.tup (aj ls),.raw (.ty "tuple")]=aa (.bl ai):=qi rfl Ar;have hl:br [.tup (aj ls)]=aa (.int (ls.length:Nat)):=by simp[br,gq]
 by_cases c1:(1:Int)<=(ls.length:Nat)
 ·have c2:¬ ((ls.length:Nat):Int)<=9:=∅
  simp![o4,yag,k1,hl,c1,c2]
 ·simp![o4,yag,k1,hl,c1]
theorem RU(i:Int):xl a [.val (.int i)] = .ok (.val (.bl ai)) [.val (.int i)]:=by have h1:jd [.int i,.raw (.ty "int")]=aa (.bl ai):=qi rfl P8;have h2:jd [.int i,.raw (.ty "bool")]=aa (.bl ao):=qi rfl R5;simp![xl,yat,h1,h2]
theorem FF(i:Int):qC a [.val (.int i)] = .ok (.val (.bl (decide (1<=i/\i<=4)))) [.val (.int i)]:=by
 have h:=RU (a:=a) i;by_cases c1:1<=i
 ·by_cases c2:i<=4
  ·simp![qC,yau,h,c1,c2]
  ·simp![qC,yau,h,c1,c2]
 ·simp![qC,yau,h,c1]
def ux(s:Tx)(w:Int)(ls:List Tx):Bool:=decide (1<=w/\w<=4) && (decide (1<=ls.length/\ls.length<=9) && (ls.all (kh w s) && decide (ls=bD ls)))
theorem Ua(s:Tx)(w:Int)(ls:List Tx):sA a [.val (.tup [.int w,.tup (aj ls)]),.val (.str s)] = .ok (.val (.bl (ux s w ls))) [.val (.tup [.int w,.tup (aj ls)]),.val (.str s)]:=by
 have k1:jd [.tup [.int w,.tup (aj ls)],.raw (.ty "tuple")]=aa (.bl ai):=qi rfl Ar;have hl:br [.tup [.int w,.tup (aj ls)]]=aa (.int 2):=rfl;have e2:=yx ai 2 2;simp only[decide_true,tX,zO]at e2;have i0:a8 (.tup [.int w,.tup (aj ls)]) (.int 0)=aa (.int w):=rfl;have i1:a8 (.tup [.int w,.tup (aj ls)]) (.int 1)=aa (.tup (aj ls)):=rfl;have hw:=FF (a:=a) w;unfold ux;by_cases c:1<=w/\w<=4
 ·rw[decide_eq_true c]at hw ⊢;by_cases c2:1<=ls.length/\ls.length<=9
  ·have hh:=MB (a:=a) ls w s c2.1 c2.2;rw[decide_eq_true c2];simp![sA,yas,k1,hl,e2,i0,i1,hw,hh]
  ·have hh:=TW (a:=a) ls w s ∅;rw[decide_eq_false c2];simp![sA,yas,k1,hl,e2,i0,i1,hw,hh]
 ·rw[decide_eq_false c]at hw ⊢;simp![sA,yas,k1,hl,e2,i0,i1,hw]
abbrev vw(w:Int)(ls:List Tx):Bool:=ux cS w ls
theorem ND(w:Int)(ls:List Tx):yy a [.val (.tup [.int w,.tup (aj ls)])] = .ok (.val (.bl (vw w ls))) [.val (.tup [.int w,.tup (aj ls)])]:=by have hv:=Ua (a:=a) cS w ls;simp only[cS]at hv;simp![yy,yar,hv];rfl
theorem RD{w:Int}{ls:List Tx}(h:vw w ls=ai):xN a [.val (.tup [.int w,.tup (aj ls)])] = .ok (.val .non) [.val (.tup [.int w,.tup (aj ls)])]:=by have hv:=ND (a:=a) w ls;rw[h]at hv;simp![xN,yaj,hv]
theorem Good.vw{w:Nat}{ls:List Tx}(g:Good cS w ls)(w1:1<=w)(w4:w<=4)(hs:ls.Pairwise (λa b=>fL a b=ai)):vw w ls=ai:=by
 have e1:ls.all (kh w cS)=ai:=by rw[vZ];intro x hx;unfold kh;rw[g.len x hx,decide_eq_true rfl,C1,vZ];intro c hc;simpa using g.abc x hx c hc
 have e2:decide (ls=bD ls)=ai:=decide_eq_true (Rz hs).symm;show ux cS w ls=ai;unfold ux;rw[e1,e2,decide_eq_true (show 1<=(w:Int)/\(w:Int)<=4 by lia),decide_eq_true (show 1<=ls.length/\ls.length<=9 from⟨g.some,g.few⟩)];rfl
end
def bn(m:List (Tx×Int))(x:Tx):Option Int:=(m.find? λp=>decide (p.1=x)).map (·.2)
def cQ(m:List (Tx×Int))(x:Tx)(n:Int):List (Tx×Int):=if(m.any λp=>decide (p.1=x))=ai then m.map (λp=>if p.1=x then(p.1,n)else p)else m++[(x,n)]
def dk(m:List (Tx×Int)):List (aJ×PV):=m.map λp=>(Sum.inr (tS p.1),PV.int p.2)
theorem Ci(x y:Tx):((Sum.inr (tS x):aJ)=Sum.inr (tS y))=(x=y):=propext ⟨λh=>p7 (Sum.inr.inj h),λh=>by rw[h]⟩
theorem rJ(m:List (Tx×Int))(x:Tx):kQ (dk m) (Sum.inr (tS x))=(bn m x).map .int:=by
 induction m with
 | nil=>rfl
 | cons p m ih=>
  show((List.find? _ ((Sum.inr (tS p.1),PV.int p.2)::dk m)).map (·.2))=_;unfold bn;rw[fX,fX];simp only[Ci];by_cases h:p.1=x
  ·simp[h]
  ·simp only[h,decide_false]; exact ih
theorem Tb(m:List (Tx×Int))(x:Tx):((dk m).any λkv=>decide (kv.1=(Sum.inr (tS x):aJ)))=m.any λp=>decide (p.1=x):=by unfold dk;rw[De];congr 1;funext p;simp only[qT,Ci]
theorem xC(m:List (Tx×Int))(x:Tx)(n:Int):rT (dk m) (Sum.inr (tS x)) (.int n)=dk (cQ m x n):=by
 unfold rT cQ;rw[Tb];split
 ·unfold dk;rw[eJ,eJ];refine gP λp _=>?_;simp only[qT,Ci];split <;> rfl
 ·unfold dk; simp
theorem Hw(m:List (Tx×Int)):qt (dk m)=aa (m.any λp=>decide (p.2≠0)):=by
 induction m with
 | nil=>rfl
 | cons p m ih=>show(qt (dk m)).map _=_;rw[ih]; simp
theorem xm{m:List (Tx×Int)}{x:Tx}(h:(m.any λp=>decide (p.1=x))=ao):bn m x=ae:=by unfold bn;rw[Option.map_eq_none_iff,zM];intro p hp;have:=JB.mp h p hp;simpa using this
theorem Gh{m:List (Tx×Int)}{x y:Tx}{n:Int}(h:(m.any λp=>decide (p.1=x))=ao):bn (m++[(x,n)]) y=if y=x then aa n else bn m y:=by
 have hn:=xm h;unfold bn at hn ⊢;rw[List.find?_append];by_cases e:y=x
 ·subst e;rw[Option.map_eq_none_iff]at hn;simp[hn]
 ·rw[if_neg e];have:¬ x=y:=λz=>e z.symm;cases hf:m.find? (λp=>decide (p.1=y))with
  | none=>simp[this]
  | some p=>simp
theorem Lp{m:List (Tx×Int)}{x y:Tx}{n:Int}:bn (m.map λp=>if p.1=x then(p.1,n)else p) y=(bn m y).map λz=>if y=x then n else z:=by
 induction m with
 | nil=>rfl
 | cons p m ih=>
  unfold bn at ih ⊢;rw[eC,fX,fX];by_cases h:p.1=x
  ·rw[if_pos h];by_cases e:p.1=y
   ·simp[e,show y=x from e.symm.trans h]
   ·simp only[e,decide_false]; exact ih
  ·rw[if_neg h];by_cases e:p.1=y
   ·simp[e,show ¬ y=x from λz=>h (e.trans z)]
   ·simp only[e,decide_false]; exact ih
theorem Jf{m:List (Tx×Int)}{x:Tx}(h:(m.any λp=>decide (p.1=x))=ai):∃ n,bn m x=aa n:=by
 unfold bn;cases hf:m.find? (λp=>decide (p.1=x))with
 | none=>rw[zM]at hf;obtain⟨p,hp,hq⟩:=tY.mp h;exact absurd hq (hf p hp)
 | some p=>exact⟨_,rfl⟩
theorem uk(m:List (Tx×Int))(x y:Tx)(n:Int):bn (cQ m x n) y=if y=x then aa n else bn m y:=by
 unfold cQ;by_cases h:(m.any λp=>decide (p.1=x))=ai
 ·rw[if_pos h,Lp];by_cases e:y=x
  ·subst e;obtain⟨k,hk⟩:=Jf h;rw[hk]; simp
  ·simp[e]
 ·rw[if_neg h,Gh (Bool.eq_false_iff.mpr h)]
structure o3(m:List (Tx×Int))(q:List Tx):Prop where
 nd:(m.map (·.1)).Nodup
 get:∀ x,(bn m x).getD 0=(q.count x:Nat)
theorem o3.mem{m:List (Tx×Int)}{q:List Tx}(h:o3 m q){p:Tx×Int}(hp:p∈m):bn m p.1=aa p.2:=by
 have nd:=h.nd;clear h
 induction m with
 | nil=>cases hp
 | cons r m ih=>
  unfold bn;rw[fX];rcases ca.mp hp with rfl | hp
  ·simp
  ·rw[eC,jJ]at nd;have:¬ r.1=p.1:=λz=>nd.1 (cM.mpr ⟨p,hp,z.symm⟩);simp only[this,decide_false];exact ih hp nd.2
theorem AA{m:List (Tx×Int)}{x:Tx}{n:Int}:(cQ m x n).map (·.1)=if(m.any λp=>decide (p.1=x))=ai then m.map (·.1)else m.map (·.1)++[x]:=by
 unfold cQ;split
 ·rw[eJ];refine gP λp _=>?_;simp only[qT];split <;> rfl
 ·simp
theorem xS{m:List (Tx×Int)}{x:Tx}{n:Int}(h:(m.map (·.1)).Nodup):((cQ m x n).map (·.1)).Nodup:=by
 rw[AA];split
 ·exact h
 ·rename_i hn;rw[zF];refine⟨h,by simp,λa ha b hb=>?_⟩;rw[hZ]at hb;subst hb;rintro rfl;obtain⟨p,hp,rfl⟩:=cM.mp ha;exact hn (tY.mpr ⟨p,hp,by simp⟩)
theorem o3.any{m:List (Tx×Int)}{q:List Tx}(h:o3 m q):(m.any λp=>decide (p.2≠0)) = !q.isEmpty:=by
 cases q with
 | nil=>rw[Kh,zO,JB];intro p hp;have h1:=h.get p.1;rw[h.mem hp]at h1;simpa using h1
 | cons x q=>
  rw[List.isEmpty_cons,Bool.not_false,tY];have h1:=h.get x;rw[Ds]at h1;cases e:m.find? (λp=>decide (p.1=x))with
  | none=>unfold bn at h1; rw[e]at h1; simp at h1; lia
  | some p=>unfold bn at h1;rw[e]at h1;refine⟨p,List.mem_of_find?_eq_some e,?_⟩;simp at h1;simp; lia
theorem o3.dec{m:List (Tx×Int)}{q:List Tx}(h:o3 m q){x:Tx}(hx:x∈q):∃ n,bn m x=aa n/\0<n/\o3 (cQ m x (n-1)) (q.erase x)/\bn (cQ m x (n-1)) x=aa (n-1)/\cQ (cQ m x (n-1)) x (n-1+1)=m:=by
 have h1:=h.get x;have hc:0<q.count x:=List.count_pos_iff.mpr hx;cases e:bn m x with
 | none=>rw[e]at h1; simp at h1; lia
 | some n=>
  rw[e]at h1;simp only[Kj]at h1;refine⟨n,rfl,∅,⟨xS h.nd,λy=>?_⟩,by rw[uk,if_pos rfl],?_⟩
  ·rw[uk];by_cases c:y=x
   ·subst c;rw[if_pos rfl,List.count_erase_self];simp only[Kj]; lia
   ·rw[if_neg c,List.count_erase_of_ne (g8 (g8 c))]; exact h.get y
  ·have ha:(m.any λp=>decide (p.1=x))=ai:=by
    cases z:(m.any λp=>decide (p.1=x))with
    | true=>rfl
    | false=>rw[xm z]at e; cases e
   have hb:((cQ m x (n-1)).any λp=>decide (p.1=x))=ai:=by unfold cQ;rw[if_pos ha];obtain⟨p,hp,hq⟩:=tY.mp ha;refine tY.mpr ⟨_,cM.mpr ⟨p,hp,rfl⟩,?_⟩;rw[decide_eq_true_eq]at hq;rw[if_pos hq]; simpa using hq
   have e1:cQ (cQ m x (n-1)) x (n-1+1)=(m.map λp=>if p.1=x then(p.1,n-1)else p).map λp=>if p.1=x then(p.1,n-1+1)else p:=by show(if((cQ m x (n-1)).any λp=>decide (p.1=x))=ai then _ else _)=_;rw[if_pos hb];unfold cQ;rw[if_pos ha]
   rw[e1,eJ];have:∀ p∈m,((λp:Tx×Int=>if p.1=x then(p.1,n-1+1)else p) ∘ λp:Tx×Int=>if p.1=x then(p.1,n-1)else p) p=p:=by
    intro p hp;simp only[qT];by_cases c:p.1=x
    ·rw[if_pos c,if_pos c];have h2:=h.mem hp;rw[c,e]at h2;cases h2;rw[show p.2-1+1=p.2 by lia]
    ·rw[if_neg c,if_neg c]
   rw[gP this,List.map_id''];intro p; rfl
theorem o3.zero{m:List (Tx×Int)}{q:List Tx}(h:o3 m q){x:Tx}(hx:x∉q):(bn m x).getD 0=0:=by rw[h.get,Uv hx]; rfl
section
variable{a:Ad}
theorem Sj(ls:List Tx)(hl:ls.length<=100):∃ m,o3 m ls/\m.length<=ls.length/\vy a [.val (.tup (aj ls))] = .ok (.own (.dK (dk m))) [.val (.tup (aj ls))]:=by
 obtain⟨ε',e1,m,s2,l,rfl,hm,uf,kJ⟩:=y9 (i:=2) (db:=(jo 1 (dV 2) (d2 aL (nQ 1 (dV 2) (dC (.int 0))) (dC (.int 1)))))
  (I:=λr ε=>∃ (m:List (Tx×Int)) (s2:Slot) (l:List Tx),ε=[.val (.tup (aj ls)),.own (.dK (dk m)),s2]/\o3 m l/\m.length<=l.length/\∃ q,ls=l++q/\r=aj q)
  (by
   rintro x r ε ⟨m,s2,l,rfl,hm,uf,q,hq,hr⟩;cases q with
   | nil=>cases hr
   | cons y q=>
    have gS:x::r = .str y::aj q:=hr;simp only[wa]at gS;obtain⟨rfl,rfl⟩:=gS;have cb:m.length<bI:=by have:=congrArg vO hq;simp at this;unfold bI; lia
    refine⟨[.val (.tup (aj ls)),.own (.dK (dk (cQ m y ((bn m y).getD 0+1)))),.val (.str y)],?_,cQ m y ((bn m y).getD 0+1),_,l++[y],rfl,⟨xS hm.nd,λz=>?_⟩,?_,q,by rw[hq]; simp,rfl⟩
    ·have hv:=rJ m y;have hp:=xC m y ((bn m y).getD 0+1);have hd:(dk m).length<bI:=by unfold dk; rw[cD]; exact cb
     have hg:((bn m y).map PV.int).getD (.int 0) = .int ((bn m y).getD 0):=by cases bn m y <;> rfl
     generalize dk m=D at hv hp hd;simp![jo,nQ,eB,kq,hv,hg,aL,hd,hp]
    ·rw[uk];by_cases c:z=y
     ·subst c;rw[if_pos rfl,List.count_append,List.count_singleton_self];have:=hm.get z;simp only[Kj]; lia
     ·rw[if_neg c,List.count_append,hm.get z];have:[y].count z=0:=Uv (by simpa using c);rw[this]; rfl
    ·have:(cQ m y ((bn m y).getD 0+1)).length<=m.length+1:=by
      unfold cQ; split <;> simp
     rw[cZ,pD]; lia)
  (aj ls) [.val (.tup (aj ls)),.own (.dK (dk [])),.none] ⟨[],.none,[],rfl,⟨by simp,λx=>by simp[bn]⟩,by simp,ls,by simp,rfl⟩
 obtain⟨q,hq,wU⟩:=kJ;have:q=[]:=by cases q with | nil=>rfl | cons=>cases wU
 subst this;rw[jg]at hq;subst hq;refine⟨m,hm,uf,?_⟩;have e0:dk []=[]:=rfl;rw[e0]at e1;simp![vy,yal,AU,cE,cI,nS,cn,e1,fA]
theorem Qf{t:Tx}{w:Nat}(hw:w<=t.length+1)(h1:1<=w):bg (.str t) (aa ((t.length:Int)-w+1)) ae=aa (.str (t.drop (t.length+1-w))):=by show aa (PV.str (ez t _ ae))=_;rw[show((t.length:Int)-w+1)=((t.length+1-w:Nat):Int) by lia,G5]
def qd(c:Nat):PV:=.str [c]
theorem G6(w:Nat)(w1:1<=w):∀ (r bp:Nat) (t:Tx) (m:List (Tx×Int)) (q:List Tx) (dQ:List Tx),r<bp->q.length=r->o3 m q->w<=t.length+1->t.length+r<=1000->m.length<=1000->dQ.length+(iQ w r t q).length<=bI -> pc a bp [.val (.str t),.val (.int w),.own (.dK (dk m)),.own (.lst (aj dQ))] = .ok (.val .non) [.val (.str t),.val (.int w),.own (.dK (dk m)),.own (.lst (aj (dQ++iQ w r t q)))]
 | 0,0,_,_,_,_,h,_,_,_,_,_,_=>absurd h ∅
 | r+1,0,_,_,_,_,h,_,_,_,_,_,_=>absurd h ∅
 | 0,bp+1,t,m,q,dQ,_,hq,hm,hw,ht,uf,hs=>by
  have hq0:q=[]:=Dp.mp hq;subst hq0;have ha:=Hw m;rw[hm.any]at ha;simp only[Kh,zO]at ha;have hl:(aj dQ).length<bI:=by rw[gq];simp only[iQ,pD]at hs; lia
  have e:aj (dQ++iQ w 0 t [])=aj dQ++[.str t]:=by simp[aj,iQ]
  rw[e];generalize dk m=D at ha;generalize aj dQ=L at hl;simp![pc,yaf,uQ,eB,ha,hl]
 | r+1,bp+1,t,m,q,dQ,hf,hq,hm,hw,ht,uf,hs=>by
  have cO:q.isEmpty=ao:=by cases q with | nil=>cases hq | cons=>rfl
  have ha:=Hw m;rw[hm.any,cO]at ha;simp only[Bool.not_false]at ha;have hcut:=Qf (t:=t) hw w1;have bv:br [.str t]=aa (.int (t.length:Nat)):=rfl;have j9:cz (.int (t.length:Nat)) (.int w)=aa (.int ((t.length:Int)-w)):=rfl;have l9:aL (.int ((t.length:Int)-w)) (.int 1)=aa (.int ((t.length:Int)-w+1)):=rfl
  let H:=t.drop (t.length+1-w)
  let f:=λc=>if H++[c]∈q then iQ w r (t++[c]) (q.erase (H++[c]))else []
  have hE:iQ w (r+1) t q=cS.flatMap f:=rfl;have hH:H.length<=1000:=by simp only[H,j6]; lia
  obtain⟨ε',e1,s5,s6,p,rest,hp,hr0,rfl⟩:=y9 (i:=5) (db:=(aE (bt 6 (d2 aL (dV 4) (dV 5)))
 (dq (dB (d2 (jt λi j=>decide (j<i)) (nQ 2 (dV 6) (dC (.int 0))) (dC (.int 0)))) (aE (jo 2 (dV 6) (d2 cz (jD 2 (dV 6)) (dC (.int 1))))
 (aE (lg (aG (pc a bp) (gV (d2 aL (dV 0) (dV 5)) (gV (dV 1) (gO 2 (gO 3 (Pu.bN)))))))
 (jo 2 (dV 6) (d2 aL (jD 2 (dV 6)) (dC (.int 1)))))) (d9))))
   (I:=λr' ε=>∃ (s5 s6:Slot) (p rest:Tx),cS=p++rest/\r'=rest.map qd/\ε=[.val (.str t),.val (.int w),.own (.dK (dk m)),.own (.lst (aj (dQ++p.flatMap f))),.val (.str H),s5,s6])
   (by
    rintro x r' ε ⟨s5,s6,p,rest,hp,gS,rfl⟩;cases rest with
    | nil=>cases gS
    | cons c rest=>
     have Kx:x::r'=qd c::rest.map qd:=gS;simp only[wa]at Kx;obtain⟨rfl,rfl⟩:=Kx;have ub:aL (.str H) (.str [c])=aa (.str (H++[c])):=kr (by simp[bI]; lia);have pN:aL (.str t) (.str [c])=aa (.str (t++[c])):=kr (by simp[bI]; lia);have Uz:dQ.length+(p.flatMap f).length+(f c).length<=bI:=by rw[hE,hp,List.flatMap_append,lY,cZ,cZ]at hs; lia
     have hfl:aj (dQ++(p++[c]).flatMap f)=aj ((dQ++p.flatMap f)++f c):=by simp
     by_cases hc:H++[c]∈q
     ·obtain⟨n,g1,g2,g3,g4,g5⟩:=hm.dec hc;have hfc:f c=iQ w r (t++[c]) (q.erase (H++[c])):=if_pos hc;have ih:=G6 w w1 r bp (t++[c]) (cQ m (H++[c]) (n-1)) (q.erase (H++[c])) (dQ++p.flatMap f) ∅ (by rw[Kf hc,hq]; rfl) g3 (by simp; lia) (by simp; lia)
       (by
        have:(cQ m (H++[c]) (n-1)).length=m.length:=by
         have:=congrArg vO (AA (m:=m) (x:=H++[c]) (n:=n-1));have ha:(m.any λp=>decide (p.1=H++[c]))=ai:=by
          cases z:(m.any λp=>decide (p.1=H++[c]))with
          | true=>rfl
          | false=>rw[xm z]at g1; cases g1
         rw[if_pos ha]at this;simpa using this
        lia)
       (by rw[← hfc,cZ]; exact Uz)
      rw[← hfc]at ih;have rj:=rJ m (H++[c]);rw[g1]at rj;have ij:=xC m (H++[c]) (n-1);have hv2:=rJ (cQ m (H++[c]) (n-1)) (H++[c]);rw[g4]at hv2;have fH:=xC (cQ m (H++[c]) (n-1)) (H++[c]) (n-1+1);rw[g5,show n-1+1=n by lia]at fH;have hd1:(dk m).length<bI:=by unfold dk; rw[cD]; unfold bI; lia
      have wy:(dk (cQ m (H++[c]) (n-1))).length<bI:=by
       unfold dk;rw[cD];have:(cQ m (H++[c]) (n-1)).length<=m.length+1:=by unfold cQ; split <;> simp
       unfold bI; lia
      have gt:(0:Int)<n:=g2;refine⟨[.val (.str t),.val (.int w),.own (.dK (dk m)),.own (.lst (aj (dQ++(p++[c]).flatMap f))),.val (.str H),.val (.str [c]),.val (.str (H++[c]))],?_,_,_,p++[c],rest,by rw[hp]; simp,rfl,rfl⟩;rw[hfl];have s1:cz (.int n) (.int 1)=aa (.int (n-1)):=rfl;have s2:aL (.int (n-1)) (.int 1)=aa (.int n):=by show aa (PV.int (n-1+1))=_;congr 2; lia
      simp only[lV]at rj hv2;generalize dk m=D at rj ij fH hd1;generalize dk (cQ m (H++[c]) (n-1))=D2 at hv2 ij fH ih wy;generalize aj (dQ++p.flatMap f)=L at ih;generalize aj ((dQ++p.flatMap f)++f c)=L2 at ih;clear_value H f;simp![qd,ub,nQ,jD,jo,eB,kq,rj,gt,s1,hd1,ij,pN,ih,hv2,s2,wy,fH]
     ·have hfc:f c=[]:=if_neg hc;have hz:=hm.zero hc;have rj:=rJ m (H++[c]);have hg:((bn m (H++[c])).map PV.int).getD (.int 0) = .int 0:=by
       cases e:bn m (H++[c])with
       | none=>rfl
       | some k=>rw[e]at hz; simp at hz; subst hz; rfl
      refine⟨[.val (.str t),.val (.int w),.own (.dK (dk m)),.own (.lst (aj (dQ++(p++[c]).flatMap f))),.val (.str H),.val (.str [c]),.val (.str (H++[c]))],?_,_,_,p++[c],rest,by rw[hp]; simp,rfl,rfl⟩;rw[hfl,hfc,jg];generalize dk m=D at rj;generalize aj (dQ++p.flatMap f)=L;clear_value H f;simp![qd,ub,nQ,eB,kq,rj,hg])
   (cS.map qd) [.val (.str t),.val (.int w),.own (.dK (dk m)),.own (.lst (aj (dQ++([]:Tx).flatMap f))),.val (.str H),.none,.none] ⟨.none,.none,[],cS,by simp,rfl,rfl⟩
  have jU:rest=[]:=by cases rest with | nil=>rfl | cons=>cases hr0
  subst jU;rw[jg]at hp;rw[hE];rw[← hp]at e1;simp only[Kd,jg]at e1;have hits:nS (.str [97,98,99])=aa (cS.map qd):=rfl;have UG:bg (.str t) (aa ((t.length:Int)-w+1)) ae=aa (.str H):=hcut;generalize dk m=D at ha e1;generalize aj dQ=L at e1;generalize aj (dQ++cS.flatMap f)=L2 at e1;clear_value H f;simp![pc,yaf,uQ,eB,ha,bj,aM,b9,bv,j9,l9,UG,cn,cE,cI,hits,e1]
end
section
variable{a:Ad}
abbrev eA(w:Nat)(ls:List Tx):PV:=.tup [.int w,.tup (aj ls)]
theorem Pf{α:Type}(xs:List α):ez xs ae (aa (-1))=xs.dropLast:=by unfold ez;rw[show HT.sIx xs.length 0 ae=0 from rfl,C3,Nat.sub_zero,List.dropLast_eq_take];congr 1;show(HT.sIx xs.length xs.length (aa (-1)))=_;show(if(-1:Int)<0 then((-1:Int)+(xs.length:Int)).toNat else min (-1:Int).toNat xs.length)=_;rw[if_pos (by decide)];lia
theorem Pt{w:Nat}{ls:List Tx}(g:Good cS w ls)(w1:1<=w)(w4:w<=4):(qb w ls).length<=531441:=by rw[H_ w1 g.some λx hx=>⟨g.len x hx,g.abc x hx⟩];refine cL (wb _ _) ?_;rw[B9];exact cL (Nat.pow_le_pow_right (by decide) (show w-1+ls.length<=12 by have:=g.few; lia)) (by decide)
theorem K9(V:PV)(ls:List Tx)(w:Nat)(s2 s3:Slot):kY [] dW (bj bg (dV 0) b9 (aM (d1 dU (dC (.int 1))))) (aj ls) [] [.val V,.val (.int w),s2,s3] = .ok (aj (ls.map qU)) [.val V,.val (.int w),s2,s3]:=by
 have hc:=ko (cap:=[]) (dt:=dW) (de:=(bj bg (dV 0) b9 (aM (d1 dU (dC (.int 1)))))) (ε:=[.val V,.val (.int w),s2,s3]) (λ_=>ai) (λx=>match x with | .str z=>.str z.dropLast | _=>.non) (aj ls)
  (by
   intro x hx;obtain⟨z,_,rfl⟩:=cM.mp hx;refine⟨by simp![dX,dR,cX,dW],λ_=>?_⟩;have hs:bg (.str z) ae (aa (-1))=aa (.str z.dropLast):=by show aa (PV.str (ez z ae (aa (-1))))=_;rw[Pf]
   have hn:dU (.int 1)=aa (.int (-1)):=rfl;simp![dX,dR,cX,bj,b9,aM,hn,hs]) []
 rw[hc,eV,oC.mpr (by simp)];unfold aj;rw[eJ,eJ]; rfl
theorem SW{w:Nat}{ls:List Tx}(g:Good cS w ls)(w1:1<=w)(w4:w<=4)(hs:ls.Pairwise (λa b=>fL a b=ai)) : qy a [.val (eA w ls)] = .ok (.own (.lst (aj (qb w ls)))) [.val (eA w ls)]:=by
 have hck:=RD (a:=a) (g.vw w1 w4 hs);have i0:a8 (eA w ls) (.int 0)=aa (.int w):=rfl;have i1:a8 (eA w ls) (.int 1)=aa (.tup (aj ls)):=rfl;obtain⟨m,hm,hml0,wY⟩:=Sj (a:=a) ls (by have:=g.few; lia);have uf:m.length<=1000:=by have:=g.few; lia
 let hd:=bD (cf (ls.map qU))
 have t_:∀ h∈hd,h.length=w-1:=λh hh=>by have hm:=(mI _ _).mp ((js _).mem_iff.mp hh);obtain⟨y,hy,rfl⟩:=cM.mp hm;rw[Df,g.len y hy]
 let f:=λh=>iQ w ls.length h ls
 have hT:qb w ls=hd.flatMap f:=rfl;have hTl:=Pt g w1 w4;obtain⟨ε',e1,s3,p,rest,hp,hr0,rfl⟩:=y9 (i:=3) (db:=(lg (um (pc a 12) (sw (dV 3) (sw (dV 1) (gN (kW (aG (vy a) (gV (d2 a8 (dV 0) (dC (.int 1))) (Pu.bN)))) (gO 2 (Pu.bN))))))))
  (I:=λr ε=>∃ (s3:Slot) (p rest:List Tx),hd=p++rest/\r=aj rest/\ε=[.val (eA w ls),.val (.int w),.own (.lst (aj (p.flatMap f))),s3])
  (by
   rintro x r ε ⟨s3,p,rest,hp,hr,rfl⟩;cases rest with
   | nil=>cases hr
   | cons h rest=>
    have gS:x::r = .str h::aj rest:=hr;simp only[wa]at gS;obtain⟨rfl,rfl⟩:=gS;have hh:h.length=w-1:=t_ h (by rw[hp]; simp);have ha:=G6 (a:=a) w w1 ls.length 12 h m ls (p.flatMap f) (by have:=g.few; lia) rfl hm ∅ (by have:=g.few; lia) uf (by rw[hT,hp,List.flatMap_append,lY,cZ,cZ]at hTl;show(p.flatMap f).length+(f h).length<=bI;unfold bI; lia);refine⟨[.val (eA w ls),.val (.int w),.own (.lst (aj ((p++[h]).flatMap f))),.val (.str h)],?_,_,p++[h],rest,by rw[hp]; simp,rfl,rfl⟩;have e2:(p++[h]).flatMap f=p.flatMap f++iQ w ls.length h ls:=by simp[f]
    rw[e2];generalize aj (p.flatMap f)=L at ha;generalize aj (p.flatMap f++iQ w ls.length h ls)=L2 at ha;generalize dk m=D at ha wY;simp only[eA]at i1 ⊢;generalize aj ls=T at wY i1;clear_value f hd;simp![um,sw,gN,Gn,i1,wY,ha])
  (aj hd) [.val (eA w ls),.val (.int w),.own (.lst (aj (([]:List Tx).flatMap f))),.none] ⟨.none,[],hd,by simp,rfl,rfl⟩
 have jU:rest=[]:=by cases rest with | nil=>rfl | cons=>cases hr0
 subst jU;rw[jg]at hp;rw[← hp,← hT]at e1;simp only[Kd]at e1;have hco:=K9 (eA w ls) ls w (.own (.lst [])) .none;have oI:lJ [.lst (aj (ls.map qU))]=aa (.lst (aj hd)):=by show(gW (aj _)).bind _=_;have h2:=g.few;rw[pV,iD,if_pos (qN (yL _) (by rw[cD]; lia))]
 have e0:aj ([]:List Tx)=[]:=rfl;rw[e0]at e1;generalize aj (qb w ls)=L at e1;generalize aj hd=D at e1 oI;generalize aj (ls.map qU)=D0 at hco oI;simp only[eA]at hck i0 i1 hco e1 ⊢;generalize hTT:aj ls=T at hck i0 i1 hco e1;clear_value f hd;simp![qy,yaN,hck,i0,i1,cn,cE,cI,nS,c9,hco,oI,e1,fA]
end
end Sh
namespace Mx
open L2 Pu
def aO(z:Tx)(i:Nat):Nat:=z.getD (i % z.length) 0
def qA(z:Tx)(w i:Nat):Tx:=(bQ w).map λk=>aO z (i+k)
def cw(z:Tx)(w:Nat):List Tx:=(bQ z.length).map (qA z w)
def gh(z:Tx)(w:Nat):Tx:=((bH w z).flatten).take (z.length+w-1)
theorem xQ{z:Tx}{i:Nat}(h:i<z.length):z[i]?=aa (aO z i):=by unfold aO;rw[pH h];simp[List.getD,h]
theorem EO(z:Tx)(i:Nat):aO z (z.length+i)=aO z i:=by unfold aO; rw[Nat.add_mod_left]
theorem IW(z:Tx):∀ (w i:Nat),i<w * z.length->(bH w z).flatten[i]?=aa (aO z i)
 | 0,i,h=>∅
 | w+1,i,h=>by
  rw[CO,JJ];by_cases c:i<z.length
  ·rw[fO c,xQ c]
  ·rw[jK ∅,IW z w (i-z.length) (by rw[Nat.succ_mul]at h; lia)];congr 1;have:=EO z (i-z.length);rw[show z.length+(i-z.length)=i by lia]at this;exact this.symm
theorem GO(z:Tx)(w:Nat):(bH w z).flatten.length=w * z.length:=by simp
theorem yt{z:Tx}{w:Nat}(hn:1<=z.length)(hw:1<=w):(gh z w).length=z.length+w-1:=by
 unfold gh;rw[j5,GO];obtain⟨n,hn'⟩:∃ n,z.length=n+1:=⟨z.length-1,∅⟩
 obtain⟨v,rfl⟩:∃ v,w=v+1:=⟨w-1,∅⟩
 rw[hn',Dt,Nat.mul_add];have:=lj (v * n);lia
theorem qo{z:Tx}{w:Nat}(hn:1<=z.length)(hw:1<=w){i:Nat}(h:i<z.length+w-1):(gh z w)[i]?=aa (aO z i):=by have hl:=yt hn hw;unfold gh at hl ⊢;rw[j5,GO]at hl;rw[zp h,IW z w i ∅]
theorem EV{z:Tx}{w:Nat}(hn:1<=z.length)(hw:1<=w):aY (gh z w) w=cw z w:=by
 rw[nO _ _ hw,yt hn hw,show z.length+w-1+1-w=z.length by lia];refine gP λi hi=>?_;have hi:i<z.length:=by simpa using hi
 refine kE λk=>?_;unfold qA;by_cases hk:k<w
 ·rw[zp hk,kF,qo hn hw ∅,jh,CW hk]; rfl
 ·rw[jM (by rw[j5]; lia),jM (by simp; lia)]
theorem LQ{z:Tx}{w:Nat}(hn:1<=z.length)(hw:1<=w):(gh z w).take z.length=z:=by
 refine kE λk=>?_;by_cases hk:k<z.length
 ·rw[zp hk,qo hn hw ∅,xQ hk]
 ·rw[jM (by rw[j5]; lia),jM ∅]
def gK(i:Nat)(z:Tx):Tx:=z.drop i++z.take i
theorem ny{i:Nat}{z:Tx}(h:i<=z.length):(gK i z).length=z.length:=by unfold gK; rw[cZ,j6,j5]; lia
theorem uv{z:Tx}{i:Nat}(h:i<=z.length)(hn:1<=z.length)(j:Nat):aO (gK i z) j=aO z (i+j):=by
 unfold aO;rw[ny h];have hj:j % z.length<z.length:=qP _ ∅;rw[tU i j];generalize j % z.length=m at hj;by_cases hi:i=z.length
 ·subst hi;unfold gK;rw[JW,eV,Di,Nat.mod_self,ox,pH hj]
 ·rw[pH (show i<z.length by lia)];unfold gK;rw[Kb,Kb];congr 1;by_cases c:i+m<z.length
  ·rw[pH c,fO (by rw[j6]; lia),kF]
  ·have e:(i+m) % z.length=i+m-z.length:=by
    rw[Nat.mod_eq_sub_mod ∅,pH ∅]
   rw[e,jK (by rw[j6]; lia),j6,zp ∅];congr 1; lia
theorem Mr{x y:Tx}(h:x.length=y.length)(hn:1<=x.length)(ha:∀ k,k<x.length->aO x k=aO y k):x=y:=by
 refine kE λk=>?_;by_cases hk:k<x.length
 ·rw[xQ hk,xQ ∅,ha k hk]
 ·rw[jM ∅,jM ∅]
theorem Lf{z:Tx}{i j:Nat}(hn:1<=z.length)(hi:i<z.length)(hj:j<z.length):gK j (gK i z)=gK ((i+j) % z.length) z:=by
 have hm:(i+j) % z.length<z.length:=qP _ ∅;have h1:(gK i z).length=z.length:=ny ∅;refine Mr ?_ ?_ λk hk=>?_
 ·rw[ny ∅,h1,ny ∅]
 ·rw[ny ∅,h1]; exact hn
 ·rw[uv ∅ ∅,uv ∅ hn,uv ∅ hn];unfold aO;congr 1;rw[← v5,tU ((i+j) % z.length) k,Nat.mod_mod,← tU]
theorem KN(z:Tx):gK 0 z=z:=by simp[gK]
theorem FI{f:Nat->Tx}{n:Nat}(hf:∀ i,f (i+n)=f i):∀ i,((bQ n).map λj=>f (i+j)).Perm ((bQ n).map f)
 | 0=>by simp
 | i+1=>by
  refine List.Perm.trans ?_ (FI hf i);cases n with
  | zero=>simp
  | succ m=>
   have eL:(bQ (m+1)).map (λj=>f (i+1+j))=(bQ m).map (λj=>f (i+(j+1)))++[f (i+0)]:=by
    rw[tJ,oi];congr 1
    ·refine gP λj _=>?_;congr 1; lia
    ·rw[eC,vS];congr 1;show f (i+1+m)=f i;rw[← hf i];congr 1; lia
   have eR:(bQ (m+1)).map (λj=>f (i+j))=f (i+0)::(bQ m).map (λj=>f (i+(j+1))):=by rw[qO,eC,eJ]; rfl
   rw[eL,eR];exact List.perm_append_singleton _ _
theorem SJ(z:Tx)(w i:Nat):qA z w (i+z.length)=qA z w i:=by unfold qA;refine gP λk _=>?_;rw[show i+z.length+k=z.length+(i+k) by lia,EO]
theorem Up{z:Tx}{w i:Nat}(hi:i<z.length):(cw (gK i z) w).Perm (cw z w):=by
 have e:cw (gK i z) w=(bQ z.length).map λj=>qA z w (i+j):=by unfold cw;rw[ny ∅];refine gP λj _=>?_;unfold qA;refine gP λk _=>?_;rw[uv ∅ ∅,v5]
 rw[e];exact FI (λj=>SJ z w j) i
theorem KL{z:Tx}{w:Nat}{c:Nat}(h:c∈gh z w):c∈z:=by have:=j8 h;rw[List.mem_flatten]at this;obtain⟨l,hl,hc⟩:=this;rw[List.mem_replicate]at hl;rw[hl.2]at hc; exact hc
theorem Lr{z:Tx}{i c:Nat}(h:c∈gK i z):c∈z:=(eY.mp h).elim oD j8
def mz:Nat->Nat->Nat->Nat->List Tx
 | 0,_,_,_=>[[]]
 | n+1,i,j,k=>(match i with | 0=>[] | i+1=>(mz n i j k).map (97::·))++((match j with | 0=>[] | j+1=>(mz n i j k).map (98::·))++(match k with | 0=>[] | k+1=>(mz n i j k).map (99::·)))
theorem FN:∀ (n:Nat) (z:Tx),z.length=n->(∀ c∈z,c∈cS)->z∈mz n (z.count 97) (z.count 98) (z.count 99)
 | 0,z,h,_=>by rw[Dp.mp h]; simp[mz]
 | n+1,z,h,hc=>by
  cases z with
  | nil=>cases h
  | cons c z=>
   have ih:=FN n z (zI h) λd hd=>hc d (by simp[hd]);have h3:c=97\/c=98\/c=99:=by have:=hc c (by simp);simpa[cS]using this
   rcases h3 with rfl | rfl | rfl
   ·rw[Ds,wf (by decide),wf (by decide)];simp only[mz,eY];exact .inl (cM.mpr ⟨z,ih,rfl⟩)
   ·rw[Ds,wf (by decide),wf (by decide)];simp only[mz,eY];exact .inr (.inl (cM.mpr ⟨z,ih,rfl⟩))
   ·rw[Ds,wf (by decide),wf (by decide)];simp only[mz,eY];exact .inr (.inr (cM.mpr ⟨z,ih,rfl⟩))
theorem len_sub{l m:List Tx}(nd:l.Nodup)(h:∀ x∈l,x∈m):l.length<=m.length:=by
 induction l generalizing m with
 | nil=>simp
 | cons x l ih=>rw[jJ]at nd;have hx:x∈m:=h x (by simp);have:=ih (m:=m.erase x) nd.2 λy hy=>(List.mem_erase_of_ne (λz=>nd.1 (by rw[← z]; exact hy))).mpr (h y (by simp[hy]));rw[Kf hx]at this;have h0:0<m.length:=List.length_pos_of_mem hx;rw[eI]; lia
theorem NU{z:Tx}(h:∀ c∈z,c∈cS):z.count 97+z.count 98+z.count 99=z.length:=by
 induction z with
 | nil=>rfl
 | cons c z ih=>
  have:=ih λd hd=>h d (by simp[hd]);have h3:c=97\/c=98\/c=99:=by have:=h c (by simp);simpa[cS]using this
  rcases h3 with rfl | rfl | rfl <;> (rw[List.count_cons,List.count_cons,List.count_cons,eI]; simp; lia)
end Mx
namespace Sh
open L2 Pu Mx
section
variable{a:Ad}
theorem KD{z:Tx}(h1:1<=z.length)(h2:z.length<=12)(hc:∀ c∈z,c∈cS):yS a [.val (.str z)] = .ok (.val .non) [.val (.str z)]:=by
 have k1:jd [.str z,.raw (.ty "str")]=aa (.bl ai):=qi rfl GX;have hh:=GF (a:=a) z cS;have ka:z.all cS.contains=ai:=by rw[vZ]; intro c h; simpa using hc c h
 rw[ka]at hh;simp only[cS]at hh;have hl:br [.str z]=aa (.int (z.length:Nat)):=rfl;have c1:(1:Int)<=(z.length:Nat):=∅
 have c2:((z.length:Nat):Int)<=12:=∅
 have ht:y0 a [.val (.str z),.val (.int 12)] = .ok (.val (.bl ai)) [.val (.str z),.val (.int 12)]:=by simp![y0,yaq,k1,hl,c1,c2,hh]
 simp![yS,yai,ht]
theorem SZ{w:Nat}(w1:1<=w)(w4:w<=4):yH a [.val (.int w)] = .ok (.val .non) [.val (.int w)]:=by have h:=FF (a:=a) w;rw[decide_eq_true (show 1<=(w:Int)/\(w:Int)<=4 by lia)]at h;simp![yH,yak,h]
def bO(t:Tx)(v:Nat):List Tx:=(bQ (t.length+1-v)).map λi=>(t.drop i).take v
theorem sG(t:Tx)(v:Nat):(bO t v).length=t.length+1-v:=by simp[bO]
theorem EE{t:Tx}{w:Nat}(hw:w<=t.length+1)(ht:t.length<=60):sZ a [.val (.str t),.val (.int w)] = .ok (.own (.lst (aj (bO t w)))) [.val (.str t),.val (.int w)]:=by
 have hl:br [.str t]=aa (.int (t.length:Nat)):=rfl;have hs:cz (.int (t.length:Nat)) (.int w)=aa (.int ((t.length:Int)-w)):=rfl;have ha:aL (.int ((t.length:Int)-w)) (.int 1)=aa (.int ((t.length+1-w:Nat):Int)):=by show aa (PV.int ((t.length:Int)-w+1))=_;congr 2; lia
 have hr:ir [.int ((t.length+1-w:Nat):Int)]=aa (fZ 0 (t.length+1-w)):=yN ∅;have hc:=ko (cap:=[0,1]) (dt:=dW) (de:=(bj bg (dV 1) (aM (dV 0)) (aM (d2 aL (dV 0) (dV 2))))) (ε:=[.val (.str t),.val (.int w)]) (λ_=>ai) (λx=>match x with | .int i=>.str (ez t (aa i) (aa (i+w))) | _=>.non) (fZ 0 (t.length+1-w))
  (by intro x hx;obtain⟨i,_,rfl⟩:=cM.mp hx;refine⟨by simp![dX,dR,cX,dW],λ_=>?_⟩;simp![dX,dR,cX,aL,bj,aM,bg]) []
 have he:((fZ 0 (t.length+1-w)).filter (λ_=>ai)).map (λx=>match x with | .int i=>PV.str (ez t (aa i) (aa (i+w))) | _=>.non)=aj (bO t w):=by
  rw[oC.mpr (by simp)];unfold fZ aj bO;rw[eJ,eJ];refine gP λi hi=>?_;have hi:i<t.length+1-w:=by simpa using hi
  simp only[qT,Int.zero_add];rw[GM ∅]
 rw[eV,he]at hc;generalize aj (bO t w)=T at hc;generalize fZ 0 (t.length+1-w)=RR at hr hc;generalize ((t.length+1-w:Nat):Int)=n at ha hr;simp![sZ,yaI,kL,c9,hl,hs,ha,hr,hc]
theorem Nh{t:Tx}{w:Nat}(w1:1<=w):bO t w=aY t w:=(nO t w w1).symm
theorem Op{t:Tx}{w:Nat}(w1:1<=w)(hw:w<=t.length+1)(ht:t.length<=60):sZ a [.val (.str t),.val (.int w)] = .ok (.own (.lst (aj (aY t w)))) [.val (.str t),.val (.int w)]:=by rw[← Nh w1]; exact EE hw ht
theorem RX{w:Nat}{ls:List Tx}(h1:1<=ls.length)(h9:ls.length<=9):y_ a [.val (.int w),.val (.lst (aj ls))] = .ok (.val (eA w (bD ls))) [.val (.int w),.val (.lst (aj ls))]:=by
 have hl:br [.lst (aj ls)]=aa (.int (ls.length:Nat)):=by simp[br,gq]
 have c1:(1:Int)<=(ls.length:Nat):=∅
 have c2:((ls.length:Nat):Int)<=9:=∅
 have ma:ql [.lst (aj ls)]=aa (.lst (aj (bD ls))):=Om ∅;simp only[eA];generalize aj (bD ls)=T at ma;generalize aj ls=B at hl ma;simp![y_,yaR,hl,c1,c2,ma,yf]
structure Tv(t:Tx)(w:Nat):Prop where
 w1:1<=w
 w4:w<=4
 h1:w<=t.length
 h9:t.length+1<=w+9
 abc:∀ c∈t,c∈cS
theorem Tv.good{t:Tx}{w:Nat}(h:Tv t w):Good cS w (aY t w):=by have hm:=RO (m:=8) h.w1 h.h1 (by have:=h.h9; lia);exact⟨λx hx=>(Ec x hx).1,λx hx c hc=>h.abc c ((Ec x hx).2 c hc),hm.1,hm.2⟩
theorem Aj{t:Tx}{w:Nat}(h:Tv t w):pf a [.val (.str t),.val (.int w)] = .ok (.val (eA w (bD (aY t w)))) [.val (.str t),.val (.int w)]:=by have b1:=h.w1;have b2:=h.w4;have b3:=h.h1;have b4:=h.h9;have e1:=KD (a:=a) (z:=t) ∅ ∅ h.abc;have e2:=SZ (a:=a) h.w1 h.w4;have e4:=Op (a:=a) (t:=t) h.w1 ∅ ∅;have e5:=RX (a:=a) (w:=w) (ls:=aY t w) h.good.some h.good.few;generalize eA w (bD (aY t w))=V at e5;generalize aj (aY t w)=C at e4 e5;simp![pf,yaM,e1,e2,e4,e5]
theorem M7{z:Tx}{w:Nat}(w1:1<=w)(w4:w<=4)(hz:z.length<=60):rO a [.val (.str z),.val (.int w)] = .ok (.val (.str (gh z w))) [.val (.str z),.val (.int w)]:=by
 have hm:iS (.str z) (.int w)=aa (.str (bH w z).flatten):=by show(if 0<=(w:Int)/\(w:Int)<=100/\z.length<=100 then aa (PV.str (bH (w:Int).toNat z).flatten)else ae)=_;rw[if_pos ⟨∅,∅,∅⟩]; rfl
 have hl:br [.str z]=aa (.int (z.length:Nat)):=rfl;have ha:aL (.int (z.length:Nat)) (.int w)=aa (.int ((z.length:Int)+w)):=rfl;have hs:cz (.int ((z.length:Int)+w)) (.int 1)=aa (.int ((z.length+w-1:Nat):Int)):=by show aa (PV.int ((z.length:Int)+w-1))=_;congr 2; lia
 have hc:bg (.str (bH w z).flatten) ae (aa ((z.length+w-1:Nat):Int))=aa (.str (gh z w)):=by show aa (PV.str (ez _ ae (aa _)))=_;rw[F7]; rfl
 generalize ((z.length+w-1:Nat):Int)=n at hs hc;generalize (bH w z).flatten=F at hm hc;simp![rO,yaP,bj,b9,aM,hm,hl,ha,hs,hc]
theorem nL{i:Nat}{db:ak->R aH}{σ:Type}(env:List Tx->σ->ak)(f:Nat->List Tx)(B:Nat) : ∀ (xs:List Nat) (au:List Tx) (s:σ),(au++xs.flatMap f).length<=B->(∀ x∈xs,∀ au s,(au++f x).length<=B->∃ s',db ((env au s).set i (.val (.int x))) = .ok .next (env (au++f x) s')) -> ∃ s',eX i db (xs.map λx=>.int (x:Nat)) (env au s) = .ok .next (env (au++xs.flatMap f) s')
 | [],au,s,_,_=>⟨s,by simp[eX]⟩
 | x::xs,au,s,hB,step=>by rw[lY]at hB ⊢;obtain⟨s1,e1⟩:=step x (by simp) au s (by simp at hB ⊢; lia);obtain⟨s2,e2⟩:=nL env f B xs (au++f x) s1 (by rw[gx]; exact hB) λy hy=>step y (by simp[hy]);refine⟨s2,?_⟩;rw[eC,eX,e1];simp only;rw[e2,gx]
def bP(lo hi:Nat):List Nat:=Du lo (hi-lo)
theorem HU{lo hi x:Nat}:x∈bP lo hi↔lo<=x/\x<hi:=by unfold bP;rw[List.mem_range'_1];lia
theorem IR(lo n:Nat):fZ (lo:Nat) n=(Du lo n).map λx=>PV.int (x:Nat):=by unfold fZ;rw[List.range'_eq_map_range,eJ];refine gP λx _=>?_;simp
theorem sY{lo hi:Nat}(h1:lo<=1000)(h2:hi<=1000):iq [.int lo,.int hi]=aa ((bP lo hi).map λx=>.int (x:Nat)):=by show(if _ then _ else _)=_;rw[if_pos ⟨∅,∅,∅,∅⟩];congr 1;rw[show(((hi:Nat):Int)-((lo:Nat):Int)).toNat=hi-lo by lia];exact IR lo (hi-lo)
theorem yw{n:Nat}(h:n<=1000):ir [.int n]=aa ((bP 0 n).map λx=>.int (x:Nat)):=by rw[yN ∅];congr 1;exact IR 0 n
def part(t:Tx)(i j:Nat):Tx:=(t.drop i).take (j-i)
theorem O5(t:Tx)(i j:Nat):ez t (aa (i:Nat)) (aa (j:Nat))=part t i j:=by
 unfold ez part;rw[HT.sIx_nat,HT.sIx_nat];by_cases h:i<=t.length
 ·rw[zR h];by_cases h2:j<=t.length
  ·rw[zR h2]
  ·rw[Ki ∅,lT (by simp),lT (by simp; lia)]
 ·rw[show min i t.length=t.length by lia,Dr (bo _),Dr (show t.length<=i by lia)];simp
theorem oY(t:Tx)(i j:Nat):bg (.str t) (aa (i:Nat)) (aa (j:Nat))=aa (.str (part t i j)):=by show aa (PV.str (ez t (aa (i:Nat)) (aa (j:Nat))))=_;rw[O5]
theorem o5(t:Tx)(j:Nat):bg (.str t) ae (aa (j:Nat))=aa (.str (t.take j)):=by show aa (PV.str (ez t ae (aa (j:Nat))))=_;rw[F7]
theorem zZ(t:Tx)(i:Nat):bg (.str t) (aa (i:Nat)) ae=aa (.str (t.drop i)):=by show aa (PV.str (ez t (aa (i:Nat)) ae))=_;rw[G5]
def aO(row:List Tx)(i:Nat):Tx:=row.getD i []
theorem mo{row:List Tx}{i:Nat}(h:i<row.length):a8 (.lst (aj row)) (.int i)=aa (.str (aO row i)):=by show eh (aj row) ((i:Nat):Int)=_;unfold eh;rw[IE ∅ (by rw[gq]; lia)];simp[aj,aO,h]
def eP(t:Tx)(s e g l:Nat):Tx:=t.take s++part t g l++part t e g++part t s e++t.drop l
theorem rM(t:Tx)(i j:Nat):(part t i j).length<=t.length:=by unfold part; simp; lia
def nN(t:Tx)(row:List Tx)(s g e:Nat):List Tx:=(bP (g+1) row.length).flatMap λl=>if aO row e=aO row l then [eP t s e g l] else []
def lD(t:Tx)(row:List Tx)(s g:Nat):List Tx:=(bP (s+1) (g+1)).flatMap λe=>nN t row s g e
def zh:ak->R aH:=dq (dB (d2 (eqT ao) (d2 a8 (dV 1) (dV 5)) (d2 a8 (dV 1) (dV 6)))) (i9 4 (d2 aL (d2 aL (d2 aL (d2 aL (bj bg (dV 0) (b9) (aM (dV 2))) (bj bg (dV 0) (aM (dV 3)) (aM (dV 6)))) (bj bg (dV 0) (aM (dV 5)) (aM (dV 3)))) (bj bg (dV 0) (aM (dV 2)) (aM (dV 5)))) (bj bg (dV 0) (aM (dV 6)) (b9)))) (d9)
def Ji:ak->R (List PV):=dL iq (aw (d2 aL (dV 3) (dC (.int 1))) (aw (dL br (aw (dV 1) (aB))) (aB)))
def F6:ak->R aH:=cE 6 Ji zh
def El:ak->R (List PV):=dL iq (aw (d2 aL (dV 2) (dC (.int 1))) (aw (d2 aL (dV 3) (dC (.int 1))) (aB)))
theorem Sw:yao a=aE (cJ 4 (dL b8 (aB))) (aE (λε=>cn (cE 5 El F6 ε)) (fA 4)):=rfl
theorem Qm(t:Tx)(row:List Tx)(s g e:Nat)(ht:t.length<=20)(hr:row.length<=20)(he:e<row.length)(au:List Tx)(s6:Slot)(hB:(au++nN t row s g e).length<=100000):∃ iG, eX 6 zh ((bP (g+1) row.length).map λx=>.int (x:Nat)) [.val (.str t),.val (.lst (aj row)),.val (.int s),.val (.int g),.own (.lst (aj au)),.val (.int e),s6] = .ok .next [.val (.str t),.val (.lst (aj row)),.val (.int s),.val (.int g),.own (.lst (aj (au++nN t row s g e))),.val (.int e),iG]:=by
 refine nL (i:=6) (σ:=Slot) (λau s6=>[.val (.str t),.val (.lst (aj row)),.val (.int s),.val (.int g),.own (.lst (aj au)),.val (.int e),s6]) (λl=>if aO row e=aO row l then [eP t s e g l] else []) 100000 _ au s6 hB ?_;intro l hl au s6 hB;obtain⟨l1,l2⟩:=HU.mp hl;refine⟨.val (.int l),?_⟩;have i1:=mo he;have i2:=mo l2;have he:=kT ao (aO row e) (aO row l);simp only[lr]at he;by_cases q:aO row e=aO row l
 ·rw[decide_eq_true q]at he;rw[if_pos q]at hB ⊢;have c1:=o5 t s;have c2:=oY t g l;have c3:=oY t e g;have c4:=oY t s e;have c5:=zZ t l;have p1:=rM t g l;have p2:=rM t e g;have p3:=rM t s e;have a1:aL (.str (t.take s)) (.str (part t g l))=aa (.str (t.take s++part t g l)):=kr (by unfold bI; simp; lia);have a2:aL (.str (t.take s++part t g l)) (.str (part t e g))=aa (.str (t.take s++part t g l++part t e g)):=kr (by unfold bI; simp; lia);have a3:aL (.str (t.take s++part t g l++part t e g)) (.str (part t s e))=aa (.str (t.take s++part t g l++part t e g++part t s e)):=kr (by unfold bI; simp; lia);have a4:aL (.str (t.take s++part t g l++part t e g++part t s e)) (.str (t.drop l))=aa (.str (eP t s e g l)):=kr (by unfold bI; simp; lia);have bv:(aj au).length<bI:=by rw[gq]; simp at hB; unfold bI; lia
  rw[show aj (au++[eP t s e g l])=aj au++[.str (eP t s e g l)] by simp[aj]];generalize eP t s e g l=X at a4;generalize t.take s++part t g l++part t e g++part t s e=A3 at a3 a4;generalize t.take s++part t g l++part t e g=A2 at a2 a3;generalize t.take s++part t g l=A1 at a1 a2;generalize t.take s=T0 at c1 a1;generalize t.drop l=T5 at c5 a4;generalize part t g l=T2 at c2 a1;generalize part t e g=T3 at c3 a2;generalize part t s e=T4 at c4 a3;generalize aO row e=R1 at i1 he;generalize aO row l=R2 at i2 he;generalize aj au=AC at bv;generalize aj row=RW at i1 i2;generalize ((s:Nat):Int)=si at c1 c4;generalize ((g:Nat):Int)=gi at c2 c3;generalize ((e:Nat):Int)=ei at c3 c4 i1;generalize ((l:Nat):Int)=li at c2 c5 i2;simp![zh,i1,i2,he,bj,aM,b9,c1,c2,c3,c4,c5,a1,a2,a3,a4,bv]
 ·rw[decide_eq_false q]at he;rw[if_neg q,jg];generalize aO row e=R1 at i1 he;generalize aO row l=R2 at i2 he;generalize aj au=AC;generalize aj row=RW at i1 i2;generalize ((s:Nat):Int)=si;generalize ((g:Nat):Int)=gi;generalize ((e:Nat):Int)=ei at i1;generalize ((l:Nat):Int)=li at i2;simp![zh,i1,i2,he]
theorem PD{d:ak->R aH}{v0 v1 v2 v3:PV}{sl e4 e5 e6:Slot}(h:d [.val v0,.val v1,.val v2,.val v3,.none,.none,.none] = .ok (.ret sl) [.val v0,.val v1,.val v2,.val v3,e4,e5,e6]):bw 4 [] (bB 3 d) [.val v0,.val v1,.val v2,.val v3] = .ok sl [.val v0,.val v1,.val v2,.val v3]:=by simp[bw,fg,bB,bH,h,back,aS,R.bind]
theorem qF{i:Nat}{ε:ak}(h:i<ε.length):cJ i (dL b8 aB) ε = .ok .next (ε.set i (.own (.lst []))):=by simp[cJ,dL,aB,b8,R.bind,aS,h]
theorem oX{i:Nat}{ε:ak}{po:PO}(h:ε[i]?=aa (.own po)):fA i ε = .ok (.ret (.own po)) (ε.set i .none):=by unfold fA; rw[h]
theorem o6{i:Nat}{di:ak->R (List PV)}{db:ak->R aH}{ε ε1 ε2:ak}{xs:List PV}(h:di ε = .ok xs ε1)(h2:eX i db xs ε1 = .ok .next ε2):cE i di db ε = .ok .next ε2:=by unfold cE; rw[h]; exact h2
theorem IM{i:Nat}{di:ak->R (List PV)}{db:ak->R aH}{ε ε1 ε2:ak}{xs:List PV}(h:di ε = .ok xs ε1)(h2:eX i db xs ε1 = .ok .next ε2):(λε=>cn (cE i di db ε)) ε = .ok .next ε2:=by show cn _=_;rw[o6 h h2];rfl
theorem xx{i:Nat}{di:ak->R (List PV)}{db d2:ak->R aH}{ε ε1 ε2:ak}{xs:List PV}(h:di ε = .ok xs ε1)(h2:eX i db xs ε1 = .ok .next ε2):aE (λε=>cn (cE i di db ε)) d2 ε=d2 ε2 :=cm (d1:=λε=>cn (cE i di db ε)) (IM h h2)
theorem Tl(t:Tx)(row:List Tx)(s g:Nat)(ht:t.length<=20)(hr:row.length<=20)(hg:g<row.length)(hsg:s<=g)(hB:(lD t row s g).length<=100000) : u_ a [.val (.str t),.val (.lst (aj row)),.val (.int s),.val (.int g)] = .ok (.own (.lst (aj (lD t row s g)))) [.val (.str t),.val (.lst (aj row)),.val (.int s),.val (.int g)]:=by
 have r1:=sY (lo:=s+1) (hi:=g+1) ∅ ∅;have r2:=sY (lo:=g+1) (hi:=row.length) ∅ ∅;have as:aL (.int s) (.int 1)=aa (.int ((s+1:Nat):Int)):=by show aa (PV.int _)=_; congr 2
 have ag:aL (.int g) (.int 1)=aa (.int ((g+1:Nat):Int)):=by show aa (PV.int _)=_; congr 2
 have hl:br [.lst (aj row)]=aa (.int (row.length:Nat)):=by show aa (PV.int _)=_; rw[gq]
 obtain⟨⟨s5,s6⟩,e1⟩:=nL (i:=5) (db:=F6) (σ:=Slot×Slot)
  (λau p=>[.val (.str t),.val (.lst (aj row)),.val (.int s),.val (.int g),.own (.lst (aj au)),p.1,p.2]) (λe=>nN t row s g e) 100000 (bP (s+1) (g+1)) [] (.none,.none) (by rw[eV]; exact hB)
  (by
   intro e he au p hB;obtain⟨e1,e2⟩:=HU.mp he;obtain⟨iG,h⟩:=Qm t row s g e ht hr ∅ au p.2 hB;refine⟨(.val (.int e),iG),?_⟩;have hd:Ji [.val (.str t),.val (.lst (aj row)),.val (.int s),.val (.int g),.own (.lst (aj au)),.val (.int e),p.2] =
     .ok ((bP (g+1) row.length).map λx=>PV.int (x:Nat)) [.val (.str t),.val (.lst (aj row)),.val (.int s),.val (.int g),.own (.lst (aj au)),.val (.int e),p.2] :=
    gU (fK (eO (x:=.int g) rfl (jA _ _) ag) (fK (gU (fK (x:=.lst (aj row)) rfl gT) hl) gT)) r2
   exact o6 hd h)
 have f_:=e1;dsimp only at f_;rw[eV,show aj ([]:List Tx)=[] from rfl,show(bP (s+1) (g+1)).flatMap (λe=>nN t row s g e)=lD t row s g from rfl]at f_;clear e1;have hd:El [.val (.str t),.val (.lst (aj row)),.val (.int s),.val (.int g),.own (.lst []),.none,.none] =
   .ok ((bP (s+1) (g+1)).map λx=>PV.int (x:Nat)) [.val (.str t),.val (.lst (aj row)),.val (.int s),.val (.int g),.own (.lst []),.none,.none] :=
  gU (fK (eO (x:=.int s) rfl (jA _ _) as) (fK (eO (x:=.int g) rfl (jA _ _) ag) gT)) r1
 clear r1 r2 as ag hl hB;have hb:yao a [.val (.str t),.val (.lst (aj row)),.val (.int s),.val (.int g),.none,.none,.none] = .ok (.ret (.own (.lst (aj (lD t row s g))))) [.val (.str t),.val (.lst (aj row)),.val (.int s),.val (.int g),.none,s5,s6]:=by rw[Sw];have h1:=qF (i:=4) (ε:=[.val (.str t),.val (.lst (aj row)),.val (.int s),.val (.int g),.none,.none,.none]) (by simp);refine(cm h1).trans ?_;refine(xx hd f_).trans ?_;exact oX rfl
 exact PD hb
end
section
variable{a:Ad}
theorem Js(n:Nat):aL (.int n) (.int 1)=aa (.int ((n+1:Nat):Int)):=by show aa (PV.int _)=_; congr 2
theorem xg(row:List Tx):br [.lst (aj row)]=aa (.int (row.length:Nat)):=by show aa (PV.int _)=_; rw[gq]
theorem o7{f:Nat->List Tx}{c:Nat->Nat}:∀ {l:List Nat},(∀ x∈l,(f x).length<=c x)->(l.flatMap f).length<=(l.map c).sum
 | [],_=>by simp
 | x::l,h=>by have h1:=h x (by simp);have h2:=o7 (f:=f) (c:=c) (l:=l) λy hy=>h y (by simp[hy]);rw[lY,cZ,eC,Dv];lia
theorem GT(c:Nat):∀ (l:List Nat),(l.map λ_=>c).sum=l.length * c
 | []=>by simp
 | x::l=>by rw[eC,Dv,GT c l,eI,Dt]; lia
theorem xP{f:Nat->List Tx}{c:Nat}{l:List Nat}(h:∀ x∈l,(f x).length<=c):(l.flatMap f).length<=l.length * c:=by have:=o7 (f:=f) (c:=λ_=>c) h;rwa[GT]at this
theorem r9(lo hi:Nat):(bP lo hi).length=hi-lo:=by simp[bP]
theorem GZ{p:Prop}[Decidable p]{x:Tx}:(if p then [x] else []).length<=1:=by split <;> simp
theorem BS{p:Prop}[Decidable p]{x:List Tx}{n:Nat}(h:x.length<=n):(if p then x else []).length<=n:=by split <;> simp[h]
theorem PR(t:Tx)(row:List Tx)(s g e:Nat):(nN t row s g e).length<=row.length-(g+1):=by have:=xP (f:=λl=>if aO row e=aO row l then [eP t s e g l] else []) (c:=1) (l:=bP (g+1) row.length) λ_ _=>GZ;rw[r9]at this;unfold nN; lia
theorem F_(t:Tx)(row:List Tx)(s g:Nat):(lD t row s g).length<=(g-s) * (row.length-(g+1)):=by have:=xP (f:=nN t row s g) (l:=bP (s+1) (g+1)) λe _=>PR t row s g e;rw[r9,show g+1-(s+1)=g-s by lia]at this;exact this
def rK(t:Tx)(row:List Tx)(s:Nat):List Tx:=(bP (s+1) row.length).flatMap λg=>if aO row s=aO row g then lD t row s g else []
def nJ(t:Tx)(row:List Tx):List Tx:=(bP 0 row.length).flatMap λs=>rK t row s
def Qs(n:Nat):Nat:=((bP 0 n).map λs=>((bP (s+1) n).map λg=>(g-s) * (n-(g+1))).sum).sum
theorem Sg:∀ n,n<=10->Qs n<=3000:=by decide +kernel
theorem Hl{t:Tx}{row:List Tx}(h:row.length<=10):(nJ t row).length<=3000:=by refine cL (o7 (c:=λs=>((bP (s+1) row.length).map λg=>(g-s) * (row.length-(g+1))).sum) λs _=>?_) (Sg _ h);exact o7 λg _=>BS (F_ t row s g)
theorem RE{t:Tx}{row:List Tx}(h:row.length<=10){s g:Nat}(hg:g<row.length):(lD t row s g).length<=100:=by have:=F_ t row s g;have h2:(g-s) * (row.length-(g+1))<=10 * 10:=C6 ∅ ∅;lia
def xf(a:Ad):ak->R aH:=dq (dB (d2 (eqT ao) (d2 a8 (dV 1) (dV 3)) (d2 a8 (dV 1) (dV 4)))) (kZ 2 (aU (aG (u_ a) (gV (dV 0) (gV (dV 1) (gV (dV 3) (gV (dV 4) (Pu.bN)))))))) (d9)
def EC:ak->R (List PV):=dL iq (aw (d2 aL (dV 3) (dC (.int 1))) (aw (dL br (aw (dV 1) (aB))) (aB)))
def Hd(a:Ad):ak->R aH:=cE 4 EC (xf a)
def IZ:ak->R (List PV):=dL ir (aw (dL br (aw (dV 1) (aB))) (aB))
theorem Su:yan a=aE (cJ 2 (dL b8 (aB))) (aE (λε=>cn (cE 3 IZ (Hd a) ε)) (fA 2)):=rfl
theorem bS{i:Nat}{ε:ak}{v:PV}(h:ε[i]?=aa (.val v)):dV i ε = .ok v ε:=by unfold dV; rw[h]
theorem ff{d:ak->R PV}{dg:ak->R (List cC)}{ε ε1 ε2:ak}{x:PV}{as:List cC}(h:d ε = .ok x ε1)(h2:dg ε1 = .ok as ε2):gV d dg ε = .ok (.inl x::as) ε2:=by unfold gV; rw[h,R.bind_ok,h2]; rfl
theorem mF{ε:ak}:Pu.bN ε = .ok [] ε:=rfl
theorem FT{G:ak->R Slot}{ε:ak}{i0 i1 i2 i3:Nat}{v0 v1 v2 v3:PV}{r:Slot}(h0:ε[i0]?=aa (.val v0))(h1:ε[i1]?=aa (.val v1))(h2:ε[i2]?=aa (.val v2))(h3:ε[i3]?=aa (.val v3))(hG:G [.val v0,.val v1,.val v2,.val v3] = .ok r [.val v0,.val v1,.val v2,.val v3]):aG G (gV (dV i0) (gV (dV i1) (gV (dV i2) (gV (dV i3) (Pu.bN))))) ε = .ok r ε:=by unfold aG;rw[ff (bS h0) (ff (bS h1) (ff (bS h2) (ff (bS h3) mF))),R.bind_ok];simp[cp,dI,R.bind,aS,hG,eK,dN,dY]
theorem mS{d:ak->R Slot}{ε ε1:ak}{xs:List PV}(h:d ε = .ok (.own (.lst xs)) ε1):aU d ε = .ok (.lst xs) ε1:=by unfold aU; rw[h]; rfl
theorem xy{i:Nat}{de:ak->R PV}{ε ε1:ak}{xs0 xs ys:List PV}(h0:f6 ε i=aa xs0)(h:de ε = .ok (.lst ys) ε1)(h1:f6 ε1 i=aa xs)(hl:xs.length+ys.length<=bI):kZ i de ε = .ok .next (ε1.set i (.own (.lst (xs++ys)))):=by unfold kZ;rw[h0];simp only[dO,R.bind_ok];rw[h];simp only[R.bind_ok];rw[h1];simp only[dO,R.bind_ok];rw[if_pos hl]
theorem uU{α:Type}{c:ak->R Bool}{d1 d2:ak->R α}{ε ε1:ak}(h:c ε = .ok ai ε1):dq c d1 d2 ε=d1 ε1:=by unfold dq; rw[h]; rfl
theorem yn{α:Type}{c:ak->R Bool}{d1 d2:ak->R α}{ε ε1:ak}(h:c ε = .ok ao ε1):dq c d1 d2 ε=d2 ε1:=by unfold dq; rw[h]; rfl
theorem jW{d:ak->R PV}{b:Bool}{ε ε1:ak}(h:d ε = .ok (.bl b) ε1):dB d ε = .ok b ε1:=by unfold dB; rw[h]; rfl
theorem No(t:Tx)(row:List Tx)(s:Nat)(ht:t.length<=20)(hr:row.length<=10)(hs:s<row.length)(au:List Tx)(s4:Slot)(hB:(au++rK t row s).length<=100000):∃ rm, eX 4 (xf a) ((bP (s+1) row.length).map λx=>.int (x:Nat)) [.val (.str t),.val (.lst (aj row)),.own (.lst (aj au)),.val (.int s),s4] = .ok .next [.val (.str t),.val (.lst (aj row)),.own (.lst (aj (au++rK t row s))),.val (.int s),rm]:=by
 refine nL (i:=4) (σ:=Slot) (λau s4=>[.val (.str t),.val (.lst (aj row)),.own (.lst (aj au)),.val (.int s),s4]) (λg=>if aO row s=aO row g then lD t row s g else []) 100000 _ au s4 hB ?_;intro g hg au s4 hB;obtain⟨l1,l2⟩:=HU.mp hg;refine⟨.val (.int g),?_⟩;have i1:=mo hs;have i2:=mo l2;have he:=kT ao (aO row s) (aO row g);simp only[lr]at he;by_cases q:aO row s=aO row g
 ·rw[decide_eq_true q]at he;rw[if_pos q]at hB ⊢;have hc:=Tl (a:=a) t row s g ht ∅ l2 ∅ (by have:=RE (t:=t) hr (s:=s) l2; lia);have bv:(aj au).length+(aj (lD t row s g)).length<=bI:=by rw[gq,gq]; simp at hB; unfold bI; lia
  rw[← vB];generalize aj (lD t row s g)=EF at hc bv;generalize aO row s=R1 at i1 he;generalize aO row g=R2 at i2 he;generalize aj au=AC at bv;generalize aj row=RW at i1 i2 hc;generalize ((s:Nat):Int)=si at i1 hc;generalize ((g:Nat):Int)=gi at i2 hc;have hx:aU (aG (u_ a) (gV (dV 0) (gV (dV 1) (gV (dV 3) (gV (dV 4) (Pu.bN)))))) [.val (.str t),.val (.lst RW),.own (.lst AC),.val (.int si),.val (.int gi)] = .ok (.lst EF) [.val (.str t),.val (.lst RW),.own (.lst AC),.val (.int si),.val (.int gi)]:=mS (FT rfl rfl rfl rfl hc);have bR:dB (d2 (eqT ao) (d2 a8 (dV 1) (dV 3)) (d2 a8 (dV 1) (dV 4))) [.val (.str t),.val (.lst RW),.own (.lst AC),.val (.int si),.val (.int gi)] = .ok ai [.val (.str t),.val (.lst RW),.own (.lst AC),.val (.int si),.val (.int gi)]:=by simp![i1,i2,he]
  unfold xf;exact(uU bR).trans (xy rfl hx rfl bv)
 ·rw[decide_eq_false q]at he;rw[if_neg q,jg];generalize aO row s=R1 at i1 he;generalize aO row g=R2 at i2 he;generalize aj au=AC;generalize aj row=RW at i1 i2;generalize ((s:Nat):Int)=si at i1;generalize ((g:Nat):Int)=gi at i2;simp![xf,i1,i2,he]
theorem LN{d:ak->R aH}{v0 v1:PV}{sl e4 e5 e6:Slot}(h:d [.val v0,.val v1,.none,.none,.none] = .ok (.ret sl) [.val v0,.val v1,e4,e5,e6]):bw 2 [] (bB 3 d) [.val v0,.val v1] = .ok sl [.val v0,.val v1]:=by simp[bw,fg,bB,bH,h,back,aS,R.bind]
theorem LY(t:Tx)(row:List Tx)(ht:t.length<=20)(hr:row.length<=10) : Aa a [.val (.str t),.val (.lst (aj row))] = .ok (.own (.lst (aj (nJ t row)))) [.val (.str t),.val (.lst (aj row))]:=by
 have r1:=yw (n:=row.length) ∅;have hl:=xg row;have hB:=Hl (t:=t) hr;obtain⟨⟨s3,s4⟩,e1⟩:=nL (i:=3) (db:=Hd a) (σ:=Slot×Slot)
  (λau p=>[.val (.str t),.val (.lst (aj row)),.own (.lst (aj au)),p.1,p.2]) (λs=>rK t row s) 100000 (bP 0 row.length) [] (.none,.none) (by rw[eV]; exact cL hB (by decide))
  (by
   intro s he au p hB;obtain⟨e1,e2⟩:=HU.mp he;obtain⟨rm,h⟩:=No (a:=a) t row s ht hr e2 au p.2 hB;refine⟨(.val (.int s),rm),?_⟩;have r2:=sY (lo:=s+1) (hi:=row.length) ∅ ∅;have hd:EC [.val (.str t),.val (.lst (aj row)),.own (.lst (aj au)),.val (.int s),p.2] =
     .ok ((bP (s+1) row.length).map λx=>PV.int (x:Nat)) [.val (.str t),.val (.lst (aj row)),.own (.lst (aj au)),.val (.int s),p.2] :=
    gU (fK (eO (x:=.int s) rfl (jA _ _) (Js s)) (fK (gU (fK (x:=.lst (aj row)) rfl gT) hl) gT)) r2
   exact o6 hd h)
 have f_:=e1;dsimp only at f_;rw[eV,show aj ([]:List Tx)=[] from rfl,show(bP 0 row.length).flatMap (λs=>rK t row s)=nJ t row from rfl]at f_;clear e1;have hd:IZ [.val (.str t),.val (.lst (aj row)),.own (.lst []),.none,.none] = .ok ((bP 0 row.length).map λx=>PV.int (x:Nat)) [.val (.str t),.val (.lst (aj row)),.own (.lst []),.none,.none] :=gU (fK (gU (fK (x:=.lst (aj row)) rfl gT) hl) gT) r1;have hb:yan a [.val (.str t),.val (.lst (aj row)),.none,.none,.none] = .ok (.ret (.own (.lst (aj (nJ t row))))) [.val (.str t),.val (.lst (aj row)),.none,s3,s4]:=by rw[Su];have h1:=qF (i:=2) (ε:=[.val (.str t),.val (.lst (aj row)),.none,.none,.none]) (by simp);refine(cm h1).trans ?_;refine(xx hd f_).trans ?_;exact oX rfl
 exact LN hb
theorem G4{row:List Tx}(h:1<=row.length):a8 (.lst (aj row)) (.int (-1))=aa (.str (aO row (row.length-1))):=by
 show eh (aj row) (-1)=_;unfold eh;have:jv (aj row).length (-1)=aa (row.length-1):=by unfold jv;rw[gq,if_neg (by decide),if_pos ∅];congr 1; lia
 rw[this];have h2:row.length-1<row.length:=∅
 simp[aj,aO,h2]
def pQ(t:Tx)(m w:Nat):List Tx:=(bP 1 m).map λp=>gh ((t.take m).drop p++(t.take m).take p) w
theorem Ox(t:Tx)(m w:Nat)(w1:1<=w)(w4:w<=4)(ht:t.length<=20)(hm:m<=t.length)(RW:PV) : kY [3,2] dW (aU (aG (rO a) (gV (d2 aL (bj bg (dV 1) (aM (dV 0)) (b9)) (bj bg (dV 1) (b9) (aM (dV 0)))) (gV (dV 2) (Pu.bN))))) ((bP 1 m).map λx=>.int (x:Nat)) [] [.val (.str t),.val RW,.val (.int w),.val (.str (t.take m))] = .ok (aj (pQ t m w)) [.val (.str t),.val RW,.val (.int w),.val (.str (t.take m))]:=by
 have hc:=ko (cap:=[3,2]) (dt:=dW) (de:=(aU (aG (rO a) (gV (d2 aL (bj bg (dV 1) (aM (dV 0)) (b9)) (bj bg (dV 1) (b9) (aM (dV 0)))) (gV (dV 2) (Pu.bN)))))) (ε:=[.val (.str t),.val RW,.val (.int w),.val (.str (t.take m))])
  (λ_=>ai) (λx=>match x with | .int i=>.str (gh ((t.take m).drop i.toNat++(t.take m).take i.toNat) w) | _=>.non) ((bP 1 m).map λx=>.int (x:Nat))
  (by intro x hx;obtain⟨i,_,rfl⟩:=cM.mp hx;refine⟨by simp![dX,dR,cX,dW],λ_=>?_⟩;have s1:=zZ (t.take m) i;have s2:=o5 (t.take m) i;have h1:aL (.str ((t.take m).drop i)) (.str ((t.take m).take i))=aa (.str ((t.take m).drop i++(t.take m).take i)):=kr (by unfold bI; simp; lia);have h2:=M7 (a:=a) (z:=(t.take m).drop i++(t.take m).take i) w1 w4 (by simp; lia);simp only[lR];generalize gh ((t.take m).drop i++(t.take m).take i) w=U at h2;generalize (t.take m).drop i++(t.take m).take i=Y at h1 h2;generalize (t.take m).drop i=A1 at s1 h1;generalize (t.take m).take i=A2 at s2 h1;generalize t.take m=TM at s1 s2;generalize ((i:Nat):Int)=ii at s1 s2;simp![dX,dR,cX,bj,aM,b9,s1,s2,h1,h2]) []
 rw[hc,eV,oC.mpr (by simp)];congr 1;unfold aj pQ;rw[eJ,eJ];refine gP λi _=>?_;simp
def jZ(t:Tx)(row:List Tx)(w:Nat):List Tx:=if aO row 0=aO row (row.length-1)then pQ t (row.length-1) w else []
theorem L5(t:Tx)(row:List Tx)(w:Nat)(w1:1<=w)(w4:w<=4)(ht:t.length<=20)(hr:1<=row.length)(lu:row.length<=t.length+1) : uX a [.val (.str t),.val (.lst (aj row)),.val (.int w)] = .ok (.own (.lst (aj (jZ t row w)))) [.val (.str t),.val (.lst (aj row)),.val (.int w)]:=by
 have i1:a8 (.lst (aj row)) (.int 0)=aa (.str (aO row 0)):=mo (i:=0) ∅;have i2:=G4 hr;have he:=kT ai (aO row 0) (aO row (row.length-1));have wv:dU (.int 1)=aa (.int (-1)):=rfl;unfold jZ;by_cases q:aO row 0=aO row (row.length-1)
 ·rw[decide_eq_true q]at he;rw[if_pos q];have hl:=xg row;have hs:cz (.int (row.length:Nat)) (.int 1)=aa (.int ((row.length-1:Nat):Int)):=by show aa (PV.int _)=_;congr 2; lia
  have s1:=o5 t (row.length-1);have kJ:br [.str (t.take (row.length-1))]=aa (.int ((row.length-1:Nat):Int)):=by show aa (PV.int _)=_;congr 2; simp; lia
  have r1:=sY (lo:=1) (hi:=row.length-1) ∅ ∅;have hc:=Ox (a:=a) t (row.length-1) w w1 w4 ht ∅ (.lst (aj row));generalize aj (pQ t (row.length-1) w)=TT at hc;generalize (bP 1 (row.length-1)).map (λx=>PV.int (x:Nat))=RG at r1 hc;generalize t.take (row.length-1)=T1 at s1 kJ hc;generalize ((row.length-1:Nat):Int)=m at hs s1 kJ r1;generalize ((row.length:Nat):Int)=n at hl hs;generalize aO row 0=R1 at i1 he;generalize aO row (row.length-1)=R2 at i2 he;generalize aj row=RW at i1 i2 hl hc;simp only[Bool.xor_true,zO]at he;have r1':iq [.int 1,.int m]=aa RG:=r1;clear r1;simp![uX,yaO,i1,i2,wv,he,hl,hs,bj,b9,aM,s1,kL,c9,kJ,r1',hc]
 ·rw[decide_eq_false q]at he;rw[if_neg q];generalize aO row 0=R1 at i1 he;generalize aO row (row.length-1)=R2 at i2 he;generalize aj row=RW at i1 i2;simp only[Bool.xor_false]at he;simp![uX,yaO,i1,i2,wv,he,kL,show aj ([]:List Tx)=[] from rfl]
def iL(t:Tx)(w:Nat):List Tx:=nJ t (bO t (w-1))++jZ t (bO t (w-1)) w
def bA(t:Tx)(w:Nat):List Tx:=bD (fi (cf (iL t w)) t)
theorem Uk(t:Tx)(row:List Tx)(w:Nat):(jZ t row w).length<=row.length:=by
 unfold jZ;split
 ·unfold pQ; rw[cD,r9]; lia
 ·simp
theorem BE(t:Tx)(w:Nat)(h:Tv t w)(h9:t.length+2<=w+10):kN a [.val (.str t),.val (.int w)] = .ok (.own (.lst (aj (bA t w)))) [.val (.str t),.val (.int w)]:=by
 have b1:=h.w1;have b2:=h.w4;have b3:=h.h1;have hs:cz (.int w) (.int 1)=aa (.int ((w-1:Nat):Int)):=by show aa (PV.int _)=_;congr 2; lia
 have e1:=EE (a:=a) (t:=t) (w:=w-1) ∅ ∅;have ug:=sG t (w-1);have e2:=LY (a:=a) t (bO t (w-1)) ∅ ∅;have e3:=L5 (a:=a) t (bO t (w-1)) w b1 b2 ∅ ∅ ∅;have l1:=Hl (t:=t) (row:=bO t (w-1)) ∅;have l2:=Uk t (bO t (w-1)) w;have l9:aL (.lst (aj (nJ t (bO t (w-1))))) (.lst (aj (jZ t (bO t (w-1)) w)))=aa (.lst (aj (iL t w))):=by show(if _ then _ else _)=_;rw[if_pos (by rw[gq,gq]; unfold bI; lia),vB];rfl
 have hu:sJ [.lst (aj (iL t w))]=aa (cf (iL t w)):=by show(gW (aj (iL t w))).bind _=_;have:=yL (iL t w);rw[pV,iD,if_pos (by unfold iL at this; rw[cZ]at this; unfold iL; lia)]
 unfold bA;generalize cf (iL t w)=UL at hu;generalize aj (iL t w)=SL at l9 hu;generalize aj (nJ t (bO t (w-1)))=EA at e2 l9;generalize aj (jZ t (bO t (w-1)) w)=TA at e3 l9;generalize aj (bO t (w-1))=RW at e1 e2 e3;generalize ((w-1:Nat):Int)=wi at hs e1;simp![kN,yaH,kL,hs,e1,e2,e3,Bp,l9,hu]
theorem Mv{t:Tx}{w:Nat}(w1:1<=w)(hw:w<=t.length+1)(ht:t.length<=60):pZ a [.val (.str t),.val (.int w)] = .ok (.own (.lst (aj (bO t (w-1))))) [.val (.str t),.val (.int w)]:=by
 have hl:br [.str t]=aa (.int (t.length:Nat)):=rfl;have hs:cz (.int (t.length:Nat)) (.int w)=aa (.int ((t.length:Int)-w)):=rfl;have ha:aL (.int ((t.length:Int)-w)) (.int 2)=aa (.int ((t.length+1-(w-1):Nat):Int)):=by show aa (PV.int ((t.length:Int)-w+2))=_;congr 2; lia
 have hr:ir [.int ((t.length+1-(w-1):Nat):Int)]=aa (fZ 0 (t.length+1-(w-1))):=yN ∅;have hc:=ko (cap:=[0,1]) (dt:=dW) (de:=(bj bg (dV 1) (aM (dV 0)) (aM (d2 cz (d2 aL (dV 0) (dV 2)) (dC (.int 1)))))) (ε:=[.val (.str t),.val (.int w)]) (λ_=>ai) (λx=>match x with | .int i=>.str (ez t (aa i) (aa (i+w-1))) | _=>.non) (fZ 0 (t.length+1-(w-1)))
  (by intro x hx;obtain⟨i,_,rfl⟩:=cM.mp hx;refine⟨by simp![dX,dR,cX,dW],λ_=>?_⟩;simp![dX,dR,cX,aL,cz,bj,aM,bg]) []
 have he:((fZ 0 (t.length+1-(w-1))).filter (λ_=>ai)).map (λx=>match x with | .int i=>PV.str (ez t (aa i) (aa (i+w-1))) | _=>.non)=aj (bO t (w-1)):=by
  rw[oC.mpr (by simp)];unfold fZ aj bO;rw[eJ,eJ];refine gP λi hi=>?_;have hi:i<t.length+1-(w-1):=by simpa using hi
  simp only[qT,Int.zero_add];rw[show((i:Int)+w-1)=(i:Int)+((w-1:Nat):Int) by lia,GM ∅]
 rw[eV,he]at hc;generalize aj (bO t (w-1))=T at hc;generalize fZ 0 (t.length+1-(w-1))=RR at hr hc;generalize ((t.length+1-(w-1):Nat):Int)=n at ha hr;simp![pZ,yaE,kL,c9,hl,hs,ha,hr,hc]
def stI(t:Tx)(row:List Tx)(j l k:Nat):List Tx:=(bP 0 j).flatMap λi=>if aO row i=aO row k then [eP t i j k l] else []
def mT(t:Tx)(row:List Tx)(j l:Nat):List Tx:=(bP j l).flatMap λk=>stI t row j l k
def sT(t:Tx)(row:List Tx)(l:Nat):List Tx:=(bP 0 l).flatMap λj=>if aO row j=aO row l then mT t row j l else []
def nW(t:Tx)(row:List Tx):List Tx:=(bP 0 row.length).flatMap λl=>sT t row l
theorem QD(t:Tx)(row:List Tx)(j l k:Nat):(stI t row j l k).length<=j:=by have:=xP (f:=λi=>if aO row i=aO row k then [eP t i j k l] else []) (c:=1) (l:=bP 0 j) λ_ _=>GZ;rw[r9]at this;unfold stI; lia
theorem Ch(t:Tx)(row:List Tx)(j l:Nat):(mT t row j l).length<=(l-j) * j:=by have:=xP (f:=stI t row j l) (l:=bP j l) λk _=>QD t row j l k;rw[r9]at this;exact this
def Iv(n:Nat):Nat:=((bP 0 n).map λl=>((bP 0 l).map λj=>(l-j) * j).sum).sum
theorem LX:∀ n,n<=10->Iv n<=3000:=by decide +kernel
theorem Ej{t:Tx}{row:List Tx}(h:row.length<=10):(nW t row).length<=3000:=by refine cL (o7 (c:=λl=>((bP 0 l).map λj=>(l-j) * j).sum) λs _=>?_) (LX _ h);exact o7 λg _=>BS (Ch t row g s)
theorem Oe{t:Tx}{row:List Tx}{j l:Nat}(hl:l<=10)(hj:j<=l):(mT t row j l).length<=100:=by have:=Ch t row j l;have h2:(l-j) * j<=10 * 10:=C6 ∅ ∅;lia
def xG:ak->R aH:=dq (dB (d2 (eqT ao) (d2 a8 (dV 1) (dV 6)) (d2 a8 (dV 1) (dV 5)))) (aE (bt 7 (d2 aL (bj bg (dV 0) (b9) (aM (dV 6))) (bj bg (dV 0) (aM (dV 5)) (aM (dV 3))))) (aE (bt 7 (d2 aL (dV 7) (bj bg (dV 0) (aM (dV 2)) (aM (dV 5))))) (i9 4 (d2 aL (d2 aL (dV 7) (bj bg (dV 0) (aM (dV 6)) (aM (dV 2)))) (bj bg (dV 0) (aM (dV 3)) (b9)))))) (d9)
def E8:ak->R (List PV):=dL ir (aw (dV 2) (aB))
def Iw:ak->R aH:=cE 6 E8 xG
def Gy:ak->R (List PV):=dL iq (aw (dV 2) (aw (dV 3) (aB)))
theorem QN:yaF a=aE (cJ 4 (dL b8 (aB))) (aE (λε=>cn (cE 5 Gy Iw ε)) (fA 4)):=rfl
theorem Tp(t:Tx)(row:List Tx)(j l k:Nat)(ht:t.length<=20)(hj:j<=k)(hk:k<row.length)(au:List Tx)(p:Slot×Slot)(hB:(au++stI t row j l k).length<=100000):∃ p':Slot×Slot, eX 6 xG ((bP 0 j).map λx=>.int (x:Nat)) [.val (.str t),.val (.lst (aj row)),.val (.int j),.val (.int l),.own (.lst (aj au)),.val (.int k),p.1,p.2] = .ok .next [.val (.str t),.val (.lst (aj row)),.val (.int j),.val (.int l),.own (.lst (aj (au++stI t row j l k))),.val (.int k),p'.1,p'.2]:=by
 refine nL (i:=6) (σ:=Slot×Slot) (λau p=>[.val (.str t),.val (.lst (aj row)),.val (.int j),.val (.int l),.own (.lst (aj au)),.val (.int k),p.1,p.2]) (λi=>if aO row i=aO row k then [eP t i j k l] else []) 100000 _ au p hB ?_;intro i hi au p hB;obtain⟨_,l2⟩:=HU.mp hi;have i1:=mo (row:=row) (i:=i) ∅;have i2:=mo hk;have he:=kT ao (aO row i) (aO row k);simp only[lr]at he;obtain⟨p1,p2⟩:=p;by_cases q:aO row i=aO row k
 ·rw[decide_eq_true q]at he;rw[if_pos q]at hB ⊢;have c1:=o5 t i;have c2:=oY t k l;have c3:=oY t j k;have c4:=oY t i j;have c5:=zZ t l;have p1:=rM t k l;have p2:=rM t j k;have p3:=rM t i j;have a1:aL (.str (t.take i)) (.str (part t k l))=aa (.str (t.take i++part t k l)):=kr (by unfold bI; simp; lia);have a2:aL (.str (t.take i++part t k l)) (.str (part t j k))=aa (.str (t.take i++part t k l++part t j k)):=kr (by unfold bI; simp; lia);have a3:aL (.str (t.take i++part t k l++part t j k)) (.str (part t i j))=aa (.str (t.take i++part t k l++part t j k++part t i j)):=kr (by unfold bI; simp; lia);have a4:aL (.str (t.take i++part t k l++part t j k++part t i j)) (.str (t.drop l))=aa (.str (eP t i j k l)):=kr (by unfold bI; simp; lia);have bv:(aj au).length<bI:=by rw[gq]; simp at hB; unfold bI; lia
  rw[show aj (au++[eP t i j k l])=aj au++[.str (eP t i j k l)] by simp[aj]];refine⟨(.val (.int i),.val (.str (t.take i++part t k l++part t j k))),?_⟩;generalize eP t i j k l=X at a4;generalize t.take i++part t k l++part t j k++part t i j=A3 at a3 a4;generalize t.take i++part t k l++part t j k=A2 at a2 a3;generalize t.take i++part t k l=A1 at a1 a2;generalize t.take i=T0 at c1 a1;generalize t.drop l=T5 at c5 a4;generalize part t k l=T2 at c2 a1;generalize part t j k=T3 at c3 a2;generalize part t i j=T4 at c4 a3;generalize aO row i=R1 at i1 he;generalize aO row k=R2 at i2 he;generalize aj au=AC at bv;generalize aj row=RW at i1 i2;generalize ((i:Nat):Int)=ii at c1 c4 i1;generalize ((j:Nat):Int)=ji at c3 c4;generalize ((k:Nat):Int)=ki at c2 c3 i2;generalize ((l:Nat):Int)=li at c2 c5;simp![xG,i1,i2,he,bj,aM,b9,c1,c2,c3,c4,c5,a1,a2,a3,a4,bv]
 ·rw[decide_eq_false q]at he;rw[if_neg q,jg];refine⟨(.val (.int i),p2),?_⟩;generalize aO row i=R1 at i1 he;generalize aO row k=R2 at i2 he;generalize aj au=AC;generalize aj row=RW at i1 i2;generalize ((i:Nat):Int)=ii at i1;generalize ((j:Nat):Int)=ji;generalize ((k:Nat):Int)=ki at i2;generalize ((l:Nat):Int)=li;simp![xG,i1,i2,he]
theorem La{d:ak->R aH}{v0 v1 v2 v3:PV}{sl e4 e5 e6 e7:Slot}(h:d [.val v0,.val v1,.val v2,.val v3,.none,.none,.none,.none] = .ok (.ret sl) [.val v0,.val v1,.val v2,.val v3,e4,e5,e6,e7]):bw 4 [] (bB 4 d) [.val v0,.val v1,.val v2,.val v3] = .ok sl [.val v0,.val v1,.val v2,.val v3]:=by simp[bw,fg,bB,bH,h,back,aS,R.bind]
theorem Oy(t:Tx)(row:List Tx)(j l:Nat)(ht:t.length<=20)(hr:row.length<=10)(hl:l<row.length)(hj:j<=l) : vF a [.val (.str t),.val (.lst (aj row)),.val (.int j),.val (.int l)] = .ok (.own (.lst (aj (mT t row j l)))) [.val (.str t),.val (.lst (aj row)),.val (.int j),.val (.int l)]:=by
 have r1:=sY (lo:=j) (hi:=l) ∅ ∅;have r2:=yw (n:=j) ∅;obtain⟨⟨s5,s6,s7⟩,e1⟩:=nL (i:=5) (db:=Iw) (σ:=Slot×Slot×Slot)
  (λau p=>[.val (.str t),.val (.lst (aj row)),.val (.int j),.val (.int l),.own (.lst (aj au)),p.1,p.2.1,p.2.2]) (λk=>stI t row j l k) 100000 (bP j l) [] (.none,.none,.none) (by rw[eV]; have:=Oe (t:=t) (row:=row) (l:=l) ∅ hj; exact cL this (by decide))
  (by
   intro k he au p hB;obtain⟨e1,e2⟩:=HU.mp he;obtain⟨p',h⟩:=Tp t row j l k ht e1 ∅ au p.2 hB;refine⟨(.val (.int k),p'),?_⟩;have hd:E8 [.val (.str t),.val (.lst (aj row)),.val (.int j),.val (.int l),.own (.lst (aj au)),.val (.int k),p.2.1,p.2.2] =
     .ok ((bP 0 j).map λx=>PV.int (x:Nat)) [.val (.str t),.val (.lst (aj row)),.val (.int j),.val (.int l),.own (.lst (aj au)),.val (.int k),p.2.1,p.2.2] :=
    gU (fK (x:=.int j) rfl gT) r2
   exact o6 hd h)
 have f_:=e1;dsimp only at f_;rw[eV,show aj ([]:List Tx)=[] from rfl,show(bP j l).flatMap (λk=>stI t row j l k)=mT t row j l from rfl]at f_;clear e1;have hd:Gy [.val (.str t),.val (.lst (aj row)),.val (.int j),.val (.int l),.own (.lst []),.none,.none,.none] =
   .ok ((bP j l).map λx=>PV.int (x:Nat)) [.val (.str t),.val (.lst (aj row)),.val (.int j),.val (.int l),.own (.lst []),.none,.none,.none] :=
  gU (fK (x:=.int j) rfl (fK (x:=.int l) rfl gT)) r1
 have hb:yaF a [.val (.str t),.val (.lst (aj row)),.val (.int j),.val (.int l),.none,.none,.none,.none] = .ok (.ret (.own (.lst (aj (mT t row j l))))) [.val (.str t),.val (.lst (aj row)),.val (.int j),.val (.int l),.none,s5,s6,s7]:=by rw[QN];have h1:=qF (i:=4) (ε:=[.val (.str t),.val (.lst (aj row)),.val (.int j),.val (.int l),.none,.none,.none,.none]) (by simp);refine(cm h1).trans ?_;refine(xx hd f_).trans ?_;exact oX rfl
 exact La hb
def zc(a:Ad):ak->R aH:=dq (dB (d2 (eqT ao) (d2 a8 (dV 2) (dV 5)) (d2 a8 (dV 2) (dV 4)))) (kZ 3 (aU (aG (vF a) (gV (dV 0) (gV (dV 2) (gV (dV 5) (gV (dV 4) (Pu.bN)))))))) (d9)
def Gq:ak->R (List PV):=dL ir (aw (dV 4) (aB))
def y8(a:Ad):ak->R aH:=cE 5 Gq (zc a)
def xE:ak->R (List PV):=dL ir (aw (dL br (aw (dV 2) (aB))) (aB))
def tM:ak->R aH:=dq (dB (d2 (eqT ao) (d2 a8 (dV 2) (dC (.int 0))) (d2 a8 (dV 2) (d1 dU (dC (.int 1)))))) (aE (bt 6 (d2 iS (bj bg (dV 0) (b9) (aM (d2 cz (dL br (aw (dV 2) (aB))) (dC (.int 1))))) (dC (.int 3)))) (kZ 3 (dF (c9 [6,0] (dL iq (aw (dC (.int 1)) (aw (d2 cz (dL br (aw (dV 2) (aB))) (dC (.int 1))) (aB)))) (dW) (bj bg (dV 1) (aM (dV 0)) (aM (d2 aL (dV 0) (dL br (aw (dV 2) (aB)))))))))) (d9)
def uM:ak->R aH:=dS (dF (dL lJ (aw (dF (c9 [0] (cI (dM 3)) (dB (d2 (eqT ai) (dV 0) (dV 1))) (dV 0))) (aB))))
theorem Ta:yaC a=aE (bt 2 (aU (aG (pZ a) (gV (dV 0) (gV (dV 1) (Pu.bN)))))) (aE (cJ 3 (dL b8 (aB))) (aE (λε=>cn (cE 4 xE (y8 a) ε)) (aE tM uM))):=rfl
theorem Nj(t:Tx)(W:PV)(row:List Tx)(l:Nat)(ht:t.length<=20)(hr:row.length<=10)(hl:l<row.length)(au:List Tx)(s5 s6:Slot)(hB:(au++sT t row l).length<=100000):∃ ik, eX 5 (zc a) ((bP 0 l).map λx=>.int (x:Nat)) [.val (.str t),.val W,.val (.lst (aj row)),.own (.lst (aj au)),.val (.int l),s5,s6] = .ok .next [.val (.str t),.val W,.val (.lst (aj row)),.own (.lst (aj (au++sT t row l))),.val (.int l),ik,s6]:=by
 refine nL (i:=5) (σ:=Slot) (λau s5=>[.val (.str t),.val W,.val (.lst (aj row)),.own (.lst (aj au)),.val (.int l),s5,s6]) (λj=>if aO row j=aO row l then mT t row j l else []) 100000 _ au s5 hB ?_;intro j hj au s5 hB;obtain⟨_,l2⟩:=HU.mp hj;refine⟨.val (.int j),?_⟩;have i1:=mo (row:=row) (i:=j) ∅;have i2:=mo hl;have he:=kT ao (aO row j) (aO row l);simp only[lr]at he;by_cases q:aO row j=aO row l
 ·rw[decide_eq_true q]at he;rw[if_pos q]at hB ⊢;have hc:=Oy (a:=a) t row j l ht hr hl ∅;have bv:(aj au).length+(aj (mT t row j l)).length<=bI:=by rw[gq,gq]; simp at hB; unfold bI; lia
  rw[← vB];generalize aj (mT t row j l)=EF at hc bv;generalize aO row j=R1 at i1 he;generalize aO row l=R2 at i2 he;generalize aj au=AC at bv;generalize aj row=RW at i1 i2 hc;generalize ((j:Nat):Int)=si at i1 hc;generalize ((l:Nat):Int)=gi at i2 hc;have hx:aU (aG (vF a) (gV (dV 0) (gV (dV 2) (gV (dV 5) (gV (dV 4) (Pu.bN)))))) [.val (.str t),.val W,.val (.lst RW),.own (.lst AC),.val (.int gi),.val (.int si),s6] = .ok (.lst EF) [.val (.str t),.val W,.val (.lst RW),.own (.lst AC),.val (.int gi),.val (.int si),s6]:=mS (FT rfl rfl rfl rfl hc);have bR:dB (d2 (eqT ao) (d2 a8 (dV 2) (dV 5)) (d2 a8 (dV 2) (dV 4))) [.val (.str t),.val W,.val (.lst RW),.own (.lst AC),.val (.int gi),.val (.int si),s6] = .ok ai [.val (.str t),.val W,.val (.lst RW),.own (.lst AC),.val (.int gi),.val (.int si),s6]:=by simp![i1,i2,he]
  unfold zc;exact(uU bR).trans (xy rfl hx rfl bv)
 ·rw[decide_eq_false q]at he;rw[if_neg q,jg];generalize aO row j=R1 at i1 he;generalize aO row l=R2 at i2 he;generalize aj au=AC;generalize aj row=RW at i1 i2;generalize ((j:Nat):Int)=si at i1;generalize ((l:Nat):Int)=gi at i2;simp![zc,i1,i2,he]
theorem Li(t:Tx)(W:PV)(row:List Tx)(ht:t.length<=20)(hr:row.length<=10):∃ s4 s5, (λε=>cn (cE 4 xE (y8 a) ε)) [.val (.str t),.val W,.val (.lst (aj row)),.own (.lst []),.none,.none,.none] = .ok .next [.val (.str t),.val W,.val (.lst (aj row)),.own (.lst (aj (nW t row))),s4,s5,.none]:=by
 have r1:=yw (n:=row.length) ∅;have hl:=xg row;have hB:=Ej (t:=t) hr;obtain⟨⟨s4,s5⟩,e1⟩:=nL (i:=4) (db:=y8 a) (σ:=Slot×Slot)
  (λau p=>[.val (.str t),.val W,.val (.lst (aj row)),.own (.lst (aj au)),p.1,p.2,.none]) (λl=>sT t row l) 100000 (bP 0 row.length) [] (.none,.none) (by rw[eV]; exact cL hB (by decide))
  (by
   intro l he au p hB;obtain⟨e1,e2⟩:=HU.mp he;obtain⟨ik,h⟩:=Nj (a:=a) t W row l ht hr e2 au p.2 .none hB;refine⟨(.val (.int l),ik),?_⟩;have r2:=yw (n:=l) ∅;have hd:Gq [.val (.str t),.val W,.val (.lst (aj row)),.own (.lst (aj au)),.val (.int l),p.2,.none] =
     .ok ((bP 0 l).map λx=>PV.int (x:Nat)) [.val (.str t),.val W,.val (.lst (aj row)),.own (.lst (aj au)),.val (.int l),p.2,.none] :=
    gU (fK (x:=.int l) rfl gT) r2
   exact o6 hd h)
 have f_:=e1;dsimp only at f_;rw[eV,show aj ([]:List Tx)=[] from rfl,show(bP 0 row.length).flatMap (λl=>sT t row l)=nW t row from rfl]at f_;clear e1;have hd:xE [.val (.str t),.val W,.val (.lst (aj row)),.own (.lst []),.none,.none,.none] = .ok ((bP 0 row.length).map λx=>PV.int (x:Nat)) [.val (.str t),.val W,.val (.lst (aj row)),.own (.lst []),.none,.none,.none] :=gU (fK (gU (fK (x:=.lst (aj row)) rfl gT) hl) gT) r1;exact⟨s4,s5,IM hd f_⟩
def rV(t:Tx)(m:Nat):List Tx:=(bP 1 m).map λp=>part (bH 3 (t.take m)).flatten p (p+t.length)
def gk(t:Tx)(row:List Tx):List Tx:=if aO row 0=aO row (row.length-1)then rV t (row.length-1)else []
theorem Gr(t:Tx)(row:List Tx):(gk t row).length<=row.length:=by
 unfold gk;split
 ·unfold rV; rw[cD,r9]; lia
 ·simp
theorem Pg(t:Tx)(m:Nat)(V1 V2:PV)(po:PO)(s4 s5:Slot)(F:Tx) : kY [6,0] dW (bj bg (dV 1) (aM (dV 0)) (aM (d2 aL (dV 0) (dL br (aw (dV 2) (aB)))))) ((bP 1 m).map λx=>.int (x:Nat)) [] [.val (.str t),.val V1,.val V2,.own po,s4,s5,.val (.str F)] = .ok (aj ((bP 1 m).map λp=>part F p (p+t.length))) [.val (.str t),.val V1,.val V2,.own po,s4,s5,.val (.str F)]:=by
 have hc:=ko (cap:=[6,0]) (dt:=dW) (de:=(bj bg (dV 1) (aM (dV 0)) (aM (d2 aL (dV 0) (dL br (aw (dV 2) (aB))))))) (ε:=[.val (.str t),.val V1,.val V2,.own po,s4,s5,.val (.str F)])
  (λ_=>ai) (λx=>match x with | .int i=>.str (part F i.toNat (i.toNat+t.length)) | _=>.non) ((bP 1 m).map λx=>.int (x:Nat))
  (by
   intro x hx;obtain⟨i,_,rfl⟩:=cM.mp hx;refine⟨by simp![dX,dR,cX,dW],λ_=>?_⟩;have hl:br [.str t]=aa (.int (t.length:Nat)):=rfl;have ha:aL (.int i) (.int (t.length:Nat))=aa (.int ((i+t.length:Nat):Int)):=by show aa (PV.int _)=_; congr 2
   have s1:=oY F i (i+t.length);simp only[lR];generalize part F i (i+t.length)=P at s1;generalize ((i+t.length:Nat):Int)=e at ha s1;generalize ((t.length:Nat):Int)=tl at hl ha;generalize ((i:Nat):Int)=ii at ha s1;simp![dX,dR,cX,bj,aM,hl,ha,s1]) []
 rw[hc,eV,oC.mpr (by simp)];congr 1;unfold aj;rw[eJ,eJ];refine gP λi _=>?_;simp
theorem QO(t:Tx)(W:PV)(row au:List Tx)(s4 s5:Slot)(ht:t.length<=20)(hr:1<=row.length)(lu:row.length<=t.length+1)(hB:(au++gk t row).length<=100000):∃ s6, tM [.val (.str t),.val W,.val (.lst (aj row)),.own (.lst (aj au)),s4,s5,.none] = .ok .next [.val (.str t),.val W,.val (.lst (aj row)),.own (.lst (aj (au++gk t row))),s4,s5,s6]:=by
 have i1:a8 (.lst (aj row)) (.int 0)=aa (.str (aO row 0)):=mo (i:=0) ∅;have i2:=G4 hr;have he:=kT ao (aO row 0) (aO row (row.length-1));simp only[lr]at he;have wv:dU (.int 1)=aa (.int (-1)):=rfl;unfold gk at hB ⊢;by_cases q:aO row 0=aO row (row.length-1)
 ·rw[decide_eq_true q]at he;rw[if_pos q]at hB ⊢;have hl:=xg row;have hs:cz (.int (row.length:Nat)) (.int 1)=aa (.int ((row.length-1:Nat):Int)):=by show aa (PV.int _)=_;congr 2; lia
  have s1:=o5 t (row.length-1);have hm:iS (.str (t.take (row.length-1))) (.int 3)=aa (.str (bH 3 (t.take (row.length-1))).flatten):=by show(if 0<=(3:Int)/\(3:Int)<=100/\(t.take (row.length-1)).length<=100 then aa (PV.str (bH (3:Int).toNat (t.take (row.length-1))).flatten)else ae)=_;rw[if_pos ⟨by decide,by decide,by simp; lia⟩]; rfl
  have r1:iq [.int 1,.int ((row.length-1:Nat):Int)]=aa ((bP 1 (row.length-1)).map λx=>.int (x:Nat)):=sY (lo:=1) (hi:=row.length-1) ∅ ∅;have hc:=Pg t (row.length-1) W (.lst (aj row)) (.lst (aj au)) s4 s5 (bH 3 (t.take (row.length-1))).flatten;rw[show((bP 1 (row.length-1)).map λp=>part (bH 3 (t.take (row.length-1))).flatten p (p+t.length))=rV t (row.length-1)from rfl]at hc;have bv:(aj au).length+(aj (rV t (row.length-1))).length<=bI:=by rw[gq,gq]; simp at hB; unfold bI; lia
  refine⟨.val (.str (bH 3 (t.take (row.length-1))).flatten),?_⟩;rw[← vB];generalize aj (rV t (row.length-1))=TT at hc bv;generalize (bP 1 (row.length-1)).map (λx=>PV.int (x:Nat))=RG at r1 hc;generalize (bH 3 (t.take (row.length-1))).flatten=F3 at hm hc;generalize t.take (row.length-1)=T1 at s1 hm;generalize ((row.length-1:Nat):Int)=m at hs s1 r1;generalize ((row.length:Nat):Int)=n at hl hs;generalize aO row 0=R1 at i1 he;generalize aO row (row.length-1)=R2 at i2 he;generalize aj row=RW at i1 i2 hl hc;generalize aj au=AC at bv hc;have bR:dB (d2 (eqT ao) (d2 a8 (dV 2) (dC (.int 0))) (d2 a8 (dV 2) (d1 dU (dC (.int 1))))) [.val (.str t),.val W,.val (.lst RW),.own (.lst AC),s4,s5,.none] = .ok ai [.val (.str t),.val W,.val (.lst RW),.own (.lst AC),s4,s5,.none]:=by simp![i1,i2,wv,he]
  unfold tM;refine(uU bR).trans ?_;have hset:bt 6 (d2 iS (bj bg (dV 0) (b9) (aM (d2 cz (dL br (aw (dV 2) (aB))) (dC (.int 1))))) (dC (.int 3))) [.val (.str t),.val W,.val (.lst RW),.own (.lst AC),s4,s5,.none] = .ok .next [.val (.str t),.val W,.val (.lst RW),.own (.lst AC),s4,s5,.val (.str F3)]:=by simp![hl,hs,bj,b9,aM,s1,hm]
  refine(cm hset).trans ?_;have hrng:dL iq (aw (dC (.int 1)) (aw (d2 cz (dL br (aw (dV 2) (aB))) (dC (.int 1))) (aB))) [.val (.str t),.val W,.val (.lst RW),.own (.lst AC),s4,s5,.val (.str F3)] = .ok RG [.val (.str t),.val W,.val (.lst RW),.own (.lst AC),s4,s5,.val (.str F3)] :=gU (fK (jA _ _) (fK (eO (gU (fK (x:=.lst RW) rfl gT) hl) (jA _ _) hs) gT)) r1;have hx:dF (c9 [6,0] (dL iq (aw (dC (.int 1)) (aw (d2 cz (dL br (aw (dV 2) (aB))) (dC (.int 1))) (aB)))) (dW) (bj bg (dV 1) (aM (dV 0)) (aM (d2 aL (dV 0) (dL br (aw (dV 2) (aB))))))) [.val (.str t),.val W,.val (.lst RW),.own (.lst AC),s4,s5,.val (.str F3)] = .ok (.lst TT) [.val (.str t),.val W,.val (.lst RW),.own (.lst AC),s4,s5,.val (.str F3)]:=by unfold dF c9;rw[hrng,R.bind_ok,hc];rfl
  exact xy rfl hx rfl bv
 ·rw[decide_eq_false q]at he;rw[if_neg q,jg];refine⟨.none,?_⟩;generalize aO row 0=R1 at i1 he;generalize aO row (row.length-1)=R2 at i2 he;generalize aj row=RW at i1 i2;generalize aj au=AC;simp![tM,i1,i2,wv,he]
theorem LU(t:Tx)(W RW:PV)(ms:List Tx)(s4 s5 s6:Slot)(hm:ms.length<=3500) : uM [.val (.str t),.val W,.val RW,.own (.lst (aj ms)),s4,s5,s6] = .ok (.ret (.val (.lst (aj (bD (cf (fi ms t))))))) [.val (.str t),.val W,.val RW,.val (.lst (aj ms)),s4,s5,s6]:=by
 have hc:=ko (cap:=[0]) (dt:=(dB (d2 (eqT ai) (dV 0) (dV 1)))) (de:=dV 0) (ε:=[.val (.str t),.val W,.val RW,.val (.lst (aj ms)),s4,s5,s6]) (λx=>match x with | .str z=>decide (z≠t) | _=>ao) (λx=>x) (aj ms)
  (by intro x hx;obtain⟨z,_,rfl⟩:=cM.mp hx;refine⟨?_,λ_=>by simp![dX,dR,cX]⟩;have he:=kT ai z t;simp only[tX]at he;simp![dX,dR,cX,he]) []
 have hf:((aj ms).filter (λx=>match x with | .str z=>decide (z≠t) | _=>ao)).map (λx=>x)=aj (fi ms t):=by rw[List.map_id'];unfold aj fi;rw[wc];rfl
 rw[eV,hf]at hc;have hs:lJ [.lst (aj (fi ms t))]=aa (.lst (aj (bD (cf (fi ms t))))):=by show(gW (aj (fi ms t))).bind _=_;have h1:=yL (fi ms t);have h2:(fi ms t).length<=ms.length:=wb _ _;rw[pV,iD,if_pos ∅]
 generalize aj (bD (cf (fi ms t)))=A at hs;generalize aj (fi ms t)=B at hs hc;generalize aj ms=C at hc;simp[uM,dS,dF,dL,aw,aB,c9,cI,nS,dM,R.bind,aS,hc,Fe,hs]
def lG(t:Tx)(w:Nat):List Tx:=nW t (bO t (w-1))++gk t (bO t (w-1))
def jF(t:Tx)(w:Nat):List Tx:=bD (cf (fi (lG t w) t))
theorem GW(t:Tx)(w:Nat)(h:Tv t w)(h9:t.length+2<=w+10):mJ a [.val (.str t),.val (.int w)] = .ok (.val (.lst (aj (jF t w)))) [.val (.str t),.val (.int w)]:=by
 have b1:=h.w1;have b2:=h.w4;have b3:=h.h1;have e1:=Mv (a:=a) (t:=t) b1 ∅ ∅;have ug:=sG t (w-1);obtain⟨s4,s5,e2⟩:=Li (a:=a) t (.int w) (bO t (w-1)) ∅ ∅;have l1:=Ej (t:=t) (row:=bO t (w-1)) ∅;have l2:=Gr t (bO t (w-1));obtain⟨s6,e3⟩:=QO t (.int w) (bO t (w-1)) (nW t (bO t (w-1))) s4 s5 ∅ ∅ ∅ (by rw[cZ]; lia);have e4:=LU t (.int w) (.lst (aj (bO t (w-1)))) (lG t w) s4 s5 s6 (by unfold lG; rw[cZ]; lia);have hb:yaC a [.val (.str t),.val (.int w),.none,.none,.none,.none,.none] = .ok (.ret (.val (.lst (aj (jF t w))))) [.val (.str t),.val (.int w),.val (.lst (aj (bO t (w-1)))),.val (.lst (aj (lG t w))),s4,s5,s6]:=by
  rw[Ta];have h0:bt 2 (aU (aG (pZ a) (gV (dV 0) (gV (dV 1) (Pu.bN))))) [.val (.str t),.val (.int w),.none,.none,.none,.none,.none] = .ok .next [.val (.str t),.val (.int w),.val (.lst (aj (bO t (w-1)))),.none,.none,.none,.none]:=by refine lc (x:=.lst (aj (bO t (w-1)))) (ε1:=[.val (.str t),.val (.int w),.none,.none,.none,.none,.none]) (mS ?_);generalize aj (bO t (w-1))=RW at e1;generalize pZ a=G at e1;simp![e1]
  have h1:cJ 3 (dL b8 aB) [.val (.str t),.val (.int w),.val (.lst (aj (bO t (w-1)))),.none,.none,.none,.none] = .ok .next [.val (.str t),.val (.int w),.val (.lst (aj (bO t (w-1)))),.own (.lst []),.none,.none,.none]:=qF (by simp);refine(cm h0).trans ?_;refine(cm h1).trans ?_;refine(cm (d1:=λε=>cn (cE 4 xE (y8 a) ε)) e2).trans ?_;refine(cm e3).trans ?_;exact e4
 unfold mJ;generalize yaC a=D at hb;generalize aj (jF t w)=A at hb;generalize aj (lG t w)=B at hb;generalize aj (bO t (w-1))=C at hb;simp[bw,fg,bB,bH,hb,back,aS,R.bind,jx]
end
theorem Ct{p:Prop}[Decidable p]{z:Tx}{L:List Tx}:z∈(if p then L else [])↔p/\z∈L:=by split <;> simp[*]
def mr(t:Tx)(row:List Tx)(z:Tx):Prop:=∃ s e g l,s<e/\e<=g/\g<l/\l<row.length/\aO row s=aO row g/\aO row e=aO row l/\z=eP t s e g l
theorem EG{t:Tx}{row:List Tx}{z:Tx}:z∈nJ t row↔mr t row z:=by
 unfold nJ rK lD nN mr;simp only[wd,HU,Ct,hZ];constructor
 ·rintro⟨s,hs,g,hg,q1,e,he,l,hl,q2,rfl⟩;exact⟨s,e,g,l,∅,∅,∅,hl.2,q1,q2,rfl⟩
 ·rintro⟨s,e,g,l,h1,h2,h3,h4,q1,q2,rfl⟩;exact⟨s,⟨∅,∅⟩,g,⟨∅,∅⟩,q1,e,⟨∅,∅⟩,l,⟨∅,h4⟩,q2,rfl⟩
theorem L8{t:Tx}{row:List Tx}{z:Tx}:z∈nW t row↔mr t row z:=by
 unfold nW sT mT stI mr;simp only[wd,HU,Ct,hZ];constructor
 ·rintro⟨l,hl,j,hj,q2,k,hk,i,hi,q1,rfl⟩;exact⟨i,j,k,l,∅,∅,∅,hl.2,q1,q2,rfl⟩
 ·rintro⟨s,e,g,l,h1,h2,h3,h4,q1,q2,rfl⟩;exact⟨l,⟨∅,h4⟩,e,⟨∅,∅⟩,q2,g,⟨∅,∅⟩,s,⟨∅,∅⟩,q1,rfl⟩
theorem SA{R:Tx}{m w p:Nat}(hR:R.length=m)(w1:1<=w)(hw:w<=m+1)(hp:p<=m):gh (R.drop p++R.take p) w=part (bH 3 R).flatten p (p+(m+w-1)):=by
 have hl:(R.drop p++R.take p).length=m:=by simp; lia
 unfold gh part;rw[hl,we];have e3:((bH 3 R).flatten).drop p=(R.drop p++R.take p)++((R.drop p++R.take p)++R.drop p):=by
  have:(bH 3 R).flatten=R++(R++R):=by simp[bH]
  rw[this,Ke ∅];simp only[gx];rw[ng,← gx (R.take p),ng]
 rw[e3];generalize R.drop p++R.take p=Z at hl;obtain⟨v,rfl⟩:∃ v,w=v+1:=⟨w-1,∅⟩
 cases v with
 | zero=>
  have:(bH (0+1) Z).flatten=Z:=by simp
  rw[this,Dw ∅]
 | succ v=>
  have:(bH (v+1+1) Z).flatten=(Z++Z)++(bH v Z).flatten:=by simp[bH]
  rw[this,← gx,Dw (l₁:=Z++Z) (by simp; lia),Dw (l₁:=Z++Z) (by simp; lia)]
section
variable{a:Ad}
theorem Q_{α:Type}(xs:List α)(k:Nat)(h1:1<=k):ez xs (aa (-(k:Int))) ae=xs.drop (xs.length-k):=by
 unfold ez;rw[show HT.sIx xs.length xs.length ae=xs.length from rfl];have:HT.sIx xs.length 0 (aa (-(k:Int)))=xs.length-k:=by show(if(-(k:Int))<0 then((-(k:Int))+(xs.length:Int)).toNat else min (-(k:Int)).toNat xs.length)=_;rw[if_pos ∅];lia
 rw[this,lT (by simp)]
def vf(a:Ad):ak->R aH:=bt 5 (d2 aL (dV 5) (aU (aG (lF a) (gV (dV 0) (gO 1 (gV (dF (dL b8 (aw (bj bg (dV 5) (b9) (aM (dC (.int 2)))) (aw (bj bg (dV 5) (b9) (aM (dC (.int 3)))) (aw (bj bg (dV 5) (aM (dC (.int 1))) (aM (dC (.int 3)))) (aw (dC (.str [97])) (aw (dC (.str [98])) (aw (bj bg (dV 5) (aM (d1 dU (dC (.int 2)))) (b9)) (aB))))))))) (Pu.bN)))))))
def vG:ak->R Bool:=dB (d2 (jt λi j=>decide (i<j)) (dL br (aw (dV 5) (aB))) (d2 cz (dV 3) (dC (.int 2))))
theorem TB:yaA a=aE (bt 4 (d2 aL (dC (.int 1)) (aU (aG (lF a) (gV (dV 0) (gO 1 (gV (dF (dL b8 (aw (dC (.int 1)) (aw (dC (.int 1)) (aw (dC (.int 2)) (aw (dC (.int 2)) (aw (dC (.int 3)) (aB)))))))) (Pu.bN)))))))) (aE (bt 5 (aU (aG (oQ a) (gV (dV 0) (gO 1 (gV (dV 2) (gV (dC (.int 4)) (Pu.bN)))))))) (aE (λε=>cn (d4 vG (vf a) 1000 ε)) (dS (dL sL (aw (bj bg (dV 5) (b9) (aM (dL u9 (aw (dV 4) (aw (d2 cz (dV 3) (aU (aG (kz a) (gV (dV 0) (gO 1 (gV (dC (.int 3)) (Pu.bN))))))) (aB)))))) (aw (dV 4) (aB))))))):=rfl
theorem OB(ns:List Int)(xs:List PV)(L M W:PV)(z:Tx)(hz:2<=z.length)(hz2:z.length<=12)(hc:∀ c∈z,c∈cS)(hx:xs.length<=900):∃ y:Tx,1<=y.length/\y.length<=3/\(∀ c∈y,c∈cS) /\ vf a [bG ns,.own (.lst xs),.val L,.val M,.val W,.val (.str z)] = .ok .next [bG ns,.own (.lst (xs++[.int 0])),.val L,.val M,.val W,.val (.str (z++y))]:=by
 obtain⟨x,hm,hp⟩:=BR (a:=a) ns xs [.str (z.take 2),.str (z.take 3),.str (part z 1 3),.str [97],.str [98],.str (z.drop (z.length-2))] ∅ (by simp);obtain⟨y,rfl,y1,y2,y3⟩:∃ y:Tx,x = .str y/\1<=y.length/\y.length<=3/\∀ c∈y,c∈cS:=by
  simp only[ca,kD,or_false]at hm;rcases hm with rfl | rfl | rfl | rfl | rfl | rfl
  ·exact⟨_,rfl,by simp; lia,by simp; lia,λc h=>hc c (j8 h)⟩
  ·exact⟨_,rfl,by simp; lia,by simp; lia,λc h=>hc c (j8 h)⟩
  ·exact⟨_,rfl,by unfold part; simp; lia,by unfold part; simp; lia,λc h=>hc c (oD (j8 h))⟩
  ·exact⟨_,rfl,by simp,by simp,by simp[cS]⟩
  ·exact⟨_,rfl,by simp,by simp,by simp[cS]⟩
  ·exact⟨_,rfl,by simp; lia,by simp; lia,λc h=>hc c (oD h)⟩
 refine⟨y,y1,y2,y3,?_⟩;have s1:bg (.str z) ae (aa 2)=aa (.str (z.take 2)):=o5 z 2;have s2:bg (.str z) ae (aa 3)=aa (.str (z.take 3)):=o5 z 3;have s3:bg (.str z) (aa 1) (aa 3)=aa (.str (part z 1 3)):=oY z 1 3;have s4:bg (.str z) (aa (-2)) ae=aa (.str (z.drop (z.length-2))):=by show aa (PV.str (ez z (aa (-((2:Nat):Int))) ae))=_;rw[Q_ _ _ (by decide)]
 have hn:dU (.int 2)=aa (.int (-2)):=rfl;have ha:aL (.str z) (.str y)=aa (.str (z++y)):=kr (by unfold bI; lia);generalize z++y=ZY at ha;generalize z.take 2=Z1 at s1 hp;generalize z.take 3=Z2 at s2 hp;generalize part z 1 3=Z3 at s3 hp;generalize z.drop (z.length-2)=Z4 at s4 hp;unfold vf;generalize lF a=G at hp ⊢;have hL:dF (dL b8 (aw (bj bg (dV 5) (b9) (aM (dC (.int 2)))) (aw (bj bg (dV 5) (b9) (aM (dC (.int 3)))) (aw (bj bg (dV 5) (aM (dC (.int 1))) (aM (dC (.int 3)))) (aw (dC (.str [97])) (aw (dC (.str [98])) (aw (bj bg (dV 5) (aM (d1 dU (dC (.int 2)))) (b9)) (aB)))))))) [bG ns,.own (.lst xs),.val L,.val M,.val W,.val (.str z)] = .ok (.lst [.str Z1,.str Z2,.str Z3,.str [97],.str [98],.str Z4]) [bG ns,.own (.lst xs),.val L,.val M,.val W,.val (.str z)]:=by simp![bj,aM,b9,s1,s2,s3,s4,hn]
 have hd:aU (aG G (gV (dV 0) (gO 1 (gV (dF (dL b8 (aw (bj bg (dV 5) (b9) (aM (dC (.int 2)))) (aw (bj bg (dV 5) (b9) (aM (dC (.int 3)))) (aw (bj bg (dV 5) (aM (dC (.int 1))) (aM (dC (.int 3)))) (aw (dC (.str [97])) (aw (dC (.str [98])) (aw (bj bg (dV 5) (aM (d1 dU (dC (.int 2)))) (b9)) (aB))))))))) (Pu.bN))))) [bG ns,.own (.lst xs),.val L,.val M,.val W,.val (.str z)] = .ok (.str y) [bG ns,.own (.lst (xs++[.int 0])),.val L,.val M,.val W,.val (.str z)]:=by generalize dF (dL b8 _)=D at hL ⊢;simp[aU,aG,gV,gO,Pu.bN,dV,hL,R.bind,aS,cp,dI,hp,eK,dN,dY,IA]
 exact lc (eO (x:=.str z) rfl hd ha)
theorem Fu(ns:List Int)(xs:List PV)(L W:PV)(most:Nat)(z:Tx)(hm:2<=most):vG [bG ns,.own (.lst xs),.val L,.val (.int most),.val W,.val (.str z)] = .ok (decide (z.length<most-2)) [bG ns,.own (.lst xs),.val L,.val (.int most),.val W,.val (.str z)]:=by
 have hl:br [.str z]=aa (.int (z.length:Nat)):=rfl;have hs:cz (.int most) (.int 2)=aa (.int ((most-2:Nat):Int)):=by show aa (PV.int _)=_;congr 2; lia
 have hd:decide (((z.length:Nat):Int)<((most-2:Nat):Int))=decide (z.length<most-2):=by
  by_cases q:z.length<most-2
  ·rw[decide_eq_true q,decide_eq_true ∅]
  ·rw[decide_eq_false q,decide_eq_false ∅]
 rw[← hd];generalize ((most-2:Nat):Int)=m2 at hs;generalize ((z.length:Nat):Int)=zl at hl;simp![vG,hl,hs]
theorem uS{t:ak->R Bool}{db:ak->R aH}{n:Nat}{ε ε1 ε2:ak}(h:t ε = .ok ai ε1)(h2:db ε1 = .ok .next ε2):d4 t db (n+1) ε=d4 t db n ε2:=by rw[d4,h,R.bind_ok];simp only;rw[h2]
theorem sP{t:ak->R Bool}{db:ak->R aH}{n:Nat}{ε ε1:ak}(h:t ε = .ok ao ε1):d4 t db (n+1) ε = .ok .next ε1:=by rw[d4,h,R.bind_ok]
theorem Oi(ns:List Int)(L W:PV)(most:Nat)(m6:6<=most)(m10:most<=10):∀ (k bp:Nat) (xs:List PV) (z:Tx),most-2-z.length<=k->k<bp->2<=z.length->z.length<=most->(∀ c∈z,c∈cS)->xs.length+k<=900 -> ∃ (ys:List PV) (y:Tx),most<=y.length+2/\y.length<=most/\(∀ c∈y,c∈cS)/\ys.length<=xs.length+k/\d4 vG (vf a) bp [bG ns,.own (.lst xs),.val L,.val (.int most),.val W,.val (.str z)] = .ok .next [bG ns,.own (.lst ys),.val L,.val (.int most),.val W,.val (.str y)]:=by
 intro k
 induction k with
 | zero=>
  intro bp xs z h1 h2 h3 h4 hc hx;obtain⟨f,rfl⟩:∃ f,bp=f+1:=⟨bp-1,∅⟩
  have c:=Fu ns xs L W most z ∅;rw[decide_eq_false ∅]at c;exact⟨xs,z,∅,h4,hc,∅,sP c⟩
 | succ k ih=>
  intro bp xs z h1 h2 h3 h4 hc hx;obtain⟨f,rfl⟩:∃ f,bp=f+1:=⟨bp-1,∅⟩
  have c:=Fu ns xs L W most z ∅;by_cases q:z.length<most-2
  ·rw[decide_eq_true q]at c;obtain⟨y,y1,y2,y3,hb⟩:=OB (a:=a) ns xs L (.int most) W z h3 ∅ hc ∅;obtain⟨ys,v,v1,v2,v3,v4,hw⟩:=ih f (xs++[.int 0]) (z++y) (by simp; lia) ∅ (by simp; lia) (by simp; lia) (λd hd=>by
    rcases eY.mp hd with hd | hd
    ·exact hc d hd
    ·exact y3 d hd) (by simp; lia)
   refine⟨ys,v,v1,v2,v3,?_,(uS c hb).trans hw⟩;simp at v4; lia
  ·rw[decide_eq_false q]at c;exact⟨xs,z,∅,h4,hc,∅,sP c⟩
theorem QF(ns:List Int)(xs:List PV)(low most:Nat)(l2:2<=low)(l4:low<=4)(m6:6<=most)(m10:most<=10)(hx:xs.length<=400):∃ (t:Tx) (w:Nat) (ys:List PV),2<=w/\w<=4/\most<=t.length+2/\t.length<=most/\(∀ c∈t,c∈cS)/\ys.length<=xs.length+30 /\ pW a [bG ns,.own (.lst xs),.val (.int low),.val (.int most)] = .ok (.val (.tup [.str t,.int w])) [bG ns,.own (.lst ys),.val (.int low),.val (.int most)]:=by
 obtain⟨f,hf,hp⟩:=BR (a:=a) ns xs [.int 1,.int 1,.int 2,.int 2,.int 3] ∅ (by decide);obtain⟨w0,rfl,f0,f1⟩:∃ w0:Nat,f = .int w0/\1<=w0/\w0<=3:=by
  simp only[ca,kD,or_false]at hf;rcases hf with rfl | rfl | rfl | rfl | rfl
  ·exact⟨1,rfl,by decide,by decide⟩
  ·exact⟨1,rfl,by decide,by decide⟩
  ·exact⟨2,rfl,by decide,by decide⟩
  ·exact⟨2,rfl,by decide,by decide⟩
  ·exact⟨3,rfl,by decide,by decide⟩
 obtain⟨z,y1,z1,z2,zabc,hy1,hz⟩:=Qc (a:=a) ns (xs++[.int 0]) low 4 l4 (by decide) (by simp; lia);simp only[cZ,pD]at hy1;obtain⟨y2,z',c1,c2,c3,hy2,hw⟩:=Oi (a:=a) ns (.int low) (.int ((w0+1:Nat):Int)) most m6 m10 10 1000 y1 z ∅ ∅ ∅ ∅ zabc ∅;obtain⟨v,v0,v1,hv⟩:=vz (a:=a) ns y2 3 (by decide) ∅;obtain⟨d,rfl⟩:∃ d:Nat,v=d:=⟨v.toNat,∅⟩
 obtain⟨n,hn,n1,n2⟩:∃ n:Nat,u9 [.int ((w0+1:Nat):Int),.int ((most:Int)-d)]=aa (.int n)/\most<=n+2/\n<=most:=by refine⟨most-d,?_,∅,∅⟩;show aa (PV.int (if((most:Int)-d) > ((w0+1:Nat):Int)then((most:Int)-d)else((w0+1:Nat):Int)))=_;congr 2;split <;> lia
 refine⟨z'.take n,w0+1,y2++[.int 0],∅,∅,by simp; lia,by simp; lia,λc h=>c3 c (j8 h),by simp; lia,?_⟩;have l9:aL (.int 1) (.int w0)=aa (.int ((w0+1:Nat):Int)):=by show aa (PV.int _)=_;congr 2; lia
 have j9:cz (.int most) (.int d)=aa (.int ((most:Int)-d)):=rfl;have wX:=o5 z' n;have hb:yaA a [bG ns,.own (.lst xs),.val (.int low),.val (.int most),.none,.none] = .ok (.ret (.val (.tup [.str (z'.take n),.int ((w0+1:Nat):Int)]))) [bG ns,.own (.lst (y2++[.int 0])),.val (.int low),.val (.int most),.val (.int ((w0+1:Nat):Int)),.val (.str z')]:=by
  rw[TB];generalize (most:Int)-d=md at hn j9;generalize ((d:Nat):Int)=di at hv j9;generalize ((w0+1:Nat):Int)=wi at hn l9 hw ⊢;generalize z'.take n=ZN at wX ⊢;generalize ((n:Nat):Int)=ni at hn wX;have k1:bt 4 (d2 aL (dC (.int 1)) (aU (aG (lF a) (gV (dV 0) (gO 1 (gV (dF (dL b8 (aw (dC (.int 1)) (aw (dC (.int 1)) (aw (dC (.int 2)) (aw (dC (.int 2)) (aw (dC (.int 3)) (aB)))))))) (Pu.bN))))))) [bG ns,.own (.lst xs),.val (.int low),.val (.int most),.none,.none] = .ok .next [bG ns,.own (.lst (xs++[.int 0])),.val (.int low),.val (.int most),.val (.int wi),.none]:=by generalize lF a=G at hp ⊢;simp![hp,l9]
  have k2:bt 5 (aU (aG (oQ a) (gV (dV 0) (gO 1 (gV (dV 2) (gV (dC (.int 4)) (Pu.bN))))))) [bG ns,.own (.lst (xs++[.int 0])),.val (.int low),.val (.int most),.val (.int wi),.none] = .ok .next [bG ns,.own (.lst y1),.val (.int low),.val (.int most),.val (.int wi),.val (.str z)]:=by have uh:oQ a [bG ns,.own (.lst (xs++[.int 0])),.val (.int low),.val (.int 4)] = .ok (.val (.str z)) [bG ns,.own (.lst y1),.val (.int low),.val (.int 4)]:=hz;generalize oQ a=G at uh ⊢;simp![uh]
  refine(cm k1).trans ?_;refine(cm k2).trans ?_;refine(cm (d1:=λε=>cn (d4 vG (vf a) 1000 ε)) (by show cn _=_; rw[hw]; rfl)).trans ?_;generalize kz a=G at hv ⊢;simp![hv,j9,hn,bj,aM,b9,wX]
 unfold pW;generalize yaA a=D at hb;simp[bw,fg,bB,bH,hb,back,aS,R.bind,jx]
end
end Sh
namespace Mx
open L2 Pu
theorem vh{z:Tx}{w:Nat}(hw:1<=w):(aY z w).length=z.length+1-w:=by rw[nO z w hw]; simp
def bL(t:Tx)(w:Nat):List Tx:=(eN t.length).filter λz=>(aY z w).isPerm (aY t w)
theorem UR{t z:Tx}{w:Nat}:z∈bL t w↔z.length=t.length/\(∀ c∈z,c∈cS)/\(aY z w).Perm (aY t w):=by unfold bL;rw[kA,qj,Dq];exact⟨λ⟨⟨a,b⟩,c⟩=>⟨a,b,c⟩,λ⟨a,b,c⟩=>⟨⟨a,b⟩,c⟩⟩
theorem Hz(t:Tx)(w:Nat):(bL t w).Nodup:=(GR _).filter _
theorem LI{t:Tx}{w:Nat}(hw:1<=w)(h1:w<=t.length)(ha:∀ c∈t,c∈cS):qb w (bD (aY t w))=bL t w:=by
 have hp:=js (aY t w);have hl:(bD (aY t w)).length=t.length+1-w:=by rw[hp.length_eq,vh hw]
 have h:=H_ (w:=w) (ls:=bD (aY t w)) hw ∅ λx hx=>by obtain⟨a,b⟩:=FD (hp.mem_iff.mp hx);exact⟨a,λc hc=>ha c (b c hc)⟩
 rw[h,hl];unfold bL;rw[show w-1+(vO t+1-w)=vO t by lia];refine Kc λz _=>?_;rw[pt,Dq,Dq];exact⟨λq=>q.trans hp,λq=>q.trans hp.symm⟩
end Mx
namespace Sh
open L2 Pu Mx
def sg(s e g l i:Nat):Nat:=if i<s then i else if i<s+(l-g)then g+(i-s)else if i<s+(l-g)+(g-e)then e+(i-(s+(l-g)))else if i<l then s+(i-(s+(l-g)+(g-e)))else i
theorem sH{t:Tx}{i j:Nat}(h:j<=t.length):(part t i j).length=j-i:=by unfold part; simp; lia
theorem Ax{t:Tx}{i j k:Nat}(h:k<j-i):(part t i j)[k]?=t[i+k]?:=by unfold part;rw[jj,if_pos h,kF]
theorem xt{t:Tx}{s e g l:Nat}(h1:s<e)(h2:e<=g)(h3:g<l)(h4:l<=t.length):(eP t s e g l).length=t.length:=by unfold eP;rw[cZ,cZ,cZ,cZ,sH h4,sH ∅,sH ∅,j5,j6];lia
theorem yP{t:Tx}{s e g l:Nat}(h1:s<e)(h2:e<=g)(h3:g<l)(h4:l<=t.length)(i:Nat):(eP t s e g l)[i]?=t[sg s e g l i]?:=by
 have e1:(t.take s).length=s:=by simp; lia
 have e2:=sH (t:=t) (i:=g) (j:=l) h4;have e3:=sH (t:=t) (i:=e) (j:=g) ∅;have e4:=sH (t:=t) (i:=s) (j:=e) ∅;unfold eP sg;by_cases c1:i<s
 ·rw[if_pos c1,gx,gx,gx,fO ∅,jj,if_pos c1]
 ·rw[if_neg c1,gx,gx,gx,jK ∅,e1];by_cases c2:i<s+(l-g)
  ·rw[if_pos c2,fO ∅,Ax ∅]
  ·rw[if_neg c2,jK ∅,e2];by_cases c3:i<s+(l-g)+(g-e)
   ·rw[if_pos c3,fO ∅,Ax ∅,show i-s-(l-g)=i-(s+(l-g)) by lia]
   ·rw[if_neg c3,jK ∅,e3];by_cases c4:i<l
    ·rw[if_pos c4,fO ∅,Ax ∅];congr 1; lia
    ·rw[if_neg c4,jK ∅,e4,kF];congr 1; lia
theorem uA{s e g l i:Nat}(h:i<s):sg s e g l i=i:=if_pos h
theorem qE{s e g l i:Nat}(a:¬ i<s)(h:i<s+(l-g)):sg s e g l i=g+(i-s):=by unfold sg; rw[if_neg a,if_pos h]
theorem sQ{s e g l i:Nat}(a:¬ i<s+(l-g))(h:i<s+(l-g)+(g-e)):sg s e g l i=e+(i-(s+(l-g))):=by unfold sg; rw[if_neg λz=>a (tZ _ z),if_neg a,if_pos h]
theorem sk{s e g l i:Nat}(a:¬ i<s+(l-g)+(g-e))(h:i<l):sg s e g l i=s+(i-(s+(l-g)+(g-e))):=by unfold sg; rw[if_neg λz=>a (tZ _ (tZ _ z)),if_neg λz=>a (tZ _ z),if_neg a,if_pos h]
theorem uu{s e g l i:Nat}(a:¬ i<s+(l-g)+(g-e))(h:¬ i<l):sg s e g l i=i:=by unfold sg; rw[if_neg λz=>a (tZ _ (tZ _ z)),if_neg λz=>a (tZ _ z),if_neg a,if_neg h]
theorem Tr{s e g l:Nat}(h1:s<e)(h2:e<=g)(h3:g<l)(i:Nat):sg s e g l (i+1)=sg s e g l i+1\/(sg s e g l (i+1)=g/\sg s e g l i+1=s)\/(sg s e g l (i+1)=e/\sg s e g l i+1=l)\/(sg s e g l (i+1)=s/\sg s e g l i+1=l/\e=g)\/(sg s e g l (i+1)=s/\sg s e g l i+1=g)\/(sg s e g l (i+1)=l/\sg s e g l i+1=e):=by
 by_cases a1:i+1<s
 ·exact .inl (by rw[uA a1,uA (zP a1)])
 by_cases a2:i+1<s+(l-g)
 ·by_cases b:i<s
  ·exact .inr (.inl ⟨by rw[qE a1 a2]; lia,by rw[uA b]; lia⟩)
  ·exact .inl (by rw[qE a1 a2,qE b (zP a2)]; lia)
 by_cases a3:i+1<s+(l-g)+(g-e)
 ·by_cases b:i<s+(l-g)
  ·exact .inr (.inr (.inl ⟨by rw[sQ a2 a3]; lia,by rw[qE ∅ b]; lia⟩))
  ·exact .inl (by rw[sQ a2 a3,sQ b (zP a3)]; lia)
 by_cases a4:i+1<l
 ·by_cases b:i<s+(l-g)+(g-e)
  ·have q:sg s e g l (i+1)=s:=by rw[sk a3 a4]; lia
   by_cases c:i<s+(l-g)
   ·exact .inr (.inr (.inr (.inl ⟨q,by rw[qE ∅ c]; lia,∅⟩)))
   ·exact .inr (.inr (.inr (.inr (.inl ⟨q,by rw[sQ c b]; lia⟩))))
  ·exact .inl (by rw[sk a3 a4,sk b (zP a4)]; lia)
 ·by_cases b:i<l
  ·exact .inr (.inr (.inr (.inr (.inr ⟨by rw[uu a3 a4]; lia,by rw[sk ∅ b]; lia⟩))))
  ·exact .inl (by rw[uu a3 a4,uu ∅ b])
theorem Av{s e g l:Nat}(h1:s<e)(h2:e<=g)(h3:g<l)(j:Nat):sg s e g l (sg s (s+(l-g)) (s+(l-g)+(g-e)) l j)=j:=by
 obtain⟨q,hq⟩:∃ q,q=s+(l-g):=⟨_,rfl⟩
 obtain⟨r,hr⟩:∃ r,r=q+(g-e):=⟨_,rfl⟩
 rw[← hq,← hr];have c1:s+(l-r)=e:=∅
 have c2:e+(r-q)=g:=∅
 by_cases a1:j<s
 ·rw[uA a1,uA a1]
 by_cases a2:j<s+(l-r)
 ·rw[qE a1 a2,sk (by rw[← hq,← hr]; exact tT.mpr (Kk ..)) ∅,← hq,← hr,we];exact Kl (tT.mp a1)
 by_cases a3:j<s+(l-r)+(r-q)
 ·rw[sQ a2 a3,sQ (by rw[← hq]; exact tT.mpr (Kk ..)) ∅,← hq,we,c1];exact Kl ∅
 by_cases a4:j<l
 ·rw[sk a3 a4,qE (tT.mpr (Kk ..)) ∅,we,c1,c2];exact Kl ∅
 ·rw[uu a3 a4,uu ∅ a4]
theorem HX{s e g l m:Nat}(h1:s<e)(h2:e<=g)(h3:g<l)(h4:l<=m){i:Nat}(h:i<m):sg s e g l i<m:=by
 unfold sg
 (repeat' split) <;> lia
theorem Qg{s e g l:Nat}(h1:s<e)(h2:e<=g)(h3:g<l){i j:Nat}(h:sg s e g l i=sg s e g l j):i=j:=by
 have r:∀ k,sg s (s+(l-g)) (s+(l-g)+(g-e)) l (sg s e g l k)=k:=λk=>by have:=Av (s:=s) (e:=s+(l-g)) (g:=s+(l-g)+(g-e)) (l:=l) ∅ ∅ ∅ k;rwa[show s+(l-(s+(l-g)+(g-e)))=e by lia,show e+(s+(l-g)+(g-e)-(s+(l-g)))=g by lia]at this
 rw[← r i,h,r j]
theorem N5{s e g l m:Nat}(h1:s<e)(h2:e<=g)(h3:g<l)(h4:l<=m):((bQ m).map (sg s e g l)).Perm (bQ m):=by
 rw[Kg ?_ List.nodup_range]
 ·intro j;rw[cM,nZ];constructor
  ·rintro⟨i,hi,rfl⟩;exact HX h1 h2 h3 h4 (nZ.mp hi)
  ·intro hj;exact⟨sg s (s+(l-g)) (s+(l-g)+(g-e)) l j,nZ.mpr (HX ∅ ∅ ∅ h4 hj),Av h1 h2 h3 j⟩
 ·show List.Pairwise _ _;rw[C5];exact List.Pairwise.imp (λcO ri=>cO (Qg h1 h2 h3 ri)) (List.nodup_range (n:=m))
def Pc(t:Tx)(v i j:Nat):Prop:=∀ k,k<v->t[i+k]?=t[j+k]?
theorem yb{t:Tx}{v s e g l:Nat}(h1:s<e)(h2:e<=g)(h3:g<l)(h4:l<=t.length)(p1:Pc t v s g)(p2:Pc t v e l):∀ k,k<=v->∀ i,(eP t s e g l)[i+k]?=t[sg s e g l i+k]?
 | 0,_,i=>yP h1 h2 h3 h4 i
 | k+1,hk,i=>by
  have ih:=yb h1 h2 h3 h4 p1 p2 k ∅ (i+1);rw[show i+(k+1)=i+1+k by lia,ih,show sg s e g l i+(k+1)=sg s e g l i+1+k by lia];rcases Tr h1 h2 h3 i with q | ⟨q,r⟩ | ⟨q,r⟩ | ⟨q,r,u⟩ | ⟨q,r⟩ | ⟨q,r⟩ <;> rw[q]
  ·rw[r]; exact(p1 k ∅).symm
  ·rw[r]; exact p2 k ∅
  ·rw[r,p1 k ∅,← u]; exact p2 k ∅
  ·rw[r]; exact p1 k ∅
  ·rw[r]; exact(p2 k ∅).symm
theorem qB{t z:Tx}{i j w:Nat}(h:∀ k,k<w->z[i+k]?=t[j+k]?):(z.drop i).take w=(t.drop j).take w:=by
 refine kE λk=>?_;rw[jj,jj];split
 ·rename_i hk;rw[kF,kF]; exact h k hk
 ·rfl
theorem qg{t:Tx}{v i j:Nat}(h:(t.drop i).take v=(t.drop j).take v):Pc t v i j:=λk hk=>by have:=congrArg (λl:Tx=>l[k]?) h;simpa[jj,hk,kF]using this
theorem pe{t:Tx}{v i:Nat}(h:i<t.length+1-v):aO (bO t v) i=(t.drop i).take v:=by unfold Sh.aO bO;simp[h]
theorem NO{t:Tx}{w s e g l:Nat}(w1:1<=w)(h1:s<e)(h2:e<=g)(h3:g<l)(h4:l+w<=t.length+1)(p1:Pc t (w-1) s g)(p2:Pc t (w-1) e l):(aY (eP t s e g l) w).Perm (aY t w):=by
 have hl:l<=t.length:=∅
 rw[nO _ _ w1,nO _ _ w1,xt h1 h2 h3 hl];have:(bQ (t.length+1-w)).map (λi=>((eP t s e g l).drop i).take w)=((bQ (t.length+1-w)).map (sg s e g l)).map λj=>(t.drop j).take w:=by rw[eJ];refine gP λi _=>?_;exact qB λk hk=>yb h1 h2 h3 hl p1 p2 k ∅ i
 rw[this];exact(N5 h1 h2 h3 ∅).map _
theorem GD{s e g l:Nat}(h1:s<e)(h2:e<=g)(h3:g<l):sg s e g l s=g:=by unfold sg; (repeat' split) <;> lia
theorem L4{s e g l:Nat}(h1:s<e)(h2:e<=g)(h3:g<l):sg s e g l (s+(l-g)+(g-e))=s:=by unfold sg; (repeat' split) <;> lia
theorem Qi{s e g l:Nat}(h1:s<e)(h2:e<=g)(h3:g<l):sg s e g l l=l:=by unfold sg; (repeat' split) <;> lia
theorem LS{s e g l:Nat}(h1:s<e)(h2:e<=g)(h3:g<l):sg s e g l (s+(l-g))=e\/(sg s e g l (s+(l-g))=s/\e=g):=by unfold sg; (repeat' split) <;> lia
theorem NS{t:Tx}{s e g l:Nat}(h1:s<e)(h2:e<=g)(h3:g<l)(h4:l<=t.length):eP (eP t s e g l) s (s+(l-g)) (s+(l-g)+(g-e)) l=t:=by refine kE λi=>?_;rw[yP ∅ ∅ ∅ (by rw[xt h1 h2 h3 h4]; exact h4),yP h1 h2 h3 h4,Av h1 h2 h3]
theorem xn{t:Tx}{w:Nat}(w1:1<=w){z:Tx}:mr t (bO t (w-1)) z↔∃ s e g l,s<e/\e<=g/\g<l/\l+w<=t.length+1/\Pc t (w-1) s g/\Pc t (w-1) e l/\z=eP t s e g l:=by
 unfold mr;rw[sG];constructor
 ·rintro⟨s,e,g,l,h1,h2,h3,h4,q1,q2,rfl⟩;rw[pe ∅,pe ∅]at q1 q2;exact⟨s,e,g,l,h1,h2,h3,∅,qg q1,qg q2,rfl⟩
 ·rintro⟨s,e,g,l,h1,h2,h3,h4,q1,q2,rfl⟩;refine⟨s,e,g,l,h1,h2,h3,∅,?_,?_,rfl⟩
  ·rw[pe ∅,pe ∅]; exact qB q1
  ·rw[pe ∅,pe ∅]; exact qB q2
theorem Rk{t z:Tx}{w:Nat}(w1:1<=w)(h:mr t (bO t (w-1)) z):mr z (bO z (w-1)) t:=by
 obtain⟨s,e,g,l,h1,h2,h3,h4,q1,q2,rfl⟩:=(xn w1).mp h;have hl:l<=t.length:=∅
 have hw:=λk hk i=>yb h1 h2 h3 hl q1 q2 k hk i;refine(xn w1).mpr ⟨s,s+(l-g),s+(l-g)+(g-e),l,∅,∅,∅,by rw[xt h1 h2 h3 hl]; exact h4,λk hk=>?_,λk hk=>?_,(NS h1 h2 h3 hl).symm⟩
 ·rw[hw k ∅,hw k ∅,GD h1 h2 h3,L4 h1 h2 h3];exact(q1 k hk).symm
 ·rw[hw k ∅,hw k ∅,Qi h1 h2 h3];rcases LS h1 h2 h3 with q | ⟨q,r⟩ <;> rw[q]
  ·exact q2 k hk
  ·rw[q1 k hk,← r]; exact q2 k hk
theorem Eb{t z:Tx}{w:Nat}(w1:1<=w)(h:mr t (bO t (w-1)) z):z.length=t.length/\(aY z w).Perm (aY t w)/\∀ c∈z,c∈t:=by
 obtain⟨s,e,g,l,h1,h2,h3,h4,q1,q2,rfl⟩:=(xn w1).mp h;refine⟨xt h1 h2 h3 ∅,NO w1 h1 h2 h3 h4 q1 q2,λc hc=>?_⟩;unfold eP part at hc;simp only[eY]at hc;rcases hc with(((hc | hc) | hc) | hc) | hc
 ·exact j8 hc
 ·exact oD (j8 hc)
 ·exact oD (j8 hc)
 ·exact oD (j8 hc)
 ·exact oD hc
theorem Ja{t:Tx}{m w:Nat}(w1:1<=w)(hm:m+w=t.length+1)(m1:1<=m)(h:Pc t (w-1) 0 m):t=gh (t.take m) w:=by
 have hr:(t.take m).length=m:=by simp; lia
 have key:∀ i,i<t.length->t[i]?=aa (Mx.aO (t.take m) i):=by
  intro i
  induction i using Nat.strongRecOn with
  | ind i ih=>
   intro hi;by_cases c:i<m
   ·have:=Mx.xQ (z:=t.take m) (i:=i) ∅;rw[← this,jj,if_pos c]
   ·have h1:=h (i-m) ∅;rw[show 0+(i-m)=i-m by lia,show m+(i-m)=i by lia]at h1;rw[← h1,ih (i-m) ∅ ∅];have:=Mx.EO (t.take m) (i-m);rw[hr,show m+(i-m)=i by lia]at this;rw[this]
 have hl:(gh (t.take m) w).length=t.length:=by rw[yt ∅ w1,hr]; lia
 refine kE λi=>?_;by_cases c:i<t.length
 ·rw[key i c,qo ∅ w1 ∅]
 ·rw[jM ∅,jM ∅]
theorem z_{t:Tx}{w:Nat}(w1:1<=w)(h1:w<=t.length){z:Tx}:z∈jZ t (bO t (w-1)) w↔Pc t (w-1) 0 (t.length+1-w)/\∃ p,1<=p/\p<t.length+1-w/\z=gh (gK p (t.take (t.length+1-w))) w:=by
 unfold jZ pQ;rw[Ct,sG,show t.length+1-(w-1)-1=t.length+1-w by lia,pe ∅,pe ∅,cM];constructor
 ·rintro⟨q,p,hp,rfl⟩;obtain⟨p1,p2⟩:=HU.mp hp;exact⟨qg q,p,p1,p2,rfl⟩
 ·rintro⟨q,p,p1,p2,rfl⟩;exact⟨qB q,p,HU.mpr ⟨p1,p2⟩,rfl⟩
theorem FK{t z:Tx}{w:Nat}(w1:1<=w)(h1:w<=t.length)(h:z∈jZ t (bO t (w-1)) w):z.length=t.length/\(aY z w).Perm (aY t w)/\(∀ c∈z,c∈t)/\t∈jZ z (bO z (w-1)) w:=by
 obtain⟨q,p,p1,p2,rfl⟩:=(z_ w1 h1).mp h;generalize hm:t.length+1-w=m at q p2;have ht:=Ja w1 (m:=m) ∅ ∅ q;have hr:(t.take m).length=m:=by simp; lia
 generalize hR:t.take m=R at ht hr;have ug:(gK p R).length=m:=by rw[ny ∅,hr]
 have rn:(gh (gK p R) w).length=t.length:=by rw[yt ∅ w1,ug]; lia
 refine⟨rn,?_,λc hc=>?_,?_⟩
 ·rw[EV ∅ w1,ht,EV ∅ w1];exact Up ∅
 ·have:=Lr (KL hc);rw[← hR]at this;exact j8 this
 ·rw[z_ w1 ∅,rn,hm];refine⟨λk hk=>?_,m-p,∅,∅,?_⟩
  ·rw[qo ∅ w1 ∅,qo ∅ w1 ∅];have:=Mx.EO (gK p R) k;rw[ug]at this;rw[this,ox]
  ·have wx:=LQ (z:=gK p R) (w:=w) ∅ w1;rw[ug]at wx;rw[wx,Lf ∅ ∅ ∅,hr,show(p+(m-p)) % m=0 by rw[show p+(m-p)=m by lia,Nat.mod_self],KN];exact ht
theorem US{t:Tx}{w:Nat}{z:Tx}:z∈bA t w↔z∈iL t w/\z≠t:=by unfold bA;rw[(js _).mem_iff];unfold fi;rw[kA,mI,decide_eq_true_eq]
theorem G7{t z:Tx}{w:Nat}(h:Tv t w)(hz:z∈iL t w):Tv z w/\z.length=t.length/\(aY z w).Perm (aY t w)/\t∈iL z w:=by
 unfold iL at hz ⊢;rcases eY.mp hz with hz | hz
 ·rw[EG]at hz;obtain⟨a1,a2,a3⟩:=Eb h.w1 hz;exact⟨⟨h.w1,h.w4,by rw[a1]; exact h.h1,by rw[a1]; exact h.h9,λc hc=>h.abc c (a3 c hc)⟩,a1,a2,eY.mpr (.inl (EG.mpr (Rk h.w1 hz)))⟩
 ·obtain⟨a1,a2,a3,a4⟩:=FK h.w1 h.h1 hz;exact⟨⟨h.w1,h.w4,by rw[a1]; exact h.h1,by rw[a1]; exact h.h9,λc hc=>h.abc c (a3 c hc)⟩,a1,a2,eY.mpr (.inr a4)⟩
theorem GH{t z:Tx}{w:Nat}(h:Tv t w)(hz:z∈bA t w):Tv z w/\z.length=t.length/\bD (aY z w)=bD (aY t w)/\z≠t/\t∈bA z w:=by obtain⟨h1,h2⟩:=US.mp hz;obtain⟨a1,a2,a3,a4⟩:=G7 h h1;exact⟨a1,a2,qx ((js _).trans a3) (vi _),h2,US.mpr ⟨a4,λe=>h2 e.symm⟩⟩
abbrev gr(t:Tx)(v i:Nat):Tx:=(t.drop i).take v
theorem AD{t:Tx}{v i k:Nat}(h:k<v):(gr t v i)[k]?=t[i+k]?:=by unfold gr; rw[jj,if_pos h,kF]
theorem uD{t:Tx}{v i:Nat}:(gr t (v+1) i).take v=gr t v i:=by unfold gr; rw[List.take_take,zR ∅]
theorem p9{t:Tx}{v i:Nat}:(gr t (v+1) i).tail=gr t v (i+1):=by
 unfold gr;refine kE λk=>?_;rw[List.getElem?_tail,jj,jj,kF,kF];by_cases h:k<v
 ·rw[if_pos ∅,if_pos h]; congr 1; lia
 ·rw[if_neg ∅,if_neg h]
theorem vH{t:Tx}{v i:Nat}(h:i+v<t.length):(aY t (v+1))[i]?=aa (gr t (v+1) i):=by rw[nO _ _ ∅,jh,CW ∅];rfl
theorem FD{t:Tx}{v:Nat}{x:Tx}:x∈aY t (v+1)↔∃ i,i+v<t.length/\x=gr t (v+1) i:=by
 rw[nO _ _ ∅,cM];constructor
 ·rintro⟨i,hi,rfl⟩;exact⟨i,by have:=nZ.mp hi; lia,rfl⟩
 ·rintro⟨i,hi,rfl⟩;exact⟨i,nZ.mpr ∅,rfl⟩
theorem UO{t:Tx}{v p:Nat}{x:Tx}:x∈(aY t (v+1)).drop p↔∃ i,p<=i/\i+v<t.length/\x=gr t (v+1) i:=by
 have hl:(aY t (v+1)).length=t.length+1-(v+1):=vh ∅;rw[List.mem_iff_getElem?];constructor
 ·rintro⟨j,hj⟩;rw[kF]at hj;have bv:p+j<(aY t (v+1)).length:=(eE.mp hj).1;rw[vH ∅]at hj;exact⟨p+j,∅,∅,(eQ hj).symm⟩
 ·rintro⟨i,h1,h2,rfl⟩;refine⟨i-p,?_⟩;rw[kF,show p+(i-p)=i by lia,vH h2]
theorem KY{t z:Tx}{v p:Nat}(hl:z.length=t.length)(h:t.take (v+p)=z.take (v+p)):(aY t (v+1)).take p=(aY z (v+1)).take p:=by
 refine kE λi=>?_;rw[jj,jj];split
 ·rename_i hi;by_cases hv:i+v<t.length
  ·rw[vH hv,vH ∅];congr 1;refine qB λk hk=>?_;have:=congrArg (λl:Tx=>l[i+k]?) h;simpa[jj,show i+k<v+p by lia]using this
  ·rw[jM (by rw[vh ∅]; lia),jM (by rw[vh ∅]; lia)]
 ·rfl
theorem B3{t z:Tx}{n i:Nat}(h:t.take n=z.take n)(hi:i<n):t[i]?=z[i]?:=by have:=congrArg (λl:Tx=>l[i]?) h;simpa[jj,hi]using this
theorem GE{t z:Tx}{n:Nat}(h:∀ i,i<n->t[i]?=z[i]?):t.take n=z.take n:=by
 refine kE λi=>?_;rw[jj,jj];split
 ·rename_i hi; exact h i hi
 ·rfl
theorem Nm{t z:Tx}{v p:Nat}(hl:z.length=t.length)(hp:p+v<t.length)(hw:(aY z (v+1)).Perm (aY t (v+1)))(h:t.take (v+p)=z.take (v+p)) : ∃ t',(t'=t\/mr t (bO t v) t')/\t'.take (v+(p+1))=z.take (v+(p+1)):=by
 by_cases q:t[p+v]?=z[p+v]?
 ·refine⟨t,.inl rfl,GE λi hi=>?_⟩;by_cases c:i<v+p
  ·exact B3 h c
  ·rw[show i=p+v by lia]; exact q
 ·have hd:((aY z (v+1)).drop p).Perm ((aY t (v+1)).drop p):=by
   have h1:=KY hl h;have h2:((aY t (v+1)).take p++(aY z (v+1)).drop p).Perm ((aY t (v+1)).take p++(aY t (v+1)).drop p):=by
    rw[ng]
    conv=>lhs; rw[h1,ng]
    exact hw
   exact(List.perm_append_left_iff _).mp h2
  have hz:gr z (v+1) p∈(aY t (v+1)).drop p:=hd.mem_iff.mp (UO.mpr ⟨p,bo _,∅,rfl⟩);obtain⟨g,g1,g2,eg⟩:=UO.mp hz;have fu:∀ k,k<=v->z[p+k]?=t[g+k]?:=λk hk=>by have:=congrArg (λl:Tx=>l[k]?) eg;rw[AD ∅,AD ∅]at this;exact this
  have hgp:p<g:=by
   rcases Dx p g with c | c
   ·exact c
   ·have e:g=p:=∅
    rw[e]at fu;exact absurd (fu v (bo _)).symm q
  have psg:Pc t v p g:=λk hk=>by rw[← fu k ∅]; exact B3 h ∅
  have nt:∃ e l,p<e/\e<=g/\g<l/\l+v<=t.length/\gr t v e=gr t v l:=by
   refine zS λno=>?_;have no':∀ e l,p<e->e<=g->g<l->l+v<=t.length->gr t v e≠gr t v l:=λe l a b c d q=>no ⟨e,l,a,b,c,d,q⟩
   let V:Tx->Prop:=λy=>∃ e,p<e/\e<=g/\gr t v e=y
   have hV:∀ i,p<=i->i+v<t.length->(V (gr t v (i+1))->i<g)/\(i<g->V (gr t v i)):=λi a b=>by
    refine⟨λ⟨e,e1,e2,e3⟩=>?_,λc=>?_⟩
    ·rcases Dx i g with c | c
     ·exact c
     ·exact absurd e3 (no' e (i+1) e1 e2 ∅ ∅)
    ·by_cases d:i=p
     ·exact⟨g,hgp,bo _,by rw[d]; exact qB λk hk=>(psg k hk).symm⟩
     ·exact⟨i,∅,∅,rfl⟩
   have step:∀ k,p+k+v<z.length->¬ V (gr z v (p+k+1)):=by
    intro k
    induction k with
    | zero=>
     intro hk hv;have e:gr z v (p+0+1)=gr t v (g+1):=by rw[Nat.add_zero,← p9,eg,p9]
     rw[e]at hv;have:=(hV g g1 g2).1 hv;lia
    | succ k ih=>
     intro hk hv;have ih:=ih ∅;have hm:gr z (v+1) (p+(k+1))∈(aY t (v+1)).drop p:=hd.mem_iff.mp (UO.mpr ⟨p+(k+1),∅,∅,rfl⟩);obtain⟨i,i1,i2,ei⟩:=UO.mp hm;have e1:gr z v (p+(k+1))=gr t v i:=by rw[← uD,ei,uD]
     have e2:gr z v (p+(k+1)+1)=gr t v (i+1):=by rw[← p9,ei,p9]
     rw[e2]at hv;have:=(hV i i1 i2).2 ((hV i i1 i2).1 hv);rw[← e1]at this;exact ih this
   have hm:gr t (v+1) p∈(aY z (v+1)).drop p:=hd.mem_iff.mpr (UO.mpr ⟨p,bo _,∅,rfl⟩);obtain⟨i,i1,i2,ei⟩:=UO.mp hm;have hk:=step (i-p) ∅;rw[show p+(i-p)+1=i+1 by lia]at hk;refine hk ?_;rw[← p9,← ei,p9];exact⟨p+1,∅,∅,rfl⟩
  obtain⟨e,l,e1,e2,l1,l2,el⟩:=nt;refine⟨eP t p e g l,.inr ?_,GE λi hi=>?_⟩
  ·have:=(xn (t:=t) (w:=v+1) ∅ (z:=eP t p e g l)).mpr ⟨p,e,g,l,e1,e2,l1,∅,psg,qg el,rfl⟩;exact this
  ·have hw':=λk hk i=>yb (v:=v) e1 e2 l1 ∅ psg (qg el) k hk i;by_cases c:i<p
   ·rw[yP e1 e2 l1 ∅];have:sg p e g l i=i:=by unfold sg; rw[if_pos c]
    rw[this];exact B3 h ∅
   ·have:=hw' (i-p) ∅ p;rw[GD e1 e2 l1,show p+(i-p)=i by lia]at this;rw[this,← fu (i-p) ∅,show p+(i-p)=i by lia]
theorem IX{v:Nat}{y:Tx}:∀ (k:Nat) (t:Tx) (i:Nat),((Du i k).map λj=>if gr t v j=y then 1 else 0).sum+(if gr t v (i+k)=y then 1 else 0)=((Du i k).map λj=>if gr t v (j+1)=y then 1 else 0).sum+(if gr t v i=y then 1 else 0)
 | 0,t,i=>by simp
 | k+1,t,i=>by have ih:=IX (v:=v) (y:=y) k t (i+1);rw[List.range'_succ,eC,eC,Dv,Dv,show i+(k+1)=i+1+k by lia];lia
theorem T_{t z:Tx}{v:Nat}(hl:z.length=t.length)(hv:v<t.length)(hw:(aY z (v+1)).Perm (aY t (v+1))):gr t v 0=gr z v 0\/gr t v 0=gr t v (t.length-v):=by
 have hc:∀ u:Tx,u.length=t.length->((aY u (v+1)).map λx=>if x.take v=gr t v 0 then 1 else 0).sum+(if gr u v (u.length-v)=gr t v 0 then 1 else 0)=((aY u (v+1)).map λx=>if x.tail=gr t v 0 then 1 else 0).sum+(if gr u v 0=gr t v 0 then 1 else 0):=by
  intro u hu;have:=IX (v:=v) (y:=gr t v 0) (u.length-v) u 0;rw[ox]at this;rw[nO _ _ ∅,eJ,eJ,show u.length+1-(v+1)=u.length-v by lia,List.range_eq_range'];have e1:∀ j,((λx:Tx=>if x.take v=gr t v 0 then 1 else 0) ∘ λi=>(u.drop i).take (v+1)) j=if gr u v j=gr t v 0 then 1 else 0:=λj=>by show(if(gr u (v+1) j).take v=_ then 1 else 0)=_;rw[uD]
  have e2:∀ j,((λx:Tx=>if x.tail=gr t v 0 then 1 else 0) ∘ λi=>(u.drop i).take (v+1)) j=if gr u v (j+1)=gr t v 0 then 1 else 0:=λj=>by show(if(gr u (v+1) j).tail=_ then 1 else 0)=_;rw[p9]
  rw[gP λj _=>e1 j,gP λj _=>e2 j];exact this
 have h1:=hc t rfl;have h2:=hc z hl;have p1:=((hw.map λx:Tx=>if x.take v=gr t v 0 then 1 else 0)).sum_nat;have p2:=((hw.map λx:Tx=>if x.tail=gr t v 0 then 1 else 0)).sum_nat;rw[p1,p2]at h2;rw[if_pos rfl]at h1;by_cases c:gr z v 0=gr t v 0
 ·exact .inl c.symm
 ·right;rw[if_neg c]at h2;by_cases d:gr t v (t.length-v)=gr t v 0
  ·exact d.symm
  ·rw[if_neg d]at h1;lia
inductive WN(w:Nat):Nat->Tx->Tx->Prop
 | here (n:Nat) (t:Tx):WN w n t t
 | on {n:Nat} {t u z:Tx}:WN w n t u->z∈iL u w->WN w (n+1) t z
theorem WN.more{w n:Nat}{t z:Tx}(h:WN w n t z):WN w (n+1) t z:=by
 induction h with
 | here n t=>exact .here _ _
 | on _ hz ih=>exact .on ih hz
theorem WN.mono{w n:Nat}{t z:Tx}(h:WN w n t z):∀ k,WN w (n+k) t z
 | 0=>h
 | k+1=>(h.mono k).more
theorem WN.cons{w n:Nat}{t u z:Tx}(hu:u∈iL t w)(h:WN w n u z):WN w (n+1) t z:=by
 induction h with
 | here n u=>exact .on (.here n t) hu
 | on _ hz ih=>exact .on (ih hu) hz
theorem Ce{v:Nat}{z:Tx}:∀ (k p:Nat) (t:Tx),p+k+v=t.length->z.length=t.length->(aY z (v+1)).Perm (aY t (v+1))->t.take (v+p)=z.take (v+p)->WN (v+1) k t z
 | 0,p,t,hk,hl,_,h=>by
  have:t=z:=by have h1:t.take (v+p)=t:=lT ∅;have h2:z.take (v+p)=z:=lT ∅;rw[← h1,h,h2]
  rw[this]; exact .here 0 z
 | k+1,p,t,hk,hl,hw,h=>by
  obtain⟨t',ht,hn⟩:=Nm hl ∅ hw h;rcases ht with rfl | ht
  ·exact(Ce k (p+1) t' ∅ hl hw hn).more
  ·obtain⟨a1,a2,_⟩:=Eb (w:=v+1) ∅ ht;exact .cons (eY.mpr (.inl (EG.mpr ht))) (Ce k (p+1) t' ∅ ∅ (hw.trans a2.symm) hn)
theorem Rc{t z:Tx}{w:Nat}(h:Tv t w)(hl:z.length=t.length)(hw:(aY z w).Perm (aY t w)):WN w 10 t z:=by
 obtain⟨v,rfl⟩:∃ v,w=v+1:=⟨w-1,by have:=h.w1; lia⟩
 have hv:=h.h1;have h9:=h.h9;have from0:∀ u:Tx,u.length=t.length->(aY z (v+1)).Perm (aY u (v+1))->gr u v 0=gr z v 0->WN (v+1) 9 u z:=λu hu hp hg=>by have:=(Ce (u.length-v) 0 u ∅ ∅ hp (by simpa[gr]using hg)).mono (9-(u.length-v));rwa[show u.length-v+(9-(u.length-v))=9 by lia]at this
 by_cases c:gr t v 0=gr z v 0
 ·exact(from0 t rfl hw c).more
 ·have jR:gr t v 0=gr t v (t.length-v):=(T_ hl ∅ hw).resolve_left c;have hm:gr z (v+1) 0∈aY t (v+1):=hw.mem_iff.mp (FD.mpr ⟨0,∅,rfl⟩);obtain⟨p,hp,ep⟩:=FD.mp hm;have eg:gr z v 0=gr t v p:=by rw[← uD,ep,uD]
  have p1:1<=p:=by
   rcases Nat.eq_zero_or_pos p with e | e
   ·rw[e]at eg; exact absurd eg.symm c
   ·exact e
  have pJ:gh (gK p (t.take (t.length+1-(v+1)))) (v+1)∈jZ t (bO t (v+1-1)) (v+1):=(z_ ∅ h.h1).mpr ⟨qg (by rw[show v+1-1=v by lia,show t.length+1-(v+1)=t.length-v by lia]; exact jR),p,p1,∅,rfl⟩;obtain⟨a1,a2,a3,a4⟩:=FK ∅ h.h1 pJ;refine .cons (eY.mpr (.inr pJ)) (from0 _ a1 (hw.trans a2.symm) ?_);rw[eg];refine qB λk hk=>?_;generalize hmm:t.length+1-(v+1)=m;have hr:(t.take m).length=m:=by simp; lia
  have ht:=Ja (t:=t) (m:=m) (w:=v+1) ∅ ∅ ∅ (qg (by rw[show v+1-1=v by lia,← hmm,show t.length+1-(v+1)=t.length-v by lia]; exact jR));rw[ox,qo (by rw[ny ∅]; lia) ∅ (by rw[ny ∅]; lia),uv ∅ ∅]
  conv=>rhs; rw[ht]
  rw[qo ∅ ∅ ∅]
theorem WN.good{w n:Nat}{t z:Tx}(h:WN w n t z)(ht:Tv t w):Tv z w/\z.length=t.length/\(aY z w).Perm (aY t w):=by
 induction h with
 | here n t=>exact⟨ht,rfl,.refl _⟩
 | on _ hz ih=>obtain⟨a1,a2,a3⟩:=ih ht;obtain⟨b1,b2,b3,_⟩:=G7 a1 hz;exact⟨b1,∅,b3.trans a3⟩
theorem WN.like{w n:Nat}{t z:Tx}(h:WN w n t z)(ht:Tv t w):z∈bL t w:=by obtain⟨a1,a2,a3⟩:=h.good ht;exact UR.mpr ⟨a2,a1.abc,a3⟩
def Lv(w:Nat)(t:Tx)(k:Nat)(z:Tx):Prop:=WN w k t z/\∀ j,j+1=k->¬ WN w j t z
theorem HW{w:Nat}{t z:Tx}:Lv w t 0 z↔z=t:=by
 constructor
 ·rintro⟨h,_⟩; cases h; rfl
 ·rintro rfl; exact⟨.here _ _,λj hj=>∅⟩
theorem N8{w:Nat}{t z:Tx}:WN w 0 t z↔z=t:=by
 constructor
 ·intro h; cases h; rfl
 ·rintro rfl; exact .here _ _
theorem NT{w k:Nat}{t z:Tx}:WN w (k+1) t z↔WN w k t z\/∃ u,Lv w t k u/\z∈bA u w:=by
 constructor
 ·intro h;by_cases c:WN w k t z
  ·exact .inl c
  ·right;cases h with
   | here=>exact absurd (.here _ _) c
   | @on _ _ u _ hu hz=>
    have cO:z≠u:=by rintro rfl; exact c hu
    refine⟨u,⟨hu,λj hj hw=>?_⟩,US.mpr ⟨hz,cO⟩⟩;subst hj;exact c (.on hw hz)
 ·rintro(h | ⟨u,hu,hz⟩)
  ·exact h.more
  ·exact .on hu.1 (US.mp hz).1
theorem NJ{w n j:Nat}{t z:Tx}(h:WN w n t z):¬ WN w j t z->∃ y,Lv w t (j+1) y:=by
 induction h with
 | here n t=>exact λc=>absurd (.here _ _) c
 | @on n t u z hu hz ih=>
  intro c;by_cases d:WN w j t u
  ·refine⟨z,.on d hz,λi hi hw=>?_⟩;have:i=j:=∅
   subst this;exact c hw
  ·exact ih d
def Full(w:Nat)(t:Tx)(k:Nat):Prop:=∀ z∈bL t w,WN w k t z
theorem BF{w:Nat}{t:Tx}(h:Tv t w):Full w t 10:=λz hz=>by obtain⟨a,b,c⟩:=UR.mp hz;exact Rc h a c
theorem Oc{w:Nat}{t:Tx}(h:Tv t w):∃ K,K<=10/\Full w t K/\∀ k,k<K->¬ Full w t k:=by
 have key:∀ n,n<=10->(∃ K,K<=10/\Full w t K/\∀ k,k<K->¬ Full w t k)\/∀ k,k<n->¬ Full w t k:=by
  intro n
  induction n with
  | zero=>intro _; exact .inr λk hk=>∅
  | succ n ih=>
   intro hn;rcases ih ∅with q | q
   ·exact .inl q
   ·by_cases c:Full w t n
    ·exact .inl ⟨n,∅,c,q⟩
    ·refine .inr λk hk=>?_;by_cases d:k=n
     ·rw[d]; exact c
     ·exact q k ∅
 rcases key 10 (bo _)with q | q
 ·exact q
 ·exact⟨10,bo _,BF h,q⟩
theorem OC{w k:Nat}{t:Tx}(h:Tv t w)(hf:¬ Full w t k):∃ y,Lv w t (k+1) y:=by
 obtain⟨z,hz,hn⟩:∃ z,z∈bL t w/\¬ WN w k t z:=by refine zS λno=>hf λz hz=>zS λc=>no ⟨z,hz,c⟩
 exact NJ (BF h z hz) hn
theorem TZ(v:Nat){a:Tx}(ha:a.length=v)(hc:∀ c∈a,c∈cS):a∈eN v:=by rw[qj]; exact⟨ha,hc⟩
theorem Ie{z:Tx}{v:Nat}(h:v<z.length):(aY z (v+1)).map (λx=>x.headD 0)=z.take (z.length-v):=by
 refine kE λi=>?_;rw[jh,jj];by_cases c:i<z.length-v
 ·rw[vH ∅,if_pos c,lV];have e:(gr z (v+1) i)[0]?=z[i]?:=by have:=AD (t:=z) (v:=v+1) (i:=i) (k:=0) ∅; simpa using this
  have hz:z[i]?=aa z[i]:=iB ∅;rw[hz]at e ⊢;cases hg:gr z (v+1) i with
  | nil=>rw[hg]at e; cases e
  | cons c r=>rw[hg]at e; simpa using e
 ·rw[if_neg c,jM (by rw[vh ∅]; lia)];rfl
theorem Rj:∀ m:Fin 9,∀ i:Fin 9,∀ j:Fin 9,i.val+j.val<=m.val->(mz m.val i.val j.val (m.val-i.val-j.val)).length * 3 ^ (min 3 (9-m.val))<=2430:=by decide +kernel
theorem xX{t:Tx}{w:Nat}(h:Tv t w)(w2:2<=w)(h9:t.length<=9):(bL t w).length<=2430:=by
 obtain⟨v,rfl⟩:∃ v,w=v+1:=⟨w-1,∅⟩
 have hv:=h.h1;have uc:=h.w4;generalize hm:t.length-v=m
 let T:=t.take m
 have hT:T.length=m:=by simp[T]; lia
 have hTc:∀ c∈T,c∈cS:=λc hc=>h.abc c (j8 hc);have j9:∀ z∈bL t (v+1),z∈(mz m (T.count 97) (T.count 98) (T.count 99)).flatMap λa=>(eN v).map λb=>a++b:=by
  intro z hz;obtain⟨z1,z2,z3⟩:=UR.mp hz;have hp:(z.take m).Perm T:=by have e1:=Ie (z:=z) (v:=v) ∅;have e2:=Ie (z:=t) (v:=v) ∅;rw[z1,hm]at e1;rw[hm]at e2;have:=z3.map (λx:Tx=>x.headD 0);rw[e1,e2]at this;exact this
  have rn:(z.take m).length=m:=by simp; lia
  have hzw:=FN m (z.take m) rn λc hc=>z2 c (j8 hc);rw[hp.count_eq,hp.count_eq,hp.count_eq]at hzw;refine wd.mpr ⟨z.take m,hzw,cM.mpr ⟨z.drop m,TZ v (by simp; lia) λc hc=>z2 c (oD hc),ng m z⟩⟩
 refine cL (len_sub (Hz _ _) j9) ?_;have cb:∀ (l:List Tx),(l.flatMap λa=>(eN v).map λb=>a++b).length=l.length * 3 ^ v:=by
  intro l
  induction l with
  | nil=>simp
  | cons a l ih=>rw[lY,cZ,ih,cD,B9,eI,Dt]; lia
 rw[cb];have hc:=NU hTc;rw[hT]at hc;have:=Rj ⟨m,∅⟩ ⟨T.count 97,∅⟩ ⟨T.count 98,∅⟩ (by simp; lia);simp only at this;rw[show m-T.count 97-T.count 98=T.count 99 by lia]at this;refine cL (Nat.mul_le_mul_left _ (Nat.pow_le_pow_right (by decide) (show v<=min 3 (9-m) by lia))) this
theorem Re{R:Tx}{m w p:Nat}(hR:R.length=m)(w1:1<=w)(hw:w<=m+2)(hp:p<m):gh (R.drop p++R.take p) w=part (bH 3 R).flatten p (p+(m+w-1)):=by
 by_cases c:w<=m+1
 ·exact SA hR w1 c ∅
 ·have hl:(R.drop p++R.take p).length=m:=by simp; lia
  unfold gh part;rw[hl,we];have e3:((bH 3 R).flatten).drop p=(R.drop p++R.take p)++((R.drop p++R.take p)++R.drop p):=by
   have:(bH 3 R).flatten=R++(R++R):=by simp[bH]
   rw[this,Ke ∅];simp only[gx];rw[ng,← gx (R.take p),ng]
  obtain⟨v,rfl⟩:∃ v,w=v+3:=⟨w-3,∅⟩
  have ew:∀ Z:Tx,(bH (v+3) Z).flatten=Z++(Z++(Z++(bH v Z).flatten)):=λZ=>by simp[bH]
  rw[e3,ew];have hB:(R.drop p).length=m-p:=by simp; lia
  have hA:(R.take p).length=p:=by simp; lia
  generalize (bH v (R.drop p++R.take p)).flatten=X;generalize R.drop p=B at hB;generalize R.take p=A at hA;rw[show(B++A)++((B++A)++((B++A)++X))=((B++A)++((B++A)++B))++(A++X) by simp only[gx],Dw];simp; lia
theorem Aw{t:Tx}{w:Nat}(h:Tv t w)(h2:2 * w<=t.length+3):bA t w=jF t w:=by
 have b1:=h.w1;have b3:=h.h1;have ug:=sG t (w-1);have ht:jZ t (bO t (w-1)) w=gk t (bO t (w-1)):=by unfold jZ gk;congr 1;unfold pQ rV;refine gP λp hp=>?_;obtain⟨p1,p2⟩:=HU.mp hp;rw[Re (m:=(bO t (w-1)).length-1) (by simp; lia) b1 ∅ p2,show(bO t (w-1)).length-1+w-1=t.length by lia]
 unfold bA jF;refine qx ((js _).trans ?_) (vi _);unfold fi iL lG;rw[Kg ((vC _).filter _) (vC _)];intro z;rw[kA,mI,mI,kA,eY,eY,EG,L8,ht]
theorem yG{i:Nat}{db:ak->R aH}{σ τ:Type}(env:σ->τ->ak)(f:σ->Tx->σ)(P:σ->Prop):∀ (xs:List Tx) (st:σ) (s:τ),P st -> (∀ x∈xs,∀ st s,P st->P (f st x)/\∃ s',db ((env st s).set i (.val (.str x))) = .ok .next (env (f st x) s'))->∃ s',eX i db (aj xs) (env st s) = .ok .next (env (xs.foldl f st) s')/\P (xs.foldl f st)
 | [],st,s,h,_=>⟨s,rfl,h⟩
 | x::xs,st,s,h,step=>by obtain⟨h1,s1,e1⟩:=step x (by simp) st s h;obtain⟨s2,e2,h2⟩:=yG env f P xs (f st x) s1 h1 λy hy=>step y (by simp[hy]);refine⟨s2,?_,h2⟩;show eX i db (.str x::aj xs) _=_;rw[eX,e1];exact e2
abbrev ks(m:List (Tx×Int)):List Tx:=m.map (·.1)
theorem A_(m:List (Tx×Int))(z:Tx):(m.any λp=>decide (p.1=z))=decide (z∈ks m):=by rw[pt,tY,decide_eq_true_eq,cM];exact⟨λ⟨p,h1,h2⟩=>⟨p,h1,of_decide_eq_true h2⟩,λ⟨p,h1,h2⟩=>⟨p,h1,decide_eq_true h2⟩⟩
theorem BV(m:List (Tx×Int))(z:Tx):(bn m z).isSome=decide (z∈ks m):=by
 rw[← A_];cases h:m.any λp=>decide (p.1=z)with
 | false=>rw[xm h]; rfl
 | true=>obtain⟨n,e⟩:=Jf h; rw[e]; rfl
theorem LP{m:List (Tx×Int)}{z:Tx}{n:Int}(h:z∉ks m):cQ m z n=m++[(z,n)]:=by unfold cQ;rw[A_,decide_eq_false h];rfl
theorem LG{m:List (Tx×Int)}(nd:(ks m).Nodup){z:Tx}{n:Int}:bn m z=aa n↔(z,n)∈m:=by
 induction m with
 | nil=>simp[bn]
 | cons p m ih=>
  change ((p::m).map (·.1)).Nodup at nd;rw[eC,jJ]at nd;unfold bn at ih ⊢;rw[fX];by_cases c:p.1=z
  ·simp only[c,decide_true,lV,ca];constructor
   ·intro e;left;rw[← eQ e,← c]
   ·rintro(e | e)
    ·rw[← e]
    ·exact absurd (cM.mpr ⟨(z,n),e,rfl⟩) (by rw[← c]; exact nd.1)
  ·simp only[c,decide_false,ca];rw[ih nd.2];constructor
   ·exact .inr
   ·rintro(e | e)
    ·exact absurd (by rw[← e]) c
    ·exact e
theorem PJ(m:List (Tx×Int)):(dk m).length=m.length:=by simp[dk]
theorem xJ{neg:Bool}{i:Nat}{db:ak->R PV}{ε ε1:ak}{z:Tx}{m:List (Tx×Int)}(hb:db ε = .ok (.str z) ε1)(ho:eB ε1 i=aa (dk m)):fJ neg i db ε = .ok (.bl (neg ^^ decide (z∈ks m))) ε1:=by unfold fJ;rw[hb,R.bind_ok,ho];simp only[dO,R.bind_ok];show aS (aa (PV.bl (neg ^^ (kQ (dk m) (.inr (tS z))).isSome))) ε1=_;rw[rJ,CQ,BV];rfl
theorem EW{i:Nat}{db de:ak->R PV}{ε ε1 ε2:ak}{z:Tx}{n:Int}{m:List (Tx×Int)}(he:de ε = .ok (.int n) ε1)(hb:db ε1 = .ok (.str z) ε2)(nv:∃ x,eB ε1 i=aa x)(ho:eB ε2 i=aa (dk m))(hl:m.length<bI):jo i db de ε = .ok .next (ε2.set i (.own (.dK (dk (cQ m z n))))):=by unfold jo;obtain⟨x,hx⟩:=nv;rw[he,R.bind_ok,hx];simp only[dO,R.bind_ok];rw[hb,R.bind_ok,ho];simp only[dO,R.bind_ok];show(aS (aa (Sum.inr (tS z))) ε2).bind _=_;simp only[dO,R.bind_ok];rw[PJ,if_pos hl,xC]
theorem Br{i:Nat}{db:ak->R PV}{ε ε1:ak}{z:Tx}{n:Int}{m:List (Tx×Int)}(ho0:∃ x,eB ε i=aa x)(hb:db ε = .ok (.str z) ε1)(ho:eB ε1 i=aa (dk m))(hg:bn m z=aa n):jD i db ε = .ok (.int n) ε1:=by unfold jD;obtain⟨x,hx⟩:=ho0;rw[hx];simp only[dO,R.bind_ok];rw[hb,R.bind_ok,ho];simp only[dO,R.bind_ok];show aS (kQ (dk m) (.inr (tS z))) ε1=_;rw[rJ,hg];rfl
theorem AT{i:Nat}{de:ak->R PV}{ε ε1:ak}{x:PV}{xs0 xs:List PV}(h0:f6 ε i=aa xs0)(h:de ε = .ok x ε1)(h1:f6 ε1 i=aa xs)(hl:xs.length<bI):i9 i de ε = .ok .next (ε1.set i (.own (.lst (xs++[x])))):=by unfold i9;rw[h0];simp only[dO,R.bind_ok];rw[h];simp only[R.bind_ok];rw[h1];simp only[dO,R.bind_ok];rw[if_pos hl]
def sf(k:Int)(st:List (Tx×Int)×List Tx)(z:Tx):List (Tx×Int)×List Tx:=if z∈ks st.1 then st else(st.1++[(z,k)],st.2++[z])
theorem Ge(k:Int):∀ (zs:List Tx) (st:List (Tx×Int)×List Tx) (z:Tx),z∈ks (zs.foldl (sf k) st).1↔z∈ks st.1\/z∈zs
 | [],st,z=>by simp
 | x::zs,st,z=>by
  rw[jL,Ge k zs];unfold sf;by_cases c:x∈ks st.1
  ·rw[if_pos c,ca];exact⟨λh=>h.elim .inl λh=>.inr (.inr h),λh=>h.elim .inl λh=>h.elim (λe=>.inl (by rw[e]; exact c)) .inr⟩
  ·rw[if_neg c];show z∈(st.1++[(x,k)]).map (·.1)\/z∈zs↔_;simp[or_assoc]
theorem Cf(k:Int):∀ (zs:List Tx) (st:List (Tx×Int)×List Tx) (z:Tx),z∈(zs.foldl (sf k) st).2↔z∈st.2\/(z∈zs/\z∉ks st.1)
 | [],st,z=>by simp
 | x::zs,st,z=>by
  rw[jL,Cf k zs];unfold sf;by_cases c:x∈ks st.1
  ·rw[if_pos c,ca];constructor
   ·rintro(h | ⟨h,q⟩)
    ·exact .inl h
    ·exact .inr ⟨.inr h,q⟩
   ·rintro(h | ⟨h | h,q⟩)
    ·exact .inl h
    ·exact absurd (by rw[h]; exact c) q
    ·exact .inr ⟨h,q⟩
  ·rw[if_neg c,ca];show z∈st.2++[x]\/(z∈zs/\z∉(st.1++[(x,k)]).map (·.1))↔_;rw[eY,hZ,oi,eY];constructor
   ·rintro((h | h) | ⟨h,q⟩)
    ·exact .inl h
    ·exact .inr ⟨.inl h,by rw[h]; exact c⟩
    ·exact .inr ⟨.inr h,λy=>q (.inl y)⟩
   ·rintro(h | ⟨h | h,q⟩)
    ·exact .inl (.inl h)
    ·exact .inl (.inr h)
    ·by_cases e:z=x
     ·exact .inl (.inr e)
     ·exact .inr ⟨h,λy=>y.elim q λy=>e (by simpa using y)⟩
structure SP(U:List Tx)(st:List (Tx×Int)×List Tx):Prop where
 nd:(ks st.1).Nodup
 sub:∀ z∈ks st.1,z∈U
 len:st.2.length<=st.1.length
theorem SP.few{U:List Tx}{st:List (Tx×Int)×List Tx}(h:SP U st):st.1.length<=U.length:=by have:=len_sub h.nd h.sub;rwa[cD]at this
theorem SP.step{U:List Tx}{st:List (Tx×Int)×List Tx}(h:SP U st){z:Tx}(hz:z∈U)(k:Int):SP U (sf k st z):=by
 unfold sf;by_cases c:z∈ks st.1
 ·rw[if_pos c]; exact h
 ·rw[if_neg c];refine⟨?_,λy hy=>?_,?_⟩
  ·show((st.1++[(z,k)]).map (·.1)).Nodup;rw[oi];exact zF.mpr ⟨h.nd,by simp,λa ha b hb e=>by simp at hb; subst hb; subst e; exact c ha⟩
  ·have hy:y∈(st.1++[(z,k)]).map (·.1):=hy;rw[oi,eY]at hy;rcases hy with hy | hy
   ·exact h.sub y hy
   ·simp at hy; rw[hy]; exact hz
  ·have:=h.len;simp; lia
theorem Hv{σ:Type}(f:σ->Tx->σ)(g:Tx->List Tx):∀ (l:List Tx) (st:σ),(l.flatMap g).foldl f st=l.foldl (λst u=>(g u).foldl f st) st
 | [],st=>rfl
 | u::l,st=>by rw[lY,List.foldl_append,Hv f g l,jL]
section
variable{a:Ad}
theorem rF{G:ak->R Slot}{ε:ak}{i0 i1:Nat}{v0 v1:PV}{r:Slot}(h0:ε[i0]?=aa (.val v0))(h1:ε[i1]?=aa (.val v1))(hG:G [.val v0,.val v1] = .ok r [.val v0,.val v1]):aG G (gV (dV i0) (gV (dV i1) (Pu.bN))) ε = .ok r ε:=by unfold aG;rw[ff (bS h0) (ff (bS h1) mF),R.bind_ok];simp[cp,dI,R.bind,aS,hG,eK,dN,dY]
theorem r_{d:ak->R Slot}{ε ε1:ak}{x:PV}(h:d ε = .ok (.val x) ε1):aU d ε = .ok x ε1:=by unfold aU; rw[h]; rfl
theorem o0{d:ak->R PV}{ε ε1:ak}{xs:List PV}(h:d ε = .ok (.lst xs) ε1):cI d ε = .ok xs ε1:=by unfold cI; rw[h]; rfl
def xF:ak->R aH:=dq (dB (fJ ai 3 (dV 6))) (aE (jo 3 (dV 6) (d2 aL (dV 2) (dC (.int 1)))) (i9 4 (dV 6))) (d9)
def HE(a:Ad):ak->R aH:=cE 6 (cI (aU (aG (kN a) (gV (dV 5) (gV (dV 1) (Pu.bN)))))) xF
theorem QW:yaK a=aE (cJ 4 (dL b8 (aB))) (aE (λε=>cn (cE 5 (cI (dV 0)) (HE a) ε)) (fA 4)):=rfl
def nz(N:PV)(w k:Nat)(st:List (Tx×Int)×List Tx)(p:Slot×Slot):ak:=[.val N,.val (.int w),.val (.int k),.own (.dK (dk st.1)),.own (.lst (aj st.2)),p.1,p.2]
theorem ME(U:List Tx)(hU:U.length<=2430)(N:PV)(w k:Nat)(s5:Slot)(zs:List Tx)(hz:∀ z∈zs,z∈U)(st:List (Tx×Int)×List Tx)(s6:Slot)(h:SP U st):∃ iG,eX 6 xF (aj zs) (nz N w k st (s5,s6)) = .ok .next (nz N w k (zs.foldl (sf ((k:Int)+1)) st) (s5,iG))/\SP U (zs.foldl (sf ((k:Int)+1)) st):=by
 refine yG (i:=6) (λst s6=>nz N w k st (s5,s6)) (sf ((k:Int)+1)) (SP U) zs st s6 h ?_;intro z uh st s6 h;refine⟨h.step (hz z uh) _,.val (.str z),?_⟩;have Kr:=h.few;have cb:=h.len;have e_:=xJ (neg:=ai) (i:=3) (db:=dV 6) (ε:=[.val N,.val (.int w),.val (.int k),.own (.dK (dk st.1)),.own (.lst (aj st.2)),s5,.val (.str z)]) (z:=z) (m:=st.1) (bS rfl) rfl;show xF [.val N,.val (.int w),.val (.int k),.own (.dK (dk st.1)),.own (.lst (aj st.2)),s5,.val (.str z)]=_;unfold xF sf;by_cases c:z∈ks st.1
 ·rw[decide_eq_true c]at e_;rw[if_pos c];exact(yn (jW e_)).trans rfl
 ·rw[decide_eq_false c]at e_;rw[if_neg c];refine(uU (jW e_)).trans ?_;have ha:aL (.int k) (.int 1)=aa (.int ((k:Int)+1)):=rfl;have Ky:=EW (i:=3) (db:=dV 6) (de:=d2 aL (dV 2) (dC (.int 1))) (ε:=[.val N,.val (.int w),.val (.int k),.own (.dK (dk st.1)),.own (.lst (aj st.2)),s5,.val (.str z)]) (z:=z) (n:=(k:Int)+1) (m:=st.1) (eO (x:=.int k) (bS rfl) (jA _ _) ha) (bS rfl) ⟨_,rfl⟩ rfl (by unfold bI; lia);rw[LP c]at Ky;refine(cm Ky).trans ?_;have happ:=AT (i:=4) (de:=dV 6) (ε:=[.val N,.val (.int w),.val (.int k),.own (.dK (dk (st.1++[(z,(k:Int)+1)]))),.own (.lst (aj st.2)),s5,.val (.str z)]) (x:=.str z) (xs0:=aj st.2) (xs:=aj st.2) rfl (bS rfl) rfl (by rw[gq]; unfold bI; lia);refine happ.trans ?_;show R.ok _ [.val N,.val (.int w),.val (.int k),.own (.dK (dk (st.1++[(z,(k:Int)+1)]))),.own (.lst (aj st.2++[.str z])),s5,.val (.str z)]=_;rw[show aj st.2++[.str z]=aj (st.2++[z]) by simp[aj]];rfl
theorem RK(U:List Tx)(hU:U.length<=2430)(w k:Nat)(new:List Tx)(hn:∀ u∈new,Tv u w/\u.length+2<=w+10/\∀ z∈bA u w,z∈U)(m:List (Tx×Int))(h:SP U (m,[])) : sU a [.val (.lst (aj new)),.val (.int w),.val (.int k),.own (.dK (dk m))] = .ok (.own (.lst (aj ((new.flatMap λu=>bA u w).foldl (sf ((k:Int)+1)) (m,[])).2))) [.val (.lst (aj new)),.val (.int w),.val (.int k),.own (.dK (dk ((new.flatMap λu=>bA u w).foldl (sf ((k:Int)+1)) (m,[])).1))] /\ SP U ((new.flatMap λu=>bA u w).foldl (sf ((k:Int)+1)) (m,[])):=by
 obtain⟨⟨s5,s6⟩,e1,h1⟩:=yG (i:=5) (db:=HE a) (λst p=>nz (.lst (aj new)) w k st p) (λst u=>(bA u w).foldl (sf ((k:Int)+1)) st) (SP U) new (m,[]) (.none,.none) h
  (by intro u hu st p h;obtain⟨t1,t2,t3⟩:=hn u hu;obtain⟨iG,e,h'⟩:=ME U hU (.lst (aj new)) w k (.val (.str u)) (bA u w) t3 st p.2 h;refine⟨h',(.val (.str u),iG),?_⟩;have hc:=BE (a:=a) u w t1 t2;have hd:cI (aU (aG (kN a) (gV (dV 5) (gV (dV 1) (Pu.bN))))) (nz (.lst (aj new)) w k st (.val (.str u),p.2)) = .ok (aj (bA u w)) (nz (.lst (aj new)) w k st (.val (.str u),p.2)):=o0 (mS (rF (v0:=.str u) (v1:=.int w) rfl rfl hc));exact o6 hd e)
 rw[← Hv]at e1 h1;refine⟨?_,h1⟩;have k1:cJ 4 (dL b8 aB) [.val (.lst (aj new)),.val (.int w),.val (.int k),.own (.dK (dk m)),.none,.none,.none] = .ok .next (nz (.lst (aj new)) w k (m,[]) (.none,.none)):=qF (by simp);have hd:cI (dV 0) (nz (.lst (aj new)) w k (m,[]) (.none,.none)) = .ok (aj new) (nz (.lst (aj new)) w k (m,[]) (.none,.none)):=o0 (bS rfl);generalize (new.flatMap λu=>bA u w).foldl (sf ((k:Int)+1)) (m,[])=st at e1;have hb:yaK a [.val (.lst (aj new)),.val (.int w),.val (.int k),.own (.dK (dk m)),.none,.none,.none] = .ok (.ret (.own (.lst (aj st.2)))) [.val (.lst (aj new)),.val (.int w),.val (.int k),.own (.dK (dk st.1)),.none,s5,s6]:=by rw[QW];refine(cm k1).trans ?_;refine(xx hd e1).trans ?_;exact oX rfl
 unfold sU;generalize yaK a=D at hb;generalize aj st.2=B at hb;generalize dk st.1=C at hb;generalize dk m=A at hb;generalize aj new=N at hb;simp[bw,fg,bB,bH,hb,back,aS,R.bind,jx]
end
theorem S9{i:Nat}{dg:ak->R (List cC)}{ε ε2:ak}{po:PO}{as:List cC}(h:ε[i]?=aa (.own po))(h2:dg ε = .ok as ε2):gO i dg ε = .ok (.inr i::as) ε2:=by unfold gO; rw[h]; simp only; rw[h2]; rfl
theorem Qn{G:ak->R Slot}{ε:ak}{i0 i1 i2 i3:Nat}{v0 v1 v2:PV}{po po':PO}{r:Slot}(h0:ε[i0]?=aa (.val v0))(h1:ε[i1]?=aa (.val v1))(h2:ε[i2]?=aa (.val v2))(h3:ε[i3]?=aa (.own po))(hG:G [.val v0,.val v1,.val v2,.own po] = .ok r [.val v0,.val v1,.val v2,.own po']):aG G (gV (dV i0) (gV (dV i1) (gV (dV i2) (gO i3 (Pu.bN))))) ε = .ok r (ε.set i3 (.own po')):=by unfold aG;rw[ff (bS h0) (ff (bS h1) (ff (bS h2) (S9 h3 mF))),R.bind_ok];simp[cp,dI,R.bind,aS,hG,eK,dN,dY,h3]
structure Bst(t:Tx)(w k:Nat)(m:List (Tx×Int))(new:List Tx):Prop where
 nd:(ks m).Nodup
 key:∀ z,z∈ks m↔WN w k t z
 new:∀ z,z∈new↔Lv w t k z
theorem Bst.sp{t:Tx}{w k:Nat}{m:List (Tx×Int)}{new:List Tx}(h:Bst t w k m new)(ht:Tv t w):SP (bL t w) (m,[]):=⟨h.nd,λz hz=>((h.key z).mp hz).like ht,by simp⟩
theorem Bst.near{t:Tx}{w k:Nat}{m:List (Tx×Int)}{new:List Tx}(h:Bst t w k m new)(ht:Tv t w)(h9:t.length+2<=w+10):∀ u∈new,Tv u w/\u.length+2<=w+10/\∀ z∈bA u w,z∈bL t w:=λu hu=>by have hl:=(h.new u).mp hu;obtain⟨a1,a2,a3⟩:=hl.1.good ht;exact⟨a1,∅,λz hz=>(NT.mpr (.inr ⟨u,hl,hz⟩)).like ht⟩
theorem HA{t:Tx}{w k:Nat}{m:List (Tx×Int)}{new:List Tx}(h:Bst t w k m new)(z:Tx):z∈(new.flatMap λu=>bA u w)↔∃ u,Lv w t k u/\z∈bA u w:=by rw[wd];exact⟨λ⟨u,a,b⟩=>⟨u,(h.new u).mp a,b⟩,λ⟨u,a,b⟩=>⟨u,(h.new u).mpr a,b⟩⟩
theorem Bst.next{t:Tx}{w k:Nat}{m:List (Tx×Int)}{new:List Tx}(h:Bst t w k m new){st:List (Tx×Int)×List Tx}(e:(new.flatMap λu=>bA u w).foldl (sf ((k:Int)+1)) (m,[])=st)(hs:SP (bL t w) st):Bst t w (k+1) st.1 st.2:=by
 refine⟨hs.nd,λz=>?_,λz=>?_⟩
 ·rw[← e,Ge,NT,HA h];show z∈ks m\/_↔_;rw[h.key]
 ·rw[← e,Cf,HA h];show z∈[]\/(_/\z∉ks m)↔_;rw[h.key];constructor
  ·rintro(q | ⟨q,r⟩)
   ·simp at q
   ·exact⟨NT.mpr (.inr q),λj hj=>(show k=j by lia) ▸ r⟩
  ·rintro⟨q,r⟩;have r':=r k rfl;exact .inr ⟨(NT.mp q).resolve_left r',r'⟩
theorem Bst.len{t:Tx}{w k:Nat}{m:List (Tx×Int)}{new:List Tx}(h:Bst t w k m new)(ht:Tv t w):m.length<(bL t w).length↔¬ Full w t k:=by
 have hkl:(ks m).length=m.length:=cD _;constructor
 ·intro hl hf;have:=len_sub (Hz t w) (m:=ks m) λz hz=>(h.key z).mpr (hf z hz);lia
 ·intro hf;refine zS λc=>hf λz hz=>zS λd=>?_;have hn:z∉ks m:=λq=>d ((h.key z).mp q);have:=len_sub (l:=z::ks m) (m:=bL t w) (jJ.mpr ⟨hn,h.nd⟩) λy hy=>by
   rcases ca.mp hy with rfl | hy
   ·exact hz
   ·exact((h.key y).mp hy).like ht
  rw[eI]at this;lia
section
variable{a:Ad}
theorem Lb(t:Tx)(w:Nat):Bst t w 0 [(t,0)] [t]:=⟨by simp,λz=>by rw[N8]; simp,λz=>by rw[HW]; simp⟩
theorem Rg{t:Tx}{w K:Nat}(ht:Tv t w)(pP:∀ k,k<K->¬ Full w t k):∃ y,Lv w t K y:=by
 cases K with
 | zero=>exact⟨t,HW.mpr rfl⟩
 | succ K=>exact OC ht (pP K ∅)
end
theorem mv{w i j:Nat}{t z:Tx}(h1:Lv w t i z)(h2:Lv w t j z):i=j:=by
 rcases Nat.lt_trichotomy i j with c | c | c
 ·have:=h1.1.mono (j-1-i);rw[show i+(j-1-i)=j-1 by lia]at this;exact absurd this (h2.2 (j-1) ∅)
 ·exact c
 ·have:=h2.1.mono (i-1-j);rw[show j+(i-1-j)=i-1 by lia]at this;exact absurd this (h1.2 (i-1) ∅)
theorem Oj{w:Nat}{t z:Tx}:∀ {k:Nat},WN w k t z↔∃ i,i<=k/\Lv w t i z
 | 0=>⟨λh=>⟨0,bo _,HW.mpr (N8.mp h)⟩,λ⟨i,h1,h2⟩=>by
   have:i=0:=∅
   subst this;exact h2.1⟩
 | k+1=>by
  constructor
  ·intro h;by_cases c:WN w k t z
   ·obtain⟨i,h1,h2⟩:=Oj.mp c;exact⟨i,∅,h2⟩
   ·exact⟨k+1,bo _,h,λj hj=>(show k=j by lia) ▸ c⟩
  ·rintro⟨i,h1,h2⟩;have:=h2.1.mono (k+1-i);rwa[show i+(k+1-i)=k+1 by lia]at this
structure jB(t:Tx)(w k:Nat)(m:List (Tx×Int))(lv:List Tx):Prop where
 nd:(ks m).Nodup
 get:∀ z (n:Int),bn m z=aa n↔∃ i:Nat,n=i/\i<=k/\Lv w t i z
 lev:∀ z,z∈lv↔Lv w t k z
theorem jB.key{t:Tx}{w k:Nat}{m:List (Tx×Int)}{lv:List Tx}(h:jB t w k m lv)(z:Tx):z∈ks m↔WN w k t z:=by
 have:=BV m z;rw[Oj];constructor
 ·intro q;rw[decide_eq_true q,Option.isSome_iff_exists]at this;obtain⟨n,hn⟩:=this;obtain⟨i,_,h1,h2⟩:=(h.get z n).mp hn;exact⟨i,h1,h2⟩
 ·rintro⟨i,h1,h2⟩;have e:=(h.get z i).mpr ⟨i,rfl,h1,h2⟩;rw[e]at this;exact of_decide_eq_true this.symm
def fS(w:Nat)(m:List (Tx×Int))(lv:List Tx):List Tx:=lv.flatMap λh=>(jF h w).filter λz=>decide (z∉ks m)
theorem He(n:Int):∀ (zs:List Tx) (m:List (Tx×Int)) (z:Tx),bn (zs.foldl (λm z=>cQ m z n) m) z=if z∈zs then aa n else bn m z
 | [],m,z=>by simp
 | x::zs,m,z=>by
  rw[jL,He n zs,uk];by_cases c:z∈zs
  ·simp[c]
  ·by_cases d:z=x <;> simp[c,d]
theorem HS(n:Int):∀ (zs:List Tx) (m:List (Tx×Int)),(ks m).Nodup->(ks (zs.foldl (λm z=>cQ m z n) m)).Nodup
 | [],m,h=>h
 | x::zs,m,h=>HS n zs (cQ m x n) (xS h)
structure iJ(t:Tx)(w:Nat):Prop where
 tv:Tv t w
 w2:2<=w
 h9:t.length<=9
 two:2 * w<=t.length+3
theorem iJ.of{t u:Tx}{w k:Nat}(h:iJ t w)(q:WN w k t u):iJ u w:=by obtain⟨a1,a2,_⟩:=q.good h.tv;exact⟨a1,h.w2,by have:=h.h9; lia,by have:=h.two; lia⟩
theorem jB.late{t:Tx}{w k:Nat}{m:List (Tx×Int)}{lv:List Tx}(h:jB t w k m lv)(ht:iJ t w)(z:Tx):z∈fS w m lv↔Lv w t (k+1) z:=by
 unfold fS;rw[wd];simp only[kA,decide_eq_true_eq];constructor
 ·rintro⟨u,hu,hz,hn⟩;have hl:=(h.lev u).mp hu;have hw:=ht.of hl.1;rw[← Aw hw.tv hw.two]at hz;refine⟨NT.mpr (.inr ⟨u,hl,hz⟩),λj hj=>?_⟩;rw[h.key]at hn;exact(show k=j by lia) ▸ hn
 ·rintro⟨q,r⟩;have r':=r k rfl;obtain⟨u,hu,hz⟩:=(NT.mp q).resolve_left r';have hw:=ht.of hu.1;rw[Aw hw.tv hw.two]at hz;exact⟨u,(h.lev u).mpr hu,hz,λc=>r' ((h.key z).mp c)⟩
theorem jB.next{t:Tx}{w k:Nat}{m:List (Tx×Int)}{lv:List Tx}(h:jB t w k m lv)(ht:iJ t w):jB t w (k+1) ((fS w m lv).foldl (λm z=>cQ m z ((k:Int)+1)) m) (bD (cf (fS w m lv))):=by
 refine⟨HS _ _ _ h.nd,λz n=>?_,λz=>?_⟩
 ·rw[He];by_cases c:z∈fS w m lv
  ·have hl:=(h.late ht z).mp c;rw[if_pos c];constructor
   ·intro e;exact⟨k+1,by rw[← eQ e]; rfl,bo _,hl⟩
   ·rintro⟨i,rfl,h1,h2⟩;rw[mv h2 hl]; rfl
  ·rw[if_neg c,h.get];constructor
   ·rintro⟨i,e,h1,h2⟩;exact⟨i,e,∅,h2⟩
   ·rintro⟨i,e,h1,h2⟩;refine⟨i,e,?_,h2⟩;rcases Dx k i with d | d
    ·have:i=k+1:=∅
     subst this;exact absurd ((h.late ht z).mpr h2) c
    ·exact d
 ·rw[(js _).mem_iff,mI,h.late ht]
theorem jB.sub{t:Tx}{w k:Nat}{m:List (Tx×Int)}{lv:List Tx}(h:jB t w k m lv)(ht:iJ t w):m.length<=2430:=by have:=len_sub h.nd λz hz=>((h.key z).mp hz).like ht.tv;rw[cD]at this;have:=xX ht.tv ht.w2 ht.h9;lia
theorem My:∀ n,n<=9->Iv n<=210:=by decide +kernel
theorem T8{u:Tx}{w:Nat}(h:iJ u w):(jF u w).length<=220:=by
 have hr:=sG u (w-1);have h9:=h.h9;have w2:=h.w2;have hw:=h.tv.h1;unfold jF;rw[BI];have b1:=yL (fi (lG u w) u);have b2:(fi (lG u w) u).length<=(lG u w).length:=wb _ _;have b3:(lG u w).length=(nW u (bO u (w-1))).length+(gk u (bO u (w-1))).length:=by unfold lG; rw[cZ]
 have b4:=Gr u (bO u (w-1));have b5:(nW u (bO u (w-1))).length<=210:=by refine cL (o7 (c:=λl=>((bP 0 l).map λj=>(l-j) * j).sum) λs _=>?_) (My _ ∅);exact o7 λg _=>BS (Ch u _ g s)
 lia
theorem HB{w:Nat}{m:List (Tx×Int)}:∀ (lv:List Tx),(∀ u∈lv,iJ u w)->(fS w m lv).length<=lv.length * 220
 | [],_=>by simp[fS]
 | u::lv,h=>by
  have ih:=HB (m:=m) lv λy hy=>h y (by simp[hy]);have h1:=T8 (h u (by simp));have h2:((jF u w).filter λz=>decide (z∉ks m)).length<=(jF u w).length:=wb _ _;have e:fS w m (u::lv)=((jF u w).filter λz=>decide (z∉ks m))++fS w m lv:=by unfold fS; rw[lY]
  rw[e,cZ,eI,Dt];lia
theorem Qp{m:List (Tx×Int)}{z:Tx}(h:z∉ks m):bn m z=ae:=by have:=BV m z;rw[decide_eq_false h]at this;exact Option.isNone_iff_eq_none.mp (by simpa using this)
theorem Jt(k:Int):∀ (zs:List Tx) (st:List (Tx×Int)×List Tx) (z:Tx),bn (zs.foldl (sf k) st).1 z=if z∈ks st.1 then bn st.1 z else if z∈zs then aa k else ae
 | [],st,z=>by
  by_cases c:z∈ks st.1
  ·simp[c]
  ·simp[c,Qp c]
 | x::zs,st,z=>by
  rw[jL,Jt k zs];unfold sf;by_cases c:x∈ks st.1
  ·rw[if_pos c];by_cases d:z∈ks st.1
   ·rw[if_pos d,if_pos d]
   ·rw[if_neg d,if_neg d];have:z≠x:=λe=>d (e ▸ c);simp[this]
  ·rw[if_neg c];have hk:∀ y,y∈ks (st.1++[(x,k)])↔y∈ks st.1\/y=x:=λy=>by show y∈(st.1++[(x,k)]).map (·.1)↔_; simp
   have hg:bn (st.1++[(x,k)]) z=if z=x then aa k else bn st.1 z:=Gh (by rw[A_,decide_eq_false c])
   by_cases d:z∈ks st.1
   ·have:z≠x:=λe=>c (e ▸ d);rw[if_pos ((hk z).mpr (.inl d)),if_pos d];show bn (st.1++[(x,k)]) z=_;rw[hg,if_neg this]
   ·by_cases e:z=x
    ·rw[if_pos ((hk z).mpr (.inr e)),if_neg d];show bn (st.1++[(x,k)]) z=_;rw[hg,if_pos e];simp[e]
    ·rw[if_neg (λq=>((hk z).mp q).elim d e),if_neg d];simp[e]
structure kP(t:Tx)(w k:Nat)(m:List (Tx×Int))(new:List Tx):Prop extends Bst t w k m new where
 get:∀ z (n:Int),bn m z=aa n↔∃ i:Nat,n=i/\i<=k/\Lv w t i z
theorem K5(t:Tx)(w:Nat)(z:Tx)(n:Int):bn [(t,0)] z=aa n↔∃ i:Nat,n=i/\i<=0/\Lv w t i z:=by
 rw[LG (by simp)];simp only[hZ,Prod.mk.injEq];constructor
 ·rintro⟨rfl,rfl⟩;exact⟨0,rfl,bo _,HW.mpr rfl⟩
 ·rintro⟨i,rfl,h1,h2⟩;have:i=0:=∅
  subst this;exact⟨HW.mp h2,rfl⟩
theorem Qu(t:Tx)(w:Nat):kP t w 0 [(t,0)] [t]:=⟨Lb t w,K5 t w⟩
theorem kP.next{t:Tx}{w k:Nat}{m:List (Tx×Int)}{new:List Tx}(h:kP t w k m new){st:List (Tx×Int)×List Tx}(e:(new.flatMap λu=>bA u w).foldl (sf ((k:Int)+1)) (m,[])=st)(hs:SP (bL t w) st):kP t w (k+1) st.1 st.2:=by
 have hb:=h.toBst.next e hs;refine⟨hb,λz n=>?_⟩;rw[← e,Jt];show(if z∈ks m then bn m z else _)=aa n↔_;by_cases c:z∈ks m
 ·rw[if_pos c,h.get];constructor
  ·rintro⟨i,e1,h1,h2⟩; exact⟨i,e1,∅,h2⟩
  ·rintro⟨i,e1,h1,h2⟩;obtain⟨i',iV,iW⟩:=Oj.mp ((h.key z).mp c);have:=mv h2 iW;subst this;exact⟨i,e1,iV,h2⟩
 ·rw[if_neg c];have hiff:z∈(new.flatMap λu=>bA u w)↔Lv w t (k+1) z:=by
   have:=hb.new z;rw[← e,Cf]at this;rw[← this];constructor
   ·exact λq=>.inr ⟨q,c⟩
   ·rintro(q | ⟨q,_⟩)
    ·simp at q
    ·exact q
  constructor
  ·intro q;by_cases d:z∈(new.flatMap λu=>bA u w)
   ·rw[if_pos d]at q;exact⟨k+1,by rw[← eQ q]; rfl,bo _,hiff.mp d⟩
   ·rw[if_neg d]at q; cases q
  ·rintro⟨i,rfl,h1,h2⟩;have hi:i=k+1:=by
    rcases Dx k i with q | q
    ·lia
    ·exact absurd ((h.key z).mpr (Oj.mpr ⟨i,q,h2⟩)) c
   subst hi;rw[if_pos (hiff.mpr h2)]; rfl
theorem Gj(m:List (Tx×Int))(x:Tx):dD m x=bn m x:=rfl
theorem rZ{m:List (Tx×Int)}{c:Int}:∀ (r:List Tx) (b:Tx) (kb:Int),bn m b=aa kb->(∀ y∈r,∃ k,bn m y=aa k/\c<=k)->c<=kb -> (kb=c->r.foldl (λb y=>b.bind λb=>(dD m b).bind λkb=>(dD m y).map λky=>if ky<kb then y else b) (aa b)=aa b) /\ (kb≠c->(∃ y∈r,bn m y=aa c)->r.foldl (λb y=>b.bind λb=>(dD m b).bind λkb=>(dD m y).map λky=>if ky<kb then y else b) (aa b)=r.find? λy=>decide (bn m y=aa c))
 | [],b,kb,_,_,_=>⟨λ_=>rfl,λ_ ⟨y,hy,_⟩=>by simp at hy⟩
 | x::r,b,kb,hb,hr,hc=>by
  obtain⟨kx,hx,wZ⟩:=hr x (by simp);have gS:=λy (hy:y∈r)=>hr y (by simp[hy]);have estep:((aa b).bind λb=>(dD m b).bind λkb=>(dD m x).map λky=>if ky<kb then x else b)=aa (if kx<kb then x else b):=by simp only[iD,Gj,hb,hx,lV]
  refine⟨λe=>?_,λne nt=>?_⟩
  ·rw[jL,estep,if_neg ∅];exact(rZ r b kb hb gS hc).1 e
  ·rw[jL,estep];by_cases q:kx=c
   ·rw[if_pos ∅,fX,decide_eq_true (by rw[hx,q])];exact(rZ r x kx hx gS wZ).1 q
   ·have Kz:∃ y∈r,bn m y=aa c:=by
     obtain⟨y,hy,e⟩:=nt;rcases ca.mp hy with rfl | hy
     ·rw[hx]at e; exact absurd (eQ e) q
     ·exact⟨y,hy,e⟩
    rw[fX,decide_eq_false (by rw[hx]; intro e; exact q (eQ e))];by_cases d:kx<kb
    ·rw[if_pos d]; exact(rZ r x kx hx gS wZ).2 q Kz
    ·rw[if_neg d]; exact(rZ r b kb hb gS hc).2 ne Kz
theorem QG{m:List (Tx×Int)}{c:Int}{ls:List Tx}(h:∀ y∈ls,∃ k,bn m y=aa k/\c<=k)(nt:∃ y∈ls,bn m y=aa c):rG m ls=ls.find? λy=>decide (bn m y=aa c):=by
 cases ls with
 | nil=>obtain⟨y,hy,_⟩:=nt; simp at hy
 | cons x r=>
  obtain⟨kx,hx,wZ⟩:=h x (by simp);have gS:=λy (hy:y∈r)=>h y (by simp[hy]);show r.foldl _ ((dD m x).map λ_=>x)=_;rw[Gj,hx,lV,fX];by_cases q:kx=c
  ·rw[decide_eq_true (by rw[hx,q])];exact(rZ r x kx hx gS wZ).1 q
  ·rw[decide_eq_false (by rw[hx]; intro e; exact q (eQ e))];refine(rZ r x kx hx gS wZ).2 q ?_;obtain⟨y,hy,e⟩:=nt;rcases ca.mp hy with rfl | hy
   ·rw[hx]at e; exact absurd (eQ e) q
   ·exact⟨y,hy,e⟩
theorem uy{t u:Tx}{w d:Nat}(ht:Tv t w)(h:Lv w t (d+1) u):∃ v,Lv w t d v/\v∈bA u w:=by obtain⟨v,h1,h2⟩:=(NT.mp h.1).resolve_left (h.2 d rfl);exact⟨v,h1,(GH (h1.1.good ht).1 h2).2.2.2.2⟩
theorem HK{t u v:Tx}{w d j:Nat}(ht:Tv t w)(hu:Lv w t d u)(hv:v∈bA u w)(hj:Lv w t j v):d<=j+1:=by have hb:=(GH (hu.1.good ht).1 hv).2.2.2.2;have:WN w (j+1) t u:=NT.mpr (.inr ⟨v,hj,hb⟩);obtain⟨i,h1,h2⟩:=Oj.mp this;rw[mv hu h2]; exact h1
def fz(t:Tx)(w d:Nat)(u:Tx):Tx:=open Classical in ((bA u w).find? λz=>decide (Lv w t d z)).getD u
def cP(t:Tx)(w:Nat):Nat->Tx->List Tx
 | 0,u=>[u]
 | d+1,u=>u::cP t w d (fz t w d u)
theorem A8{t u:Tx}{w d:Nat}(ht:Tv t w)(h:Lv w t (d+1) u):Lv w t d (fz t w d u)/\fz t w d u∈bA u w:=by
 classical
 obtain⟨v,h1,h2⟩:=uy ht h;unfold fz;cases e:(bA u w).find? λz=>decide (Lv w t d z)with
 | none=>exact absurd h1 (by have:=zM.mp e v h2; simpa using this)
 | some z=>show Lv w t d z/\z∈bA u w;exact⟨by have:=List.find?_some e; simpa using this,List.mem_of_find?_eq_some e⟩
theorem SU{t u:Tx}{w d:Nat}{m:List (Tx×Int)}(ht:Tv t w)(h:Lv w t (d+1) u)(hm:∀ z∈bA u w,bn m z=aa (d:Int)↔Lv w t d z):(bA u w).find? (λz=>decide (bn m z=aa (d:Int)))=aa (fz t w d u):=by
 classical
 have e1:(bA u w).find? (λz=>decide (bn m z=aa (d:Int)))=(bA u w).find? λz=>decide (Lv w t d z):=by
  have:∀ l:List Tx,(∀ z∈l,bn m z=aa (d:Int)↔Lv w t d z)->l.find? (λz=>decide (bn m z=aa (d:Int)))=l.find? λz=>decide (Lv w t d z):=by
   intro l
   induction l with
   | nil=>intro _; rfl
   | cons x l ih=>
    intro hl;rw[fX,fX,ih λz hz=>hl z (by simp[hz])];have:=hl x (by simp);by_cases c:Lv w t d x
    ·rw[decide_eq_true c,decide_eq_true (this.mpr c)]
    ·rw[decide_eq_false c,decide_eq_false (λq=>c (this.mp q))]
  exact this _ hm
 obtain⟨v,h1,h2⟩:=uy ht h;rw[e1];unfold fz;cases e:(bA u w).find? λz=>decide (Lv w t d z)with
 | none=>exact absurd h1 (by have:=zM.mp e v h2; simpa using this)
 | some z=>rfl
theorem BC(t:Tx)(w:Nat):∀ (d:Nat) (u:Tx),(cP t w d u).length=d+1
 | 0,u=>rfl
 | d+1,u=>by rw[cP,eI,BC t w d]
section
variable{a:Ad}
def gC:ak->R Bool:=kj (dB (dL vj (aw (dF (c9 [4] (cI (dV 3)) (dW) (fJ ao 1 (dV 0)))) (aB))))
def gB(a:Ad):ak->R aH:=aE (bt 5 (aU (aG (sU a) (gV (dV 5) (gV (dV 2) (gV (dV 6) (gO 4 (Pu.bN)))))))) (bt 6 (d2 aL (dV 6) (dC (.int 1))))
theorem Ob:yam a=aE (bt 3 (aU (aG (kN a) (gV (dV 1) (gV (dV 2) (Pu.bN)))))) (aE (cJ 4 (oU 0 0)) (aE (bt 5 (dF (dL b8 (aw (dV 0) (aB))))) (aE (bt 6 (dC (.int 0))) (aE (λε=>cn (d4 gC (gB a) 1000 ε)) (fA 4))))):=rfl
def j0(g s:Tx)(w:Nat)(near:List Tx)(m:List (Tx×Int))(new:List Tx)(k:Nat):ak:=[.val (.str g),.val (.str s),.val (.int w),.val (.lst (aj near)),.own (.dK (dk m)),.val (.lst (aj new)),.val (.int k)]
theorem Fz(g s:Tx)(w:Nat)(near:List Tx)(m:List (Tx×Int))(new:List Tx)(k:Nat):gC (j0 g s w near m new k) = .ok (!(near.map λz=>decide (z∈ks m)).any id) (j0 g s w near m new k):=by
 have hc:=ko (cap:=[4]) (dt:=dW) (de:=fJ ao 1 (dV 0)) (ε:=j0 g s w near m new k) (λ_=>ai) (λx=>match x with | .str z=>.bl (decide (z∈ks m)) | _=>.non) (aj near)
  (by intro x hx;obtain⟨z,_,rfl⟩:=cM.mp hx;have e_:=xJ (neg:=ao) (i:=1) (db:=dV 0) (ε:=[.val (.str z),.own (.dK (dk m))]) (z:=z) (m:=m) (bS rfl) rfl;rw[lr]at e_;generalize fJ ao 1 (dV 0)=D at e_ ⊢;unfold j0;generalize dk m=DM at e_ ⊢;exact⟨by simp[dX,dR,cX,R.bind,aS,cp,dI,dW,eK,dN,dY],λ_=>by simp[dX,dR,cX,R.bind,aS,cp,dI,e_,eK,dN,dY]⟩) []
 rw[eV,oC.mpr (by simp)]at hc;have hm:(aj near).map (λx=>match x with | .str z=>PV.bl (decide (z∈ks m)) | _=>.non)=(near.map λz=>decide (z∈ks m)).map .bl:=by unfold aj;rw[eJ,eJ];rfl
 rw[hm]at hc;have hx:dF (c9 [4] (cI (dV 3)) (dW) (fJ ao 1 (dV 0))) (j0 g s w near m new k) = .ok (.lst ((near.map λz=>decide (z∈ks m)).map .bl)) (j0 g s w near m new k):=by unfold dF c9;rw[o0 (xs:=aj near) (bS rfl),R.bind_ok,hc];rfl
 have hany:vj [.lst ((near.map λz=>decide (z∈ks m)).map .bl)]=aa (.bl ((near.map λz=>decide (z∈ks m)).any id)):=by show(kM _).map _=_;rw[E1]; rfl
 have:=jW (gU (fK hx gT) hany);unfold gC kj;rw[this];rfl
theorem Hs{g s:Tx}{w D k:Nat}{m:List (Tx×Int)}{new:List Tx}(hg:Tv g w)(hs:Lv w g (D+1) s)(h:kP g w k m new):(((bA s w).map λz=>decide (z∈ks m)).any id)=decide (D<=k):=by
 rw[pt,decide_eq_true_eq,De,tY];constructor
 ·rintro⟨v,hv,q⟩;have hq:v∈ks m:=of_decide_eq_true q;obtain⟨i,h1,h2⟩:=Oj.mp ((h.key v).mp hq);have:=HK hg hs hv h2;lia
 ·intro hk;obtain⟨v,h1,h2⟩:=uy hg hs;exact⟨v,h2,decide_eq_true ((h.key v).mpr (Oj.mpr ⟨D,hk,h1⟩))⟩
theorem Pp(g s:Tx)(w:Nat)(ht:Tv g w)(w2:2<=w)(h9:g.length<=9)(near:List Tx)(k:Nat)(m:List (Tx×Int))(new:List Tx)(h:kP g w k m new):∃ m' new',kP g w (k+1) m' new'/\gB a (j0 g s w near m new k) = .ok .next (j0 g s w near m' new' (k+1)):=by obtain⟨e,hs⟩:=RK (a:=a) (bL g w) (xX ht w2 h9) w k new (h.toBst.near ht ∅) m (h.toBst.sp ht);generalize ma:(new.flatMap λu=>bA u w).foldl (sf ((k:Int)+1)) (m,[])=st at e hs;refine⟨st.1,st.2,h.next ma hs,?_⟩;have k1:bt 5 (aU (aG (sU a) (gV (dV 5) (gV (dV 2) (gV (dV 6) (gO 4 (Pu.bN))))))) (j0 g s w near m new k) = .ok .next (j0 g s w near st.1 st.2 k) :=lc (mS (Qn (ε:=j0 g s w near m new k) (v0:=.lst (aj new)) (v1:=.int w) (v2:=.int k) (po:=.dK (dk m)) rfl rfl rfl rfl e));unfold gB;refine(cm k1).trans ?_;exact lc (eO (x:=.int k) (bS rfl) (jA _ _) (Js k))
theorem GN(g s:Tx)(w:Nat)(ht:Tv g w)(w2:2<=w)(h9:g.length<=9)(D:Nat)(hs:Lv w g (D+1) s):∀ (j k bp:Nat) (m:List (Tx×Int)) (new:List Tx),k+j=D->j<bp->kP g w k m new -> ∃ m' new',kP g w D m' new'/\d4 gC (gB a) bp (j0 g s w (bA s w) m new k) = .ok .next (j0 g s w (bA s w) m' new' D)
 | 0,k,bp,m,new,hj,hf,h=>by
  obtain⟨f,rfl⟩:∃ f,bp=f+1:=⟨bp-1,∅⟩
  have e:k=D:=∅
  subst e;have c:=Fz g s w (bA s w) m new k;rw[Hs ht hs h,decide_eq_true (bo _)]at c;exact⟨m,new,h,sP c⟩
 | j+1,k,bp,m,new,hj,hf,h=>by
  obtain⟨f,rfl⟩:∃ f,bp=f+1:=⟨bp-1,∅⟩
  have c:=Fz g s w (bA s w) m new k;rw[Hs ht hs h,decide_eq_false ∅]at c;obtain⟨m1,n1,h1,e1⟩:=Pp (a:=a) g s w ht w2 h9 (bA s w) k m new h;obtain⟨m2,n2,h2,e2⟩:=GN g s w ht w2 h9 D hs j (k+1) f m1 n1 ∅ ∅ h1;exact⟨m2,n2,h2,(uS c e1).trans e2⟩
theorem Q0(g s:Tx)(w:Nat)(ht:Tv g w)(w2:2<=w)(h9:g.length<=9)(D:Nat)(hD:D<=20)(hs:Lv w g (D+1) s):∃ m new,kP g w D m new/\pX a [.val (.str g),.val (.str s),.val (.int w)] = .ok (.own (.dK (dk m))) [.val (.str g),.val (.str s),.val (.int w)]:=by
 obtain⟨m,new,hb,hw⟩:=GN (a:=a) g s w ht w2 h9 D hs D 0 1000 [(g,0)] [g] ∅ ∅ (Qu g w);refine⟨m,new,hb,?_⟩;obtain⟨s1,s2,_⟩:=hs.1.good ht;have D7:=BE (a:=a) s w s1 ∅;have k0:bt 3 (aU (aG (kN a) (gV (dV 1) (gV (dV 2) (Pu.bN))))) [.val (.str g),.val (.str s),.val (.int w),.none,.none,.none,.none] = .ok .next [.val (.str g),.val (.str s),.val (.int w),.val (.lst (aj (bA s w))),.none,.none,.none]:=lc (mS (rF (v0:=.str s) (v1:=.int w) rfl rfl D7));have k1:cJ 4 (oU 0 0) [.val (.str g),.val (.str s),.val (.int w),.val (.lst (aj (bA s w))),.none,.none,.none] = .ok .next [.val (.str g),.val (.str s),.val (.int w),.val (.lst (aj (bA s w))),.own (.dK (dk [(g,0)])),.none,.none]:=rfl;have k2:bt 5 (dF (dL b8 (aw (dV 0) (aB)))) [.val (.str g),.val (.str s),.val (.int w),.val (.lst (aj (bA s w))),.own (.dK (dk [(g,0)])),.none,.none] = .ok .next [.val (.str g),.val (.str s),.val (.int w),.val (.lst (aj (bA s w))),.own (.dK (dk [(g,0)])),.val (.lst (aj [g])),.none]:=rfl;have k3:bt 6 (dC (.int 0)) [.val (.str g),.val (.str s),.val (.int w),.val (.lst (aj (bA s w))),.own (.dK (dk [(g,0)])),.val (.lst (aj [g])),.none] = .ok .next (j0 g s w (bA s w) [(g,0)] [g] 0):=rfl;have iH:yam a [.val (.str g),.val (.str s),.val (.int w),.none,.none,.none,.none] = .ok (.ret (.own (.dK (dk m)))) [.val (.str g),.val (.str s),.val (.int w),.val (.lst (aj (bA s w))),.none,.val (.lst (aj new)),.val (.int D)]:=by rw[Ob];refine(cm k0).trans ?_;refine(cm k1).trans ?_;refine(cm k2).trans ?_;refine(cm k3).trans ?_;refine(cm (d1:=λε=>cn (d4 gC (gB a) 1000 ε)) (by show cn _=_; rw[hw]; rfl)).trans ?_;exact oX rfl
 unfold pX;generalize yam a=DD at iH;generalize dk m=A at iH;generalize aj (bA s w)=B at iH;generalize aj new=C at iH;simp[bw,fg,bB,bH,iH,back,aS,R.bind,jx]
def mB:ak->R PV:=jq a8 3 (d1 dU (dC (.int 1)))
def rC:ak->R Bool:=dB (d2 (eqT ai) mB (dV 1))
def Bq(a:Ad):ak->R PV:=dF (c9 [4] (cI (aU (aG (kN a) (gV mB (gV (dV 2) (Pu.bN)))))) (dB (fJ ao 1 (dV 0))) (dV 0))
def rB(a:Ad):ak->R aH:=aE (bt 5 (Bq a)) (i9 3 (pT 5 4))
theorem Qy:yaJ a=aE (lg (aG (qw a) (gV (dV 0) (gV (dV 1) (gV (dV 2) (Pu.bN)))))) (aE (cJ 3 (dL b8 (aw (dV 0) (aB)))) (aE (dq (dB (d2 (eqT ao) (dV 0) (dV 1))) (fA 3) (d9)) (aE (cJ 4 (kW (aG (pX a) (gV (dV 1) (gV (dV 0) (gV (dV 2) (Pu.bN))))))) (aE (λε=>cn (d4 rC (rB a) 1000 ε)) (fA 3))))):=rfl
def gn(u t:Tx)(w:Nat)(way:List Tx)(m:List (Tx×Int))(s5:Slot):ak:=[.val (.str u),.val (.str t),.val (.int w),.own (.lst (aj way)),.own (.dK (dk m)),s5]
theorem IH(u t:Tx)(w:Nat)(pre:List Tx)(v:Tx)(m:List (Tx×Int))(s5:Slot):mB (gn u t w (pre++[v]) m s5) = .ok (.str v) (gn u t w (pre++[v]) m s5):=by
 have ro:jv (aj (pre++[v])).length (-1)=aa pre.length:=by unfold jv aj;rw[cD,cZ,pD,if_neg ∅,if_pos ∅];congr 1;lia
 have q0:nA (a8 (.lst (aj (pre++[v]))) (.int (-1)))=aa (.str v):=by
  have:a8 (.lst (aj (pre++[v]))) (.int (-1))=aa (.str v):=by show eh _ _=_;unfold eh;rw[ro];unfold aj;simp
  rw[this]; rfl
 unfold mB jq gn;generalize aj (pre++[v])=L at q0 ⊢;generalize dk m=M;simp[f6,aS,R.bind,d1,dC,dU,q0]
theorem HY(u t:Tx)(w:Nat)(pre:List Tx)(v:Tx)(m:List (Tx×Int))(s5:Slot):rC (gn u t w (pre++[v]) m s5) = .ok (decide (v≠t)) (gn u t w (pre++[v]) m s5):=by have h:=eO (f:=eqT ai) (z:=.bl (decide (v≠t))) (IH u t w pre v m s5) (bS (i:=1) (v:=.str t) rfl) (by rw[kT,tX];congr 2;simp);exact jW h
theorem Lz(u t:Tx)(w:Nat)(pre:List Tx)(v:Tx)(m:List (Tx×Int))(s5:Slot)(hv:Tv v w)(h9:v.length<=9):Bq a (gn u t w (pre++[v]) m s5) = .ok (.lst (aj ((bA v w).filter λz=>decide (z∈ks m)))) (gn u t w (pre++[v]) m s5):=by
 have D7:=BE (a:=a) v w hv (by have:=hv.w1; lia);have DH:aG (kN a) (gV mB (gV (dV 2) (Pu.bN))) (gn u t w (pre++[v]) m s5) = .ok (.own (.lst (aj (bA v w)))) (gn u t w (pre++[v]) m s5):=by unfold aG;rw[ff (IH u t w pre v m s5) (ff (bS (i:=2) (v:=.int w) rfl) mF),R.bind_ok];simp[cp,dI,R.bind,aS,D7,eK,dN,dY]
 have hc:=ko (cap:=[4]) (dt:=dB (fJ ao 1 (dV 0))) (de:=dV 0) (ε:=gn u t w (pre++[v]) m s5) (λx=>match x with | .str z=>decide (z∈ks m) | _=>ao) id (aj (bA v w))
  (by intro x hx;obtain⟨z,_,rfl⟩:=cM.mp hx;have e_:=xJ (neg:=ao) (i:=1) (db:=dV 0) (ε:=[.val (.str z),.own (.dK (dk m))]) (z:=z) (m:=m) (bS rfl) rfl;rw[lr]at e_;have D8:=jW e_;generalize dB (fJ ao 1 (dV 0))=D at D8 ⊢;unfold gn;generalize dk m=DM at D8 ⊢;exact⟨by simp[dX,dR,cX,R.bind,aS,cp,dI,D8,eK,dN,dY],λ_=>by simp[dX,dR,cX,R.bind,aS,cp,dI,dV,eK,dN,dY]⟩) []
 rw[eV,List.map_id]at hc;have hf:(aj (bA v w)).filter (λx=>match x with | .str z=>decide (z∈ks m) | _=>ao)=aj ((bA v w).filter λz=>decide (z∈ks m)):=by unfold aj;rw[wc];rfl
 rw[hf]at hc;unfold Bq dF c9;rw[o0 (mS DH),R.bind_ok,hc];rfl
theorem KC{t v:Tx}{w D j:Nat}{m:List (Tx×Int)}{new:List Tx}(ht:Tv t w)(h:kP t w D m new)(hj:j<=D)(hv:Lv w t (j+1) v):rG m ((bA v w).filter λz=>decide (z∈ks m))=aa (fz t w j v):=by
 have hlv:∀ z,z∈ks m->∃ i,bn m z=aa ((i:Nat):Int)/\Lv w t i z:=λz hz=>by obtain⟨i,h1,h2⟩:=Oj.mp ((h.key z).mp hz);exact⟨i,(h.get z _).mpr ⟨i,rfl,h1,h2⟩,h2⟩
 have pJ:∀ z,bn m z=aa ((j:Nat):Int)↔Lv w t j z:=λz=>by
  rw[h.get];constructor
  ·rintro⟨i,e,_,q⟩;have:j=i:=∅
   subst this; exact q
  ·exact λq=>⟨j,rfl,hj,q⟩
 have inks:∀ z,Lv w t j z->z∈ks m:=λz q=>(h.key z).mpr (Oj.mpr ⟨j,hj,q⟩);rw[QG (c:=(j:Int))]
 ·rw[← SU (m:=m) ht hv λz _=>pJ z];have:∀ l:List Tx,(l.filter λz=>decide (z∈ks m)).find? (λy=>decide (bn m y=aa ((j:Nat):Int)))=l.find? λy=>decide (bn m y=aa ((j:Nat):Int)):=by
   intro l
   induction l with
   | nil=>rfl
   | cons x l ih=>
    by_cases c:x∈ks m
    ·rw[pF,if_pos (decide_eq_true c),fX,fX,ih]
    ·rw[pF,if_neg (by simpa using c),ih,fX,decide_eq_false λq=>c (inks x ((pJ x).mp q))]
  exact this _
 ·intro y hy;obtain⟨h1,h2⟩:=kA.mp hy;obtain⟨i,e,q⟩:=hlv y (of_decide_eq_true h2);have:=HK ht hv h1 q;exact⟨i,e,∅⟩
 ·obtain⟨z,h1,h2⟩:=uy ht hv;exact⟨z,kA.mpr ⟨h2,decide_eq_true (inks z h1)⟩,(pJ z).mpr h1⟩
theorem M_(m:List (Tx×Int)):rR (dk m)=aa m:=by
 unfold dk
 induction m with
 | nil=>rfl
 | cons p m ih=>obtain⟨x,n⟩:=p;rw[eC];show(rR _).map _=_;rw[ih];simp[tS]
theorem KZ(u t:Tx)(w:Nat)(ht:Tv t w)(h9:t.length<=9){D j:Nat}{m:List (Tx×Int)}{new:List Tx}(h:kP t w D m new)(hj:j<=D)(pre:List Tx)(v:Tx)(hl:pre.length<=100)(hv:Lv w t (j+1) v)(s5:Slot) : ∃ ik,rB a (gn u t w (pre++[v]) m s5) = .ok .next (gn u t w ((pre++[v])++[fz t w j v]) m ik):=by
 obtain⟨hT,hT2,_⟩:=hv.1.good ht;refine⟨.val (.lst (aj ((bA v w).filter λz=>decide (z∈ks m)))),?_⟩;unfold rB;refine(cm (lc (Lz u t w pre v m s5 hT ∅))).trans ?_;have hk:pT 5 4 (gn u t w (pre++[v]) m (.val (.lst (aj ((bA v w).filter λz=>decide (z∈ks m)))))) = .ok (.str (fz t w j v)) (gn u t w (pre++[v]) m (.val (.lst (aj ((bA v w).filter λz=>decide (z∈ks m)))))):=by have e1:=pV ((bA v w).filter λz=>decide (z∈ks m));have e2:=M_ m;have e3:=KC ht h hj hv;unfold pT gn;generalize (bA v w).filter (λz=>decide (z∈ks m))=L at e1 e3 ⊢;generalize aj L=TL at e1 ⊢;generalize dk m=DM at e2 ⊢;simp[e1,e2,e3,eB,aS,R.bind]
 have:=AT (i:=3) (de:=pT 5 4) (xs0:=aj (pre++[v])) (xs:=aj (pre++[v])) rfl hk rfl (by unfold aj; rw[cD,cZ,pD]; exact qN (show pre.length+1<=101 by lia) (by decide));refine this.trans ?_;unfold gn;rw[show aj ((pre++[v])++[fz t w j v])=aj (pre++[v])++[.str (fz t w j v)] by unfold aj; rw[oi]; rfl];rfl
theorem Hf(u t:Tx)(w:Nat)(ht:Tv t w)(h9:t.length<=9){D:Nat}{m:List (Tx×Int)}{new:List Tx}(h:kP t w D m new):∀ (j bp:Nat) (pre:List Tx) (v:Tx) (s5:Slot),j<=D+1->j<bp->pre.length+j<=100->Lv w t j v -> ∃ ik,d4 rC (rB a) bp (gn u t w (pre++[v]) m s5) = .ok .next (gn u t w (pre++cP t w j v) m ik)
 | 0,bp,pre,v,s5,hj,hf,hl,hv=>by
  obtain⟨f,rfl⟩:∃ f,bp=f+1:=⟨bp-1,∅⟩
  have e:v=t:=HW.mp hv;have c:=HY u t w pre v m s5;rw[decide_eq_false (λq=>q e)]at c;exact⟨s5,sP c⟩
 | j+1,bp,pre,v,s5,hj,hf,hl,hv=>by
  obtain⟨f,rfl⟩:∃ f,bp=f+1:=⟨bp-1,∅⟩
  have ne:v≠t:=λe=>by subst e;have:=mv hv (HW.mpr rfl);lia
  have c:=HY u t w pre v m s5;rw[decide_eq_true ne]at c;obtain⟨s1,e1⟩:=KZ (a:=a) u t w ht h9 h ∅ pre v ∅ hv s5;obtain⟨s2,e2⟩:=Hf u t w ht h9 h j f (pre++[v]) (fz t w j v) s1 ∅ ∅ (by simp; lia) (A8 ht hv).1;refine⟨s2,(uS c e1).trans (e2.trans ?_)⟩;rw[cP,gx];rfl
end
section
variable{a:Ad}
theorem Pb(neg:Bool)(w:Nat)(ls:List Tx):Pu.eqT neg (eA w ls) (eA w ls)=aa (.bl (!neg)):=by
 have d:ja (eA w ls)<=8:=by simp[eA,ja,je,EY]
 have e:cY (eA w ls) (eA w ls)=aa ai:=by
  show(cY (.int w) (.int w)).bind (λa=>((cY (.tup (aj ls)) (.tup (aj ls))).bind (λa=>(aa ([]:List PV).isEmpty).map λb=>a && b)).map λb=>a && b)=_;have h1:cY (.int w) (.int w)=aa ai:=by show aa ((w:Int) == w)=_; simp
  have h2:cY (.tup (aj ls)) (.tup (aj ls))=aa ai:=by show iu _ _=_; rw[EI]; simp
  rw[h1,h2]; rfl
 show(if ja (eA w ls)<=8 then(cY (eA w ls) (eA w ls)).map (λk=>PV.bl (neg ^^ k))else ae)=_;rw[if_pos d,e];cases neg <;> rfl
theorem Ng{u t:Tx}{w:Nat}(hu:Tv u w)(ht:Tv t w)(e:bD (aY u w)=bD (aY t w)):qw a [.val (.str u),.val (.str t),.val (.int w)] = .ok (.val .non) [.val (.str u),.val (.str t),.val (.int w)]:=by
 have h1:=Aj (a:=a) hu;have h2:=Aj (a:=a) ht;rw[e]at h1;have he:=Pb ai w (bD (aY t w));have k1:bt 3 (aU (aG (pf a) (gV (dV 0) (gV (dV 2) (Pu.bN))))) [.val (.str u),.val (.str t),.val (.int w),.none] = .ok .next [.val (.str u),.val (.str t),.val (.int w),.val (eA w (bD (aY t w)))]:=lc (r_ (rF (v0:=.str u) (v1:=.int w) rfl rfl h1));have k2:=jW (eO (f:=eqT ai) (da:=dV 3) (db:=aU (aG (pf a) (gV (dV 1) (gV (dV 2) (Pu.bN))))) (ε:=[.val (.str u),.val (.str t),.val (.int w),.val (eA w (bD (aY t w)))]) (x:=eA w (bD (aY t w))) (bS rfl) (r_ (rF (v0:=.str t) (v1:=.int w) rfl rfl h2)) he);have iH:yah a [.val (.str u),.val (.str t),.val (.int w),.none] = .ok .next [.val (.str u),.val (.str t),.val (.int w),.val (eA w (bD (aY t w)))]:=by unfold yah;refine(cm k1).trans ?_;exact yn k2
 unfold qw;generalize yah a=DD at iH;generalize eA w (bD (aY t w))=V at iH;simp[bw,fg,bB,bH,iH,back,aS,R.bind]
theorem Jq(t u:Tx)(w:Nat)(ht:Tv t w)(w2:2<=w)(h9:t.length<=9)(d:Nat)(hd:d<=20)(hu:Lv w t d u) : oZ a [.val (.str u),.val (.str t),.val (.int w)] = .ok (.own (.lst (aj (cP t w d u)))) [.val (.str u),.val (.str t),.val (.int w)]:=by
 obtain⟨g1,g2,g3⟩:=hu.1.good ht;have ha:=Ng (a:=a) g1 ht (qx ((js _).trans g3) (vi _));have k1:lg (aG (qw a) (gV (dV 0) (gV (dV 1) (gV (dV 2) (Pu.bN))))) [.val (.str u),.val (.str t),.val (.int w),.none,.none,.none] = .ok .next [.val (.str u),.val (.str t),.val (.int w),.none,.none,.none]:=by generalize qw a=G at ha ⊢;unfold lg aG;rw[ff (bS (i:=0) (v:=.str u) rfl) (ff (bS (i:=1) (v:=.str t) rfl) (ff (bS (i:=2) (v:=.int w) rfl) mF)),R.bind_ok];simp[cp,dI,R.bind,aS,ha,eK,dN,dY]
 have k2:cJ 3 (dL b8 (aw (dV 0) (aB))) [.val (.str u),.val (.str t),.val (.int w),.none,.none,.none] = .ok .next [.val (.str u),.val (.str t),.val (.int w),.own (.lst (aj [u])),.none,.none]:=rfl;have wp:=jW (eO (f:=eqT ao) (da:=dV 0) (db:=dV 1) (ε:=[.val (.str u),.val (.str t),.val (.int w),.own (.lst (aj [u])),.none,.none]) (x:=.str u) (y:=.str t) (bS rfl) (bS rfl) (kT ao u t));rw[lr]at wp;have iH:∃ s4 s5,yaJ a [.val (.str u),.val (.str t),.val (.int w),.none,.none,.none] = .ok (.ret (.own (.lst (aj (cP t w d u))))) [.val (.str u),.val (.str t),.val (.int w),.none,s4,s5]:=by
  rw[Qy];cases d with
  | zero=>have e:u=t:=HW.mp hu;rw[decide_eq_true e]at wp;refine⟨.none,.none,?_⟩;refine(cm k1).trans ?_;refine(cm k2).trans ?_;have k3:dq (dB (d2 (eqT ao) (dV 0) (dV 1))) (fA 3) (d9) [.val (.str u),.val (.str t),.val (.int w),.own (.lst (aj [u])),.none,.none] = .ok (.ret (.own (.lst (aj [u])))) [.val (.str u),.val (.str t),.val (.int w),.none,.none,.none]:=(uU wp).trans (oX rfl);unfold aE;rw[k3];rfl
  | succ D=>
   have ne:u≠t:=λe=>by subst e;have:=mv hu (HW.mpr rfl);lia
   rw[decide_eq_false ne]at wp;obtain⟨m,new,hb,DJ⟩:=Q0 (a:=a) t u w ht w2 h9 D ∅ hu;obtain⟨s5,hw⟩:=Hf (a:=a) u t w ht h9 hb (D+1) 1000 [] u .none ∅ ∅ (by simp; lia) hu;rw[eV,eV]at hw;have k4:cJ 4 (kW (aG (pX a) (gV (dV 1) (gV (dV 0) (gV (dV 2) (Pu.bN)))))) [.val (.str u),.val (.str t),.val (.int w),.own (.lst (aj [u])),.none,.none] = .ok .next (gn u t w [u] m .none):=by
    generalize pX a=G at DJ ⊢;unfold gn;generalize dk m=M at DJ ⊢;generalize aj [u]=L;have hc:aG G (gV (dV 1) (gV (dV 0) (gV (dV 2) (Pu.bN)))) [.val (.str u),.val (.str t),.val (.int w),.own (.lst L),.none,.none] = .ok (.own (.dK M)) [.val (.str u),.val (.str t),.val (.int w),.own (.lst L),.none,.none]:=by unfold aG;rw[ff (bS (i:=1) (v:=.str t) rfl) (ff (bS (i:=0) (v:=.str u) rfl) (ff (bS (i:=2) (v:=.int w) rfl) mF)),R.bind_ok];simp[cp,dI,R.bind,aS,DJ,eK,dN,dY]
    unfold cJ kW;rw[hc];rfl
   refine⟨.own (.dK (dk m)),s5,?_⟩;refine(cm k1).trans ?_;refine(cm k2).trans ?_;refine(cm ((yn wp).trans rfl)).trans ?_;refine(cm k4).trans ?_;refine(cm (d1:=λε=>cn (d4 rC (rB a) 1000 ε)) (by show cn _=_; rw[hw]; rfl)).trans ?_;exact oX rfl
 obtain⟨s4,s5,iH⟩:=iH;unfold oZ;generalize yaJ a=DD at iH;generalize aj (cP t w d u)=A at iH;simp[bw,fg,bB,bH,iH,back,aS,R.bind,jx]
theorem T7(t u:Tx)(w:Nat)(ht:Tv t w)(w2:2<=w)(h9:t.length<=9)(d:Nat)(hd:d<=20)(hu:Lv w t d u) : uY a [.val (.str u),.val (.str t),.val (.int w)] = .ok (.val (.int d)) [.val (.str u),.val (.str t),.val (.int w)]:=by
 have hr:=Jq (a:=a) t u w ht w2 h9 d hd hu;have hl:br [.lst (aj (cP t w d u))]=aa (.int ((d:Int)+1)):=by show aa (PV.int _)=_;unfold aj;rw[cD,BC];simp
 have iH:yaL a [.val (.str u),.val (.str t),.val (.int w)] = .ok (.ret (.val (.int d))) [.val (.str u),.val (.str t),.val (.int w)]:=by
  have hc:aU (aG (oZ a) (gV (dV 0) (gV (dV 1) (gV (dV 2) (Pu.bN))))) [.val (.str u),.val (.str t),.val (.int w)] = .ok (.lst (aj (cP t w d u))) [.val (.str u),.val (.str t),.val (.int w)]:=by refine mS ?_;generalize oZ a=G at hr ⊢;generalize aj (cP t w d u)=A at hr ⊢;unfold aG;rw[ff (bS (i:=0) (v:=.str u) rfl) (ff (bS (i:=1) (v:=.str t) rfl) (ff (bS (i:=2) (v:=.int w) rfl) mF)),R.bind_ok];simp[cp,dI,R.bind,aS,hr,eK,dN,dY]
  have:=eO (f:=cz) (z:=.int d) (gU (fK hc gT) hl) (jA (.int 1) _) (by show aa (PV.int _)=_;congr 2;lia);unfold yaL dS;rw[this];rfl
 unfold uY;generalize yaL a=DD at iH;simp[bw,fg,bB,bH,iH,back,aS,R.bind]
end
theorem FR{i:Nat}{db:ak->R aH}{σ:Type}(env:List Tx->σ->ak)(f:Tx->List Tx)(B:Nat) : ∀ (xs:List Tx) (au:List Tx) (s:σ),(au++xs.flatMap f).length<=B->(∀ x∈xs,∀ au s,(au++f x).length<=B->∃ s',db ((env au s).set i (.val (.str x))) = .ok .next (env (au++f x) s')) -> ∃ s',eX i db (aj xs) (env au s) = .ok .next (env (au++xs.flatMap f) s')
 | [],au,s,_,_=>⟨s,by simp[eX,aj]⟩
 | x::xs,au,s,hB,step=>by rw[lY]at hB ⊢;obtain⟨s1,e1⟩:=step x (by simp) au s (by simp at hB ⊢; lia);obtain⟨s2,e2⟩:=FR env f B xs (au++f x) s1 (by rw[gx]; exact hB) λy hy=>step y (by simp[hy]);refine⟨s2,?_⟩;show eX i db (.str x::aj xs) _=_;rw[eX,e1];simp only;rw[e2,gx]
section
variable{a:Ad}
def lC:ak->R Bool:=dB (d2 (eqT ai) (dV 3) (dF (dL b8 (aB))))
def lE(a:Ad):ak->R aH:=kZ 4 (dF (c9 [2] (cI (aU (aG (mJ a) (gV (dV 5) (gV (dV 1) (Pu.bN)))))) (dB (fJ ai 1 (dV 0))) (dV 0)))
def lP:ak->R aH:=jo 2 (dV 6) (d2 aL (jD 2 (d2 a8 (dV 3) (dC (.int 0)))) (dC (.int 1)))
def lB(a:Ad):ak->R aH:=aE (cJ 4 (dL b8 (aB))) (aE (cE 5 (cI (dV 3)) (lE a)) (aE (cE 6 (cI (dM 4)) lP) (bt 3 (dF (dL lJ (aw (dV 4) (aB)))))))
theorem P6:yaz a=aE (cJ 2 (oU 0 0)) (aE (bt 3 (dF (dL b8 (aw (dV 0) (aB))))) (aE (λε=>cn (d4 lC (lB a) 1000 ε)) (fA 2))):=rfl
def fk(t:Tx)(w:Nat)(m:List (Tx×Int))(lv:List Tx)(s4 s5 s6:Slot):ak:=[.val (.str t),.val (.int w),.own (.dK (dk m)),.val (.lst (aj lv)),s4,s5,s6]
theorem Mp(t:Tx)(w:Nat)(m:List (Tx×Int))(LV s4 s5 s6:Slot)(zs:List Tx) : kY [2] (dB (fJ ai 1 (dV 0))) (dV 0) (aj zs) [] [.val (.str t),.val (.int w),.own (.dK (dk m)),LV,s4,s5,s6] = .ok (aj (zs.filter λz=>decide (z∉ks m))) [.val (.str t),.val (.int w),.own (.dK (dk m)),LV,s4,s5,s6]:=by
 have hc:=ko (cap:=[2]) (dt:=(dB (fJ ai 1 (dV 0)))) (de:=dV 0) (ε:=[.val (.str t),.val (.int w),.own (.dK (dk m)),LV,s4,s5,s6]) (λx=>match x with | .str z=>decide (z∉ks m) | _=>ao) (λx=>x) (aj zs)
  (by
   intro x hx;obtain⟨z,_,rfl⟩:=cM.mp hx;have e_:=jW (xJ (neg:=ai) (i:=1) (db:=dV 0) (ε:=[.val (.str z),.own (.dK (dk m))]) (z:=z) (m:=m) (bS rfl) rfl);have hb:(ai ^^ decide (z∈ks m))=decide (z∉ks m):=by rw[tX,decide_not]
   rw[hb]at e_;have hv:dV 0 [.val (.str z),.own (.dK (dk m))] = .ok (.str z) [.val (.str z),.own (.dK (dk m))]:=rfl;generalize dB (fJ ai 1 (dV 0))=D at e_ ⊢;generalize dV 0=D0 at hv ⊢;generalize dk m=DM at e_ hv ⊢;exact⟨by simp[dX,dR,cX,R.bind,aS,cp,dI,e_,eK,dN,dY],λ_=>by simp[dX,dR,cX,R.bind,aS,cp,dI,hv,eK,dN,dY]⟩) []
 rw[hc,eV];congr 1;rw[List.map_id'];unfold aj;rw[wc];rfl
theorem Ui(t:Tx)(w:Nat)(m:List (Tx×Int))(lv:List Tx)(hv:∀ u∈lv,iJ u w)(hl:lv.length<=2430)(s5 s6:Slot):∃ ik,cE 5 (cI (dV 3)) (lE a) (fk t w m lv (.own (.lst [])) s5 s6) = .ok .next (fk t w m lv (.own (.lst (aj (fS w m lv)))) ik s6):=by
 have hB:=HB (m:=m) lv hv;obtain⟨ik,e⟩:=FR (i:=5) (db:=lE a) (λau s5=>fk t w m lv (.own (.lst (aj au))) s5 s6) (λh=>(jF h w).filter λz=>decide (z∉ks m)) 999999 lv [] s5 (by rw[eV]; show(fS w m lv).length<=_; lia)
  (by
   intro u hu au s5 hB;refine⟨.val (.str u),?_⟩;have hw:=hv u hu;have hc:=GW (a:=a) u w hw.tv (by have:=hw.h9; have:=hw.w2; lia);have hi:cI (aU (aG (mJ a) (gV (dV 5) (gV (dV 1) (Pu.bN))))) (fk t w m lv (.own (.lst (aj au))) (.val (.str u)) s6) = .ok (aj (jF u w)) (fk t w m lv (.own (.lst (aj au))) (.val (.str u)) s6):=o0 (r_ (rF (v0:=.str u) (v1:=.int w) rfl rfl hc));have wY:=Mp t w m (.val (.lst (aj lv))) (.own (.lst (aj au))) (.val (.str u)) s6 (jF u w);have hx:dF (c9 [2] (cI (aU (aG (mJ a) (gV (dV 5) (gV (dV 1) (Pu.bN)))))) (dB (fJ ai 1 (dV 0))) (dV 0)) (fk t w m lv (.own (.lst (aj au))) (.val (.str u)) s6) = .ok (.lst (aj ((jF u w).filter λz=>decide (z∉ks m)))) (fk t w m lv (.own (.lst (aj au))) (.val (.str u)) s6):=by unfold dF c9;rw[hi,R.bind_ok];unfold fk;rw[wY];rfl
   have:=xy (i:=4) (ε:=fk t w m lv (.own (.lst (aj au))) (.val (.str u)) s6) (xs0:=aj au) (xs:=aj au) rfl hx rfl (by rw[gq,gq]; rw[cZ]at hB; unfold bI; lia);rw[vB]at this;exact this)
 refine⟨ik,?_⟩;rw[eV]at e;exact o6 (o0 (bS rfl)) e
theorem Uj(t:Tx)(w k:Nat)(ht:iJ t w)(m:List (Tx×Int))(y:Tx)(r zs:List Tx)(h:jB t w k m (y::r))(hz:∀ z∈zs,Lv w t (k+1) z)(s5 s6:Slot):∃ iG,cE 6 (cI (dM 4)) lP (fk t w m (y::r) (.own (.lst (aj zs))) s5 s6) = .ok .next (fk t w (zs.foldl (λm z=>cQ m z ((k:Int)+1)) m) (y::r) (.val (.lst (aj zs))) s5 iG):=by
 have hy:=(h.lev y).mp (by simp);have hU:=xX ht.tv ht.w2 ht.h9;obtain⟨iG,e,_⟩:=yG (i:=6) (db:=lP) (λm s6=>fk t w m (y::r) (.val (.lst (aj zs))) s5 s6) (λm z=>cQ m z ((k:Int)+1)) (λm=>(ks m).Nodup/\(∀ z∈ks m,z∈bL t w)/\bn m y=aa (k:Int)) zs m s6
  ⟨h.nd,λz hz=>((h.key z).mp hz).like ht.tv,(h.get y k).mpr ⟨k,rfl,bo _,hy⟩⟩
  (by
   rintro z uh m s6 ⟨p1,p2,p3⟩;have rn:=hz z uh;have cO:y≠z:=λe=>by have:=mv hy (e ▸ rn);lia
   refine⟨⟨xS p1,λx hx=>?_,by rw[uk,if_neg cO]; exact p3⟩,.val (.str z),?_⟩
   ·have hx:x∈(cQ m z ((k:Int)+1)).map (·.1):=hx;rw[AA]at hx;split at hx
    ·exact p2 x hx
    ·rcases eY.mp hx with hx | hx
     ·exact p2 x hx
     ·simp at hx; rw[hx]; exact rn.1.like ht.tv
   ·have cb:=len_sub p1 p2;rw[cD]at cb;have ro:a8 (.lst (aj (y::r))) (.int 0)=aa (.str y):=by show eh (.str y::aj r) 0=_; rw[u8 (by decide) (by simp)]; rfl
    have hg:=Br (i:=2) (db:=d2 a8 (dV 3) (dC (.int 0))) (ε:=fk t w m (y::r) (.val (.lst (aj zs))) s5 (.val (.str z))) (z:=y) (n:=(k:Int)) (m:=m) ⟨_,rfl⟩ (eO (x:=.lst (aj (y::r))) (bS rfl) (jA _ _) ro) rfl p3;have ha:aL (.int (k:Int)) (.int 1)=aa (.int ((k:Int)+1)):=rfl;exact EW (i:=2) (db:=dV 6) (ε:=fk t w m (y::r) (.val (.lst (aj zs))) s5 (.val (.str z))) (z:=z) (eO hg (jA _ _) ha) (bS rfl) ⟨_,rfl⟩ rfl (by unfold bI; lia))
 refine⟨iG,o6 ?_ e⟩;exact o0 (xs:=aj zs) (ε1:=fk t w m (y::r) (.val (.lst (aj zs))) s5 s6) rfl
theorem Ss(t:Tx)(w k:Nat)(ht:iJ t w)(m:List (Tx×Int))(lv:List Tx)(h:jB t w k m lv)(nd:lv.Nodup)(cO:lv≠[])(s4 s5 s6:Slot):∃ m' lv' rm ik iG,jB t w (k+1) m' lv'/\lv'.Nodup/\lB a (fk t w m lv s4 s5 s6) = .ok .next (fk t w m' lv' rm ik iG):=by
 have hU:=xX ht.tv ht.w2 ht.h9;have hll:lv.length<=2430:=cL (len_sub nd λz hz=>((h.lev z).mp hz).1.like ht.tv) hU;obtain⟨ik,e1⟩:=Ui (a:=a) t w m lv (λu hu=>ht.of ((h.lev u).mp hu).1) hll s5 s6;obtain⟨y,r,rfl⟩:∃ y r,lv=y::r:=by
  cases lv with
  | nil=>exact absurd rfl cO
  | cons y r=>exact⟨y,r,rfl⟩
 obtain⟨iG,e2⟩:=Uj t w k ht m y r (fS w m (y::r)) h (λz hz=>(h.late ht z).mp hz) ik s6;refine⟨_,bD (cf (fS w m (y::r))),.val (.lst (aj (fS w m (y::r)))),ik,iG,h.next ht,(js _).nodup_iff.mpr (vC _),?_⟩;have hu:(cf (fS w m (y::r))).length<4000:=by have:=len_sub (vC (fS w m (y::r))) λz hz=>((h.late ht z).mp ((mI _ _).mp hz)).1.like ht.tv;lia
 have hs:lJ [.lst (aj (fS w m (y::r)))]=aa (.lst (aj (bD (cf (fS w m (y::r)))))):=by show(gW (aj _)).bind _=_;rw[pV,iD,if_pos hu]
 have k1:cJ 4 (dL b8 aB) (fk t w m (y::r) s4 s5 s6) = .ok .next (fk t w m (y::r) (.own (.lst [])) s5 s6):=qF (by simp[fk]);unfold lB;refine(cm k1).trans ?_;refine(cm e1).trans ?_;refine(cm e2).trans ?_;generalize (fS w m (y::r)).foldl (λm z=>cQ m z ((k:Int)+1)) m=M;refine lc (x:=.lst (aj (bD (cf (fS w m (y::r)))))) (ε1:=fk t w M (y::r) (.val (.lst (aj (fS w m (y::r))))) ik iG) ?_;unfold dF;rw[gU (fK (x:=.lst (aj (fS w m (y::r)))) (d:=dV 4) (bS rfl) gT) hs];rfl
theorem Fj(t:Tx)(w:Nat)(m:List (Tx×Int))(lv:List Tx)(s4 s5 s6:Slot):lC (fk t w m lv s4 s5 s6) = .ok (!decide (lv=[])) (fk t w m lv s4 s5 s6):=by have he:=B_ ai lv [];rw[tX]at he;exact jW (eO (x:=.lst (aj lv)) (y:=.lst (aj [])) (bS rfl) rfl he)
theorem HD(t:Tx)(w:Nat)(ht:iJ t w)(K:Nat)(hK:Full w t K)(pP:∀ k,k<K->¬ Full w t k):∀ (j k bp:Nat) (m:List (Tx×Int)) (lv:List Tx) (s4 s5 s6:Slot),k+j=K+1->j<bp->jB t w k m lv->lv.Nodup -> ∃ m' rm ik iG,jB t w (K+1) m' []/\d4 lC (lB a) bp (fk t w m lv s4 s5 s6) = .ok .next (fk t w m' [] rm ik iG)
 | 0,k,bp,m,lv,s4,s5,s6,hj,hf,h,nd=>by
  obtain⟨f,rfl⟩:∃ f,bp=f+1:=⟨bp-1,∅⟩
  have e:k=K+1:=∅
  subst e;have hl:lv=[]:=by
   cases lv with
   | nil=>rfl
   | cons z r=>have hz:=(h.lev z).mp (by simp);exact absurd (hK z (hz.1.like ht.tv)) (hz.2 K rfl)
  subst hl;have c:=Fj t w m [] s4 s5 s6;exact⟨m,s4,s5,s6,h,sP c⟩
 | j+1,k,bp,m,lv,s4,s5,s6,hj,hf,h,nd=>by
  obtain⟨f,rfl⟩:∃ f,bp=f+1:=⟨bp-1,∅⟩
  have cO:lv≠[]:=by obtain⟨y,hy⟩:=Rg (K:=k) ht.tv λi hi=>pP i ∅;intro q;have:=(h.lev y).mpr hy;rw[q]at this; simp at this
  have c:=Fj t w m lv s4 s5 s6;rw[decide_eq_false cO]at c;obtain⟨m1,l1,a4,a5,a6,h1,n1,e1⟩:=Ss (a:=a) t w k ht m lv h nd cO s4 s5 s6;obtain⟨m2,b4,b5,b6,h2,e2⟩:=HD t w ht K hK pP j (k+1) f m1 l1 a4 a5 a6 ∅ ∅ h1 n1;exact⟨m2,b4,b5,b6,h2,(uS c e1).trans e2⟩
theorem Qo(t:Tx)(w:Nat):jB t w 0 [(t,0)] [t]:=by
 refine⟨by simp,λz n=>?_,λz=>by rw[HW]; simp⟩;have hg:bn [(t,0)] z=if z=t then aa 0 else ae:=by
  unfold bn;by_cases c:z=t
  ·subst c; simp
  ·have:¬ t=z:=λe=>c e.symm;simp[c,this]
 rw[hg];constructor
 ·intro e;by_cases c:z=t
  ·rw[if_pos c]at e;exact⟨0,(eQ e).symm,bo _,HW.mpr c⟩
  ·rw[if_neg c]at e; cases e
 ·rintro⟨i,rfl,h1,h2⟩;have:i=0:=∅
  subst this;rw[if_pos (HW.mp h2)]; rfl
theorem Rn(t:Tx)(w:Nat)(ht:iJ t w)(K:Nat)(KA:K<=10)(hK:Full w t K)(pP:∀ k,k<K->¬ Full w t k):∃ m,jB t w (K+1) m []/\vE a [.val (.str t),.val (.int w)] = .ok (.own (.dK (dk m))) [.val (.str t),.val (.int w)]:=by
 obtain⟨m,s4,s5,s6,h,hw⟩:=HD (a:=a) t w ht K hK pP (K+1) 0 1000 [(t,0)] [t] .none .none .none ∅ ∅ (Qo t w) (by simp);refine⟨m,h,?_⟩;have k1:cJ 2 (oU 0 0) [.val (.str t),.val (.int w),.none,.none,.none,.none,.none] = .ok .next [.val (.str t),.val (.int w),.own (.dK (dk [(t,0)])),.none,.none,.none,.none]:=rfl;have k2:bt 3 (dF (dL b8 (aw (dV 0) (aB)))) [.val (.str t),.val (.int w),.own (.dK (dk [(t,0)])),.none,.none,.none,.none] = .ok .next (fk t w [(t,0)] [t] .none .none .none):=rfl;have hb:yaz a [.val (.str t),.val (.int w),.none,.none,.none,.none,.none] = .ok (.ret (.own (.dK (dk m)))) [.val (.str t),.val (.int w),.none,.val (.lst (aj [])),s4,s5,s6]:=by rw[P6];refine(cm k1).trans ?_;refine(cm k2).trans ?_;refine(cm (d1:=λε=>cn (d4 lC (lB a) 1000 ε)) (by show cn _=_; rw[hw]; rfl)).trans ?_;exact oX rfl
 unfold vE;generalize yaz a=D at hb;generalize dk m=A at hb;simp[bw,fg,bB,bH,hb,back,aS,R.bind,jx]
theorem NL{t:Tx}{w:Nat}(h:Tv t w):qG a [.val (.str t),.val (.int w)] = .ok (.val (eA w (bD (aY t w)))) [.val (.str t),.val (.int w)]:=by have e:=Aj (a:=a) h;generalize eA w (bD (aY t w))=V at e;simp![qG,yaQ,e]
theorem SO{ε:ak}{i j:Nat}{t:Tx}{w:Nat}(h:Tv t w)(hi:ε[i]?=aa (.val (.str t)))(hj:ε[j]?=aa (.val (.int w))):aU (aG (qy a) (gV (aU (aG (qG a) (gV (dV i) (gV (dV j) (Pu.bN))))) (Pu.bN))) ε = .ok (.lst (aj (bL t w))) ε:=by have hg:Good cS w (bD (aY t w)):=h.good.perm (js _);have e2:=SW (a:=a) hg h.w1 h.w4 (vi _);rw[LI h.w1 h.h1 h.abc]at e2;have hv:=r_ (rF (v0:=.str t) (v1:=.int w) hi hj (NL (a:=a) h));refine mS ?_;generalize aU (aG (qG a) (gV (dV i) (gV (dV j) (Pu.bN))))=D at hv ⊢;generalize qy a=G at e2 ⊢;generalize eA w (bD (aY t w))=V at hv e2;generalize aj (bL t w)=L at e2 ⊢;unfold aG;rw[ff hv mF,R.bind_ok];simp[cp,dI,R.bind,aS,e2,eK,dN,dY]
theorem Ho{G:ak->R Slot}{ε:ak}{i0 i1 i2:Nat}{v0 v1 v2:PV}{r:Slot}(h0:ε[i0]?=aa (.val v0))(h1:ε[i1]?=aa (.val v1))(h2:ε[i2]?=aa (.val v2))(hG:G [.val v0,.val v1,.val v2] = .ok r [.val v0,.val v1,.val v2]):aG G (gV (dV i0) (gV (dV i1) (gV (dV i2) (Pu.bN)))) ε = .ok r ε:=by unfold aG;rw[ff (bS h0) (ff (bS h1) (ff (bS h2) mF)),R.bind_ok];simp[cp,dI,R.bind,aS,hG,eK,dN,dY]
theorem Nt{t z:Tx}{w:Nat}(ht:Tv t w)(h:z∈bL t w):t∈bL z w:=by obtain⟨h1,h2,h3⟩:=UR.mp h;exact UR.mpr ⟨h1.symm,ht.abc,h3.symm⟩
theorem OE{t:Tx}{w:Nat}(ht:Tv t w):t∈bL t w:=UR.mpr ⟨rfl,ht.abc,.refl _⟩
theorem ED{t z:Tx}{w:Nat}(ht:Tv t w)(h:z∈bL t w):∃ d,d<=10/\Lv w t d z:=by obtain⟨d,h1,h2⟩:=Oj.mp (BF ht z h);exact⟨d,h1,h2⟩
theorem NG(t:Tx)(w:Nat)(d:Nat)(u:Tx):∃ r,cP t w d u=u::r:=by
 cases d with
 | zero=>exact⟨[],rfl⟩
 | succ d=>exact⟨_,rfl⟩
theorem Fk{t:Tx}{w:Nat}(ht:Tv t w):∀ (d:Nat) (u:Tx),Lv w t d u->∃ r,cP t w d u=r++[t]
 | 0,u,h=>⟨[],by rw[HW.mp h]; rfl⟩
 | d+1,u,h=>by obtain⟨r,e⟩:=Fk ht d (fz t w d u) (A8 ht h).1;exact⟨u::r,by rw[cP,e]; rfl⟩
end
end Sh
namespace K18
open L2 Pu Mx Sh
section
variable{a:Ad}
def mB:ak->R PV:=jq a8 9 (d1 dU (dC (.int 1)))
def wC:ak->R Bool:=dB (d2 (eqT ai) mB (dV 6))
def u7:ak->R Bool:=dB (d2 (eqT ao) (jD 1 (dV 0)) (d2 cz (jD 1 (jq a8 2 (d1 dU (dC (.int 1))))) (dC (.int 1))))
def B4(a:Ad):ak->R PV:=dF (c9 [8,9] (cI (aU (aG (mJ a) (gV mB (gV (dV 4) (Pu.bN)))))) u7 (dV 0))
def wB(a:Ad):ak->R aH:=aE (bt 10 (B4 a)) (i9 9 (d2 a8 (dV 10) (dC (.int 0))))
def gL(ns:List Int)(ys:List PV)(v t:Tx)(w:Nat)(c:Int)(sm made:List Tx)(m:List (Tx×Int))(due:List Tx)(s:Slot):ak:=[bG ns,.own (.lst ys),.val (.int c),.val (.str v),.val (.int w),.val (.lst (aj sm)),.val (.str t),.val (.lst (aj made)),.own (.dK (dk m)),.own (.lst (aj due)),s]
theorem EN(pre:List Tx)(v:Tx):nA (a8 (.lst (aj (pre++[v]))) (.int (-1)))=aa (.str v):=by
 have ro:jv (aj (pre++[v])).length (-1)=aa pre.length:=by unfold jv aj;rw[cD,cZ,pD,if_neg ∅,if_pos ∅];congr 1;lia
 have:a8 (.lst (aj (pre++[v]))) (.int (-1))=aa (.str v):=by show eh _ _=_;unfold eh;rw[ro];unfold aj;simp
 rw[this]; rfl
theorem Co{i:Nat}{ε:ak}{pre:List Tx}{v:Tx}(h:f6 ε i=aa (aj (pre++[v]))):jq a8 i (d1 dU (dC (.int 1))) ε = .ok (.str v) ε:=by have q0:=EN pre v;unfold jq;generalize aj (pre++[v])=L at q0 h;simp[h,aS,R.bind,d1,dC,dU,q0]
theorem Fg(ns:List Int)(ys:List PV)(x t:Tx)(w:Nat)(c:Int)(sm made:List Tx)(m:List (Tx×Int))(pre:List Tx)(v:Tx)(s:Slot):wC (gL ns ys x t w c sm made m (pre++[v]) s) = .ok (decide (v≠t)) (gL ns ys x t w c sm made m (pre++[v]) s):=by have h:=eO (f:=eqT ai) (z:=.bl (decide (v≠t))) (Co (i:=9) (ε:=gL ns ys x t w c sm made m (pre++[v]) s) rfl) (bS (i:=6) (v:=.str t) rfl) (by rw[kT,tX];congr 2;simp);exact jW h
theorem PN{z v:Tx}{m:List (Tx×Int)}{pre:List Tx}{i j:Nat}(h1:bn m z=aa ((i:Nat):Int))(h2:bn m v=aa (((j+1:Nat)):Int)):u7 [.val (.str z),.own (.dK (dk m)),.own (.lst (aj (pre++[v])))] = .ok (decide (i=j)) [.val (.str z),.own (.dK (dk m)),.own (.lst (aj (pre++[v])))]:=by
 have e1:=Br (i:=1) (db:=dV 0) (ε:=[.val (.str z),.own (.dK (dk m)),.own (.lst (aj (pre++[v])))]) (z:=z) (m:=m) ⟨_,rfl⟩ (bS rfl) rfl h1;have e2:=Br (i:=1) (db:=jq a8 2 (d1 dU (dC (.int 1)))) (ε:=[.val (.str z),.own (.dK (dk m)),.own (.lst (aj (pre++[v])))]) (z:=v) (m:=m) ⟨_,rfl⟩ (Co rfl) rfl h2;have e3:=eO (f:=cz) (z:=.int ((j:Nat):Int)) e2 (jA (.int 1) _) (by show aa (PV.int _)=_;congr 2;lia);have e4:=eO (f:=eqT ao) (z:=.bl (decide (i=j))) e1 e3 (by
  rw[yx,lr];congr 2;by_cases q:i=j
  ·subst q; simp
  ·have q2:¬ ((i:Nat):Int)=((j:Nat):Int):=∅
   simp[q,q2])
 exact jW e4
theorem Rq(ns:List Int)(ys:List PV)(x t:Tx)(w:Nat)(c:Int)(sm made:List Tx)(m:List (Tx×Int))(pre:List Tx)(v:Tx)(s:Slot){K j:Nat}(ht:iJ t w)(h:jB t w (K+1) m [])(hK:Full w t K)(hv:Lv w t (j+1) v)(hj:j<=K) : ∃ rest,B4 a (gL ns ys x t w c sm made m (pre++[v]) s) = .ok (.lst (.str (fz t w j v)::rest)) (gL ns ys x t w c sm made m (pre++[v]) s):=by
 classical
 have hV:=ht.of hv.1;have hmv:=GW (a:=a) v w hV.tv (by have:=hV.h9; have:=hV.w2; lia);rw[← Aw hV.tv hV.two]at hmv;have lvl:∀ z i,Lv w t i z->i<=K:=λz i q=>by have:=hK z (q.1.like ht.tv);obtain⟨i',h1,h2⟩:=Oj.mp this;rw[mv q h2]; exact h1
 have gv:bn m v=aa (((j+1:Nat)):Int):=(h.get v _).mpr ⟨j+1,rfl,∅,hv⟩;have gz:∀ z∈bA v w,∃ i:Nat,bn m z=aa ((i:Nat):Int)/\Lv w t i z:=λz hz=>by obtain⟨i,h1,h2⟩:=Oj.mp (hK z ((NT.mpr (.inr ⟨v,hv,hz⟩)).like ht.tv));exact⟨i,(h.get z _).mpr ⟨i,rfl,∅,h2⟩,h2⟩
 have DH:aG (mJ a) (gV mB (gV (dV 4) (Pu.bN))) (gL ns ys x t w c sm made m (pre++[v]) s) = .ok (.val (.lst (aj (bA v w)))) (gL ns ys x t w c sm made m (pre++[v]) s):=by unfold aG;rw[ff (show mB (gL ns ys x t w c sm made m (pre++[v]) s)=_ from Co rfl) (ff (bS (i:=4) (v:=.int w) rfl) mF),R.bind_ok];simp[cp,dI,R.bind,aS,hmv,eK,dN,dY]
 have hc:=ko (cap:=[8,9]) (dt:=u7) (de:=dV 0) (ε:=gL ns ys x t w c sm made m (pre++[v]) s) (λx=>match x with | .str z=>decide (Lv w t j z) | _=>ao) id (aj (bA v w))
  (by
   intro y hy;obtain⟨z,hz,rfl⟩:=cM.mp hy;obtain⟨i,h1,h2⟩:=gz z hz;have hb:=PN (pre:=pre) h1 gv;have hd:decide (i=j)=decide (Lv w t j z):=by
    by_cases q:i=j
    ·subst q; rw[decide_eq_true rfl,decide_eq_true h2]
    ·rw[decide_eq_false q,decide_eq_false λz=>q (mv h2 z)]
   rw[hd]at hb;show cX (dX [8,9] u7 (.str z) _) = .ok (decide (Lv w t j z)) _/\_;generalize u7=D at hb ⊢;unfold gL;generalize dk m=DM at hb ⊢;generalize aj (pre++[v])=DL at hb ⊢;exact⟨by simp[dX,dR,cX,R.bind,aS,cp,dI,hb,eK,dN,dY],λ_=>by simp[dX,dR,cX,R.bind,aS,cp,dI,dV,eK,dN,dY]⟩) []
 rw[eV,List.map_id]at hc;have hf:∃ rest,(aj (bA v w)).filter (λx=>match x with | .str z=>decide (Lv w t j z) | _=>ao) = .str (fz t w j v)::rest:=by
  obtain⟨z,h1,h2⟩:=uy ht.tv hv;have:∀ l:List Tx,(∃ z∈l,Lv w t j z)->∃ rest,(aj l).filter (λx=>match x with | .str z=>decide (Lv w t j z) | _=>ao) = .str ((l.find? λz=>decide (Lv w t j z)).getD v)::rest:=by
   intro l
   induction l with
   | nil=>rintro⟨z,hz,_⟩; simp at hz
   | cons y l ih=>
    intro nt;show ∃ rest,(PV.str y::aj l).filter _=_;rw[fX];by_cases q:Lv w t j y
    ·rw[pF,if_pos (show(decide (Lv w t j y))=ai from decide_eq_true q),decide_eq_true q];exact⟨_,rfl⟩
    ·rw[pF,if_neg (show ¬ (decide (Lv w t j y))=ai by simpa using q),decide_eq_false q];refine ih ?_;obtain⟨z,hz,hl⟩:=nt;rcases ca.mp hz with rfl | hz
     ·exact absurd hl q
     ·exact⟨z,hz,hl⟩
  exact this _ ⟨z,h2,h1⟩
 obtain⟨rest,hf⟩:=hf;rw[hf]at hc;refine⟨rest,?_⟩;unfold B4 dF c9;rw[o0 (r_ DH),R.bind_ok,hc];rfl
theorem Pd(ns:List Int)(ys:List PV)(x t:Tx)(w:Nat)(c:Int)(sm made:List Tx)(m:List (Tx×Int))(pre:List Tx)(v:Tx)(s:Slot){K j:Nat}(ht:iJ t w)(h:jB t w (K+1) m [])(hK:Full w t K)(hv:Lv w t (j+1) v)(hj:j<=K)(hl:pre.length<=100) : ∃ s',wB a (gL ns ys x t w c sm made m (pre++[v]) s) = .ok .next (gL ns ys x t w c sm made m ((pre++[v])++[fz t w j v]) s'):=by obtain⟨rest,hn⟩:=Rq (a:=a) ns ys x t w c sm made m pre v s ht h hK hv hj;refine⟨.val (.lst (.str (fz t w j v)::rest)),?_⟩;unfold wB;refine(cm (lc hn)).trans ?_;have hk:d2 a8 (dV 10) (dC (.int 0)) (gL ns ys x t w c sm made m (pre++[v]) (.val (.lst (.str (fz t w j v)::rest)))) = .ok (.str (fz t w j v)) (gL ns ys x t w c sm made m (pre++[v]) (.val (.lst (.str (fz t w j v)::rest)))) :=eO (bS (i:=10) (v:=.lst (.str (fz t w j v)::rest)) rfl) (jA (.int 0) _) (by show eh (PV.str (fz t w j v)::rest) 0=_; rw[u8 (by decide) (by simp)]; rfl);have:=AT (i:=9) (xs0:=aj (pre++[v])) (xs:=aj (pre++[v])) rfl hk rfl (by unfold aj; rw[cD,cZ,pD]; exact qN (show pre.length+1<=101 by lia) (by decide));refine this.trans ?_;unfold gL;rw[show aj ((pre++[v])++[fz t w j v])=aj (pre++[v])++[.str (fz t w j v)] by unfold aj; rw[oi]; rfl];rfl
theorem Hx(ns:List Int)(ys:List PV)(x t:Tx)(w:Nat)(c:Int)(sm made:List Tx)(m:List (Tx×Int)){K:Nat}(ht:iJ t w)(h:jB t w (K+1) m [])(hK:Full w t K):∀ (j bp:Nat) (pre:List Tx) (v:Tx) (s:Slot),j<=K->j<bp->pre.length+j<=100->Lv w t j v -> ∃ s',d4 wC (wB a) bp (gL ns ys x t w c sm made m (pre++[v]) s) = .ok .next (gL ns ys x t w c sm made m (pre++cP t w j v) s')
 | 0,bp,pre,v,s,hj,hf,hl,hv=>by
  obtain⟨f,rfl⟩:∃ f,bp=f+1:=⟨bp-1,∅⟩
  have e:v=t:=HW.mp hv;have q:=Fg ns ys x t w c sm made m pre v s;rw[decide_eq_false (λz=>z e)]at q;exact⟨s,sP q⟩
 | j+1,bp,pre,v,s,hj,hf,hl,hv=>by
  obtain⟨f,rfl⟩:∃ f,bp=f+1:=⟨bp-1,∅⟩
  have ne:v≠t:=λe=>by subst e;have:=mv hv (HW.mpr rfl);lia
  have q:=Fg ns ys x t w c sm made m pre v s;rw[decide_eq_true ne]at q;obtain⟨s1,e1⟩:=Pd (a:=a) ns ys x t w c sm made m pre v s ht h hK hv ∅ ∅;obtain⟨s2,e2⟩:=Hx ns ys x t w c sm made m ht h hK j f (pre++[v]) (fz t w j v) s1 ∅ ∅ (by simp; lia) (A8 ht.tv hv).1;refine⟨s2,(uS q e1).trans (e2.trans ?_)⟩;rw[cP,gx];rfl
theorem OQ(ns:List Int):uz a [bG ns] = .ok (.val (.bl ai)) [bG ns]:=by
 obtain⟨c,c0,c1,hd⟩:=vz (a:=a) ns [] 9973 (by decide) (by decide);obtain⟨x,w,ys,w2,w4,t1,t2,tc,hy,hl⟩:=QF (a:=a) ns ([]++[.int 0]) 2 8 (by decide) (by decide) (by decide) (by decide) (by decide);have hx:iJ x w:=⟨⟨∅,w4,∅,∅,tc⟩,w2,∅,∅⟩
 have cO:0<(bL x w).length:=List.length_pos_of_mem (OE hx.tv);have hci:(c % ((bL x w).length:Int)).toNat<(bL x w).length:=by have h1:=v9 c (b:=((bL x w).length:Int)) ∅;have h2:=zN c (b:=((bL x w).length:Int)) ∅;lia
 generalize hi:(c % ((bL x w).length:Int)).toNat=i at hci;have htm:(bL x w)[i]∈bL x w:=C7 hci;generalize htt:(bL x w)[i]=t at htm;have hmod:ge (.int c) (.int ((bL x w).length:Int))=aa (.int ((i:Nat):Int)):=by
  have h1:=v9 c (b:=((bL x w).length:Int)) ∅;have:(c % ((bL x w).length:Int))=((i:Nat):Int):=∅
  simp only[ge];rw[if_pos ∅,this]
 have ro:a8 (.lst (aj (bL x w))) (.int ((i:Nat):Int))=aa (.str t):=by show eh _ _=_;unfold eh aj;rw[IE ∅ (by rw[cD]; lia)];simp only[iD,lR,jh];rw[iB hci,htt];rfl
 obtain⟨dx,_,hlx⟩:=ED hx.tv htm;have ht:iJ t w:=hx.of hlx.1;have hxm:=Nt hx.tv htm;obtain⟨d,d10,hu⟩:=ED ht.tv hxm;obtain⟨K,KA,hK,pP⟩:=Oc ht.tv;have dK:d<=K:=by obtain⟨i',h1,h2⟩:=Oj.mp (hK x hxm);rw[mv hu h2]; exact h1
 obtain⟨m,hm,hlv⟩:=Rn (a:=a) t w ht K KA hK pP;have qV:=Jq (a:=a) t x w ht.tv w2 ht.h9 d ∅ hu;have UA:=T7 (a:=a) t x w ht.tv w2 ht.h9 d ∅ hu;obtain⟨s',hw⟩:=Hx (a:=a) ns ys x t w c (bL x w) (cP t w d x) m ht hm hK d 1000 [] x .none dK ∅ (by simp; lia) hu;rw[eV,eV]at hw;have k1:cJ 1 (dL b8 aB) [bG ns,.none,.none,.none,.none,.none,.none,.none,.none,.none,.none] = .ok .next [bG ns,.own (.lst []),.none,.none,.none,.none,.none,.none,.none,.none,.none]:=qF (by simp);have k2:bt 2 (aU (aG (kz a) (gV (dV 0) (gO 1 (gV (dC (.int 9973)) (Pu.bN)))))) [bG ns,.own (.lst []),.none,.none,.none,.none,.none,.none,.none,.none,.none] = .ok .next [bG ns,.own (.lst ([]++[.int 0])),.val (.int c),.none,.none,.none,.none,.none,.none,.none,.none]:=by generalize kz a=G at hd ⊢;simp![hd]
 have k3:yv 3 4 (aU (aG (pW a) (gV (dV 0) (gO 1 (gV (dC (.int 2)) (gV (dC (.int 8)) (Pu.bN))))))) [bG ns,.own (.lst ([]++[.int 0])),.val (.int c),.none,.none,.none,.none,.none,.none,.none,.none] = .ok .next [bG ns,.own (.lst ys),.val (.int c),.val (.str x),.val (.int w),.none,.none,.none,.none,.none,.none]:=by have ke:pW a [bG ns,.own (.lst ([]++[.int 0])),.val (.int 2),.val (.int 8)] = .ok (.val (.tup [.str x,.int w])) [bG ns,.own (.lst ys),.val (.int 2),.val (.int 8)]:=hl;generalize pW a=G at ke ⊢;generalize ([]++[PV.int 0]:List PV)=Y0 at ke ⊢;simp![yv,ke]
 have k4:bt 5 (aU (aG (qy a) (gV (aU (aG (qG a) (gV (dV 3) (gV (dV 4) (Pu.bN))))) (Pu.bN)))) [bG ns,.own (.lst ys),.val (.int c),.val (.str x),.val (.int w),.none,.none,.none,.none,.none,.none] = .ok .next [bG ns,.own (.lst ys),.val (.int c),.val (.str x),.val (.int w),.val (.lst (aj (bL x w))),.none,.none,.none,.none,.none] :=lc (SO hx.tv rfl rfl);have cb:br [.lst (aj (bL x w))]=aa (.int ((bL x w).length:Int)):=by show aa (PV.int _)=_;unfold aj;rw[cD]
 have k5:bt 6 (d2 a8 (dV 5) (d2 ge (dV 2) (dL br (aw (dV 5) (aB))))) [bG ns,.own (.lst ys),.val (.int c),.val (.str x),.val (.int w),.val (.lst (aj (bL x w))),.none,.none,.none,.none,.none] = .ok .next [bG ns,.own (.lst ys),.val (.int c),.val (.str x),.val (.int w),.val (.lst (aj (bL x w))),.val (.str t),.none,.none,.none,.none] :=lc (eO (bS (i:=5) (v:=.lst (aj (bL x w))) rfl) (eO (bS (i:=2) (v:=.int c) rfl) (gU (fK (bS (i:=5) (v:=.lst (aj (bL x w))) rfl) gT) cb) hmod) ro);have k6:bt 7 (aU (aG (oZ a) (gV (dV 3) (gV (dV 6) (gV (dV 4) (Pu.bN)))))) [bG ns,.own (.lst ys),.val (.int c),.val (.str x),.val (.int w),.val (.lst (aj (bL x w))),.val (.str t),.none,.none,.none,.none] = .ok .next [bG ns,.own (.lst ys),.val (.int c),.val (.str x),.val (.int w),.val (.lst (aj (bL x w))),.val (.str t),.val (.lst (aj (cP t w d x))),.none,.none,.none] :=lc (mS (Ho (v0:=.str x) (v1:=.str t) (v2:=.int w) rfl rfl rfl qV));have k7:cJ 8 (kW (aG (vE a) (gV (dV 6) (gV (dV 4) (Pu.bN))))) [bG ns,.own (.lst ys),.val (.int c),.val (.str x),.val (.int w),.val (.lst (aj (bL x w))),.val (.str t),.val (.lst (aj (cP t w d x))),.none,.none,.none] = .ok .next [bG ns,.own (.lst ys),.val (.int c),.val (.str x),.val (.int w),.val (.lst (aj (bL x w))),.val (.str t),.val (.lst (aj (cP t w d x))),.own (.dK (dk m)),.none,.none]:=by unfold cJ kW;rw[Sh.rF (v0:=.str t) (v1:=.int w) rfl rfl hlv];rfl
 obtain⟨r1,jU⟩:=NG t w d x;obtain⟨r2,lu⟩:=Fk ht.tv d x hu;have hp0:a8 (.lst (aj (cP t w d x))) (.int 0)=aa (.str x):=by rw[jU];show eh (PV.str x::aj r1) 0=_;rw[u8 (by decide) (by simp)]; rfl
 have df:a8 (.lst (aj (cP t w d x))) (.int (-1))=aa (.str t):=by rw[lu];exact(z9 (EN r2 t)).1
 have Kq:br [.lst (aj (cP t w d x))]=aa (.int ((d:Int)+1)):=by show aa (PV.int _)=_;unfold aj;rw[cD,BC];simp
 have k8:dq (oK (dB (d2 (eqT ai) (d2 a8 (dV 7) (dC (.int 0))) (dV 3))) (oK (dB (d2 (eqT ai) (d2 a8 (dV 7) (d1 dU (dC (.int 1)))) (dV 6))) (dB (d2 (eqT ai) (aU (aG (uY a) (gV (dV 3) (gV (dV 6) (gV (dV 4) (Pu.bN)))))) (d2 cz (dL br (aw (dV 7) (aB))) (dC (.int 1))))))) (dS (dC (.bl ao))) (d9) [bG ns,.own (.lst ys),.val (.int c),.val (.str x),.val (.int w),.val (.lst (aj (bL x w))),.val (.str t),.val (.lst (aj (cP t w d x))),.own (.dK (dk m)),.none,.none] = .ok .next [bG ns,.own (.lst ys),.val (.int c),.val (.str x),.val (.int w),.val (.lst (aj (bL x w))),.val (.str t),.val (.lst (aj (cP t w d x))),.own (.dK (dk m)),.none,.none]:=by generalize aj (bL x w)=L;generalize dk m=M;generalize aj (cP t w d x)=PL at hp0 df Kq ⊢;have a1:=jW (eO (f:=eqT ai) (z:=.bl ao) (ε:=[bG ns,.own (.lst ys),.val (.int c),.val (.str x),.val (.int w),.val (.lst L),.val (.str t),.val (.lst PL),.own (.dK M),.none,.none]) (eO (bS (i:=7) (v:=.lst PL) rfl) (jA (.int 0) _) hp0) (bS (i:=3) (v:=.str x) rfl) (by rw[kT]; simp));have a2:=jW (eO (f:=eqT ai) (z:=.bl ao) (ε:=[bG ns,.own (.lst ys),.val (.int c),.val (.str x),.val (.int w),.val (.lst L),.val (.str t),.val (.lst PL),.own (.dK M),.none,.none]) (eO (db:=d1 dU (dC (.int 1))) (y:=.int (-1)) (bS (i:=7) (v:=.lst PL) rfl) rfl df) (bS (i:=6) (v:=.str t) rfl) (by rw[kT]; simp));have a3:=jW (eO (f:=eqT ai) (z:=.bl ao) (ε:=[bG ns,.own (.lst ys),.val (.int c),.val (.str x),.val (.int w),.val (.lst L),.val (.str t),.val (.lst PL),.own (.dK M),.none,.none]) (r_ (Ho (i0:=3) (i1:=6) (i2:=4) (v0:=.str x) (v1:=.str t) (v2:=.int w) rfl rfl rfl UA)) (eO (f:=cz) (z:=.int d) (gU (fK (bS (i:=7) (v:=.lst PL) rfl) gT) Kq) (jA (.int 1) _) (by show aa (PV.int _)=_;congr 2;lia)) (by rw[yx]; simp));refine yn ?_;unfold oK;rw[a1,R.bind_ok];simp only;rw[a2,R.bind_ok];simp only;rw[a3]
 have k9:cJ 9 (dL b8 (aw (dV 3) (aB))) [bG ns,.own (.lst ys),.val (.int c),.val (.str x),.val (.int w),.val (.lst (aj (bL x w))),.val (.str t),.val (.lst (aj (cP t w d x))),.own (.dK (dk m)),.none,.none] = .ok .next (gL ns ys x t w c (bL x w) (cP t w d x) m [x] .none):=rfl;have ri:=B_ ao (cP t w d x) (cP t w d x);rw[lr,decide_eq_true rfl]at ri;have k11:∃ ε,dS (d2 (eqT ao) (dV 7) (dM 9)) (gL ns ys x t w c (bL x w) (cP t w d x) m (cP t w d x) s') = .ok (.ret (.val (.bl ai))) ([bG ns]++ε):=by refine⟨[.own (.lst ys),.val (.int c),.val (.str x),.val (.int w),.val (.lst (aj (bL x w))),.val (.str t),.val (.lst (aj (cP t w d x))),.own (.dK (dk m)),.val (.lst (aj (cP t w d x))),s'],?_⟩;unfold dS;rw[eO (bS (i:=7) (v:=.lst (aj (cP t w d x))) rfl) (show dM 9 (gL ns ys x t w c (bL x w) (cP t w d x) m (cP t w d x) s') = .ok (.lst (aj (cP t w d x))) ([bG ns]++[.own (.lst ys),.val (.int c),.val (.str x),.val (.int w),.val (.lst (aj (bL x w))),.val (.str t),.val (.lst (aj (cP t w d x))),.own (.dK (dk m)),.val (.lst (aj (cP t w d x))),s'])from rfl) ri];rfl
 obtain⟨ε,k11⟩:=k11;have hb:yaw a [bG ns,.none,.none,.none,.none,.none,.none,.none,.none,.none,.none] = .ok (.ret (.val (.bl ai))) ([bG ns]++ε):=by show aE _ (aE _ (aE _ (aE _ (aE _ (aE _ (aE _ (aE _ (aE _ (aE (λε=>cn (d4 wC (wB a) 1000 ε)) (dS (d2 (eqT ao) (dV 7) (dM 9)))))))))))) _=_;refine(cm k1).trans ?_;refine(cm k2).trans ?_;refine(cm k3).trans ?_;refine(cm k4).trans ?_;refine(cm k5).trans ?_;refine(cm k6).trans ?_;refine(cm k7).trans ?_;refine(cm k8).trans ?_;refine(cm k9).trans ?_;refine(cm (d1:=λε=>cn (d4 wC (wB a) 1000 ε)) (by show cn _=_; rw[hw]; rfl)).trans ?_;exact k11
 unfold uz;generalize yaw a=D at hb;simp[bw,fg,bB,bH,hb,back,aS,R.bind,jx]
end
open L2 Pu Sh
def B0(K:az)(a:Ad):Bool:=tQ K a.SlitError yk "ValueError.__new__" && (mP a).all (λx=>tQ K x yk "ValueError.__new__" && subB K a.SlitError x && G3 K x && (mP a).all (λd=>j3 K (.ref x) (.ref d) == aa (x == d)) && j3 K (.ref x) (.type "ValueError") == aa ai) && z0 K && decide (mP a).Nodup
section
variable{K:az}{h base:aF}{mg:Str->Option am}{a:Ad}
theorem uB(h:B0 K a=ai):tQ K a.SlitError yk "ValueError.__new__" = ai/\(∀ x∈mP a,tQ K x yk "ValueError.__new__" = ai/\subB K a.SlitError x=ai/\G3 K x=ai/\(∀ d∈mP a,j3 K (.ref x) (.ref d)=aa (x == d))/\j3 K (.ref x) (.type "ValueError")=aa ai)/\z0 K=ai/\(mP a).Nodup:=by unfold B0 at h;simp only[iA,vZ,beq_iff_eq,decide_eq_true_eq]at h;obtain⟨⟨⟨h1,h2⟩,h3⟩,h4⟩:=h;exact⟨h1,λx hx=>⟨(h2 x hx).1.1.1.1,(h2 x hx).1.1.1.2,(h2 x hx).1.1.2,(h2 x hx).1.2,(h2 x hx).2⟩,h3,h4⟩
structure Top(K:az)(a:Ad):Prop where
 yax:cK K "_law_cell_at" Ak
 yaB:cK K "_law_mixed" Ab
 yay:cK K "_law_draw" Bb
 yaD:cK K "_law_pick" Cb
 yaG:cK K "_law_text" AW
 yaA:cK K "_law_like" BN
 yat:cK K "is_whole_number" AG
 yau:cK K "is_width" Cu
 yap:cK K "has_only" xH
 yav:cK K "is_window" BW
 yag:cK K "are_windows" xK
 yas:cK K "is_view_with" BL
 yar:cK K "is_view" Bn
 yaj:cK K "check_view" Cz
 yaf:cK K "add_endings" AQ
 yal:cK K "counted" At
 yaN:cK K "texts" za
 yaq:cK K "is_text_up_to" B2
 yai:cK K "check_text" Cm
 yak:cK K "check_width" CB
 yaR:cK K "view_of" Az
 yaI:cK K "pieces" xY
 yaM:cK K "text_view" AB
 yah:cK K "check_alike" Ay
 yao:cK K "exchanges_from" AY
 yan:cK K "exchanges" AK
 yaP:cK K "unrolled" Bt
 yaO:cK K "turns" y4
 yaH:cK K "one_step_off" Cq
 yaK:cK K "spread" Ao
 yam:cK K "distances" xL
 yaJ:cK K "road" zf
 yaE:cK K "_law_row" yQ
 yaF:cK K "_law_stretches" Cv
 yaC:cK K "_law_moved" ve
 yaz:cK K "_law_levels" yO
 yaQ:cK K "view" B8
 yaL:cK K "steps" BQ
 yaw:cK K "law" uj
 yaT:eU K cG "all" = aa ae
 yaU:eU K cG "any" = aa ae
 yaV:eU K cG "bool" = aa ae
 yaW:eU K cG "int" = aa ae
 yaX:eU K cG "isinstance" = aa ae
 yaY:eU K cG "len" = aa ae
 yaZ:eU K cG "list" = aa ae
 ya0:eU K cG "max" = aa ae
 ya1:eU K cG "min" = aa ae
 ya2:eU K cG "range" = aa ae
 ya3:eU K cG "set" = aa ae
 ya4:eU K cG "sorted" = aa ae
 ya5:eU K cG "str" = aa ae
 ya6:eU K cG "tuple" = aa ae
 ybb:∃ t,eU K cG "LETTERS" = aa (aa (.str (tS [97,98,99]) t))
 ybc:∃ t,eU K cG "MOST_LETTERS" = aa (aa (.int 12 t))
 ybd:∃ t,eU K cG "MOST_WINDOWS" = aa (aa (.int 9 t))
 ybe:∃ t,eU K cG "WIDEST" = aa (aa (.int 4 t))
 yad:eU K cG "SlitError" = aa (aa (.ref a.SlitError))
 yaa:eU K cG "NoText" = aa (aa (.ref a.NoText))
 yac:eU K cG "NoWidth" = aa (aa (.ref a.NoWidth))
 yab:eU K cG "NoView" = aa (aa (.ref a.NoView))
 yae:eU K cG "Unlike" = aa (aa (.ref a.Unlike))
 ck:B0 K a=ai
 z_road:lM K "road" = aa (249,247)/\zv K 249 247=ai/\K.lookup 247=ae
theorem Nc(T:Top K a)(X:K.In base)(G:base.Ns cG mg):cR K mg base a where
 yax:=T.yax.at X G
 yaB:=T.yaB.at X G
 yay:=T.yay.at X G
 yaD:=T.yaD.at X G
 yaG:=T.yaG.at X G
 yaA:=T.yaA.at X G
 yat:=T.yat.at X G
 yau:=T.yau.at X G
 yap:=T.yap.at X G
 yav:=T.yav.at X G
 yag:=T.yag.at X G
 yas:=T.yas.at X G
 yar:=T.yar.at X G
 yaj:=T.yaj.at X G
 yaf:=T.yaf.at X G
 yal:=T.yal.at X G
 yaN:=T.yaN.at X G
 yaq:=T.yaq.at X G
 yai:=T.yai.at X G
 yak:=T.yak.at X G
 yaR:=T.yaR.at X G
 yaI:=T.yaI.at X G
 yaM:=T.yaM.at X G
 yah:=T.yah.at X G
 yao:=T.yao.at X G
 yan:=T.yan.at X G
 yaP:=T.yaP.at X G
 yaO:=T.yaO.at X G
 yaH:=T.yaH.at X G
 yaK:=T.yaK.at X G
 yam:=T.yam.at X G
 yaJ:=T.yaJ.at X G
 yaE:=T.yaE.at X G
 yaF:=T.yaF.at X G
 yaC:=T.yaC.at X G
 yaz:=T.yaz.at X G
 yaQ:=T.yaQ.at X G
 yaL:=T.yaL.at X G
 yaw:=T.yaw.at X G
 yaT:=kG X G T.yaT
 yaU:=kG X G T.yaU
 yaV:=kG X G T.yaV
 yaW:=kG X G T.yaW
 yaX:=kG X G T.yaX
 yaY:=kG X G T.yaY
 yaZ:=kG X G T.yaZ
 ya0:=kG X G T.ya0
 ya1:=kG X G T.ya1
 ya2:=kG X G T.ya2
 ya3:=kG X G T.ya3
 ya4:=kG X G T.ya4
 ya5:=kG X G T.ya5
 ya6:=kG X G T.ya6
 ybb:=T.ybb.imp λ_ e=>jN X G e
 ybc:=T.ybc.imp λ_ e=>jN X G e
 ybd:=T.ybd.imp λ_ e=>jN X G e
 ybe:=T.ybe.imp λ_ e=>jN X G e
 yad:=jN X G T.yad
 yaa:=jN X G T.yaa
 yac:=jN X G T.yac
 yab:=jN X G T.yab
 yae:=jN X G T.yae
 ya8:=xA X (jN X G T.yab) ((uB T.ck).2.1 a.NoView (by simp[mP])).1
 ya7:=xA X (jN X G T.yaa) ((uB T.ck).2.1 a.NoText (by simp[mP])).1
 ya9:=xA X (jN X G T.yac) ((uB T.ck).2.1 a.NoWidth (by simp[mP])).1
 yba:=xA X (jN X G T.yae) ((uB T.ck).2.1 a.Unlike (by simp[mP])).1
 yaS:=⟨_,_,QL X G T.z_road.1 T.z_road.2.1⟩
theorem N7{l:CS}{w:aN}{fa:af}(X:K.In h)(G:h.Ns cG mg)(hfa:mg "law" = aa (.ref fa))(T:Top K a) : ∃ fd:g9,(∀ (s:aq) (v:am),BindsTo s fd ⟨[v],[]⟩ [("_law_script",v)])/\∀ base:aF,K.In base->base.Ns cG mg->iM l.prog w K mg base (ce l.prog w) 15 fa fd ["_law_script"] (b0 K (uz a)):=by
 obtain⟨f,oc,od,kV,dc,pm,an,cd,ct,sl,e1,e2,e3,e4⟩:=T.yaw;have e:=hfa.symm.trans (jN X G e1);cases e;exact⟨_,λs v=>.of_eq rfl,λbase XB GB=>OY (Nc T XB GB) (HR e2 e3 e4)⟩
theorem AL{l:CS}{q:aX}{loose:List Str}{XP:(Str->Option am)->aF->Prop}{YP:aN->aF->Prop}{d:DefRec}{K:Params->az}(hn:l.most=aa 63)(qW:d.params.defaults=[])(hnm:d.name = "law")(hY:∀ (w:aN) (h:aF),YP w h->(K w.params).In h/\h.get? 247=aa (PySem.W.tabObj #[])) {a:Ad} (T:∀ w:aN,Top (K w.params) a):PySem.W.WalkO q loose XP YP l.row.toRowW d [] (λf vs=>PySem.call f vs) :=
 L2.U9 (n:=63) (k:=15) (x:="_law_script") (K:=K) (CX:=λw=>ce l.prog w) (sp:=λw=>b0 (K w.params) (uz a)) hn (by decide) qW ⟨rfl,by decide,by decide⟩ (λw h Y=>⟨(hY w h Y).1,λc P e=>by rw[(T w).z_road.1]at e; cases e; exact⟨(T w).z_road.2.1,(T w).z_road.2.2,(hY w h Y).2⟩⟩)
  (λw mg fa h KX G wA=>N7 KX G (by rw[← hnm]; exact wA) (T w))
  (λw H b ns hl _ hS=>SM (RJ (uB (T w).ck).2.2.1 hS) (OQ  ns))
  (λw H s e s' z=>by obtain⟨_,_,_,_,_,_,_,_,_,_,_,f⟩:=z; exact f)
theorem U4{l:CS}{q:aX}{loose:List Str}{XP:(Str->Option am)->aF->Prop}{YP:aN->aF->Prop}{d:DefRec}{K:Params->az}{yad yaa yac yab yae:af}(hn:l.most=aa 63)(qW:d.params.defaults=[])(hnm:d.name = "law")(hY:∀ (w:aN) (h:aF),YP w h->(K w.params).In h/\h.get? 247=aa (PySem.W.tabObj #[])) (T:∀ w:aN,Top (K w.params) ⟨yad,yaa,yac,yab,0,0,0,0,yae,0,0,0,0,0⟩):PySem.W.WalkO q loose XP YP l.row.toRowW d [] (λf vs=>PySem.call f vs):=AL hn qW hnm hY T
end
end K18
def PySem.W.Fast.tw12941473229020800489:Nat:=0
def PySem.W.Fast.tw2466198896406342805:Nat:=0
def PySem.W.Fast.tw3139309595643548690:Nat:=0
def PySem.W.Fast.tw13331948153251716080:Nat:=0
def PySem.W.Fast.tw10418148132160816729:Nat:=0
def PySem.W.Fast.tw1357456125673783169:Nat:=0
def PySem.W.Fast.tw8048228608546410502:Nat:=0
def PySem.W.Fast.tw15823146880037833377:Nat:=0
def PySem.W.Fast.tw8184543389237351487:Nat:=0
def PySem.W.Fast.tw348799015416084230:Nat:=0
def PySem.W.Fast.tw1021779871398583381:Nat:=0
def PySem.W.Fast.tw13799187232167224979:Nat:=0
def PySem.W.Fast.tw4502210646178583264:Nat:=0
def PySem.W.Fast.tw8133160435166234864:Nat:=0
def PySem.W.Fast.tw1440788978220490749:Nat:=0
def PySem.W.Fast.tw9188866598572584160:Nat:=0
def PySem.W.Fast.tw5851015596599737203:Nat:=0
def PySem.W.Fast.tw7691820377753491582:Nat:=0
def PySem.W.Fast.tw6007839814068450872:Nat:=0
def PySem.W.Fast.tw1792177455950242573:Nat:=0
def PySem.W.Fast.tw2481501864230334277:Nat:=0
def PySem.W.Fast.tw4070464688234001562:Nat:=0
def PySem.W.Fast.tw9857781922154320495:Nat:=0
def PySem.W.Fast.tw16264883323406350188:Nat:=0
def PySem.W.Fast.tw14707032686542004247:Nat:=0
def PySem.W.Fast.tw15350378103102056334:Nat:=0
def PySem.W.Fast.tw2085903014609900335:Nat:=0
def PySem.W.Fast.tw1775648624520530210:Nat:=0
def PySem.W.Fast.tw16638847034048706337:Nat:=0
def PySem.W.Fast.tw8200877114910350607:Nat:=0
def PySem.W.Fast.tw11822250121643579427:Nat:=0
def PySem.W.Fast.tw14339810919070003587:Nat:=0
def PySem.W.Fast.tw9185886354378479047:Nat:=0
def PySem.W.Fast.tw9746777503795392081:Nat:=0
def PySem.W.Fast.tw5923208078893827449:Nat:=0
def PySem.W.Fast.tw14811595821807330952:Nat:=0
def PySem.W.Fast.tw3169459842890335982:Nat:=0
def PySem.W.Fast.tw14483417856893415145:Nat:=0
def PySem.W.Fast.tw15389818688292744436:Nat:=0
def PySem.W.Fast.tw3896004499872760843:Nat:=0
def PySem.W.Fast.tw13092748522324109518:Nat:=0
def PySem.W.Fast.tw5271611952918999467:Nat:=0
def PySem.W.Fast.tw9228173012124086709:Nat:=0
def PySem.W.Fast.tw9111840846525197051:Nat:=0
def PySem.W.Fast.tw11875801710738428833:Nat:=0
def PySem.W.Fast.tw3432057128852000:Nat:=0
def PySem.W.Fast.tw11160155812935819343:Nat:=0
def PySem.W.Fast.tw2598029351404204974:Nat:=0
def PySem.W.Fast.tw6259927761683201520:Nat:=0
def PySem.W.Fast.tw15783197369831127306:Nat:=0
def PySem.W.Fast.tw8896922137508865742:Nat:=0
def PySem.W.Fast.tw9121305463722285960:Nat:=0
def PySem.W.Fast.tw8353158138082075223:Nat:=0
def PySem.W.Fast.tw10859673128154898505:Nat:=0
def PySem.W.Fast.tw6774500561657549234:Nat:=0
def PySem.W.Fast.tw7949184993404676244:Nat:=0
def PySem.W.Fast.tw6891017825338366248:Nat:=0
def PySem.W.Fast.tw7913676858019732746:Nat:=0
def PySem.W.Fast.tw17559696239107532311:Nat:=0
def PySem.W.Fast.tw432947358419204669:Nat:=0
open PySem PySem.W PyProof.Rows
set_option maxRecDepth 100000 in
set_option maxHeartbeats 0 in
theorem PySem.Challenge.cw_slitview_k18_whole_roads_holds : PySem.Challenge.rw_slitview_k18_whole_roads.Holds := by
 w_on; o_law; k_head; (case hw=>w_witness2)
 k_fill
 refine' K18.U4 (l:=PySem.Challenge.rw_slitview_k18_whole_roads) rfl rfl rfl (fun w h Y=>⟨PySem.W.km_in_of Y,PySem.W.km_tabs_of Y _ (by simp)⟩) ?T
 case T =>
  intro w
  refine' { yax:=?yax,yaB:=?yaB,yay:=?yay,yaD:=?yaD,yaG:=?yaG,yaA:=?yaA,yat:=?yat,yau:=?yau,yap:=?yap,yav:=?yav,yag:=?yag,yas:=?yas,yar:=?yar,yaj:=?yaj,yaf:=?yaf,yal:=?yal,yaN:=?yaN,yaq:=?yaq,yai:=?yai,yak:=?yak,yaR:=?yaR,yaI:=?yaI,yaM:=?yaM,yah:=?yah,yao:=?yao,yan:=?yan,yaP:=?yaP,yaO:=?yaO,yaH:=?yaH,yaK:=?yaK,yam:=?yam,yaJ:=?yaJ,yaE:=?yaE,yaF:=?yaF,yaC:=?yaC,yaz:=?yaz,yaQ:=?yaQ,yaL:=?yaL,yaw:=?yaw,yaT:=?yaT,yaU:=?yaU,yaV:=?yaV,yaW:=?yaW,yaX:=?yaX,yaY:=?yaY,yaZ:=?yaZ,ya0:=?ya0,ya1:=?ya1,ya2:=?ya2,ya3:=?ya3,ya4:=?ya4,ya5:=?ya5,ya6:=?ya6,ybb:=?ybb,ybc:=?ybc,ybd:=?ybd,ybe:=?ybe,yad:=?yad,yaa:=?yaa,yac:=?yac,yab:=?yab,yae:=?yae,ck:=?ck,z_road:=?z_road }
  (case yad=>k_is)
  (case yaa=>k_is)
  (case yac=>k_is)
  (case yab=>k_is)
  (case yae=>k_is)
  (case yax=>and_intros)
  (case yaB=>and_intros)
  (case yay=>and_intros)
  (case yaD=>and_intros)
  (case yaG=>and_intros)
  (case yaA=>and_intros)
  (case yat=>and_intros)
  (case yau=>and_intros)
  (case yap=>and_intros)
  (case yav=>and_intros)
  (case yag=>and_intros)
  (case yas=>and_intros)
  (case yar=>and_intros)
  (case yaj=>and_intros)
  (case yaf=>and_intros)
  (case yal=>and_intros)
  (case yaN=>and_intros)
  (case yaq=>and_intros)
  (case yai=>and_intros)
  (case yak=>and_intros)
  (case yaR=>and_intros)
  (case yaI=>and_intros)
  (case yaM=>and_intros)
  (case yah=>and_intros)
  (case yao=>and_intros)
  (case yan=>and_intros)
  (case yaP=>and_intros)
  (case yaO=>and_intros)
  (case yaH=>and_intros)
  (case yaK=>and_intros)
  (case yam=>and_intros)
  (case yaJ=>and_intros)
  (case yaE=>and_intros)
  (case yaF=>and_intros)
  (case yaC=>and_intros)
  (case yaz=>and_intros)
  (case yaQ=>and_intros)
  (case yaL=>and_intros)
  (case yaw=>and_intros)
  (case yaT=>k_is)
  (case yaU=>k_is)
  (case yaV=>k_is)
  (case yaW=>k_is)
  (case yaX=>k_is)
  (case yaY=>k_is)
  (case yaZ=>k_is)
  (case ya0=>k_is)
  (case ya1=>k_is)
  (case ya2=>k_is)
  (case ya3=>k_is)
  (case ya4=>k_is)
  (case ya5=>k_is)
  (case ya6=>k_is)
  (case ybb=>refine' Pu.UY ?e; (case e=>k_is))
  (case ybc=>refine' Pu.U3 ?e; (case e=>k_is))
  (case ybd=>refine' Pu.U3 ?e; (case e=>k_is))
  (case ybe=>refine' Pu.U3 ?e; (case e=>k_is))
  (case ck=>kernel_rfl)
  (case z_road=>refine⟨?u1,?u2,?u3⟩; (case u1=>kernel_rfl); (case u2=>kernel_rfl); (case u3=>kernel_rfl))
