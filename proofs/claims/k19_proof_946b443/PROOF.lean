import PyProof.Rows.All
import Wide.All
import OpenK.AllK
import Wide.FinOn
import Lean
import PyProof.EqAt
import PyProof.EqKinds
import PyProof.TupleCall
import KE.KIntText
import KE.KDictList
import KE.KDictSum
import PyProof.Rows.Range3
import PyProof.DictWalks
import KE.KMinKey
import PySem.Challenge.RW_slitview_k19_whole_all_reached
noncomputable section
set_option compiler.extract_closed false
local macro_rules | `(∅) => `(by first | lia | omega)
set_option Elab.async false
set_option bootstrap.genMatcherCode false
set_option genSizeOf false
set_option linter.all false
set_option maxRecDepth 100000
local macro_rules | `(tactic| ac_nf) => `(tactic| exact ⟨rfl,rfl,rfl,by decide +kernel,rfl,by decide +kernel,by decide +kernel⟩)
open Option renaming some→aa,none→ae,bind_some→gI,map_some→lH,map_eq_some_iff→qB,isSome_map→CI,map_none→CQ,getD_none→Jw,getD_some→Ka
open PySem renaming Addr→af,Value→ak,Shared→aq,wpAny_bind→ar,wpAny→ax,model→ay,Expr→aC,wpAny_pure→aD,Heap→aE,World→aN,Program→aX,Around→be,Stmt→bf,sizeLine→bp,starEach→bq,eval→bv,mainGlobals→cE,strKind→dQ,wpAny_mono→dW,Scope→eC,rawInt→eN,compareOp→eY,bootBuiltins→fq,backTo→fZ,cellsFrom→gq,wpAny_ite_split→gs,bindArgs→gE,SetTable→gG,NameKind→gY,FuncData→iq,wpAny_setState_of→iw,binaryOp→jw,wpAny_rule→k6,wpAny_askSetting→k8,mem_of_lookup→lD,wpAny_holding→lF,behindInMarks→mz,swapsWith→mB,wpAny_newObj_type→mH,Paired→nI,sysModules→nJ,isTrue→nN,wpAny_truthy_bool→nO,IsPart→nQ,setNext→nW,setField→nX,setsByText→nY,pyIter→o5,codeAny→o8,valueAt→o_,builtinsNs→qx,getItem→qz,Keyword→qA,wpAny_passesOwn→sT,sizeLine_eq→sU,Arguments→sX,wpAny_field→sY,sliceBounds→sZ,attributeBase→s_,callerA→tq,relayAll→tz,wpAny_storeSet_of→tF,tupleKind→vC,codeAmong→vD,assignEach→vE,foldedSetIterable→vF,recursionLimit→vH,wpAny_call_entry→vJ,fits_of_scanBound→vO,codeAny_builtin→vP,pickOrder→vQ,wpAny_setField→vR,wpAny_Name→zf,codeAny_mono→zh,tupleKind_room_in1→zm,closureFor→zp,pushCells→zq,wpAny_isInstance→zy,wpAny_setEpoch_of→zF,wpAny_execs_nil→Ct,wpAny_assign_Name→Cu,PassesOwn→Cv,letOwnedTupleGo→Cw,wpAny_Call_Name_kw→Cz,subscripted→CD,keywordEach→CF,wpAny_alloc→CK,pushCells_keeps→CL,lookup_relabel_local→CM,wpAny_pyIter_list→CP,plainId_quiet→CW,sub_set_self→CY,wpAny_setEntries_of→CZ,setWalkUnseen→Da,wpAny_setScan_of→JH
open Bool renaming true→ai,false→ao,false_ne_true→gn,and_eq_true→iu,false_xor→mL,eq_iff_iff→o6,false_eq_true→pe,true_xor→tP,or_eq_true→zw,not_true→zI,true_and→CS,and_false→CT,not_eq_true'→JS
open PySem.W renaming Frag→az,nsIn→eK,mg_of→jB,kitOne→jU,fnOf→kl,mg_none_of→kr,tabIn→lz,kia_one→mF,emptyDict→qy,instObj→sS,keepIn→sV,excIn→tJ,findIn→zg,codeIn→zj,codeHdIn→zo,OpenLaw→CJ,kla_obj→Df,methodObj→Jn
open PyProof.Rows renaming wpS_bind→aK,wpS_pure→aT,pendingOf→bD,SortSt→bU,StrsAre→d7,wpS_mono→g7,wpS_forRange→g8,envOfC→jV,size_push'→jY,seqObj→lG,wpS_get→lI,AllBare→nL,wpS_modify→n4,wpS_lift→tK,listUpdate_at→C_,callWith_type1→Jp,slot_tuple_getitem→Ul
open Nat renaming le_refl→bi,le_trans→cI,ne_of_lt→c7,lt_irrefl→fk,lt_of_lt_of_le→fQ,zero_le→kY,le_of_lt→lA,ne_of_gt→mC,le_of_eq→mD,lt_succ_self→mE,lt_succ_of_lt→mJ,lt_trans→nS,zero_add→nZ,mod_eq_of_lt→pf,mod_lt→qD,pow_succ→qG,lt_of_le_of_lt→tt,not_lt→tL,add_mod→tN,lt_add_right→tR,add_assoc→vT,add_sub_cancel_left→v8,min_eq_left→v9,not_lt_zero→zn,le_succ→zt,add_right_comm→zD,mul_comm→zG,lt_of_succ_lt→zJ,mul_le_mul→CV,min_eq_right→Dj,add_mul→Dm,lt_or_ge→Dq,le_add_right→Kb,add_sub_cancel'→Kc
open PySem.Heap renaming lt_size→bC,get?_push_of_some→bK,get?_push_size→dz,SameBut→i_,get?_update_other→tf,get?_update_self→tD,size_push→vG,get?_none_of_le→Jo,size_update→JR
open List renaming replicate→bF,range→bQ,mem_cons→cb,length_map→cD,mem_map→cO,length_append→dq,size_toArray→dA,map_cons→d4,getElem?_eq_some_iff→eu,length_cons→eD,map_map→eE,mem_append→eM,nil_append→ft,getElem?_set_ne→fI,getElem?_append_left→fJ,find?_cons→f6,map_congr_left→gF,append_assoc→gH,mem_singleton→gZ,getElem?_set_self→ip,getElem?_map→ir,getElem?_eq_getElem→iN,append_nil→ja,getElem?_take→jb,nodup_cons→jx,getElem?_append_right→jy,foldl_cons→jz,getElem?_eq_none→jA,mem_of_mem_take→jC,mem_append_right→jT,length_take→jW,length_drop→jX,mem_filter→kh,take_of_length_le→km,not_mem_nil→kn,ext_getElem?→ko,getElem?_drop→kq,mem_cons_of_mem→kX,lookup_cons→kZ,length_set→k9,flatMap_cons→lK,mem_cons_self→my,take_append_drop→mK,mem_range→nK,filterMap_cons→nM,any_cons→nR,filter_eq_self→n9,mem_of_mem_drop→n_,map_append→pc,range_succ_eq_map→qC,mem_reverse→qF,dropLast→qI,length→sW,length_singleton→ti,length_nil→tj,filter_cons→tm,range_succ→tw,any_eq_true→tQ,mem_of_getElem?→vI,all_cons→vK,map_nil→vL,all_eq_true→vS,length_filter_le→v5,filter_map→v6,mem_flatMap→v7,count_cons_of_ne→v_,mem_append_left→ze,getElem?_take_of_lt→zi,lookup→zr,drop_zero→zu,eq_nil_of_length_eq_zero→zv,nodup_append→zB,drop_eq_getElem_cons→zC,getElem_of_mem→zE,find?_eq_none→zH,replicate_succ→CG,getElem?_range→CN,all_map→CO,pairwise_map→CU,length_eraseIdx→C0,take_zero→C1,any_map→C4,length_dropLast→C5,singleton_append→C6,drop_eq_nil_iff→C7,take_length→C8,cons_append→C9,filter_append→De,length_eq_zero_iff→Dg,perm_ext_iff_of_nodup→Dh,isPerm_iff→Di,drop_of_length_le→Dk,count_cons_self→Dl,range'→Dn,sum_cons→Do,take_append_of_le_length→Dp,mem_filterMap→Jq,any_eq_false→Js,filterMap_map→Jv,flatten_cons→JA,lookup_append→JC,findIdx?_eq_some_iff_getElem→JI,getElem_mem→JJ,findIdx?_eq_none_iff→JK,drop_length→JP,pairwise_append→JT,getElem_drop→JV,getElem_take→JW,reverse_append→JX,reverse_perm→JY,pairwise_reverse→JZ,toList_toArray→J1,getD_eq_getElem?_getD→J4,filter_congr→J5,flatMap_nil→J7,drop_append_of_le_length→J8,length_erase_of_mem→J9,isEmpty_nil→J_,count_eq_zero_of_not_mem→Uo
open Option.some renaming inj→eJ
open PySem.PassesOwn renaming never→gJ
open Ne renaming symm→gW
open Array renaming length_toList→gX,toList_append→ix,getElem_extract→n6,getElem?_eq_some_iff→tu,toList_push→vN,getElem?_eq_getElem→zz,getElem?_toList→zA,toArray_toList→JE,toList_extract→JU,perm_iff_toList_perm→J0,getD_eq_getD_getElem?→J3
open False renaming elim→kj
open PyProof.Rows.KeyOrd renaming kle_of_klt→lJ,kle_refl→n5,kle_trans→vV
open Int renaming toNat_natCast→mG,emod_lt_of_pos→Db,emod_nonneg→Dc
open List.Perm renaming refl→mI,append_left→JM
open PySem.SetTable renaming sizeAbove→nU,eraseAt→n8,bits→ph,grown→tE,fits→tG,fill→tO,turns→vX,insertAt→JF,layClean→JG,below→JN
open PySem.Heap.SameBut renaming update→nV,refl→vM
open PySem.Str renaming empty→o7,ofString→CB
open PySem.Obj renaming mapSeq→o9,mapFields→qE,data_mapFields→C3,isFreed_of_fields→JQ
open PySem.Value renaming isStrOf→qw
open Function renaming comp→qH,comp_def→JD
open Iff renaming rfl→tI
open Nat.succ renaming inj→vU
open PySem.SetTable.layClean renaming free→vW
open PySem.SetTable.sizeAbove renaming go→vY
open List.cons renaming injEq→vZ
open PySem.SeqAt renaming EqAt→zk
open PySem.Around renaming under_plainId→zx
open PySem.F renaming excBase_ValueError→zK,slot_dict_get→JB
open Classical renaming byContradiction→zL
open PySem.Calls renaming spliced_cons→Cy,spliced_nil→Jt,callWith_builtin→Jx,evalArgs_plain→Jy
open PySem.Builtin.Slice renaming slicePlaces→CA,sliceAdjust→Ju
open PySem.Builtin.Tuple renaming tupleExact→CC
open PySem.Paired renaming snoc→CH
open PySem.Builtin.Frozenset renaming unchanged→Dd,sizeOf→J2
open PySem.Builtin.Str renaming occurrences→Jr
open PySem.Builtin.List renaming listTooLong→Jz
open PyProof.Rows.F renaming plain_set_update_loop→JL,entry_set_update_loop→Um
open PySem.SetTable.below renaming go→JO
open PySem PySem.Spec PyProof.Rows
namespace L2
abbrev aI:=Sum Int Str
def sq:aI->ak->Bool
 | .inl k,v=>Value.isInt k v
 | .inr x,v=>qw x v
def TD(w:aN):aI->Int
 | .inl k=>hashInt k
 | .inr x=>hashStr w x
theorem nA:∀ {k:aI} {v:ak},sq k v=ai->(∃ i t,k=Sum.inl i/\v=Value.int i t)\/(∃ x t,k=Sum.inr x/\v=Value.str x t)
 | .inl i,v,h=>by obtain⟨t,e⟩:=Value.isInt_shape (k:=i) (v:=v) h;exact .inl ⟨i,t,rfl,e⟩
 | .inr x,v,h=>by obtain⟨t,e⟩:=Value.isStrOf_shape (x:=x) (v:=v) h;exact .inr ⟨x,t,rfl,e⟩
theorem Ll(i:Int)(t:Tok):sq (.inl i) (.int i t)=ai:=by simp[sq,Value.isInt]
theorem QK(x:Str)(t:Tok):sq (.inr x) (.str x t)=ai:=by simp[sq,qw]
theorem SH(a b:Int):decide ((Sum.inl a:aI)=Sum.inl b)=(a == b):=by
 by_cases e:a=b
 ·subst e; simp
 ·have h:¬ (Sum.inl a:aI)=Sum.inl b:=λq=>e (Sum.inl.inj q);rw[decide_eq_false h];exact(beq_eq_false_iff_ne.mpr e).symm
theorem Ta(a b:Str):decide ((Sum.inr a:aI)=Sum.inr b)=decide (a=b):=by
 by_cases e:a=b
 ·subst e; simp
 ·have h:¬ (Sum.inr a:aI)=Sum.inr b:=λq=>e (Sum.inr.inj q);rw[decide_eq_false h,decide_eq_false e]
theorem MG(a:Int)(b:Str):decide ((Sum.inl a:aI)=Sum.inr b)=ao:=decide_eq_false (λq=>nomatch q)
theorem M6(a:Str)(b:Int):decide ((Sum.inr a:aI)=Sum.inl b)=ao:=decide_eq_false (λq=>nomatch q)
def gf(prog:aX)(w:aN):PySem.KeyKind prog w aI where
 is:=sq
 hash:=TD w
 inj:=λv a b ha hb=>by
  rcases nA ha with⟨i,t,rfl,rfl⟩ | ⟨x,t,rfl,rfl⟩
  ·rcases nA hb with⟨j,u,rfl,e⟩ | ⟨y,u,rfl,e⟩
   ·injection e with e1 _; rw[e1]
   ·exact nomatch e
  ·rcases nA hb with⟨j,u,rfl,e⟩ | ⟨y,u,rfl,e⟩
   ·exact nomatch e
   ·injection e with e1 _; rw[e1]
 byValue:=λk v h=>by rcases nA h with⟨i,t,rfl,rfl⟩ | ⟨x,t,rfl,rfl⟩ <;> rfl
 pyHash:=λhv h=>by
  rcases nA hv with⟨i,t,rfl,rfl⟩ | ⟨x,t,rfl,rfl⟩
  ·exact wpAny_pyHash_int h
  ·exact wpAny_pyHash_str h
 eqBool:=λhu hv h=>by
  rcases nA hu with⟨i,t,rfl,rfl⟩ | ⟨x,t,rfl,rfl⟩
  ·rcases nA hv with⟨j,u,rfl,rfl⟩ | ⟨y,u,rfl,rfl⟩
   ·rw[SH]at h; exact wpAny_eqBool_int h
   ·rw[MG]at h; exact SeqAt.EqAt.int_str i t y u _ _ _ _ h
  ·rcases nA hv with⟨j,u,rfl,rfl⟩ | ⟨y,u,rfl,rfl⟩
   ·rw[M6]at h; exact SeqAt.EqAt.str_int x t j u _ _ _ _ h
   ·rw[Ta]at h; exact wpAny_eqBool_str h
 «strs»:=λk x t v h=>by
  rcases nA h with⟨i,u,rfl,e⟩ | ⟨y,u,rfl,e⟩
  ·exact nomatch e
  ·injection e with e1 _;subst e1;cases v <;> rfl
theorem KP(prog:aX)(w:aN)(i:Int)(t:Tok):(gf prog w).is (.inl i) (.int i t)=ai:=Ll i t
theorem M7(prog:aX)(w:aN)(x:Str)(t:Tok):(gf prog w).is (.inr x) (.str x t)=ai:=QK x t
inductive V where
 | non | bl (b:Bool) | int (i:Int) | str (x:Str) | byt (b:Array UInt8) | flt (b:UInt64) | ref (a:af) | ty (n:String)
 deriving DecidableEq
def RelV:V->ak->Prop
 | .non,u=>u=Value.none
 | .bl b,u=>u=Value.bool b
 | .int i,u=>∃ t,u=Value.int i t
 | .str x,u=>∃ t,u=Value.str x t
 | .byt b,u=>∃ t,u=Value.bytes b t
 | .flt b,u=>∃ t,u=Value.float b t
 | .ref a,u=>u=Value.ref a
 | .ty n,u=>u=Value.type n
abbrev bI:List V->List ak->Prop:=nI RelV
theorem bI.length{xs:List V}{us:List ak}(r:bI xs us):xs.length=us.length:=Paired.length r
theorem bI.get:∀ {xs:List V} {us:List ak} {i:Nat} {x:V},bI xs us->xs[i]?=aa x->∃ u,us[i]?=aa u/\RelV x u
 | _,_,_,_,.nil,e=>by simp at e
 | _,_,0,_,.cons r _,e=>by simp at e; subst e; exact⟨_,rfl,r⟩
 | _,_,i+1,x,.cons _ t,e=>by obtain⟨u,h1,h2⟩:=bI.get (i:=i) (x:=x) t (by simpa using e);exact⟨u,by simpa using h1,h2⟩
theorem bI.set{x:V}{u:ak}(r:RelV x u):∀ {xs:List V} {us:List ak} (i:Nat),bI xs us->bI (xs.set i x) (us.set i u)
 | _,_,_,.nil=>.nil
 | _,_,0,.cons _ t=>.cons r t
 | _,_,i+1,.cons q t=>.cons q (bI.set r i t)
theorem bI.append:∀ {xs ys:List V} {us ws:List ak},bI xs us->bI ys ws->bI (xs++ys) (us++ws)
 | _,_,_,_,.nil,s=>s
 | _,_,_,_,.cons r t,s=>.cons r (bI.append t s)
theorem bI.take:∀ {xs:List V} {us:List ak} (n:Nat),bI xs us->bI (xs.take n) (us.take n)
 | _,_,0,_=>.nil
 | _,_,_+1,.nil=>.nil
 | _,_,n+1,.cons r t=>.cons r (bI.take n t)
theorem bI.drop:∀ {xs:List V} {us:List ak} (n:Nat),bI xs us->bI (xs.drop n) (us.drop n)
 | _,_,0,r=>r
 | _,_,_+1,.nil=>.nil
 | _,_,n+1,.cons _ t=>bI.drop n t
def o3:Option V->Option ak->Prop
 | some v,aa u=>RelV v u
 | none,ae=>True
 | _,_=>False
def KV{κ:Type}:List (κ×V)->List (κ×ak)->Prop:=nI λ(p:κ×V) (q:κ×ak)=>p.1=q.1/\RelV p.2 q.2
def kV:aI->V
 | .inl i=>.int i
 | .inr x=>.str x
inductive HO where
 | lst (xs:List V)
 | tup (xs:List V)
 | dK (kvs:List (aI×V)) | dT (kvs:List (List aI×V))
 | set (S:Int->Bool) (n:Nat)
 | ins (C dx:af) (fs:List (Str×V))
 | own (x:af)
 | xd (fs:List (Str×V))
 | met (f x:af)
 | rng (lo hi:Int)
 | frz (o:Obj) (u:HO)
 | tbl (q:Str)
 | ext (φ:aE->Prop)
abbrev Hp:=af->Option HO
def upd(H:Hp)(a:af)(o:HO):Hp:=λb=>if b=a then aa o else H b
theorem cz{H:Hp}{a:af}{o:HO}:upd H a o a=aa o:=by unfold upd; rw[if_pos rfl]
theorem cn{H:Hp}{a b:af}{o:HO}(h:b≠a):upd H a o b=H b:=by unfold upd; rw[if_neg h]
theorem K4{H:Hp}{a b:af}{o u:HO}(h:H a=aa o)(h':H b=aa u)(d:o≠u):a≠b:=by intro e; subst e; rw[h]at h'; exact d (eJ h')
theorem mX{H:Hp}{a b:af}{o:HO}(h:H a=aa o)(h':H b=ae):a≠b:=by
 intro e; subst e; rw[h]at h'; cases h'
def Jl(h:aE)(a:af)(items:Array ak):Prop:=IsTup h a items/\∃ o,h.get? a=aa o/\o.dict=ae
theorem Jl.new(h:aE)(its:Array ak):Jl (h.push { cls:=.type "tuple",data:=.seq its }) h.objs.size its:=⟨IsTup.new _ _,_,dz _ rfl,rfl⟩
section
variable(P:aX)(w:aN)
def dS(H:Hp)(h:aE)(a:af):HO->Prop
 | .lst xs=>xs.length<=bp/\∃ (its:List ak) (n:Nat),bI xs its/\h.get? a=aa { cls:=.type "list",data:=.seq its.toArray n }
 | .tup xs=>xs.length<=bp/\∃ its:List ak,bI xs its/\Jl h a its.toArray
 | .dK kvs=>kvs.length<=bp/\(a == nJ)=ao/\∃ vs,KV kvs vs/\h.DictOf (gf P w) a vs
 | .dT kvs=>kvs.length<=bp/\(a == nJ)=ao/\∃ xs:List (List aI×af×ak),
   nI (λ(p:List aI×V) (q:List aI×af×ak)=>p.1=q.1/\H q.2.1=aa (.tup (p.1.map kV))/\RelV p.2 q.2.2) kvs xs /\
   ∃ o es ep,h.get? a=aa o/\o.ExactDict/\o.data = .dict es ep/\es.toList=xs.map (entryOfKey (vC (gf P w)))/\(xs.map (·.1)).Nodup
 | .set S n=>h.SetOf (intKind P w) a S n
 | .ins C dx fs=>H dx=aa (.own a)/\fs.length<=1000/\dx≠a/\h.get? a=aa (sS C dx) /\
   ∃ mA,h.Ns1 dx mA/\(∀ f,o3 (fs.lookup f) (mA f))/\PySem.Within mA (fs.map (·.1))
 | .own _=>∃ o,h.get? a=aa o
 | .xd fs=>∃ mA,h.Ns1 a mA/\∀ f,o3 (fs.lookup f) (mA f)
 | .rng lo hi=>∃ t u v,h.get? a=aa { cls:=.type "range",data:=.fields #[.int lo t,.int hi u,.int 1 v] }
 | .frz o u=>h.get? a=aa o/\dS H h a u
 | .tbl q=>∃ ps:Array ak,h.get? a=aa { cls:=.none,data:=.fields ps }/\TriplesOk ps.toList/\∀ pos cv,vD pos ps.toList=aa cv->∃ c,cv = .ref c/\H c=aa (.own a)/\h.CodeRec cv q
 | .met f x=>h.get? a=aa (Jn (.ref f) (.ref x))
 | .ext φ=>φ h/\(∃ o,h.get? a=aa o)/\∀ h1 h2:aE,φ h1->(∀ o,h1.get? a=aa o->h2.get? a=aa o)->φ h2
def d_(H:Hp)(h:aE):Prop:=∀ a o,H a=aa o->dS P w H h a o
end
section
variable{P:aX}{w:aN}{H H':Hp}{h h':aE}{a:af}{o:HO}
theorem dS.lt(x:dS P w H h a o):a<h.objs.size:=by
 cases o with
 | lst xs=>obtain⟨_,_,_,_,e⟩:=x; exact bC e
 | tup xs=>obtain⟨_,_,_,p,_⟩:=x; exact p.lt
 | dK kvs=>obtain⟨_,_,_,_,o,_,_,e,_⟩:=x; exact bC e
 | dT kvs=>obtain⟨_,_,_,_,o,_,_,e,_⟩:=x; exact bC e
 | set S n=>obtain⟨o,_,_,_,e,_⟩:=x; exact bC e
 | ins C dx fs=>obtain⟨_,_,_,e,_⟩:=x; exact bC e
 | own y=>obtain⟨_,e⟩:=x; exact bC e
 | xd fs=>obtain⟨_,⟨_,_,_,e,_⟩,_⟩:=x; exact bC e
 | rng lo hi=>obtain⟨_,_,_,e⟩:=x; exact bC e
 | frz ob u=>obtain⟨e,_⟩:=x; exact bC e
 | tbl q=>obtain⟨_,e,_⟩:=x; exact bC e
 | met f y=>exact bC (show h.get? a=aa _ from x)
 | ext φ=>obtain⟨_,⟨_,e⟩,_⟩:=x; exact bC e
theorem Paired.mapP{α β:Type}{F G:α->β->Prop}:∀ {l₁:List α} {l₂:List β},nI F l₁ l₂->(∀ a b,F a b->G a b)->nI G l₁ l₂
 | _,_,.nil,_=>.nil
 | _,_,.cons r t,f=>.cons (f _ _ r) (Paired.mapP t f)
theorem dS.stay(x:dS P w H h a o)(k:∀ b u,(b=a\/H b=aa (.own a))->h.get? b=aa u->h'.get? b=aa u)(ho:∀ b,H b=aa (.own a)->H' b=aa (.own a)) (ht:∀ b xs,H b=aa (.tup xs)->H' b=aa (.tup xs)):dS P w H' h' a o:=by
 induction o with
 | lst xs=>obtain⟨z,its,n,r,e⟩:=x; exact⟨z,its,n,r,k _ _ (.inl rfl) e⟩
 | tup xs=>obtain⟨z,its,r,⟨ob,e,c⟩,o2,e2,c2⟩:=x; exact⟨z,its,r,⟨ob,k _ _ (.inl rfl) e,c⟩,o2,k _ _ (.inl rfl) e2,c2⟩
 | dK kvs=>obtain⟨z,y,vs,r,ob,es,ep,e,c⟩:=x; exact⟨z,y,vs,r,ob,es,ep,k _ _ (.inl rfl) e,c⟩
 | dT kvs=>obtain⟨z,y,xs,r,ob,es,ep,e,c⟩:=x;exact⟨z,y,xs,Paired.mapP r λp q z=>⟨z.1,ht _ _ z.2.1,z.2.2⟩,ob,es,ep,k _ _ (.inl rfl) e,c⟩
 | set S n=>obtain⟨ob,es,ep,t,e,c⟩:=x; exact⟨ob,es,ep,t,k _ _ (.inl rfl) e,c⟩
 | ins C dx fs=>obtain⟨d,z,ne,e,mA,⟨od,es,ep,e2,c⟩,r⟩:=x;exact⟨ho _ d,z,ne,k _ _ (.inl rfl) e,mA,⟨od,es,ep,k _ _ (.inr d) e2,c⟩,r⟩
 | own y=>obtain⟨ob,e⟩:=x; exact⟨ob,k _ _ (.inl rfl) e⟩
 | xd fs=>obtain⟨mA,⟨od,es,ep,e,c⟩,r⟩:=x; exact⟨mA,⟨od,es,ep,k _ _ (.inl rfl) e,c⟩,r⟩
 | rng lo hi=>obtain⟨t,u,v,e⟩:=x; exact⟨t,u,v,k _ _ (.inl rfl) e⟩
 | frz ob u ih=>obtain⟨e,q⟩:=x; exact⟨k _ _ (.inl rfl) e,ih q⟩
 | tbl q=>
  obtain⟨ps,e,t,g⟩:=x;refine⟨ps,k a _ (.inl rfl) e,t,λpos cv hc=>?_⟩;obtain⟨c,rfl,h1,c2,o,vs,tk,e2,e3,r⟩:=g pos cv hc;cases e2;exact⟨c,rfl,ho c h1,c,o,vs,tk,rfl,k c _ (.inr h1) e3,r⟩
 | met f y=>have e:h.get? a=aa (Jn (.ref f) (.ref y)):=x;show h'.get? a=aa (Jn (.ref f) (.ref y));exact k a _ (.inl rfl) e
 | ext φ=>obtain⟨p,⟨o,e⟩,st⟩:=x; exact⟨st _ _ p λo q=>k _ _ (.inl rfl) q,⟨o,k _ _ (.inl rfl) e⟩,st⟩
theorem d_.lt(x:d_ P w H h)(e:H a=aa o):a<h.objs.size:=(x a o e).lt
theorem d_.fresh(x:d_ P w H h)(e:h.objs.size<=a):H a=ae:=by
 cases q:H a with
 | none=>rfl
 | some u=>exact absurd (fQ (x.lt q) e) (fk _)
theorem d_.kept(x:d_ P w H h)(k:∀ b u,h.get? b=aa u->h'.get? b=aa u):d_ P w H h':=λa o e=>(x a o e).stay (λb u _ q=>k b u q) (λ_ q=>q) λ_ _ q=>q
theorem d_.laid(x:d_ P w H h)(k:∀ b u,h.get? b=aa u->h'.get? b=aa u)(hp:h.objs.size<=a)(new:dS P w (upd H a o) h' a o):d_ P w (upd H a o) h':=λb u e=>by
 have hn:=x.fresh hp;by_cases hb:b=a
 ·subst hb; rw[cz]at e; cases e; exact new
 ·rw[cn hb]at e;exact(x b u e).stay (λc v _ q=>k c v q) (λc q=>by rw[cn (mX q hn)]; exact q) λc xs q=>by rw[cn (mX q hn)]; exact q
end
def Rd(H:Hp)(a:af)(u:HO):Prop:=H a=aa u\/∃ o,H a=aa (.frz o u)
theorem Rd.ok{P:aX}{w:aN}{H:Hp}{h:aE}{a:af}{u:HO}(r:Rd H a u)(x:d_ P w H h):dS P w H h a u:=by
 rcases r with r | ⟨o,r⟩
 ·exact x a u r
 ·obtain⟨_,q⟩:=x a _ r;exact q
def uC:Option HO->Prop
 | some (.lst _)=>True
 | some (.dK _)=>True
 | some (.dT _)=>True
 | some (.set _ _)=>True
 | some (.ins _ _ _)=>True
 | some (.ext _)=>True
 | _=>False
section
variable{P:aX}{w:aN}{H:Hp}{h h':aE}{x e:af}{o':HO}
theorem d_.write(ok:d_ P w H h)(mu:uC (H x))(he:e=x\/H e=aa (.own x))(k:∀ b u,b≠e->h.get? b=aa u->h'.get? b=aa u)(tU:∃ u,h'.get? e=aa u)(new:dS P w (upd H x o') h' x o'):d_ P w (upd H x o') h':=λb u q=>by
 have nown:∀ c y,H c=aa (.own y)->c≠x:=λc y r z=>by subst z; rw[r]at mu; exact mu
 have ntup:∀ c xs,H c=aa (.tup xs)->c≠x:=λc xs r z=>by subst z; rw[r]at mu; exact mu
 by_cases hb:b=x
 ·subst hb; rw[cz]at q; cases q; exact new
 ·rw[cn hb]at q;by_cases lO:b=e
  ·have q':H b=aa (.own x):=by
    rcases he with z | z
    ·exact absurd (lO.trans z) hb
    ·rw[lO]; exact z
   rw[q]at q'; cases q';obtain⟨v,hv⟩:=tU;exact⟨v,by rw[lO]; exact hv⟩
  ·refine(ok b u q).stay (λc v hc r=>k c v ?_ r) (λc r=>by rw[cn (nown c b r)]; exact r) λc xs r=>by rw[cn (ntup c xs r)]; exact r
   rcases hc with rfl | hc
   ·exact lO
   ·rintro rfl;rcases he with z | z
    ·exact nown c b hc z
    ·rw[hc]at z; cases z; exact hb rfl
end
structure Un(fs ex:List af)(H H':Hp)(h h':aE):Prop where
 keep:∀ b o,h.get? b=aa o->H b=ae->b∉fs->b∉ex->h'.get? b=aa o
 slot:∀ b o,h.get? b=aa o->H b=ae->b∈fs->b∉ex->∃ sl,h'.get? b=aa { o with slots:=sl }
 free:∀ b o,h.get? b=aa o->H b=ae->b∉ex->H' b=ae
 there:∀ b o,h.get? b=aa o->b∉ex->∃ o',h'.get? b=aa o'
 tups:∀ b xs,H b=aa (.tup xs)->H' b=aa (.tup xs)
 frzs:∀ b o u,H b=aa (.frz o u)->H' b=aa (.frz o u)
 tbls:∀ b q,H b=aa (.tbl q)->H' b=aa (.tbl q)
section
variable{fs fs' ex ex':List af}{H H1 H2:Hp}{h h1 h2 h':aE}{a x e:af}{o:HO}
theorem Un.any(u:Un fs ex H H1 h h1){b:af}{ob:Obj}(q:h.get? b=aa ob)(n:H b=ae)(hx:b∉ex):∃ sl,h1.get? b=aa { ob with slots:=sl }:=by
 by_cases hb:b∈fs
 ·exact u.slot b ob q n hb hx
 ·exact⟨ob.slots,u.keep b ob q n hb hx⟩
theorem Un.trans(a:Un fs ex H H1 h h1)(b:Un fs ex H1 H2 h1 h2):Un fs ex H H2 h h2 where
 keep:=λc ob q n hc hx=>b.keep c ob (a.keep c ob q n hc hx) (a.free c ob q n hx) hc hx
 slot:=λc ob q n hc hx=>by obtain⟨sl,e1⟩:=a.slot c ob q n hc hx;obtain⟨sl',e2⟩:=b.slot c _ e1 (a.free c ob q n hx) hc hx;exact⟨sl',e2⟩
 free:=λc ob q n hx=>by obtain⟨o',e1⟩:=a.there c ob q hx;exact b.free c o' e1 (a.free c ob q n hx) hx
 there:=λc ob q hx=>by obtain⟨o',e1⟩:=a.there c ob q hx;exact b.there c o' e1 hx
 tups:=λc xs q=>b.tups c xs (a.tups c xs q)
 frzs:=λc ob xs q=>b.frzs c ob xs (a.frzs c ob xs q)
 tbls:=λc ps q=>b.tbls c ps (a.tbls c ps q)
theorem Un.kept(k:∀ b u,h.get? b=aa u->h'.get? b=aa u):Un fs ex H H h h' :=⟨λb ob q _ _ _=>k b ob q,λb ob q _ _ _=>⟨ob.slots,k b ob q⟩,λ_ _ _ n _=>n,λb ob q _=>⟨ob,k b ob q⟩,λ_ _ q=>q,λ_ _ _ q=>q,λ_ _ q=>q⟩
theorem Un.refl:Un fs ex H H h h:=Un.kept λ_ _ q=>q
theorem Un.laid(k:∀ b u,h.get? b=aa u->h'.get? b=aa u)(hp:h.objs.size<=a)(hn:H a=ae):Un fs ex H (upd H a o) h h' where
 keep:=λb u q _ _ _=>k b u q
 slot:=λb u q _ _ _=>⟨u.slots,k b u q⟩
 free:=λb u q n _=>by rw[cn (c7 (fQ (bC q) hp))]; exact n
 there:=λb u q _=>⟨u,k b u q⟩
 tups:=λb xs q=>by rw[cn (mX q hn)]; exact q
 frzs:=λb u xs q=>by rw[cn (mX q hn)]; exact q
 tbls:=λb ps q=>by rw[cn (mX q hn)]; exact q
theorem Un.write(mu:uC (H x))(he:e=x\/H e=aa (.own x))(k:∀ b u,b≠e->h.get? b=aa u->h'.get? b=aa u)(tU:∃ u,h'.get? e=aa u):Un fs ex H (upd H x o) h h':=by
 have hx:∀ b,H b=ae->b≠x:=λb n z=>by subst z; rw[n]at mu; exact mu
 have hb:∀ b,H b=ae->b≠e:=λb n z=>by
  subst z;rcases he with r | r
  ·exact hx b n r
  ·rw[n]at r; cases r
 have hm:∀ b u,H b=aa u->¬ uC (aa u)->b≠x:=λb u q nm z=>by subst z; rw[q]at mu; exact nm mu
 refine⟨λb u q n _ _=>k b u (hb b n) q,λb u q n _ _=>⟨u.slots,k b u (hb b n) q⟩,λb u q n _=>by rw[cn (hx b n)]; exact n,λb u q _=>?_,
  λb xs q=>by rw[cn (hm b _ q λz=>z)]; exact q,λb u xs q=>by rw[cn (hm b _ q λz=>z)]; exact q,λb ps q=>by rw[cn (hm b _ q λz=>z)]; exact q⟩
 by_cases lO:b=e
 ·subst lO; exact tU
 ·exact⟨u,k b u lO q⟩
theorem Un.mono(u:Un fs ex H H1 h h1)(hs:∀ b∈fs,b∈fs')(hx:∀ b∈ex,b∈ex'):Un fs' ex' H H1 h h1 :=⟨λb ob q n hb he=>u.keep b ob q n (λz=>hb (hs b z)) λz=>he (hx b z),λ_ _ q n _ he=>u.any q n λz=>he (hx _ z),λb ob q n he=>u.free b ob q n λz=>he (hx b z),λb ob q he=>u.there b ob q λz=>he (hx b z),u.tups,u.frzs,u.tbls⟩
end
def yC(h:aE)(H:Hp):List af:=(bQ h.objs.size).filter λa=>(H a).isSome
def m_(h:aE)(H:Hp):aE:=PySem.W.hideAll h (yC h H)
theorem Ku(h:aE)(H:Hp):(m_ h H).objs.size=h.objs.size:=PySem.W.hideAll_size _ _
theorem Oq{h:aE}{H:Hp}{b:af}{o:Obj}(e:h.get? b=aa o)(n:H b=ae):(m_ h H).get? b=aa o :=PySem.W.hideAll_get _ e λhm=>by have q:(H b).isSome=ai:=(kh.mp hm).2;rw[n]at q; simp at q
theorem Uf{h:aE}{H:Hp}{b:af}{o:Obj}(e:(m_ h H).get? b=aa o):h.get? b=aa o/\H b=ae:=by
 have e':h.get? b=aa o:=PySem.W.of_hideAll (yC h H) e;refine⟨e',?_⟩;cases q:H b with
 | none=>rfl
 | some x=>
  have hm:b∈yC h H:=kh.mpr ⟨nK.mpr (bC e'),by simp[q]⟩;have z:(m_ h H).get? b=ae:=PySem.W.hideAll_none (yC h H) hm;rw[z]at e; cases e
def Qn(g h:aE)(L:af):List (af×Obj):=(bQ h.objs.size).filterMap λa=>if a=L\/(g.get? a).isSome=ai then ae else(h.get? a).map λo=>(a,o)
def rest(g h:aE)(L d:af):List (af×Obj):=(Qn g h L).filter λp=>decide (p.1≠d)
structure Mod(K:az)(mg:Str->Option ak)(base:aE):Prop where
 kin:K.In base
 glob:base.Ns cE mg
 blt:∃ mb,base.Ns qx mb/\∀ x:Str,x≠"__name__"->mb x=fq x
 nolimit:base.NoLimit
 bm:∃ bm ob,mg "__builtins__" = aa (.ref bm)/\bm≠qx/\base.get? bm=aa ob/\ob.cls = .type "module"/\ob.dict=aa qx/\ob.data = .plain
set_option genInjectivity false in
structure Cx where
 prog:aX
 w:aN
 K:az
 mg:Str->Option ak
 base:aE
 A:be
 N:List Str
 s₀:aq
 H₀:Hp
 env:Env
 outer:List Env
 stack:List Env
 ex:List af
 fn:Str->Bool
 calm:Bool
 pn:List (af×Obj)
 xe:ak->aq->Prop
def gx(l:List Env):List af:=l.filterMap (·.frame)
abbrev Cx.fs(X:Cx):List af:=gx X.outer
def fW(sc:eC)(x:Str):Prop:=sc.names.lookup x=aa .local\/sc.names.lookup x=aa .cell\/sc.names.lookup x=aa .free
def Loc(sc:eC)(x:Str):Prop:=sc.names.lookup x=aa .local\/sc.names.lookup x=aa .cell
def Look(env:Env)(h:aE)(m:Str->Option ak)(x:Str)(u:ak):Prop :=(env.kindOf x=aa .local/\m x=aa u)\/((env.kindOf x=aa .cell\/env.kindOf x=aa .free)/\∃ c,env.cells.lookup x=aa c/\h.IsCell c (aa u))
def vj:List Str:=["road"]
def w6(K:az)(H:Hp):Prop:=∀ x∈vj,∀ c P,lz K x=aa (c,P)->H P=aa (.tbl (x++".<locals>.<lambda>"))
set_option genInjectivity false in
structure Cx.Ok(X:Cx):Prop where
 mod:Mod X.K X.mg X.base
 kind:X.env.scope.kind = .function
 glob:X.env.globals=cE
 blt:X.env.builtins=qx
 above:X.s₀.heap.objs.size<=X.env.locals
 inj:∀ x y c,X.env.cells.lookup x=aa c->X.env.cells.lookup y=aa c->x=y
 has:∀ x,(X.env.kindOf x=aa .cell\/X.env.kindOf x=aa .free)->∃ c,X.env.cells.lookup x=aa c
 cab:∀ x c,X.fn x=ai->X.env.cells.lookup x=aa c->X.s₀.heap.objs.size<=c
 hd:X.calm=ai->X.A.handled=ae
 frames:X.A.frames=aa X.stack
 stk:X.stack=X.outer\/(X.stack=X.env::X.outer/\X.env.frame=aa X.env.locals)
 exf:∀ b∈X.ex,b≠X.env.locals/\∀ x c,X.env.cells.lookup x=aa c->c≠b
 bs:∀ b o,X.base.get? b=aa o->X.s₀.heap.get? b=aa o/\X.H₀ b=ae
 bsz:X.base.objs.size<=X.s₀.heap.objs.size
 noex:∀ b o,X.base.get? b=aa o->b∉X.ex
 exfs:∀ b∈X.ex,b∉X.fs
 funs:X.s₀.heap.FunFrames X.base X.outer
 frf:∀ b∈X.fs,X.H₀ b=ae
 tab:w6 X.K X.H₀
structure Inv(X:Cx)(ah:List (af×Obj))(σ:List (Option V))(H:Hp)(s:aq):Prop where
 ok:X.Ok
 os:s.os=X.s₀.os
 bare:nL s.gens
 base:Un X.fs X.ex X.H₀ H X.s₀.heap s.heap
 loc:∃ m,s.heap.Ns X.env.locals m/\∀ (i:Nat) (x:Str) (v:V),X.N[i]?=aa x->σ[i]?=aa (aa v)->fW X.env.scope x->∃ u,RelV v u/\Look X.env s.heap m x u
 cell:∀ x c,X.env.cells.lookup x=aa c->∃ v,s.heap.IsCell c v
 free:H X.env.locals=ae
 freeC:∀ x c,X.env.cells.lookup x=aa c->H c=ae
 pin:∀ p∈X.pn++ah,s.heap.get? p.1=aa p.2/\H p.1=ae/\p.1≠X.env.locals/\p.1∉X.fs/\∀ v,p.2.data≠.cell v
 hok:d_ X.prog X.w H s.heap
 len:σ.length=X.N.length
section
variable{X:Cx}{ah:List (af×Obj)}{σ:List (Option V)}{H H':Hp}{s:aq}{h':aE}
theorem Cx.Ok.nofr(ok:X.Ok){b:af}{o:Obj}(e:X.base.get? b=aa o):b∉X.fs:=λhb=>by
 have:=(ok.funs.mem hb).1;rw[e]at this; cases this
theorem Inv.bs(I:Inv X ah σ H s):∀ b o,X.base.get? b=aa o->s.heap.get? b=aa o/\H b=ae:=λb o e=>⟨I.base.keep b o (I.ok.bs b o e).1 (I.ok.bs b o e).2 (I.ok.nofr e) (I.ok.noex b o e),I.base.free b o (I.ok.bs b o e).1 (I.ok.bs b o e).2 (I.ok.noex b o e)⟩
theorem Inv.bk(I:Inv X ah σ H s):∀ b o,X.base.get? b=aa o->s.heap.get? b=aa o:=λb o e=>(I.bs b o e).1
theorem Inv.mod(I:Inv X ah σ H s):Mod X.K X.mg X.base:=I.ok.mod
theorem Inv.kIn(I:Inv X ah σ H s):X.K.In s.heap:=I.ok.mod.kin.keeps I.bk
theorem Inv.nolimit(I:Inv X ah σ H s):s.heap.NoLimit:=I.ok.mod.nolimit.keeps I.bk
theorem Inv.fr(I:Inv X ah σ H s):∃ m,Fr X.base X.env.locals s.heap m :=
 let ⟨m,hn,_⟩:=I.loc
 ⟨m,hn,I.bk,cI I.ok.bsz I.ok.above⟩
theorem Inv.lt(I:Inv X ah σ H s):X.env.locals<s.heap.objs.size:=let ⟨_,hn,_⟩:=I.loc; hn.lt
theorem Inv.sz(I:Inv X ah σ H s):X.s₀.heap.objs.size<=s.heap.objs.size:=cI I.ok.above (lA I.lt)
theorem Inv.nofs(I:Inv X ah σ H s){a:af}(h:s.heap.objs.size<=a):a∉X.fs:=λhb=>by obtain⟨_,o,ho,_⟩:=I.ok.funs.mem hb;exact absurd (fQ (bC ho) (cI I.sz h)) (fk _)
theorem Inv.cne(I:Inv X ah σ H s):∀ x c,X.env.cells.lookup x=aa c->c≠X.env.locals:=λx c e z=>by
 obtain⟨v,o,ho,hd⟩:=I.cell x c e;obtain⟨m,⟨o',es,ep,jE,hd',_⟩,_⟩:=I.loc;rw[z,jE]at ho; cases ho; rw[hd']at hd; cases hd
theorem Inv.tab(I:Inv X ah σ H s):w6 X.K H:=λx hx c P h=>I.base.tbls P _ (I.ok.tab x hx c P h)
theorem Inv.funs(I:Inv X ah σ H s):s.heap.FunFrames X.base X.outer:=by
 have all:∀ (l:List Env),(∀ b∈gx l,b∈X.fs)->X.s₀.heap.FunFrames X.base l->s.heap.FunFrames X.base l:=by
  intro l
  induction l with
  | nil=>intro _ _; trivial
  | cons env r ih=>intro hs hl;obtain⟨hk,⟨L,o,hf,hn,ho,hd⟩,hr⟩:=hl;have hL:L∈X.fs:=hs L (by unfold gx; rw[nM,hf]; exact my);obtain⟨sl,e⟩:=I.base.slot L o ho (I.ok.frf L hL) hL λz=>I.ok.exfs L z hL;exact⟨hk,⟨L,_,hf,hn,e,hd⟩,ih (λb hb=>hs b (by unfold gx; rw[nM,hf]; exact kX _ hb)) hr⟩
 exact all X.outer (λ_ hb=>hb) I.ok.funs
theorem Inv.stack(I:Inv X ah σ H s):s.heap.FunFrames X.base X.stack:=by
 rcases I.ok.stk with e | ⟨e,hf⟩
 ·rw[e]; exact I.funs
 ·rw[e];obtain⟨m,hn,_⟩:=I.loc;refine .cons (by rw[I.ok.kind]; decide) hf hn ?_ I.funs;exact Jo (cI I.ok.bsz I.ok.above)
theorem Inv.stkSub(I:Inv X ah σ H s):∀ b∈gx X.stack,b∈X.env.locals::X.fs:=λb hb=>by
 rcases I.ok.stk with e | ⟨e,hf⟩
 ·rw[e]at hb; exact kX _ hb
 ·rw[e]at hb;unfold gx at hb;rw[nM,hf]at hb;exact hb
theorem Inv.stkFree(I:Inv X ah σ H s):∀ b∈gx X.stack,H b=ae:=λb hb=>by
 rcases cb.mp (I.stkSub b hb)with e | hb
 ·rw[e]; exact I.free
 ·obtain⟨_,o,ho,_⟩:=I.ok.funs.mem hb;exact I.base.free b o ho (I.ok.frf b hb) λz=>I.ok.exfs b z hb
theorem Inv.step{g':Array GenState}{t':Nat}{d':Drawn}{ch:List af}(I:Inv X ah σ H s)(mO:∀ b∈ch,(b∈X.ex\/X.s₀.heap.objs.size<=b)/\b≠X.env.locals/\(∀ x c,X.env.cells.lookup x=aa c->c≠b)/\∀ p∈X.pn++ah,p.1≠b)(keep:∀ b o,b≠X.env.locals->b∉X.fs->b∉ch->s.heap.get? b=aa o->H b=ae->h'.get? b=aa o)(slot:∀ b o,b≠X.env.locals->b∈X.fs->b∉ch->s.heap.get? b=aa o->H b=ae->∃ sl,h'.get? b=aa { o with slots:=sl }) (free:∀ b o,b∉ch->s.heap.get? b=aa o->H b=ae->H' b=ae)(there:∀ b o,b∉ch->s.heap.get? b=aa o->∃ o',h'.get? b=aa o')(tups:∀ b xs,H b=aa (.tup xs)->H' b=aa (.tup xs)) (frzs:∀ b o u,H b=aa (.frz o u)->H' b=aa (.frz o u)) (tbls:∀ b q,H b=aa (.tbl q)->H' b=aa (.tbl q))(ns:∀ m,s.heap.Ns X.env.locals m->h'.Ns X.env.locals m) (hok:d_ X.prog X.w H' h') (hg:nL g') : Inv X ah σ H' { s with heap:=h',gens:=g',drawn:=d',toks:=t' }:=by
 have neL:∀ b o,X.s₀.heap.get? b=aa o->b≠X.env.locals:=λb o e=>c7 (fQ (bC e) I.ok.above);have neC:∀ b o,X.s₀.heap.get? b=aa o->b∉X.ex->b∉ch:=λb o e hx hb=>by
  rcases(mO b hb).1 with z | z
  ·exact hx z
  ·exact absurd (fQ (bC e) z) (fk _)
 have cellK:∀ x c,X.env.cells.lookup x=aa c->∀ v,s.heap.IsCell c v->h'.IsCell c v:=λx c e v ⟨o,ho,hd⟩=>by
  have nch:c∉ch:=λz=>(mO c z).2.2.1 x c e rfl;by_cases hc:c∈X.fs
  ·obtain⟨sl,q⟩:=slot c o (I.cne x c e) hc nch ho (I.freeC x c e);exact⟨_,q,hd⟩
  ·exact⟨o,keep c o (I.cne x c e) hc nch ho (I.freeC x c e),hd⟩
 refine⟨I.ok,I.os,hg,⟨λb o e n hb hx=>?_,λb o e n hb hx=>?_,λb o e n hx=>?_,λb o e hx=>?_,λb xs e=>tups b xs (I.base.tups b xs e),λb o xs e=>frzs b o xs (I.base.frzs b o xs e),λb ps e=>?_⟩,?_,λx c e=>?_,?_,λx c e=>?_,λp hp=>?_,hok,I.len⟩
 ·exact keep b o (neL b o e) hb (neC b o e hx) (I.base.keep b o e n hb hx) (I.base.free b o e n hx)
 ·obtain⟨sl,e1⟩:=I.base.slot b o e n hb hx;obtain⟨sl',e2⟩:=slot b _ (neL b o e) hb (neC b o e hx) e1 (I.base.free b o e n hx);exact⟨sl',e2⟩
 ·obtain⟨o',e1⟩:=I.base.there b o e hx;exact free b o' (neC b o e hx) e1 (I.base.free b o e n hx)
 ·obtain⟨o',e1⟩:=I.base.there b o e hx;exact there b o' (neC b o e hx) e1
 ·exact tbls b _ (I.base.tbls b ps e)
 ·obtain⟨m,hn,hl⟩:=I.loc;refine⟨m,ns m hn,λi x v e1 e2 e3=>?_⟩;obtain⟨u,r,l⟩:=hl i x v e1 e2 e3;refine⟨u,r,?_⟩;rcases l with l | ⟨k,c,e,z⟩
  ·exact .inl l
  ·exact .inr ⟨k,c,e,cellK x c e _ z⟩
 ·obtain⟨v,z⟩:=I.cell x c e;exact⟨v,cellK x c e v z⟩
 ·obtain⟨m,⟨o,_,_,ho,_⟩,_⟩:=I.loc;exact free _ o (λz=>(mO _ z).2.1 rfl) ho I.free
 ·obtain⟨v,o,ho,hd⟩:=I.cell x c e;exact free c o (λz=>(mO c z).2.2.1 x c e rfl) ho (I.freeC x c e)
 ·obtain⟨e,n,ne,nf,d⟩:=I.pin p hp;have nch:p.1∉ch:=λz=>(mO p.1 z).2.2.2 p hp rfl;exact⟨keep p.1 p.2 ne nf nch e n,free p.1 p.2 nch e n,ne,nf,d⟩
theorem Inv.un{t':Nat}(I:Inv X ah σ H s)(u:Un X.fs [] H H' s.heap h')(hok:d_ X.prog X.w H' h'):Inv X ah σ H' { s with heap:=h',toks:=t' }:=by
 obtain⟨m,⟨o,es,ep,ho,r⟩,_⟩:=id I.loc;obtain⟨sl,hL⟩:=u.any ho I.free (by simp);exact I.step (g':=s.gens) (d':=s.drawn) (ch:=[]) (λ_ z=>nomatch z) (λb o _ hb _ e n=>u.keep b o e n hb (by simp)) (λb o _ hb _ e n=>u.slot b o e n hb (by simp)) (λb o _ e n=>u.free b o e n (by simp)) (λb o _ e=>u.there b o e (by simp)) u.tups u.frzs u.tbls (λm' hm=>by
  obtain⟨o',es',ep',jE,r'⟩:=hm;rw[ho]at jE; cases jE;exact⟨_,es',ep',hL,r'⟩) hok I.bare
theorem Inv.call{g':Array GenState}{t':Nat}{d':Drawn}{ch:List af}(I:Inv X ah σ H s)(u:Un (gx X.stack) ch H H' s.heap h')(hok:d_ X.prog X.w H' h')(hg:nL g')(mO:∀ b∈ch,(b∈X.ex\/X.s₀.heap.objs.size<=b)/\b≠X.env.locals/\(∀ x c,X.env.cells.lookup x=aa c->c≠b)/\∀ p∈X.pn++ah,p.1≠b) : Inv X ah σ H' { s with heap:=h',gens:=g',drawn:=d',toks:=t' }:=by
 obtain⟨m,⟨o,es,ep,ho,r⟩,_⟩:=id I.loc;obtain⟨sl,hL⟩:=u.any ho I.free λz=>(mO _ z).2.1 rfl;exact I.step (ch:=ch) mO (λb o hL hb hc e n=>u.keep b o e n (λz=>(cb.mp (I.stkSub b z)).elim hL hb) hc) (λb o _ _ hc e n=>u.any e n hc) (λb o hc e n=>u.free b o e n hc) (λb o hc e=>u.there b o e hc) u.tups u.frzs u.tbls (λm' hm=>by
  obtain⟨o',es',ep',jE,r'⟩:=hm;rw[ho]at jE; cases jE;exact⟨_,es',ep',hL,r'⟩) hok hg
theorem Inv.turned{t':Nat}{it:af}(I:Inv X ah σ H s)(k:∀ b o,b≠it->s.heap.get? b=aa o->h'.get? b=aa o)(hn:H it=ae)(hL:it≠X.env.locals)(h1:it∈X.ex\/X.s₀.heap.objs.size<=it) (h2:∀ x c,X.env.cells.lookup x=aa c->c≠it) (h3:∀ p∈X.pn++ah,p.1≠it):Inv X ah σ H { s with heap:=h',toks:=t' }:=by
 have nit:∀ b u,H b=aa u->b≠it:=λb u e z=>by rw[z,hn]at e; cases e
 refine I.step (g':=s.gens) (d':=s.drawn) (ch:=[it]) (λb hb=>?_) (λb o _ _ hc e _=>k b o (λz=>hc (by simp[z])) e) (λb o _ _ hc e _=>⟨o.slots,k b o (λz=>hc (by simp[z])) e⟩) (λ_ _ _ _ n=>n)
  (λb o hc e=>⟨o,k b o (λz=>hc (by simp[z])) e⟩) (λ_ _ e=>e) (λ_ _ _ e=>e) (λ_ _ e=>e) (λm hm=>?_) (λb u e=>?_) I.bare
 ·have e:b=it:=by simpa using hb
  subst e;exact⟨h1,hL,h2,h3⟩
 ·obtain⟨o,es,ep,ho,r⟩:=hm;exact⟨o,es,ep,k _ o (gW hL) ho,r⟩
 ·refine(I.hok b u e).stay (λc v hc q=>k c v ?_ q) (λ_ q=>q) λ_ _ q=>q;rcases hc with z | z
  ·rw[z]; exact nit b u e
  ·exact nit c _ z
theorem Inv.tok(I:Inv X ah σ H s)(t:Nat):Inv X ah σ H { s with toks:=t }:=I.un (h':=s.heap) (t':=t) Un.refl I.hok
theorem Inv.kept{t':Nat}(I:Inv X ah σ H s)(k:∀ b u,s.heap.get? b=aa u->h'.get? b=aa u):Inv X ah σ H { s with heap:=h',toks:=t' }:=I.un (Un.kept k) (I.hok.kept k)
theorem Inv.laid{a:af}{o:HO}{t':Nat}(I:Inv X ah σ H s)(k:∀ b u,s.heap.get? b=aa u->h'.get? b=aa u)(hp:s.heap.objs.size<=a)(new:dS X.prog X.w (upd H a o) h' a o) : Inv X ah σ (upd H a o) { s with heap:=h',toks:=t' }:=I.un (Un.laid k hp (I.hok.fresh hp)) (I.hok.laid k hp new)
theorem Inv.write{x e:af}{o:HO}{t':Nat}(I:Inv X ah σ H s)(mu:uC (H x))(he:e=x\/H e=aa (.own x))(k:∀ b u,b≠e->s.heap.get? b=aa u->h'.get? b=aa u)(tU:∃ u,h'.get? e=aa u)(new:dS X.prog X.w (upd H x o) h' x o):Inv X ah σ (upd H x o) { s with heap:=h',toks:=t' }:=I.un (Un.write mu he k tU) (I.hok.write mu he k tU new)
theorem Inv.pins_of{pins':List (af×Obj)}(I:Inv X ah σ H s)(h:∀ p∈pins',s.heap.get? p.1=aa p.2/\H p.1=ae/\p.1≠X.env.locals/\p.1∉X.fs/\∀ v,p.2.data≠.cell v):Inv X pins' σ H s :=⟨I.ok,I.os,I.bare,I.base,I.loc,I.cell,I.free,I.freeC,λp hp=>(eM.mp hp).elim (λz=>I.pin p (ze _ z)) (h p),I.hok,I.len⟩
theorem EG{N:List Str}(hN:N.Nodup){i j:Nat}{x:Str}(a:N[i]?=aa x)(b:N[j]?=aa x):i=j:=by obtain⟨h1,e1⟩:=eu.mp a;obtain⟨h2,e2⟩:=eu.mp b;exact(List.getElem_inj hN).mp (e1.trans e2.symm)
theorem HE{M:Model}{A:be}{E:ak->aq->Prop}{i:Nat}{x:Str}{v:V}{u:ak}{Q:Unit->aq->Prop}(I:Inv X ah σ H s)(hN:X.N.Nodup)(hi:X.N[i]?=aa x)(hx:Loc X.env.scope x)(r:RelV v u)(h:∀ s',Inv X ah (σ.set i (aa v)) H s'->(∃ a,i_ a s.heap s'.heap/\(a=X.env.locals\/X.env.cells.lookup x=aa a))->Q () s') (hf:X.fn x=ai\/X.env.scope.names.lookup x=aa .local:=by first | exact .inl rfl | exact .inr rfl | assumption):ax M A (storeName X.env x u) Q E s:=by
 obtain⟨m,hn,hl⟩:=id I.loc;have Dw:(X.env.scope.kind == .class || (X.env.scope.kind == .module && X.env.locals != X.env.globals))=ao:=by rw[I.ok.kind]; rfl
 have hiσ:i<σ.length:=by rw[I.len]; exact(eu.mp hi).1
 have cne:=I.cne;have tracked:∀ {a:af} {h':aE},(∃ o,s.heap.get? a=aa o/\H a=ae)->i_ a s.heap h'->d_ X.prog X.w H h':=λ{a h'} ha hs b ob e=>by
  obtain⟨_,_,wa⟩:=ha;refine(I.hok b ob e).stay (λc w' hc q=>(hs.2 c ?_).trans q) (λ_ q=>q) λ_ _ q=>q;rintro rfl;rcases hc with rfl | hc
  ·rw[wa]at e; cases e
  ·rw[wa]at hc; cases hc
 rcases hx with hk | hk
 ·refine wpAny_storeName_local hk hn (λh' hn' hs=>?_) Dw;obtain⟨oL,_,_,wp,_⟩:=id hn;refine h _ ⟨I.ok,I.os,I.bare,⟨λb o e n hb hx=>?_,λb o e n hb hx=>?_,I.base.free,λb o e hx=>?_,I.base.tups,I.base.frzs,I.base.tbls⟩,⟨_,hn',λj y v' e1 e2 e3=>?_⟩,λy c e=>?_,I.free,I.freeC,λp hp=>?_,tracked ⟨oL,wp,I.free⟩ hs,by simpa using I.len⟩ ⟨_,hs,.inl rfl⟩
  ·exact(hs.2 b (c7 (fQ (bC e) I.ok.above))).trans (I.base.keep b o e n hb hx)
  ·obtain⟨sl,e1⟩:=I.base.slot b o e n hb hx;exact⟨sl,(hs.2 b (c7 (fQ (bC e) I.ok.above))).trans e1⟩
  ·obtain⟨o',e1⟩:=I.base.there b o e hx;exact⟨o',(hs.2 b (c7 (fQ (bC e) I.ok.above))).trans e1⟩
  ·by_cases hj:j=i
   ·subst hj;rw[hi]at e1; cases e1;rw[ip hiσ]at e2;cases e2;exact⟨u,r,.inl ⟨hk,by simp⟩⟩
   ·rw[fI (gW hj)]at e2;obtain⟨u',r',q⟩:=hl j y v' e1 e2 e3;refine⟨u',r',?_⟩;rcases q with⟨k,e⟩ | ⟨k,c,e,z⟩
    ·refine .inl ⟨k,?_⟩;have:y≠x:=λe=>hj (EG hN e1 (e ▸ hi));simp[this,e]
    ·exact .inr ⟨k,c,e,z.sameBut hs (cne y c e)⟩
  ·obtain⟨w',z⟩:=I.cell y c e;exact⟨w',z.sameBut hs (cne y c e)⟩
  ·obtain⟨e,n,ne,nf,d⟩:=I.pin p hp;exact⟨(hs.2 p.1 ne).trans e,n,ne,nf,d⟩
 ·have hfn:X.fn x=ai:=by
   rcases hf with z | z
   ·exact z
   ·rw[z]at hk; cases hk
  obtain⟨c,hc⟩:=I.ok.has x (.inl hk);obtain⟨w',z⟩:=I.cell x c hc;refine wpAny_storeName_cell I.ok.kind hk hc z (λh' iz hs=>?_);obtain⟨oc,hoc,hocd⟩:=id z;refine h { s with heap:=h' } ⟨I.ok,I.os,I.bare,⟨λb o e n hb hx=>?_,λb o e n hb hx=>?_,I.base.free,λb o e hx=>?_,I.base.tups,I.base.frzs,I.base.tbls⟩,⟨m,hn.sameBut hs (gW (cne x c hc)),λj y v' e1 e2 e3=>?_⟩,λy c' e=>?_,I.free,I.freeC,λp hp=>?_,tracked ⟨oc,hoc,I.freeC x c hc⟩ hs,by simpa using I.len⟩ ⟨c,hs,.inr hc⟩
  ·exact(hs.2 b (c7 (fQ (bC e) (I.ok.cab x c hfn hc)))).trans (I.base.keep b o e n hb hx)
  ·obtain⟨sl,e1⟩:=I.base.slot b o e n hb hx;exact⟨sl,(hs.2 b (c7 (fQ (bC e) (I.ok.cab x c hfn hc)))).trans e1⟩
  ·obtain⟨o',e1⟩:=I.base.there b o e hx;exact⟨o',(hs.2 b (c7 (fQ (bC e) (I.ok.cab x c hfn hc)))).trans e1⟩
  ·by_cases hj:j=i
   ·subst hj;rw[hi]at e1; cases e1;rw[ip hiσ]at e2;cases e2;exact⟨u,r,.inr ⟨.inl hk,c,hc,iz⟩⟩
   ·rw[fI (gW hj)]at e2;obtain⟨u',r',q⟩:=hl j y v' e1 e2 e3;refine⟨u',r',?_⟩;rcases q with q | ⟨k,c',e,z'⟩
    ·exact .inl q
    ·refine .inr ⟨k,c',e,z'.sameBut hs ?_⟩;rintro rfl;exact hj (EG hN e1 (I.ok.inj _ _ _ e hc ▸ hi))
  ·by_cases hcc:c'=c
   ·subst hcc; exact⟨_,iz⟩
   ·obtain⟨w2,z2⟩:=I.cell y c' e;exact⟨w2,z2.sameBut hs hcc⟩
  ·obtain⟨e,n,ne,nf,d⟩:=I.pin p hp;refine⟨(hs.2 p.1 ?_).trans e,n,ne,nf,d⟩;intro q;rw[q,hoc]at e;have q':oc=p.2:=eJ e;exact d w' (by rw[← q']; exact hocd)
theorem yx{M:Model}{A:be}{E:ak->aq->Prop}{i:Nat}{x:Str}{v:V}{u:ak}{Q:Unit->aq->Prop}(I:Inv X ah σ H s)(hN:X.N.Nodup)(hi:X.N[i]?=aa x)(hx:Loc X.env.scope x)(r:RelV v u)(h:∀ s',Inv X ah (σ.set i (aa v)) H s'->Q () s') (hf:X.fn x=ai\/X.env.scope.names.lookup x=aa .local:=by first | exact .inl rfl | exact .inr rfl | assumption):ax M A (storeName X.env x u) Q E s :=HE I hN hi hx r (λs' I' _=>h s' I') hf
theorem Inv.call'{s':aq}{ch:List af}(I:Inv X ah σ H s)(ho:s'.os=s.os)(u:Un (gx X.stack) ch H H' s.heap s'.heap)(hok:d_ X.prog X.w H' s'.heap)(hg:nL s'.gens)(mO:∀ b∈ch,(b∈X.ex\/X.s₀.heap.objs.size<=b)/\b≠X.env.locals/\(∀ x c,X.env.cells.lookup x=aa c->c≠b)/\∀ p∈X.pn++ah,p.1≠b):Inv X ah σ H' s':=by obtain⟨h',g',d',t',o'⟩:=s';have e:o'=s.os:=ho;subst e;exact I.call (g':=g') (t':=t') (d':=d') u hok hg mO
end
abbrev XK:=ak->Option af->Hp->Prop
abbrev St:=List (Option V)
abbrev VK:=V->Hp->Prop
abbrev TE:=St->Hp->VK->Prop
abbrev TT:=St->Hp->(Bool->Hp->Prop)->Prop
abbrev TA:=St->Hp->(List V->Hp->Prop)->Prop
structure ln where
 nx:St->Hp->Prop
 rt:VK
 bk:St->Hp->Prop:=λ_ _=>False
 ct:St->Hp->Prop:=λ_ _=>False
abbrev TS:=ln->St->Hp->Prop
def EP(X:Cx)(ah:List (af×Obj))(σ:St)(Q:VK)(u:ak)(s':aq):Prop:=∃ v H',Inv X ah σ H' s'/\RelV v u/\Q v H'
def TP(X:Cx)(ah:List (af×Obj))(σ:St)(Q:Bool->Hp->Prop)(b:Bool)(s':aq):Prop:=∃ H',Inv X ah σ H' s'/\Q b H'
def AP(X:Cx)(ah:List (af×Obj))(σ:St)(Q:List V->Hp->Prop)(us:List ak)(s':aq):Prop:=∃ vs H',Inv X ah σ H' s'/\bI vs us/\Q vs H'
def SP(X:Cx)(ah:List (af×Obj))(D:ln)(f:Flow)(s':aq):Prop :=
 match f with
 | .next=>∃ σ' H',Inv X ah σ' H' s'/\D.nx σ' H'
 | .brk=>∃ σ' H',Inv X ah σ' H' s'/\D.bk σ' H'
 | .cont=>∃ σ' H',Inv X ah σ' H' s'/\D.ct σ' H'
 | .ret u=>∃ v σ' H',Inv X ah σ' H' s'/\RelV v u/\D.rt v H'
def PE(X:Cx)(e:aC)(t:TE):Prop :=
 ∀ (ah:List (af×Obj)) (s:aq) (σ:St) (H:Hp) (Q:VK),Inv X ah σ H s->t σ H Q->ax (ay X.prog X.w) X.A (bv e X.env) (EP X ah σ Q) X.xe s
def PT(X:Cx)(e:aC)(t:TT):Prop :=
 ∀ (ah:List (af×Obj)) (s:aq) (σ:St) (H:Hp) (Q:Bool->Hp->Prop),Inv X ah σ H s->t σ H Q->ax (ay X.prog X.w) X.A (nN e X.env (bv e X.env)) (TP X ah σ Q) X.xe s
def PW(X:Cx)(e:aC)(t:TT):Prop :=
 ∀ (iO:Sem ak) (ah:List (af×Obj)) (s:aq) (σ:St) (H:Hp) (Q:Bool->Hp->Prop),Inv X ah σ H s->t σ H Q->ax (ay X.prog X.w) X.A (nN e X.env iO) (TP X ah σ Q) X.xe s
def PA(X:Cx)(es:List aC)(t:TA):Prop :=
 ∀ (pos:Pos) (ah:List (af×Obj)) (s:aq) (σ:St) (H:Hp) (Q:List V->Hp->Prop),Inv X ah σ H s->t σ H Q->ax (ay X.prog X.w) X.A (spliced (fZ pos (bq es X.env))) (AP X ah σ Q) X.xe s
def PS(X:Cx)(st:bf)(t:TS):Prop :=
 ∀ (ah:List (af×Obj)) (s:aq) (σ:St) (H:Hp) (D:ln),Inv X ah σ H s->t D σ H->ax (ay X.prog X.w) X.A (exec st X.env) (SP X ah D) X.xe s
def jS(X:Cx)(st:List bf)(t:TS):Prop :=
 ∀ (ah:List (af×Obj)) (s:aq) (σ:St) (H:Hp) (D:ln),Inv X ah σ H s->t D σ H->ax (ay X.prog X.w) X.A (execs st X.env) (SP X ah D) X.xe s
theorem aU{α:Type}{t:Sem α}{Q Q':α->aq->Prop}{M:Model}{A:be}{E:ak->aq->Prop}{s:aq}(h:ax M A t Q E s)(hQ:∀ a s,Q a s->Q' a s):ax M A t Q' E s:=dW h hQ λ_ _ x=>x
section
variable{X:Cx}
def Iq(i:Nat):TE:=λσ H Q=>∃ v,σ[i]?=aa (aa v)/\Q v H
def tC(v:V):TE:=λ_ H Q=>Q v H
theorem gP{i:Nat}{x:Str}{pos:Pos}(hN:X.N[i]?=aa x)(hv:fW X.env.scope x)(hd:(x == ("__debug__" : Str))=ao:=by decide)(bM:(x == ("__classdict__" : Str))=ao:=by decide):PE X (.Name x pos) (Iq i):=by
 intro ah s σ H Q I h;obtain⟨v,e,h⟩:=h;obtain⟨m,hn,hl⟩:=I.loc;obtain⟨u,r,l⟩:=hl i x v hN e hv;have fin:EP X ah σ Q u s:=⟨v,H,I,r,h⟩
 rcases l with⟨hk,hm⟩ | ⟨hk,c,hc,lL⟩
 ·exact zf (wpAny_loadName_local I.ok.kind hk hn hm fin) hd
 ·rcases hk with hk | hk
  ·exact zf (wpAny_loadName_cell I.ok.kind hk hc lL fin) hd
  ·exact zf (wpAny_loadName_free I.ok.kind hk hc lL fin bM) hd
theorem IF{i j pos}:PE X (.Constant (.int i) j pos) (tC (.int i)):=λ_ _ _ H _ I h=>wpAny_Constant_int ⟨.int i,H,I.tok _,⟨_,rfl⟩,h⟩
theorem PR{b j pos}:PE X (.Constant (.bool b) j pos) (tC (.bl b)):=λ_ _ _ H _ I h=>Constant_bool ⟨.bl b,H,I,rfl,h⟩
theorem OA{x j pos}:PE X (.Constant (.str x) j pos) (tC (.str x)):=λ_ _ _ H _ I h=>Calls.Constant_str ⟨.str x,H,I.tok _,⟨_,rfl⟩,h⟩
def Gl(X:Cx)(x:Str):Prop:=X.env.kindOf x=aa .globalImplicit
theorem Cf{E:ak->aq->Prop}{ah:List (af×Obj)}{s:aq}{σ:St}{H:Hp}{x:Str}{u:ak}{pos:Pos}{Q:ak->aq->Prop}(I:Inv X ah σ H s)(hg:Gl X x)(hm:X.mg x=aa u)(h:Q u s)(hd:(x == ("__debug__" : Str))=ao:=by decide):ax (ay X.prog X.w) X.A (bv (.Name x pos) X.env) Q E s :=Calls.Name_function_global I.ok.kind hg (Calls.loadGlobal_global (by rw[I.ok.glob]; exact I.mod.glob.keeps I.bk) hm h) hd
theorem sH{E:ak->aq->Prop}{ah:List (af×Obj)}{s:aq}{σ:St}{H:Hp}{x:Str}{u:ak}{pos:Pos}{Q:ak->aq->Prop}(I:Inv X ah σ H s)(hg:Gl X x)(hm:X.mg x=ae)(hv:fq x=aa u)(h:Q u s)(hn:x≠"__name__":=by decide) (hd:(x == ("__debug__" : Str))=ao:=by decide):ax (ay X.prog X.w) X.A (bv (.Name x pos) X.env) Q E s:=by obtain⟨mb,h1,h2⟩:=I.mod.blt;exact Calls.Name_function_global I.ok.kind hg (Calls.loadGlobal_builtin (by rw[I.ok.glob]; exact I.mod.glob.keeps I.bk) hm (by rw[I.ok.blt]; exact h1.keeps I.bk) ((h2 x hn).trans hv) h) hd
theorem Hc{x:Str}{v:V}{u:ak}{pos:Pos}(hg:Gl X x)(hm:X.mg x=aa u)(r:RelV v u)(hd:(x == ("__debug__" : Str))=ao:=by decide):PE X (.Name x pos) (tC v) :=λ_ _ _ H _ I h=>Cf I hg hm ⟨v,H,I,r,h⟩ hd
theorem N8{x:Str}{v:V}{u:ak}{pos:Pos}(hg:Gl X x)(hm:X.mg x=ae)(hv:fq x=aa u)(r:RelV v u)(hn:x≠"__name__":=by decide)(hd:(x == ("__debug__" : Str))=ao:=by decide):PE X (.Name x pos) (tC v) :=λ_ _ _ H _ I h=>sH I hg hm hv ⟨v,H,I,r,h⟩ hn hd
variable{a b:aC}{ta tb:TE}{pos:Pos}
def PC(X:Cx)(op:CmpOp)(a b:aC)(t:TE):Prop :=
 ∀ (ah:List (af×Obj)) (s:aq) (σ:St) (H:Hp) (Q:VK),Inv X ah σ H s->t σ H Q ->
  ax (ay X.prog X.w) X.A (bv a X.env) (λv s₁=>ax (ay X.prog X.w) X.A (bv b X.env) (λu s₂=>ax (ay X.prog X.w) X.A (eY op v u) (EP X ah σ Q) X.xe s₂) X.xe s₁) X.xe s
theorem IU(b:aC){op:CmpOp}(h:op≠.In)(h2:op≠.NotIn):mz op b=ao:=by
 have e1:(op == CmpOp.In)=ao:=by cases op <;> first | rfl | exact absurd rfl h
 have e2:(op == CmpOp.NotIn)=ao:=by cases op <;> first | rfl | exact absurd rfl h2
 cases b <;> simp[mz,e1,e2]
def tB(t:TE):TT:=λσ H Q=>t σ H λx H1=>∃ c,x = .bl c/\Q c H1
theorem MF{op:CmpOp}{t:TE}(h:PC X op a b t)(h1:mz op b=ao:=by first | exact IU _ (by decide) (by decide) | rfl):PE X (.Compare a [op] [b] pos) t:=λah s σ H Q I hw=>wpAny_Compare1 (h ah s σ H Q I hw) h1
theorem Ia{op:CmpOp}{t:TE}(h:PC X op a b t)(h1:mz op b=ao:=by first | exact IU _ (by decide) (by decide) | rfl):PT X (.Compare a [op] [b] pos) (tB t):=by
 intro ah s σ H Q I hw;refine wpAny_isTrue_Compare1 (aU (h ah s σ H _ I hw) λv s1 h1=>aU h1 λu s2 h2=>aU h2 λc s3 ⟨x,H1,I1,r1,q1⟩=>?_) h1;obtain⟨d,rfl,q⟩:=q1;cases r1;exact nO ⟨H1,I1,q⟩
theorem Rj{e:aC}{t:TE}(h:PE X e t)(he:∀ iO,nN e X.env iO=(do let v ← iO; standAt e.pos; holding [v] (truthy v)):=by intro _; rfl):PT X e (tB t):=by
 intro ah s σ H Q I hw;refine isTrue_plain (aU (h ah s σ H _ I hw) λv s1 ⟨x,H1,I1,r1,q1⟩=>?_) (he _);obtain⟨d,rfl,q⟩:=q1;cases r1;exact nO ⟨H1,I1,q⟩
variable{tA tB':TT}{rest:List aC}
def Lp(t u:TT):TT:=λσ H Q=>t σ H λc H1=>if c=ai then Q ai H1 else u σ H1 Q
def SM(t:TT):TT:=λσ H Q=>t σ H λc H1=>Q (!c) H1
theorem Oj(ha:PT X a tA):PW X (.BoolOp .Or [a] pos) tA:=by
 intro wh ah s σ H Q I h;refine isTrue_or (aU (ha ah s σ H Q I h) λc s1 e=>?_);cases c with
 | false=>exact isTrue_or_nil e
 | true=>exact e
theorem P3(ha:PT X a tA)(hb:PW X (.BoolOp .Or (b::rest) pos) tB'):PW X (.BoolOp .Or (a::b::rest) pos) (Lp tA tB'):=by
 intro wh ah s σ H Q I h;refine isTrue_or (aU (ha ah s σ H _ I h) λc s1 ⟨H1,I1,q1⟩=>?_);cases c with
 | true=>exact⟨H1,I1,q1⟩
 | false=>exact hb wh ah s1 σ H1 Q I1 q1
theorem Mt(ha:PT X a tA):PT X (.UnaryOp .Not a pos) (SM tA):=by intro ah s σ H Q I h;exact isTrue_not (ha ah s σ H (λc H1=>Q (!c) H1) I h)
def Ml(ta tb:TE):TE:=λσ H Q=>ta σ H λx H1=>∃ c,x = .bl c/\if c=ai then tb σ H1 Q else Q (.bl ao) H1
def OV(ta:TE):TE:=λσ H Q=>ta σ H λx H1=>∃ c,x = .bl c/\Q (.bl (!c)) H1
theorem Nr{op}{t:TE}(h:PE X a t):PE X (.BoolOp op [a] pos) t:=λah s σ H Q I hw=>BoolOp_one (h ah s σ H Q I hw)
theorem KH(ha:PE X a ta)(hb:PE X (.BoolOp .And (b::rest) pos) tb):PE X (.BoolOp .And (a::b::rest) pos) (Ml ta tb):=by
 intro ah s σ H Q I h;refine BoolOp_and (aU (ha ah s σ H _ I h) λv s1 ⟨x,H1,I1,r1,q1⟩=>?_);obtain⟨c,rfl,q1⟩:=q1;cases r1;refine nO ?_;cases c with
 | true=>exact hb ah s1 σ H1 Q I1 q1
 | false=>exact⟨.bl ao,H1,I1,rfl,q1⟩
theorem RN(ha:PE X a ta):PE X (.UnaryOp .Not a pos) (OV ta):=by
 intro ah s σ H Q I h;refine UnaryOp_ (aU (ha ah s σ H _ I h) λv s1 ⟨x,H1,I1,r1,q1⟩=>?_);obtain⟨c,rfl,q1⟩:=q1;cases r1;exact not_of (nO ⟨.bl (!c),H1,I1,rfl,q1⟩)
end
def ce(K:az)(H:Hp)(a:af)(xs:List V):Prop :=
 Rd H a (.lst xs) \/
  ∃ (o:Obj) (its:Array ak) (n:Nat),K.lookup a=aa o/\o.cls = .type "list"/\o.dict=ae/\o.data = .seq its n/\its.size<=bp/\bI xs its.toList
def dj(K:az)(H:Hp)(a:af)(xs:List V):Prop :=
 Rd H a (.tup xs) \/
  ∃ (o:Obj) (its:Array ak) (n:Nat),K.lookup a=aa o/\o.cls = .type "tuple"/\o.data = .seq its n/\its.size<=bp/\bI xs its.toList
def Uk:ak->Option V
 | .none=>aa .non
 | .bool b=>aa (.bl b)
 | .int i _=>aa (.int i)
 | .str x _=>aa (.str x)
 | .bytes b _=>aa (.byt b)
 | .float b _=>aa (.flt b)
 | .ref a=>aa (.ref a)
 | .type n=>aa (.ty n)
 | _=>ae
theorem RelV.abs{x:V}{u:ak}(r:RelV x u):Uk u=aa x:=by
 cases x with
 | non=>cases r; rfl
 | bl _=>cases r; rfl
 | int _=>obtain⟨t,rfl⟩:=r; rfl
 | str _=>obtain⟨t,rfl⟩:=r; rfl
 | byt _=>obtain⟨t,rfl⟩:=r; rfl
 | flt _=>obtain⟨t,rfl⟩:=r; rfl
 | ref _=>cases r; rfl
 | ty _=>cases r; rfl
theorem RelV.inj{x y:V}{u:ak}(r:RelV x u)(q:RelV y u):x=y:=eJ (r.abs.symm.trans q.abs)
theorem bI.inj:∀ {xs ys:List V} {us:List ak},bI xs us->bI ys us->xs=ys
 | _,_,_,.nil,.nil=>rfl
 | _,_,_,.cons r t,.cons r' t'=>by rw[r.inj r',bI.inj t t']
section
variable{X:Cx}{ah:List (af×Obj)}{σ:St}{H:Hp}{s:aq}{a:af}{xs ys:List V}
theorem ce.of{K:az}(h:H a=aa (.lst xs)):ce K H a xs:=.inl (.inl h)
theorem dj.of{K:az}(h:H a=aa (.tup xs)):dj K H a xs:=.inl (.inl h)
theorem Inv.list(I:Inv X ah σ H s)(h:ce X.K H a xs):∃ its:List ak,bI xs its/\PlainL s.heap a its.toArray/\xs.length<=bp:=by
 rcases h with h | ⟨o,its,n,hk,hc,hd,hs,hz,r⟩
 ·obtain⟨z,its,n,r,e⟩:=h.ok I.hok;exact⟨its,r,⟨_,n,e,rfl,rfl,rfl⟩,z⟩
 ·refine⟨its.toList,r,⟨o,n,I.kIn a o hk,hc,hd,by simpa using hs⟩,?_⟩;have e:=r.length;simp only[gX]at e;lia
theorem Inv.tuple(I:Inv X ah σ H s)(h:dj X.K H a xs):∃ its:List ak,bI xs its/\IsTup s.heap a its.toArray/\xs.length<=bp:=by
 rcases h with h | ⟨o,its,n,hk,hc,hs,hz,r⟩
 ·obtain⟨z,its,r,p,_⟩:=h.ok I.hok;exact⟨its,r,p,z⟩
 ·refine⟨its.toList,r,⟨o,I.kIn a o hk,hc,n,by simpa using hs⟩,?_⟩;have e:=r.length;simp only[gX]at e;lia
theorem Inv.list_inj(I:Inv X ah σ H s)(h:ce X.K H a xs)(h':ce X.K H a ys):xs=ys:=by
 obtain⟨its,r,⟨o,n,e,_,_,d⟩,_⟩:=I.list h;obtain⟨its',r',⟨o',n',e',_,_,d'⟩,_⟩:=I.list h';rw[e]at e'; cases e';rw[d]at d';injection d' with d1 _;have:its=its':=by simpa using congrArg Array.toList d1
 subst this;exact r.inj r'
theorem Inv.tuple_inj(I:Inv X ah σ H s)(h:dj X.K H a xs)(h':dj X.K H a ys):xs=ys:=by
 obtain⟨its,r,⟨o,e,_,n,d⟩,_⟩:=I.tuple h;obtain⟨its',r',⟨o',e',_,n',d'⟩,_⟩:=I.tuple h';rw[e]at e'; cases e';rw[d]at d';injection d' with d1 _;have:its=its':=by simpa using congrArg Array.toList d1
 subst this;exact r.inj r'
end
abbrev Cx.wish(X:Cx)(E:ak->aq->Prop):Cx:={ X with xe:=E }
abbrev Cx.nox(X:Cx):Cx:=X.wish λ_ _=>False
theorem Cx.Ok.wish{X:Cx}(ok:X.Ok)(E:ak->aq->Prop):(X.wish E).Ok :=⟨ok.mod,ok.kind,ok.glob,ok.blt,ok.above,ok.inj,ok.has,ok.cab,ok.hd,ok.frames,ok.stk,ok.exf,ok.bs,ok.bsz,ok.noex,ok.exfs,ok.funs,ok.frf,ok.tab⟩
theorem Cx.Ok.unwish{X:Cx}{E:ak->aq->Prop}(ok:(X.wish E).Ok):X.Ok :=⟨ok.mod,ok.kind,ok.glob,ok.blt,ok.above,ok.inj,ok.has,ok.cab,ok.hd,ok.frames,ok.stk,ok.exf,ok.bs,ok.bsz,ok.noex,ok.exfs,ok.funs,ok.frf,ok.tab⟩
section
variable{X:Cx}{ah:List (af×Obj)}{σ:St}{H:Hp}{s:aq}{E:ak->aq->Prop}
theorem Inv.wish(I:Inv X ah σ H s)(E:ak->aq->Prop):Inv (X.wish E) ah σ H s:=⟨I.ok.wish E,I.os,I.bare,I.base,I.loc,I.cell,I.free,I.freeC,I.pin,I.hok,I.len⟩
theorem Inv.unwish(I:Inv (X.wish E) ah σ H s):Inv X ah σ H s:=⟨I.ok.unwish,I.os,I.bare,I.base,I.loc,I.cell,I.free,I.freeC,I.pin,I.hok,I.len⟩
theorem SP.unwish{D:ln}{f:Flow}{s':aq}(h:SP (X.wish E) ah D f s'):SP X ah D f s':=by
 cases f with
 | next=>obtain⟨σ',H',I,q⟩:=h; exact⟨σ',H',I.unwish,q⟩
 | brk=>obtain⟨σ',H',I,q⟩:=h; exact⟨σ',H',I.unwish,q⟩
 | cont=>obtain⟨σ',H',I,q⟩:=h; exact⟨σ',H',I.unwish,q⟩
 | ret u=>obtain⟨v,σ',H',I,r,q⟩:=h; exact⟨v,σ',H',I.unwish,r,q⟩
theorem PE.nox{e:aC}{t:TE}(h:PE X.nox e t):PE X e t:=λah s σ H Q I hw=>dW (h ah s σ H Q (I.wish _) hw) (λ_ _ ⟨v,H',I',r,q⟩=>⟨v,H',I'.unwish,r,q⟩) λ_ _ z=>kj z
theorem PT.nox{e:aC}{t:TT}(h:PT X.nox e t):PT X e t:=λah s σ H Q I hw=>dW (h ah s σ H Q (I.wish _) hw) (λ_ _ ⟨H',I',q⟩=>⟨H',I'.unwish,q⟩) λ_ _ z=>kj z
theorem jS.nox{st:List bf}{t:TS}(h:jS X.nox st t):jS X st t:=λah s σ H D I hw=>dW (h ah s σ H D (I.wish _) hw) (λ_ _ q=>q.unwish) λ_ _ z=>kj z
end
section
variable{X:Cx}{st:bf}{rest:List bf}{t u:TS}{e:aC}{te:TE}{pos:Pos}
def NH:TS:=λD σ H=>D.nx σ H
def Mq(t u:TS):TS:=λD σ H=>t { D with nx:=u D } σ H
theorem L7:jS X [] NH:=λ_ _ σ H _ I h=>Ct ⟨σ,H,I,h⟩
theorem KR(h1:PS X st t)(h2:jS X rest u):jS X (st::rest) (Mq t u):=by
 intro ah s σ H D I h;refine wpAny_execs_cons (aU (h1 ah s σ H { D with nx:=u D } I h) λf s1 q=>?_);cases f with
 | next=>obtain⟨σ',H',I',q⟩:=q;exact h2 ah s1 σ' H' D I' q
 | ret v=>exact q
 | brk=>exact q
 | cont=>exact q
theorem L4(h1:PS X st t):jS X [st] t:=by
 intro ah s σ H D I h;refine wpAny_execs_cons (aU (h1 ah s σ H D I h) λf s1 q=>?_);cases f with
 | next=>exact Ct q
 | ret v=>exact q
 | brk=>exact q
 | cont=>exact q
theorem Inv.quiet{ah:List (af×Obj)}{σ:St}{H:Hp}{s:aq}(I:Inv X ah σ H s):interactive X.env=ao:=by simp[interactive,I.ok.kind]
def Ph(te:TE):TS:=λD σ H=>te σ H λ_ H1=>D.nx σ H1
theorem Bc(he:PE X e te)(hs:mB e ae pos.line X.env=pure ao:=by rfl):PS X (.Expr e pos) (Ph te):=by intro ah s σ H D I h;exact wpAny_Expr_any (aU (he ah s σ H _ I h) λv s1 ⟨x,H1,I1,r1,q1⟩=>⟨σ,H1,I1,q1⟩) I.quiet hs
def OO(te:TE):TS:=λD σ H=>te σ H D.rt
theorem xy(he:PE X e te):PS X (.Return (aa e) pos) (OO te):=by intro ah s σ H D I h;exact wpAny_Return_some (aU (he ah s σ H _ I h) λv s1 ⟨x,H1,I1,r1,q1⟩=>⟨x,σ,H1,I1,r1,q1⟩)
def Rp:TS:=λD _ H=>D.rt .non H
theorem Tr:PS X (.Return ae pos) Rp:=λ_ _ σ H _ I h=>wpAny_Return_none ⟨.non,σ,H,I,rfl,h⟩
def Tj(c:TT)(t u:TS):TS:=λD σ H=>c σ H λb H1=>if b=ai then t D σ H1 else u D σ H1
theorem S5{c:aC}{a b:List bf}{tc:TT}(hc:PT X c tc)(ha:jS X a t)(hb:jS X b u):PS X (.If c a b pos) (Tj tc t u):=by
 intro ah s σ H D I h;refine wpAny_If (aU (hc ah s σ H _ I h) λd s1 ⟨H1,I1,q1⟩=>?_);cases d with
 | true=>exact ha ah s1 σ H1 D I1 q1
 | false=>exact hb ah s1 σ H1 D I1 q1
end
abbrev TG:=V->St->Hp->(St->Hp->Prop)->Prop
abbrev qb:=List V->St->Hp->(St->Hp->Prop)->Prop
def PG(X:Cx)(target:aC)(t:TG):Prop :=
 ∀ (ah:List (af×Obj)) (s:aq) (σ:St) (H:Hp) (v:V) (u:ak) (Q:St->Hp->Prop),Inv X ah σ H s->RelV v u->t v σ H Q ->
  ax (ay X.prog X.w) X.A (assign target X.env u) (λ_ s'=>∃ σ' H',Inv X ah σ' H' s'/\Q σ' H') X.xe s
def xt(X:Cx)(ts:List aC)(t:qb):Prop :=
 ∀ (ah:List (af×Obj)) (s:aq) (σ:St) (H:Hp) (vs:List V) (us:List ak) (Q:St->Hp->Prop),Inv X ah σ H s->bI vs us->t vs σ H Q ->
  ax (ay X.prog X.w) X.A (assignInOrder ((vE ts X.env).map (·.2)) us) (λ_ s'=>∃ σ' H',Inv X ah σ' H' s'/\Q σ' H') X.xe s
section
variable{X:Cx}{pos:Pos}
def En(i:Nat):TG:=λv σ H Q=>Q (σ.set i (aa v)) H
theorem Cp{i:Nat}{x:Str}(hN:X.N.Nodup)(hi:X.N[i]?=aa x)(hx:Loc X.env.scope x)(hf:X.fn x=ai\/X.env.scope.names.lookup x=aa .local:=by first | exact .inl rfl | exact .inr rfl | assumption):PG X (.Name x pos) (En i):=by intro ah s σ H v u Q I r h;exact Cu (yx I hN hi hx r (λs' I'=>⟨_,H,I',h⟩) hf)
def bO:qb:=λvs σ H Q=>vs=[]/\Q σ H
def ON(t:TG)(u:qb):qb:=λvs σ H Q=>∃ v r,vs=v::r/\t v σ H λσ' H'=>u r σ' H' Q
theorem QS:xt X [] bO:=by
 intro ah s σ H vs us Q I r h;obtain⟨e,h⟩:=h;subst e;cases r;exact assignInOrder_nil ⟨σ,H,I,h⟩
theorem IX{e:aC}{es:List aC}{t:TG}{u:qb}(h1:PG X e t)(h2:xt X es u)(hs:(vE (e::es) X.env).map (·.2)=assign e X.env::(vE es X.env).map (·.2):=by rfl):xt X (e::es) (ON t u):=by
 intro ah s σ H vs us Q I r h;obtain⟨v,vr,e1,h⟩:=h;subst e1;cases r with
 | cons r rr=>rw[hs];refine assignInOrder_cons (aU (h1 ah s σ H _ _ _ I r h) λ_ s1 ⟨σ1,H1,I1,q1⟩=>?_);exact h2 ah s1 σ1 H1 _ _ Q I1 rr q1
def QV(K:az)(n:Nat)(t:qb):TG:=λv σ H Q=>∃ a xs,v = .ref a/\dj K H a xs/\xs.length=n/\t xs σ H Q
theorem QZ{es:List aC}{k:Nat}{t:qb}{n:Nat}(hc:X.calm=ai)(h:xt X es t)(hn:(vE es X.env).length=n:=by rfl) (lQ:(vE es X.env).findIdx? (·.1)=ae:=by rfl):PG X (.Tuple es k pos) (QV X.K n t):=by
 intro ah s σ H v u Q I r hw;obtain⟨a,xs,e1,hq,hl,hw⟩:=hw;subst e1;cases r;obtain⟨its,rv,ht,hz⟩:=I.tuple hq;refine assign_Tuple_tuple (I.ok.hd hc) ht (by simp[hn,← hl,rv.length]) lQ λh' hx=>?_;have I1:Inv X ah σ H { s with heap:=h' }:=I.kept (t':=s.toks) λb o e=>hx b o (c7 (bC e)) e;exact h ah _ σ H xs _ Q I1 (by simpa using rv) hw
def E2(te:TE)(g:TG):TS:=λD σ H=>te σ H λx H1=>g x σ H1 D.nx
theorem N9{tg e:aC}{te:TE}{g:TG}(he:PE X e te)(hg:PG X tg g)(hs:swapsWithSole [tg] e pos.line X.env=pure ao:=by rfl)(hw:swappedStores [tg] e X.env=pure ae:=by rfl)(h1:(vE [tg] X.env).map (·.2)=[assign tg X.env]:=by rfl):PS X (.Assign [tg] e pos) (E2 te g):=by intro ah s σ H D I h;refine wpAny_Assign_stores (aU (he ah s σ H _ I h) λv s1 ⟨x,H1,I1,r1,q1⟩=>?_) hs hw;rw[h1];exact aU (hg ah s1 σ H1 x v _ I1 r1 q1) λ_ s2 q=>q
theorem IA{i:Nat}{x:Str}{e:aC}{te:TE}{pos':Pos}(hN:X.N.Nodup)(hi:X.N[i]?=aa x)(hx:Loc X.env.scope x)(he:PE X e te)(hs:mB e (aa (.Name x pos')) pos.line X.env=pure ao:=by rfl)(hf:X.fn x=ai\/X.env.scope.names.lookup x=aa .local:=by first | exact .inl rfl | exact .inr rfl | assumption) : PS X (.Assign [.Name x pos'] e pos) (E2 te (En i)):=by intro ah s σ H D I h;refine wpAny_Assign_Name (aU (he ah s σ H _ I h) λv s1 ⟨y,H1,I1,r1,q1⟩=>?_) hs;exact yx I1 hN hi hx r1 (λs2 I2=>⟨_,H1,I2,q1⟩) hf
def MY(c:TT)(tb:TS):TS:=λD σ H=>∃ W:Nat->St->Hp->Prop,(∃ m,W m σ H)/\∀ m σ H,W m σ H ->
 c σ H λb H1=>if b=ai then ∃ N:St->Hp->Prop,(∀ σ' H',N σ' H'->∃ m',m'<m/\W m' σ' H')/\tb { D with nx:=N,ct:=N,bk:=D.nx } σ H1 else D.nx σ H1
theorem Sj{c:aC}{body:List bf}{tc:TT}{tb:TS}(hp:Cv (ay X.prog X.w) X.A X.env X.xe)(hc:PT X c tc)(hb:jS X body tb):PS X (.While c body [] pos) (MY tc tb):=by
 intro ah s σ H D I h;obtain⟨W,⟨m0,w0⟩,turn⟩:=h;refine wpAny_While (codeAny_whileLoop (λn s'=>∃ σ' H',Inv X ah σ' H' s'/\W n σ' H') ?_ m0 ⟨σ,H,I,w0⟩);rintro n s1 ⟨σ1,H1,I1,w1⟩;refine sT hp (aU (hc ah s1 σ1 H1 _ I1 (turn n σ1 H1 w1)) λb s2 ⟨H2,I2,q2⟩=>?_);cases b with
 | true=>
  obtain⟨N,hN,q2⟩:=q2;rw[if_pos rfl];refine sT hp (aU (hb ah s2 σ1 H2 _ I2 q2) λf s3 q3=>?_);cases f with
  | next=>obtain⟨σ3,H3,I3,n3⟩:=q3;obtain⟨m',hm,w3⟩:=hN σ3 H3 n3;exact⟨m',hm,σ3,H3,I3,w3⟩
  | cont=>obtain⟨σ3,H3,I3,n3⟩:=q3;obtain⟨m',hm,w3⟩:=hN σ3 H3 n3;exact⟨m',hm,σ3,H3,I3,w3⟩
  | brk=>exact q3
  | ret v=>exact q3
 | false=>rw[if_neg gn];exact Ct ⟨σ1,H2,I2,q2⟩
end
structure It where
 go:Nat->Hp->Prop
 yld:Nat->Hp->V->Hp->Prop
 stop:Nat->Hp->Prop
def kW(X:Cx)(ah:List (af×Obj))(H:Hp)(b:af):Prop :=
 H b=ae/\b≠X.env.locals/\b∉X.fs/\(b∈X.ex\/X.s₀.heap.objs.size<=b)/\(∀ x c,X.env.cells.lookup x=aa c->c≠b)/\∀ p∈X.pn++ah,p.1≠b
theorem Inv.fpOk{X:Cx}{ah:List (af×Obj)}{σ:St}{H H':Hp}{s:aq}{b:af}(I:Inv X ah σ H s)(hb:s.heap.objs.size<=b)(hn:H' b=ae):kW X ah H' b:=by
 refine⟨hn,mC (fQ I.lt hb),I.nofs hb,.inr (cI I.sz hb),λx c e z=>?_,λp hp z=>?_⟩
 ·obtain⟨v,q⟩:=I.cell x c e;exact absurd (fQ q.lt (by rw[z]; exact hb)) (fk _)
 ·exact absurd (fQ (bC (I.pin p hp).1) (by rw[z]; exact hb)) (fk _)
structure uB(P:aX)(w:aN)(K:az)(tg:aC)(J:It)(fp:List af)(it:af)(tn:Nat->aE->Prop):Prop where
 mem:it∈fp
 obj:∀ i h,tn i h->∀ b∈fp,∃ o,h.get? b=aa o/\∀ v,o.data≠.cell v
 keep:∀ i h h',tn i h->(∀ b∈fp,∀ o,h.get? b=aa o->h'.get? b=aa o)->tn i h'
 item:∀ (X:Cx),X.prog=P->X.w=w->X.K=K->X.calm=ai->∀ (i:Nat) (ah:List (af×Obj)) (s:aq) (σ:St) (H:Hp) (E:ak->aq->Prop),Inv X ah σ H s->(∀ b∈fp,kW X ah H b)->tn i s.heap->J.go i H ->
  ax (ay P w) X.A (pyNext (.ref it)) (λr s1=>∃ u,r=aa u /\ ax (ay P w) X.A (Cw tg (.ref it) u) (λ_ s2=>∃ x H',Inv X ah σ H' s2/\RelV x u/\J.yld i H x H'/\tn (i+1) s2.heap/\∀ b∈fp,H' b=ae) E s1) E s
 done:∀ (X:Cx),X.prog=P->X.w=w->X.K=K->X.calm=ai->∀ (i:Nat) (ah:List (af×Obj)) (s:aq) (σ:St) (H:Hp) (E:ak->aq->Prop),Inv X ah σ H s->(∀ b∈fp,kW X ah H b)->tn i s.heap->J.stop i H ->
  ax (ay P w) X.A (pyNext (.ref it)) (λr s1=>r=ae/\Inv X ah σ H s1) E s
 self:∀ (A:be) (i:Nat) (s:aq) (Q:ak->aq->Prop) (E:ak->aq->Prop),tn i s.heap->Q (.ref it) s->ax (ay P w) A (o5 (.ref it)) Q E s
abbrev TI:=St->Hp->(It->Hp->Prop)->Prop
def xl(X:Cx)(ah:List (af×Obj))(σ:St)(tg:aC)(R:It->Hp->Prop)(itv:ak)(s2:aq):Prop :=
 ∃ (it:af) (fp:List af) (tn:Nat->aE->Prop) (J:It) (H':Hp),itv = .ref it/\Inv X ah σ H' s2/\uB X.prog X.w X.K tg J fp it tn/\tn 0 s2.heap/\(∀ b∈fp,kW X ah H' b)/\R J H'
def PI(X:Cx)(tg iter:aC)(wi:TI):Prop :=
 ∀ (ah:List (af×Obj)) (s:aq) (σ:St) (H:Hp) (R:It->Hp->Prop),Inv X ah σ H s->wi σ H R ->
  ax (ay X.prog X.w) X.A (bv iter X.env) (λv s1=>ax (ay X.prog X.w) X.A (o5 v) (xl X ah σ tg R) X.xe s1) X.xe s
theorem xf{M:Model}{A:be}{E:ak->aq->Prop}{s:aq}{tg:aC}{it:af}{u:ak}{o:Obj}{n:String}{vs:Array ak}{Q:Unit->aq->Prop}(ho:s.heap.get? it=aa o)(hc:o.cls = .type n)(hd:o.data = .fields vs)(hn:["enumerate","zip","dict_itemiterator","dict_reverseitemiterator","odict_iterator","itertools.zip_longest","itertools.pairwise"].contains n=ao) (hQ:Q () s):ax M A (Cw tg (.ref it) u) Q E s:=by
 unfold Cw;cases tg <;> first
  | exact aD hQ
  | (cases u <;> first
    | exact aD hQ
    | (refine ar (wpAny_load ho ?_)
       rw[hc,hd];show ax M A (if(["enumerate","zip","dict_itemiterator","dict_reverseitemiterator","odict_iterator","itertools.zip_longest","itertools.pairwise"].contains n && vs[0]? == aa (eN _))=ai then _ else _) Q E s;rw[if_neg (by intro h; rw[hn,Bool.false_and]at h; cases h)];exact aD hQ))
def Aj(K:az)(a:af):It :=⟨λi H=>∃ xs x,ce K H a xs/\xs[i]?=aa x,λi H x H'=>H'=H/\∀ xs,ce K H a xs->xs[i]?=aa x,λi H=>∃ xs,ce K H a xs/\xs.length<=i⟩
def Bq(K:az)(a:af):It :=⟨λi H=>∃ xs x,dj K H a xs/\xs[i]?=aa x,λi H x H'=>H'=H/\∀ xs,dj K H a xs->xs[i]?=aa x,λi H=>∃ xs,dj K H a xs/\xs.length<=i⟩
def uQ(lo:Int)(n:Nat):It:=⟨λi _=>i<n,λi H x H'=>H'=H/\x = .int (lo+i),λi _=>n<=i⟩
theorem O3{P:aX}{w:aN}{K:az}{tg:aC}(a it:af):uB P w K tg (Aj K a) [it] it (λi h=>h.IsListIter it a i) where
 mem:=by simp
 obj:=λi h st b hb=>by
  have e:b=it:=by simpa using hb
  subst e;obtain⟨o,e,c,d⟩:=st;exact⟨o,e,λv z=>by rw[d]at z; cases z⟩
 keep:=λi h h' st k=>st.at λo e=>k it (by simp) o e
 item:=by intro X hP hw hK hc i ah s σ H E I hf st hg;subst hP hw hK;obtain⟨xs,x,hq,hx⟩:=hg;obtain⟨its,rv,p,hz⟩:=I.list hq;obtain⟨u,hu,ru⟩:=rv.get hx;obtain⟨f0,f1,f2,f3,f4,f5⟩:=hf it (by simp);refine wpAny_pyNext_list_item st p.isList (x:=u) (by simpa using hu) λh' aA sb=>?_;have I1:Inv X ah σ H { s with heap:=h' }:=I.turned (t':=s.toks) (λb o hb e=>(sb.2 b hb).trans e) f0 f1 f3 f4 f5;obtain⟨o,e,c,d⟩:=id aA;exact⟨u,rfl,xf (s:={ s with heap:=h' }) e c d (by decide) ⟨x,H,I1,ru,⟨rfl,λys hy=>by rw[I.list_inj hy hq]; exact hx⟩,aA,λb hb=>(hf b hb).1⟩⟩
 done:=by intro X hP hw hK hc i ah s σ H E I hf st hg;subst hP hw hK;obtain⟨xs,hq,hx⟩:=hg;obtain⟨its,rv,p,hz⟩:=I.list hq;obtain⟨f0,f1,f2,f3,f4,f5⟩:=hf it (by simp);have hl:=rv.length;exact wpAny_pyNext_list_end (I.ok.hd hc) st p.isList (by simp; lia) λh' eb=>⟨rfl,I.turned (t':=s.toks) (λb o hb e=>eb b o hb e) f0 f1 f3 f4 f5⟩
 self:=λ_ _ _ _ _ st h=>wpAny_pyIter_listiter st h
theorem RS{P:aX}{w:aN}{K:az}{tg:aC}(a it:af):uB P w K tg (Bq K a) [it] it (λi h=>h.IsTupleIter it a i) where
 mem:=by simp
 obj:=λi h st b hb=>by
  have e:b=it:=by simpa using hb
  subst e;obtain⟨o,e,c,d⟩:=st;exact⟨o,e,λv z=>by rw[d]at z; cases z⟩
 keep:=λi h h' st k=>st.at λo e=>k it (by simp) o e
 item:=by intro X hP hw hK hc i ah s σ H E I hf st hg;subst hP hw hK;obtain⟨xs,x,hq,hx⟩:=hg;obtain⟨its,rv,p,hz⟩:=I.tuple hq;obtain⟨u,hu,ru⟩:=rv.get hx;obtain⟨f0,f1,f2,f3,f4,f5⟩:=hf it (by simp);refine wpAny_pyNext_tuple_item st (show s.heap.IsTuple a its.toArray from p) (x:=u) (by simpa using hu) λh' aA sb=>?_;have I1:Inv X ah σ H { s with heap:=h' }:=I.turned (t':=s.toks) (λb o hb e=>(sb.2 b hb).trans e) f0 f1 f3 f4 f5;obtain⟨o,e,c,d⟩:=id aA;exact⟨u,rfl,xf (s:={ s with heap:=h' }) e c d (by decide) ⟨x,H,I1,ru,⟨rfl,λys hy=>by rw[I.tuple_inj hy hq]; exact hx⟩,aA,λb hb=>(hf b hb).1⟩⟩
 done:=by intro X hP hw hK hc i ah s σ H E I hf st hg;subst hP hw hK;obtain⟨xs,hq,hx⟩:=hg;obtain⟨its,rv,p,hz⟩:=I.tuple hq;obtain⟨f0,f1,f2,f3,f4,f5⟩:=hf it (by simp);have hl:=rv.length;exact wpAny_pyNext_tuple_end (I.ok.hd hc) st (show s.heap.IsTuple a its.toArray from p) (by simp; lia) λh' eb=>⟨rfl,I.turned (t':=s.toks) (λb o hb e=>eb b o hb e) f0 f1 f3 f4 f5⟩
 self:=λ_ _ _ _ _ st h=>wpAny_pyIter_tupleiter st h
theorem N0{P:aX}{w:aN}{K:az}{tg:aC}(it:af)(lo:Int)(n:Nat):uB P w K tg (uQ lo n) [it] it (λi h=>IsRangeIter h it (lo+(i:Nat) * 1) ((n:Int)-(i:Nat)) 1) where
 mem:=by simp
 obj:=λi h st b hb=>by
  have e:b=it:=by simpa using hb
  subst e;exact⟨_,st,λv z=>by
   have z':Data.fields _=Data.cell v:=z;cases z'⟩
 keep:=λi h h' st k=>k it (by simp) _ st
 item:=by intro X hP hw hK hc i ah s σ H E I hf st hg;subst hP hw hK;obtain⟨f0,f1,f2,f3,f4,f5⟩:=hf it (by simp);have W:=Walks.range (prog:=X.prog) (w:=X.w) (I.ok.hd hc) it lo 1 n;refine W.item i s _ _ hg st λv h' tk hv aA kk=>?_;obtain⟨t,rfl⟩:=hv;have I1:Inv X ah σ H { s with heap:=h',toks:=tk }:=I.turned (λb o hb e=>kk b o (by simpa using hb) e) f0 f1 f3 f4 f5;refine⟨_,rfl,xf (s:={ s with heap:=h',toks:=tk }) (n:="range_iterator") aA rfl rfl (by decide) ⟨.int (lo+i),H,I1,⟨t,?_⟩,⟨rfl,rfl⟩,aA,λb hb=>(hf b hb).1⟩⟩;rw[Int.mul_one]
 done:=by intro X hP hw hK hc i ah s σ H E I hf st hg;subst hP hw hK;obtain⟨f0,f1,f2,f3,f4,f5⟩:=hf it (by simp);exact wpAny_pyNext_range_end (I.ok.hd hc) st (by have:n<=i:=hg; lia) λh' eb=>⟨rfl,I.turned (t':=s.toks) (λb o hb e=>eb b o hb e) f0 f1 f3 f4 f5⟩
 self:=λ_ _ _ _ _ st h=>wpAny_pyIter_rangeiter st h
section
variable{X:Cx}{tg:aC}
theorem Ed{ah:List (af×Obj)}{σ:St}{H:Hp}{s:aq}{R:It->Hp->Prop}{E:ak->aq->Prop}{lo hi:Int}{t u v:Tok}{tk:Nat}(I:Inv X ah σ H s)(h1 : -(2 ^ 62)<=lo)(h2:lo<2 ^ 62)(h3 : -(2 ^ 62)<=hi)(h4:hi<2 ^ 62)(q:R (uQ lo (hi-lo).toNat) H):ax (ay X.prog X.w) X.A (o5 (.ref s.heap.objs.size)) (xl X ah σ tg R) E { s with heap:=s.heap.push { cls:=.type "range",data:=.fields #[.int lo t,.int hi u,.int 1 v] },toks:=tk }:=by
 refine wpAny_pyIter_range (IsRange.new ..) (small_one h1 h2 h3 h4) ?_;have I1:Inv X ah σ H { s with heap:=s.heap.push { cls:=.type "range",data:=.fields #[.int lo t,.int hi u,.int 1 v] },toks:=tk }:=I.kept λb o e=>bK _ e;refine⟨(s.heap.push { cls:=.type "range",data:=.fields #[.int lo t,.int hi u,.int 1 v] }).objs.size,[(s.heap.push { cls:=.type "range",data:=.fields #[.int lo t,.int hi u,.int 1 v] }).objs.size],_,_,H,rfl,I1.kept (t':=tk) λb o e=>bK _ e,N0 _ lo (hi-lo).toNat,?_,λb hb=>?_,q⟩
 ·have e1:lo+((0:Nat):Int) * 1=lo:=by simp
  have e2:(((hi-lo).toNat:Nat):Int)-((0:Nat):Int)=Builtin.Range.rangeSize lo hi 1:=by rw[rangeSize_one]; split <;> lia
  show IsRangeIter _ _ (lo+((0:Nat):Int) * 1) ((((hi-lo).toNat:Nat):Int)-((0:Nat):Int)) 1;rw[e1,e2];exact dz _ rfl
 ·have e:b=(s.heap.push { cls:=.type "range",data:=.fields #[.int lo t,.int hi u,.int 1 v] }).objs.size:=by simpa using hb
  subst e;exact I1.fpOk (bi _) (I1.hok.fresh (bi _))
def K8(ta:TA):TI:=λσ H R=>ta σ H λvs H1=>∃ j:Int,vs=[.int j]/\-(2 ^ 62)<=j/\j<2 ^ 62/\R (uQ 0 j.toNat) H1
def Oi(ta:TA):TI:=λσ H R=>ta σ H λvs H1=>∃ i j:Int,vs=[.int i,.int j]/\(-(2 ^ 62)<=i/\i<2 ^ 62/\-(2 ^ 62)<=j/\j<2 ^ 62)/\R (uQ i (j-i).toNat) H1
theorem Tu{a:aC}{ta:TA}{p pos:Pos}(hg:Gl X "range")(hm:X.mg "range" = ae)(ha:PA X [a] ta)(hs:bq [a] X.env=[(ao,bv a X.env)]:=by rfl):PI X tg (.Call (.Name "range" p) [a] [] pos) (K8 ta):=by
 intro ah s σ H R I h;refine Call_ (sH I hg hm boot_range (Jp (aU (ha pos ah s σ H _ I h) λus s1 ⟨vs,H1,I1,r1,q1⟩=>?_) hs rfl));obtain⟨j,e,q1,q2,q⟩:=q1;subst e;cases r1 with
 | cons r rr=>
  cases rr;obtain⟨t,rfl⟩:=r;exact call_range_1 (Ed I1 ∅ ∅ q1 q2 (by simpa using q))
theorem Nw{a b:aC}{ta:TA}{p pos:Pos}(hg:Gl X "range")(hm:X.mg "range" = ae)(ha:PA X [a,b] ta)(hs:bq [a,b] X.env=[(ao,bv a X.env),(ao,bv b X.env)]:=by rfl)(mP:bq [b] X.env=[(ao,bv b X.env)]:=by rfl) : PI X tg (.Call (.Name "range" p) [a,b] [] pos) (Oi ta):=by
 intro ah s σ H R I h;refine Call_ (sH I hg hm boot_range (Jp (aU (ha pos ah s σ H _ I h) λus s1 ⟨vs,H1,I1,r1,q1⟩=>?_) (by rw[hs,mP]) (by rw[mP]; rfl)));obtain⟨i,j,e,⟨q1,q2,q3,q4⟩,q⟩:=q1;subst e;cases r1 with
 | cons r rr=>
  cases rr with
  | cons r' rr=>
   cases rr;obtain⟨t,rfl⟩:=r;obtain⟨t',rfl⟩:=r';exact call_range_2 (Ed I1 q1 q2 q3 q4 q)
def Rv(wi:TI)(g:TG)(tb:TS):TS:=λD σ H=>wi σ H λJ H1=>∃ W:Nat->Nat->St->Hp->Prop,(∃ m,W 0 m σ H1)/\∀ i m σ H,W i m σ H ->
 (J.stop i H/\D.nx σ H)\/(J.go i H/\∃ N:St->Hp->Prop,(∀ σ' H',N σ' H'->∃ m',m'<m/\W (i+1) m' σ' H')/\∀ x H',J.yld i H x H'->g x σ H' λσ2 H2=>tb { D with nx:=N,ct:=N,bk:=D.nx } σ2 H2)
def sF(fp:List af)(h:aE):List (af×Obj):=fp.filterMap λb=>(h.get? b).map λo=>(b,o)
theorem sy{fp:List af}{h:aE}{b:af}{o:Obj}(hb:b∈fp)(e:h.get? b=aa o):(b,o)∈sF fp h:=Jq.mpr ⟨b,hb,by rw[e]; rfl⟩
theorem Oc{fp:List af}{h:aE}{p:af×Obj}(hp:p∈sF fp h):p.1∈fp/\h.get? p.1=aa p.2:=by
 obtain⟨b,hb,e⟩:=Jq.mp hp;cases q:h.get? b with
 | none=>rw[q]at e; cases e
 | some o=>rw[q]at e;have e':(b,o)=p:=eJ e;subst e';exact⟨hb,q⟩
theorem Inv.pinned{ah:List (af×Obj)}{σ:St}{H:Hp}{s:aq}{fp:List af}(I:Inv X ah σ H s)(hf:∀ b∈fp,kW X ah H b)(ho:∀ b∈fp,∃ o,s.heap.get? b=aa o/\∀ v,o.data≠.cell v):Inv X (ah++sF fp s.heap) σ H s :=
 I.pins_of λp hp=>(eM.mp hp).elim (λz=>I.pin p (jT _ z)) λz=>by
  obtain⟨hb,e⟩:=Oc z;obtain⟨f0,f1,f2,_⟩:=hf p.1 hb;obtain⟨o,e',d⟩:=ho p.1 hb;rw[e]at e'; cases e';exact⟨e,f0,f1,f2,d⟩
theorem Inv.unpinned{ah pl:List (af×Obj)}{σ:St}{H:Hp}{s:aq}(I:Inv X (ah++pl) σ H s):Inv X ah σ H s:=I.pins_of λp hp=>I.pin p (jT _ (ze _ hp))
theorem OM{iter:aC}{body:List bf}{wi:TI}{g:TG}{tb:TS}{pos:Pos}(hp:Cv (ay X.prog X.w) X.A X.env X.xe)(hc:X.calm=ai)(hi:PI X tg iter wi)(hg:PG X tg g)(hb:jS X body tb)(hs:∀ x,vF iter X.env x=pure x:=by intro _; rfl):PS X (.For tg iter body [] pos) (Rv wi g tb):=by
 intro ah s σ H D I h;refine wpAny_For (aU (hi ah s σ H _ I h) λv s1 h1=>aU h1 λitv s2 h2=>?_) hs;obtain⟨it,fp,tn,J,H2,e,I2,T,bd,f2,W,⟨m0,w0⟩,turn⟩:=h2;subst e;have stat:∀ {H':Hp},(∀ b∈fp,H' b=ae)->∀ b∈fp,kW X ah H' b:=λhn b hb=>⟨hn b hb,(f2 b hb).2⟩
 refine codeAny_forLoop_any (λn s'=>∃ i σ' H',Inv X ah σ' H' s'/\tn i s'.heap/\(∀ b∈fp,H' b=ae)/\W i n σ' H') ?_ m0 ⟨0,σ,H2,I2,bd,λb hb=>(f2 b hb).1,w0⟩;rintro n s3 ⟨i,σ3,H3,I3,bL,fr3,w3⟩;rcases turn i n σ3 H3 w3 with⟨stop,qn⟩ | ⟨go,N,hN,step⟩
 ·refine sT hp (aU (T.done X rfl rfl rfl hc i ah s3 σ3 H3 X.xe I3 (stat fr3) bL stop) λr s4 ⟨hr,I4⟩=>?_);subst hr;exact Ct ⟨σ3,H3,I4,qn⟩
 ·refine sT hp (aU (T.item X rfl rfl rfl hc i ah s3 σ3 H3 X.xe I3 (stat fr3) bL go) λr s4 ⟨u,hr,h4⟩=>?_);subst hr;refine sT hp (aU h4 λ_ s5 ⟨x,H5,I5,r5,y5,cg,fr5⟩=>?_);have I5':=I5.pinned (stat fr5) (T.obj _ _ cg);refine sT hp (aU (hg _ s5 σ3 H5 x u _ I5' r5 (step x H5 y5)) λ_ s6 ⟨σ6,H6,I6,q6⟩=>?_);refine sT hp (aU (hb _ s6 σ6 H6 _ I6 q6) λf s7 q7=>?_);have again:∀ {σ7:St} {H7:Hp},Inv X (ah++sF fp s5.heap) σ7 H7 s7->N σ7 H7->∃ m,m<n/\∃ i σ' H',Inv X ah σ' H' s7/\tn i s7.heap/\(∀ b∈fp,H' b=ae)/\W i m σ' H':=λ{σ7 H7} I7 n7=>by obtain⟨m',hm,w7⟩:=hN σ7 H7 n7;refine⟨m',hm,i+1,σ7,H7,I7.unpinned,T.keep _ _ _ cg λb hb o e=>(I7.pin (b,o) (jT _ (jT _ (sy hb e)))).1,λb hb=>?_,w7⟩;obtain⟨o,e,d⟩:=T.obj _ _ cg b hb;exact(I7.pin (b,o) (jT _ (jT _ (sy hb e)))).2.1
  cases f with
  | next=>obtain⟨σ7,H7,I7,n7⟩:=q7; exact again I7 n7
  | cont=>obtain⟨σ7,H7,I7,n7⟩:=q7; exact again I7 n7
  | brk=>obtain⟨σ7,H7,I7,q7⟩:=q7; exact⟨σ7,H7,I7.unpinned,q7⟩
  | ret v=>obtain⟨x7,σ7,H7,I7,r7,q7⟩:=q7; exact⟨x7,σ7,H7,I7.unpinned,r7,q7⟩
end
abbrev R2:=V->V->Hp->VK->Prop
def cu(X:Cx)(f:ak->ak->Sem ak)(r:R2):Prop :=
 ∀ (ah:List (af×Obj)) (s:aq) (σ:St) (H:Hp) (x y:V) (v u:ak) (Q:VK),Inv X ah σ H s->RelV x v->RelV y u->r x y H Q ->
  ax (ay X.prog X.w) X.A (f v u) (EP X ah σ Q) X.xe s
def y_(X:Cx)(f:ak->Sem ak)(r:V->Hp->VK->Prop):Prop :=
 ∀ (ah:List (af×Obj)) (s:aq) (σ:St) (H:Hp) (x:V) (v:ak) (Q:VK),Inv X ah σ H s->RelV x v->r x H Q ->
  ax (ay X.prog X.w) X.A (f v) (EP X ah σ Q) X.xe s
def gL(X:Cx)(f:ak)(r:List V->Hp->VK->Prop):Prop :=
 ∀ (ah:List (af×Obj)) (s:aq) (σ:St) (H:Hp) (xs:List V) (us:List ak) (Q:VK),Inv X ah σ H s->bI xs us->r xs H Q ->
  ax (ay X.prog X.w) X.A (call f us) (EP X ah σ Q) X.xe s
def xp(r:R2)(ta tb:TE):TE:=λσ H Q=>ta σ H λx H1=>tb σ H1 λy H2=>r x y H2 Q
def Rc(r:V->Hp->VK->Prop)(ta:TE):TE:=λσ H Q=>ta σ H λx H1=>r x H1 Q
def rI(C:Int->Int->Prop)(g:Int->Int->V):R2:=λx y H Q=>∃ i j,x = .int i/\y = .int j/\C i j/\Q (g i j) H
def l9(g:Int->Int->V):R2:=λx y H Q=>∃ i j,x = .int i/\y = .int j/\Q (g i j) H
def rU(g:Int->V):V->Hp->VK->Prop:=λx H Q=>∃ i,x = .int i/\Q (g i) H
section
variable{X:Cx}{a b c:aC}{ta tb tc:TE}{pos:Pos}
theorem BY(ha:PE X a ta)(hb:PE X b tb){ah:List (af×Obj)}{s:aq}{σ:St}{H:Hp}{R:V->V->Hp->Prop}(I:Inv X ah σ H s)(h:ta σ H λx H1=>tb σ H1 λy H2=>R x y H2) {Q:ak->aq->Prop} {f:ak->ak->Sem ak}(hf:∀ v u s2 x y H2,Inv X ah σ H2 s2->RelV x v->RelV y u->R x y H2->ax (ay X.prog X.w) X.A (f v u) Q X.xe s2) : ax (ay X.prog X.w) X.A (bv a X.env) (λv s₁=>ax (ay X.prog X.w) X.A (bv b X.env) (λu s₂=>ax (ay X.prog X.w) X.A (f v u) Q X.xe s₂) X.xe s₁) X.xe s:=by refine aU (ha ah s σ H _ I h) λv s1 ⟨x,H1,I1,r1,q1⟩=>?_;refine aU (hb ah s1 σ H1 _ I1 q1) λu s2 ⟨y,H2,I2,r2,q2⟩=>?_;exact hf v u s2 x y H2 I2 r1 r2 q2
theorem DZ{op:Operator}{r:R2}(ho:cu X (jw op) r)(ha:PE X a ta)(hb:PE X b tb):PE X (.BinOp a op b pos) (xp r ta tb):=by intro ah s σ H Q I h;exact wpAny_BinOp (BY ha hb I h λv u s2 x y H2 I2 rx ry q=>ho ah s2 σ H2 x y v u Q I2 rx ry q)
theorem RA{op:UnaryOp}{r:V->Hp->VK->Prop}(ho:y_ X (unaryOp op) r)(ha:PE X a ta):PE X (.UnaryOp op a pos) (Rc r ta):=by intro ah s σ H Q I h;exact UnaryOp_ (aU (ha ah s σ H _ I h) λv s1 ⟨x,H1,I1,r1,q1⟩=>ho ah s1 σ H1 x v Q I1 r1 q1)
theorem Br{f:ak->ak->Sem ak}{C:Int->Int->Prop}{g:Int->Int->Int}(rule:∀ (i j:Int) (t u:Tok) (s:aq) (Q:ak->aq->Prop) (E:ak->aq->Prop),C i j->Q (.int (g i j) s.toks) { s with toks:=s.toks+1 }->ax (ay X.prog X.w) X.A (f (.int i t) (.int j u)) Q E s) : cu X f (rI C λi j=>.int (g i j)):=by intro ah s σ H x y v u Q I rx ry h;obtain⟨i,j,rfl,rfl,hc,q⟩:=h;obtain⟨t,rfl⟩:=rx;obtain⟨t',rfl⟩:=ry;exact rule i j t t' s _ _ hc ⟨.int (g i j),H,I.tok _,⟨_,rfl⟩,q⟩
theorem GM{f:ak->ak->Sem ak}{g:Int->Int->Int}(rule:∀ (i j:Int) (t u:Tok) (s:aq) (Q:ak->aq->Prop) (E:ak->aq->Prop),Q (.int (g i j) s.toks) { s with toks:=s.toks+1 }->ax (ay X.prog X.w) X.A (f (.int i t) (.int j u)) Q E s) : cu X f (l9 λi j=>.int (g i j)):=by intro ah s σ H x y v u Q I rx ry h;obtain⟨i,j,rfl,rfl,q⟩:=h;obtain⟨t,rfl⟩:=rx;obtain⟨t',rfl⟩:=ry;exact rule i j t t' s _ _ ⟨.int (g i j),H,I.tok _,⟨_,rfl⟩,q⟩
theorem Cr{f:ak->ak->Sem ak}{g:Int->Int->Bool}(rule:∀ (i j:Int) (t u:Tok) (s:aq) (Q:ak->aq->Prop) (E:ak->aq->Prop),Q (.bool (g i j)) s->ax (ay X.prog X.w) X.A (f (.int i t) (.int j u)) Q E s) : cu X f (l9 λi j=>.bl (g i j)):=by intro ah s σ H x y v u Q I rx ry h;obtain⟨i,j,rfl,rfl,q⟩:=h;obtain⟨t,rfl⟩:=rx;obtain⟨t',rfl⟩:=ry;exact rule i j t t' s _ _ ⟨.bl (g i j),H,I,rfl,q⟩
def FN(i j:Int):Prop:=0<=j/\j<=1000000/\i.natAbs<2 ^ 64
def Bn(i j:Int):Prop:=(-(2 ^ 64)<i/\i<2 ^ 64)\/(-(2 ^ 64)<j/\j<2 ^ 64)
theorem Bn.ok{i j:Int}(h:Bn i j):IntMulOk i j:=by
 rcases h with⟨h1,h2⟩ | ⟨h1,h2⟩
 ·exact .of_left (intBits_le_64 h1 h2)
 ·exact .of_right (intBits_le_64 h1 h2)
theorem UT:cu X (jw .Add) (l9 λi j=>.int (i+j)):=GM λ_ _ _ _ _ _ _ q=>add_int q
theorem jJ:cu X (jw .Sub) (l9 λi j=>.int (i-j)):=GM λ_ _ _ _ _ _ _ q=>sub_int q
theorem UE:cu X (jw .Mult) (rI Bn λi j=>.int (i * j)):=Br λ_ _ _ _ _ _ _ hc q=>mul_int q hc.ok
theorem uo:cu X (jw .Mod) (rI (λ_ j=>0<j) λi j=>.int (i % j)):=Br λi j _ _ _ _ _ hc q=>by have h1:(0:Int)<j:=hc;exact mod_int' ∅ (by rw[Int.fmod_eq_emod_of_nonneg i ∅]; exact q)
theorem RB:cu X (jw .Pow) (rI FN λi j=>.int (i ^ j.toNat)):=Br λ_ _ _ _ _ _ _ hc q=>pow_int_small hc.1 hc.2.1 hc.2.2 q
theorem KW{f:ak->Sem ak}{g:Int->Int}(rule:∀ (i:Int) (t:Tok) (s:aq) (Q:ak->aq->Prop) (E:ak->aq->Prop),Q (.int (g i) s.toks) { s with toks:=s.toks+1 }->ax (ay X.prog X.w) X.A (f (.int i t)) Q E s) : y_ X f (rU λi=>.int (g i)):=by intro ah s σ H x v Q I rx h;obtain⟨i,rfl,q⟩:=h;obtain⟨t,rfl⟩:=rx;exact rule i t s _ _ ⟨.int (g i),H,I.tok _,⟨_,rfl⟩,q⟩
theorem rN:y_ X (unaryOp .USub) (rU λi=>.int (-i)):=KW λ_ _ _ _ _ q=>neg_int q
end
def p_:V->V->Bool
 | .non,.non=>ai | .non,.int _=>ai | .int _,.non=>ai | .non,.bl _=>ai | .bl _,.non=>ai | .non,.str _=>ai | .str _,.non=>ai
 | .int _,.int _=>ai | .bl _,.bl _=>ai | .str _,.str _=>ai | .byt _,.byt _=>ai
 | .int _,.str _=>ai | .str _,.int _=>ai | .bl _,.str _=>ai | .str _,.bl _=>ai
 | _,_=>ao
def G0:R2:=λx y H Q=>p_ x y=ai/\Q (.bl (decide (x=y))) H
def F6:R2:=λx y H Q=>p_ x y=ai/\Q (.bl (!decide (x=y))) H
theorem GQ{i j:Int}:decide (V.int i=V.int j)=(i == j):=by rw[o6];simp
theorem Gc{i j:Bool}:decide (V.bl i=V.bl j)=(i == j):=by rw[o6];simp
theorem Ff{i j:Str}:decide (V.str i=V.str j)=(i == j):=by rw[o6];simp
theorem Jd{i j:Array UInt8}:decide (V.byt i=V.byt j)=(i.toList == j.toList):=by
 rw[o6];cases i;cases j;simp
section
variable{X:Cx}{a b c:aC}{ta tb tc:TE}{pos:Pos}
theorem dX{ah:List (af×Obj)}{σ:St}{H:Hp}{s:aq}{Q:VK}{k k':Bool}(I:Inv X ah σ H s)(q:Q (.bl k) H)(e:k=k'):EP X ah σ Q (.bool k') s:=by subst e;exact⟨.bl k,H,I,rfl,q⟩
theorem UP:cu X (eY .Eq) G0:=by
 intro ah s σ H x y v u Q I rx ry h;obtain⟨hs,q⟩:=h;cases x with
 | non=>
  cases rx;cases y with
  | non=>cases ry; exact PySem.EqNone.eq_none_none (dX I q (by simp))
  | bl j=>cases ry; exact PySem.EqNone.eq_none_bool (dX I q (by simp))
  | int j=>obtain⟨t',rfl⟩:=ry; exact PySem.EqNone.eq_none_int (dX I q (by simp))
  | str j=>obtain⟨t',rfl⟩:=ry; exact PySem.EqNone.eq_none_str (dX I q (by simp))
  | _=>exact absurd (show ao=ai from hs) gn
 | bl i=>
  cases rx;cases y with
  | non=>cases ry; exact PySem.EqNone.eq_bool_none (dX I q (by simp))
  | bl j=>cases ry; exact eq_bool (dX I q Gc)
  | str j=>obtain⟨t',rfl⟩:=ry; exact PySem.EqMixed.eq_bool_str (dX I q (by simp))
  | _=>exact absurd (show ao=ai from hs) gn
 | int i=>
  obtain⟨t,rfl⟩:=rx;cases y with
  | non=>cases ry; exact PySem.EqNone.eq_int_none (dX I q (by simp))
  | int j=>obtain⟨t',rfl⟩:=ry; exact eq_int (dX I q GQ)
  | str j=>obtain⟨t',rfl⟩:=ry; exact PySem.EqMixed.eq_int_str (dX I q (by simp))
  | _=>exact absurd (show ao=ai from hs) gn
 | str i=>
  obtain⟨t,rfl⟩:=rx;cases y with
  | non=>cases ry; exact PySem.EqNone.eq_str_none (dX I q (by simp))
  | bl j=>cases ry; exact PySem.EqMixed.eq_str_bool (dX I q (by simp))
  | int j=>obtain⟨t',rfl⟩:=ry; exact PySem.EqMixed.eq_str_int (dX I q (by simp))
  | str j=>obtain⟨t',rfl⟩:=ry; exact eq_str (dX I q Ff)
  | _=>exact absurd (show ao=ai from hs) gn
 | byt i=>
  obtain⟨t,rfl⟩:=rx;cases y with
  | byt j=>obtain⟨t',rfl⟩:=ry; exact PySem.W.eq_bytes (dX I q Jd)
  | _=>exact absurd (show ao=ai from hs) gn
 | _=>cases y <;> exact absurd (show ao=ai from hs) gn
theorem U2:cu X (eY .NotEq) F6:=by
 intro ah s σ H x y v u Q I rx ry h;obtain⟨hs,q⟩:=h;cases x with
 | non=>
  cases rx;cases y with
  | non=>cases ry; exact PySem.EqNone.ne_none_none (dX I q (by simp))
  | bl j=>cases ry; exact PySem.EqNone.ne_none_bool (dX I q (by simp))
  | int j=>obtain⟨t',rfl⟩:=ry; exact PySem.EqNone.ne_none_int (dX I q (by simp))
  | str j=>obtain⟨t',rfl⟩:=ry; exact PySem.EqNone.ne_none_str (dX I q (by simp))
  | _=>exact absurd (show ao=ai from hs) gn
 | bl i=>
  cases rx;cases y with
  | non=>cases ry; exact PySem.EqNone.ne_bool_none (dX I q (by simp))
  | bl j=>cases ry; exact ne_bool (dX I q (congrArg not Gc))
  | str j=>obtain⟨t',rfl⟩:=ry; exact PySem.EqMixed.ne_bool_str (dX I q (by simp))
  | _=>exact absurd (show ao=ai from hs) gn
 | int i=>
  obtain⟨t,rfl⟩:=rx;cases y with
  | non=>cases ry; exact PySem.EqNone.ne_int_none (dX I q (by simp))
  | int j=>obtain⟨t',rfl⟩:=ry; exact ne_int (dX I q (congrArg not GQ))
  | str j=>obtain⟨t',rfl⟩:=ry; exact PySem.EqMixed.ne_int_str (dX I q (by simp))
  | _=>exact absurd (show ao=ai from hs) gn
 | str i=>
  obtain⟨t,rfl⟩:=rx;cases y with
  | non=>cases ry; exact PySem.EqNone.ne_str_none (dX I q (by simp))
  | bl j=>cases ry; exact PySem.EqMixed.ne_str_bool (dX I q (by simp))
  | int j=>obtain⟨t',rfl⟩:=ry; exact PySem.EqMixed.ne_str_int (dX I q (by simp))
  | str j=>obtain⟨t',rfl⟩:=ry; exact ne_str (dX I q (congrArg not Ff))
  | _=>exact absurd (show ao=ai from hs) gn
 | byt i=>
  obtain⟨t,rfl⟩:=rx;cases y with
  | byt j=>obtain⟨t',rfl⟩:=ry; exact PySem.W.ne_bytes (dX I q (congrArg not Jd))
  | _=>exact absurd (show ao=ai from hs) gn
 | _=>cases y <;> exact absurd (show ao=ai from hs) gn
theorem HW:cu X (eY .Lt) (l9 λi j=>.bl (decide (i<j))):=Cr λ_ _ _ _ _ _ _ q=>lt_int q
theorem oq:cu X (eY .LtE) (l9 λi j=>.bl (decide (i<=j))):=Cr λ_ _ _ _ _ _ _ q=>le_int q
theorem NX:cu X (eY .Gt) (l9 λi j=>.bl (decide (j<i))):=Cr λ_ _ _ _ _ _ _ q=>gt_int q
theorem UJ:cu X (eY .In) (λx y H Q=>∃ i j,x = .str i/\y = .str j/\Q (.bl (!(Jr j i 0 j.length 1).isEmpty)) H):=by intro ah s σ H x y v u Q I rx ry h;obtain⟨i,j,rfl,rfl,q⟩:=h;obtain⟨t,rfl⟩:=rx;obtain⟨t',rfl⟩:=ry;exact in_str (dX I q rfl)
theorem cu.or{f:ak->ak->Sem ak}{r r':R2}(h:cu X f r)(h':cu X f r'):cu X f (λx y H Q=>r x y H Q\/r' x y H Q):=by
 intro ah s σ H x y v u Q I rx ry q;rcases q with q | q
 ·exact h ah s σ H x y v u Q I rx ry q
 ·exact h' ah s σ H x y v u Q I rx ry q
theorem Q9{op:CmpOp}{r:R2}(ho:cu X (eY op) r)(ha:PE X a ta)(hb:PE X b tb)(hm:mz op b=ao):PE X (.Compare a [op] [b] pos) (xp r ta tb):=by intro ah s σ H Q I h;exact wpAny_Compare1 (BY ha hb I h λv u s2 x y H2 I2 rx ry q=>ho ah s2 σ H2 x y v u Q I2 rx ry q) hm
def Gk(t:TE):TT:=λσ H Q=>t σ H λx H'=>∃ k,x = .bl k/\Q k H'
theorem NA{op:CmpOp}{r:R2}(ho:cu X (eY op) r)(ha:PE X a ta)(hb:PE X b tb)(hm:mz op b=ao):PT X (.Compare a [op] [b] pos) (Gk (xp r ta tb)):=by
 intro ah s σ H Q I h;refine wpAny_isTrue_Compare1 (aU (ha ah s σ H _ I h) λv s1 ⟨x,H1,I1,r1,q1⟩=>aU (hb ah s1 σ H1 _ I1 q1) λu s2 ⟨y,H2,I2,r2,q2⟩=>aU (ho ah s2 σ H2 x y v u _ I2 r1 r2 q2) λc s3 ⟨z,H3,I3,r3,k,e,q3⟩=>?_) hm;subst e;cases r3;exact nO ⟨H3,I3,q3⟩
def Ap(r r':R2)(ta tb tc:TE):TE:=λσ H Q=>ta σ H λx H1=>tb σ H1 λy H2=>r x y H2 λz H3=>∃ k,z = .bl k /\
 (if k=ai then tc σ H3 λw' H4=>r' y w' H4 Q else Q (.bl ao) H3)
theorem P4{op op':CmpOp}{r r':R2}(ho:cu X (eY op) r)(jE:cu X (eY op') r')(ha:PE X a ta)(hb:PE X b tb)(hc:PE X c tc)(hm:lastMarks [op,op'] [b,c]=ao:=by with_unfolding_all rfl):PE X (.Compare a [op,op'] [b,c] pos) (Ap r r' ta tb tc):=by
 intro ah s σ H Q I h;refine Compare_chain (aU (ha ah s σ H _ I h) λv s1 ⟨x,H1,I1,r1,q1⟩=>chain_link (aU (hb ah s1 σ H1 _ I1 q1) λu s2 ⟨y,H2,I2,r2,q2⟩=>aU (ho ah s2 σ H2 x y v u _ I2 r1 r2 q2) λd s3 ⟨z,H3,I3,r3,k,e,q3⟩=>?_)) hm;subst e;cases r3;refine nO ?_;cases k with
 | false=>exact ite_ff ⟨.bl ao,H3,I3,rfl,q3⟩
 | true=>exact ite_tt (chain_last (aU (hc ah s3 σ H3 _ I3 q3) λw' s4 ⟨z',H4,I4,r4,q4⟩=>jE ah s4 σ H4 y z' u w' Q I4 r2 r4 q4))
theorem QA{op op':CmpOp}{r r':R2}(ho:cu X (eY op) r)(jE:cu X (eY op') r')(ha:PE X a ta)(hb:PE X b tb)(hc:PE X c tc)(hm:lastMarks [op,op'] [b,c]=ao:=by with_unfolding_all rfl):PT X (.Compare a [op,op'] [b,c] pos) (Gk (Ap r r' ta tb tc)):=by
 intro ah s σ H Q I h;refine isTrue_chain (aU (ha ah s σ H _ I h) λv s1 ⟨x,H1,I1,r1,q1⟩=>test_link (aU (hb ah s1 σ H1 _ I1 q1) λu s2 ⟨y,H2,I2,r2,q2⟩=>aU (ho ah s2 σ H2 x y v u _ I2 r1 r2 q2) λd s3 ⟨z,H3,I3,r3,k,e,q3⟩=>?_)) hm;subst e;cases r3;refine nO ?_;cases k with
 | false=>
  obtain⟨k',e',q'⟩:=q3;cases e';exact ite_ff ⟨H3,I3,q'⟩
 | true=>
  refine ite_tt (test_last (aU (hc ah s3 σ H3 _ I3 q3) λw' s4 ⟨z',H4,I4,r4,q4⟩=>aU (jE ah s4 σ H4 y z' u w' _ I4 r2 r4 q4) λd' s5 ⟨z2,H5,I5,r5,k2,e2,q5⟩=>?_));subst e2;cases r5;exact nO ⟨H5,I5,q5⟩
theorem xP:(bp:Nat)<2 ^ 63:=by rw[sU]; decide
theorem Nb:cu X (jw .Add) (λx y H Q=>∃ i j,x = .str i/\y = .str j/\i.length+j.length<=bp/\Q (.str (i++j)) H):=by intro ah s σ H x y v u Q I rx ry h;obtain⟨i,j,rfl,rfl,hz,q⟩:=h;obtain⟨t,rfl⟩:=rx;obtain⟨t',rfl⟩:=ry;exact add_str (λt' tk=>⟨.str (i++j),H,I.tok _,⟨_,rfl⟩,q⟩) hz
theorem vals1{x:V}{us:List ak}(r:bI [x] us):∃ u,us=[u]/\RelV x u:=by
 cases r with
 | cons r1 r2=>cases r2; exact⟨_,rfl,r1⟩
theorem vals2{x y:V}{us:List ak}(r:bI [x,y] us):∃ u w',us=[u,w']/\RelV x u/\RelV y w':=by
 cases r with
 | cons r1 r2=>
  cases r2 with
  | cons r3 r4=>cases r4; exact⟨_,_,rfl,r1,r3⟩
theorem O4(hc:X.calm=ai):gL X (.builtin "max") (λxs H Q=>∃ i j,xs=[.int i,.int j]/\Q (.int (if j > i then j else i)) H):=by
 intro ah s σ H xs us Q I r h;obtain⟨i,j,rfl,q⟩:=h;obtain⟨u,w',rfl,⟨t,rfl⟩,⟨t',rfl⟩⟩:=vals2 r;refine max_two_ints (I.ok.hd hc) λh' tk k=>⟨_,H,I.kept k,?_,q⟩
 by_cases hj:j > i
 ·rw[if_pos hj,if_pos hj]; exact⟨_,rfl⟩
 ·rw[if_neg hj,if_neg hj]; exact⟨_,rfl⟩
def Fa(K:az)(x:V)(H:Hp)(n:Nat):Prop :=
 match x with
 | .str y=>y.length<=bp/\n=y.length
 | .byt y=>y.size<=bp/\n=y.size
 | .ref p=>(∃ xs,ce K H p xs/\n=xs.length)\/∃ xs,dj K H p xs/\n=xs.length
 | _=>False
theorem fF:gL X (.builtin "len") (λxs H Q=>∃ x n,xs=[x]/\Fa X.K x H n/\Q (.int n) H):=by
 intro ah s σ H xs us Q I r h;obtain⟨x,n,rfl,e,q⟩:=h;obtain⟨u,rfl,rx⟩:=vals1 r;have hl:=xP;have hs:bp=16777216:=sU;cases x with
 | str y=>obtain⟨t,rfl⟩:=rx;obtain⟨hy,e'⟩:y.length<=bp/\n=y.length:=e;subst e';exact len_str ∅ ⟨.int _,H,I.tok _,⟨_,rfl⟩,q⟩
 | byt y=>obtain⟨t,rfl⟩:=rx;obtain⟨hy,e'⟩:y.size<=bp/\n=y.size:=e;subst e';exact PySem.W.len_bytes ∅ ⟨.int _,H,I.tok _,⟨_,rfl⟩,q⟩
 | ref p=>
  cases rx;have e':(∃ xs,ce X.K H p xs/\n=xs.length)\/∃ xs,dj X.K H p xs/\n=xs.length:=e;rcases e' with⟨xs,hx,e'⟩ | ⟨xs,hx,e'⟩
  ·subst e';obtain⟨its,r',pl,hz⟩:=I.list hx;have bY:=r'.length;exact Calls.call_len_list pl.isList (by simp only[dA]; lia) ⟨.int xs.length,H,I.tok _,⟨_,by simp only[dA]; rw[bY]⟩,q⟩
  ·subst e';obtain⟨its,r',pl,hz⟩:=I.tuple hx;have bY:=r'.length;exact len_tuple pl (by simp only[dA]; lia) ⟨.int xs.length,H,I.tok _,⟨_,by simp only[dA]; rw[bY]⟩,q⟩
 | _=>exact(show False from e).elim
end
structure IZ(h:aE)(x dx C:af)(mA:Str->Option ak):Prop where
 obj:h.get? x=aa (sS C dx)
 ns:h.Ns1 dx mA
 ne:dx≠x
theorem QX{h:aE}{dx:af}{mA:Str->Option ak}(n:h.Ns1 dx mA):∃ od,h.get? dx=aa od/\∀ name,PySem.W.lookIn name od=aa (mA name):=by
 obtain⟨o,es,ep,ho,hd,hk,_,hm⟩:=n;refine⟨o,ho,λname=>?_⟩;have e:=hm name;unfold nsFind findBy at e;rw[← Array.find?_toList]at e;unfold PySem.W.lookIn;rw[hd];dsimp only;split
 ·rename_i y q;rw[q]at e;exact congrArg aa e
 ·rename_i q;rw[q]at e;have a:es.toList.any (·.refKey)=ao:=by rw[Js];intro y hy;obtain⟨z,t,jc⟩:=hk y (Array.mem_toList_iff.mp hy);simp[DictEntry.refKey,jc]
  have a':¬ es.toList.any (·.refKey)=ai:=by rw[a]; exact gn
  rw[if_neg a'];exact congrArg aa e
theorem IZ.look{h:aE}{x dx C:af}{mA:Str->Option ak}(I:IZ h x dx C mA):∃ od,PySem.W.InstAt h x (sS C dx) C (aa od)/\∀ name,PySem.W.lookIn name od=aa (mA name) :=
 let ⟨od,ho,hl⟩:=QX I.ns
 ⟨od,⟨I.obj,rfl,rfl,ho⟩,hl⟩
theorem o3.some_of{v:V}{o:Option ak}(r:o3 (aa v) o):∃ u,o=aa u/\RelV v u:=by
 cases o with
 | none=>exact(show False from r).elim
 | some u=>exact⟨u,rfl,r⟩
section
variable{P:aX}{w:aN}{H H':Hp}{h h':aE}{a C dx:af}{fs fs':List (Str×V)}
theorem OG(hok:d_ P w H h)(e:H a=aa (.ins C dx fs)):∃ mA,IZ h a dx C mA/\(∀ f,o3 (fs.lookup f) (mA f))/\PySem.Within mA (fs.map (·.1))/\fs.length<=1000/\H dx=aa (.own a):=by
 obtain⟨d,z,ne,ob,mA,n,r,q⟩:=(show dS P w H h a (.ins C dx fs)from hok a _ e)
 exact⟨mA,⟨ob,n,ne⟩,r,q,z,d⟩
end
structure GZ(K:az)(C:af):Prop where
 pg:PySem.W.plainGet K C o7=ai
 hd:PySem.W.hasDictIn K C=ai
 po:PySem.W.plainOver K C=ai
 sa:zg K (.ref C) "__setattr__" = aa (aa (.builtin "object.__setattr__"))
theorem GZ.get{K:az}{C:af}(c:GZ K C)(f:Str):PySem.W.plainGet K C f=ai:=c.pg
section
variable{X:Cx}{ah:List (af×Obj)}{σ:St}{H:Hp}{s:aq}{a C dx:af}{fs:List (Str×V)}{f:Str}{v:V}{A:be}{E:ak->aq->Prop}
theorem Inv.made(I:Inv X ah σ H s):Inv X ah σ (upd (upd H s.heap.objs.size (.own (s.heap.objs.size+1))) (s.heap.objs.size+1) (.ins C s.heap.objs.size [])) { s with heap:=(s.heap.push qy).push (sS C s.heap.objs.size) }:=by
 have e1:(s.heap.push qy).get? s.heap.objs.size=aa qy:=dz s.heap rfl;have e2:((s.heap.push qy).push (sS C s.heap.objs.size)).get? (s.heap.objs.size+1)=aa (sS C s.heap.objs.size):=by have:=dz (s.heap.push qy) (o:=sS C s.heap.objs.size) rfl;rwa[vG]at this
 have e3:(s.heap.push qy).Ns s.heap.objs.size (λ_=>ae):=⟨qy,#[],_,e1,rfl,(λe he=>absurd he (by simp)),λ_=>rfl⟩
 have I1:=I.laid (a:=s.heap.objs.size) (o:=.own (s.heap.objs.size+1)) (h':=s.heap.push qy) (t':=s.toks) (λb u q=>bK _ q) (bi _) ⟨_,e1⟩;refine I1.laid (a:=s.heap.objs.size+1) (o:=.ins C s.heap.objs.size []) (t':=s.toks) (λb u q=>bK _ q) (mD (vG _ _)) ?_;have ne:s.heap.objs.size≠s.heap.objs.size+1:=c7 (mE _);refine⟨by rw[cn ne,cz],kY _,ne,e2,λ_=>ae,(Heap.Ns1.of_empty e3).at λo q=>bK _ q,λ_=>True.intro,λy hy=>absurd rfl hy⟩
end
section
variable{X:Cx}{ah:List (af×Obj)}{σ:St}{H:Hp}{s:aq}{A:be}{E:ak->aq->Prop}{Q:ak->aq->Prop}{c:ak}{b:Bool}
inductive jv(K:az)(H:Hp):V->ak->Prop where
 | non:jv K H .non (.type "NoneType")
 | bl (x:Bool):jv K H (.bl x) (.type "bool")
 | int (i:Int):jv K H (.int i) (.type "int")
 | str (x:Str):jv K H (.str x) (.type "str")
 | flt (x:UInt64):jv K H (.flt x) (.type "float")
 | lst {a:af} {xs:List V} (e:H a=aa (.lst xs)):jv K H (.ref a) (.type "list")
 | frz {a:af} {o:Obj} {xs:List V} (e:H a=aa (.frz o (.lst xs))):jv K H (.ref a) (.type "list")
 | tup {a:af} {xs:List V} (e:H a=aa (.tup xs)):jv K H (.ref a) (.type "tuple")
 | dK {a:af} {kvs:List (aI×V)} (e:H a=aa (.dK kvs)):jv K H (.ref a) (.type "dict")
 | dT {a:af} {kvs:List (List aI×V)} (e:H a=aa (.dT kvs)):jv K H (.ref a) (.type "dict")
 | ins {a C dx:af} {fs:List (Str×V)} (e:H a=aa (.ins C dx fs)) (cl:GZ K C) (ha:zg K (.ref C) "__class__" = aa (aa (.builtin "object.__class__")))
   (hn:PySem.W.specialIn K (.builtin "object.__class__") "__get__" = aa (aa (.builtin "getset_descriptor.__get__"))) (wq:PySem.W.takesIn K (.builtin "object.__class__")=aa ai)
   (hm:PySem.W.mroIn K C (.type "object")=aa ai):jv K H (.ref a) (.ref C)
theorem ND{x:V}{u t:ak}(I:Inv X ah σ H s)(rx:RelV x u)(ty:jv X.K H x t)(e:jU X.K t c=aa b)(h:∀ tk,Q (.bool b) { s with toks:=tk }) : ax (ay X.prog X.w) A (call (.builtin "isinstance") [u,c]) Q E s:=by
 cases ty with
 | non=>cases (show u=Value.none from rx); exact mF PySem.W.kitx_none I.kIn True.intro e (λz=>nomatch z) h
 | bl y=>cases (show u=Value.bool y from rx); exact mF PySem.W.kitx_bool I.kIn True.intro e (λz=>nomatch z) h
 | int i=>obtain⟨t,q⟩:=(show ∃ t,u=Value.int i t from rx); cases q; exact mF PySem.W.kitx_int I.kIn True.intro e (λz=>nomatch z) h
 | str y=>obtain⟨t,q⟩:=(show ∃ t,u=Value.str y t from rx); cases q; exact mF PySem.W.kitx_str I.kIn True.intro e (λz=>nomatch z) h
 | flt y=>obtain⟨t,q⟩:=(show ∃ t,u=Value.float y t from rx); cases q; exact mF PySem.W.kitx_float I.kIn True.intro e (λz=>nomatch z) h
 | @lst a xs ea=>
  cases (show u=Value.ref a from rx);obtain⟨_,_,n,_,h1⟩:=(show dS X.prog X.w H s.heap a (.lst xs)from I.hok a _ ea)
  exact mF PySem.W.kitx_list I.kIn ⟨_,h1,rfl⟩ e (λz=>nomatch z) h
 | @frz a ob xs ea=>
  cases (show u=Value.ref a from rx);obtain⟨_,_,_,n,_,h1⟩:=(show dS X.prog X.w H s.heap a (.frz ob (.lst xs))from I.hok a _ ea)
  exact mF PySem.W.kitx_list I.kIn ⟨_,h1,rfl⟩ e (λz=>nomatch z) h
 | @tup a xs ea=>
  cases (show u=Value.ref a from rx);obtain⟨_,_,_,p,_⟩:=(show dS X.prog X.w H s.heap a (.tup xs)from I.hok a _ ea)
  obtain⟨o,h1,h2,_⟩:=p;exact mF PySem.W.kitx_tuple I.kIn ⟨o,h1,h2⟩ e (λz=>nomatch z) h
 | @dK a kvs ea=>
  cases (show u=Value.ref a from rx);obtain⟨_,_,vs,_,p⟩:=(show dS X.prog X.w H s.heap a (.dK kvs)from I.hok a _ ea)
  obtain⟨o,es,ep,h1,h2,_⟩:=p;exact mF PySem.W.kitx_dict I.kIn ⟨o,h1,h2.1⟩ e (λz=>nomatch z) h
 | @dT a kvs ea=>
  cases (show u=Value.ref a from rx);obtain⟨_,_,xs,_,o,es,ep,h1,h2,_⟩:=(show dS X.prog X.w H s.heap a (.dT kvs)from I.hok a _ ea)
  exact mF PySem.W.kitx_dict I.kIn ⟨o,h1,h2.1⟩ e (λz=>nomatch z) h
 | @ins a C dx fs ea cl ha hn wq hm=>
  cases (show u=Value.ref a from rx);obtain⟨mA,O,_⟩:=OG I.hok ea;obtain⟨od,J,_⟩:=O.look;exact mF (PySem.W.kitx_own (cl.get _) cl.hd ha hn wq hm) I.kIn J e (λz=>nomatch z) h
end
structure Room(k:Nat)(A:be):Prop where
 hd:A.handled=ae
 dp:A.depth+3 * k+5<vH
 un:A.units+16 * k+200<cLine
theorem Room.mono{j k:Nat}{A:be}(r:Room k A)(h:j<=k):Room j A:=⟨r.hd,by have:=r.dp; lia,by have:=r.un; lia⟩
theorem Room.deeper{k:Nat}{A:be}(r:Room (k+1) A)(env:Env):Room k (A.deeper env) :=⟨r.hd,by have:=r.dp; show A.depth+1+3 * k+5<_; lia,by have:=r.un; show A.units+3+16 * k+200<_; lia⟩
theorem Room.in1{k:Nat}{A:be}(r:Room (k+1) A):Room k A.in1 :=⟨r.hd,by have:=r.dp; show A.depth+3 * k+5<_; lia,by have:=r.un; show A.units+1+16 * k+200<_; lia⟩
theorem Room.depth{k:Nat}{A:be}(r:Room k A):A.depth<vH:=by have:=r.dp; lia
theorem Room.units{k:Nat}{A:be}(r:Room k A):A.units+64<cLine:=by have:=r.un; lia
def Nt:TA:=λ_ H Q=>Q [] H
def Ni(ta:TE)(tr:TA):TA:=λσ H Q=>ta σ H λx H1=>tr σ H1 λxs H2=>Q (x::xs) H2
section
variable{X:Cx}{e:aC}{es:List aC}{te:TE}{t:TA}{pos:Pos}
theorem mn:PA X [] Nt:=λ_ _ _ _ H Q I h=>Jt ⟨[],H,I,.nil,h⟩
theorem kc(ha:PE X e te)(hr:PA X es t)(hs:bq (e::es) X.env=(ao,bv e X.env)::bq es X.env:=by rfl):PA X (e::es) (Ni te t):=by intro pos ah s σ H Q I h;rw[hs];show ax _ _ (spliced ((ao,bv e X.env)::fZ pos (bq es X.env))) _ _ s;refine Cy (aU (ha ah s σ H _ I h) λu s1 ⟨x,H1,I1,r1,q1⟩=>?_);exact aU (hr pos ah s1 σ H1 _ I1 q1) λus s2 ⟨xs,H2,I2,r2,q2⟩=>⟨x::xs,H2,I2,.cons r1 r2,q2⟩
def OP(t:TA):TE:=λσ H Q=>t σ H λxs H1=>xs.length<=bp/\∀ p,H1 p=ae->Q (.ref p) (upd H1 p (.tup xs))
def K6(t:TA):TE:=λσ H Q=>t σ H λxs H1=>xs.length<=bp/\∀ p,H1 p=ae->Q (.ref p) (upd H1 p (.lst xs))
theorem Mi{x1}(h:PA X es t):PE X (.Tuple es x1 pos) (OP t):=by intro ah s σ H Q I hq;refine wpAny_Tuple_spliced (aU (h pos ah s σ H _ I hq) λus s1 ⟨xs,H1,I1,r,z,q⟩=>⟨by rw[← r.length]; exact z,?_⟩);have hf:H1 s1.heap.objs.size=ae:=I1.hok.fresh (bi _);refine⟨.ref s1.heap.objs.size,upd H1 s1.heap.objs.size (.tup xs),I1.laid (t':=s1.toks) (λb u e=>bK _ e) (bi _) ?_,rfl,q _ hf⟩;exact⟨z,us,r,⟨⟨_,dz _ rfl,rfl,_,rfl⟩,_,dz _ rfl,rfl⟩⟩
theorem SQ(h:PA X es t):PE X (.List es pos) (K6 t):=by intro ah s σ H Q I hq;refine wpAny_List_spliced (aU (h pos ah s σ H _ I hq) λus s1 ⟨xs,H1,I1,r,z,q⟩=>⟨by rw[← r.length]; exact z,?_⟩);have hf:H1 s1.heap.objs.size=ae:=I1.hok.fresh (bi _);refine⟨.ref s1.heap.objs.size,upd H1 s1.heap.objs.size (.lst xs),I1.laid (t':=s1.toks) (λb u e=>bK _ e) (bi _) ?_,rfl,q _ hf⟩;exact⟨z,us,0,r,dz _ rfl⟩
end
abbrev Sp:=List V->Hp->VK->XK->Prop
abbrev fV:=List Env->Hp->aq->XK->ak->aq->Prop
structure rO(P:aX)(w:aN)(K:az)(mg:Str->Option ak)(base:aE)(A:be)(outer:List Env)(s:aq)(H:Hp):Prop where
 frames:A.frames=aa outer
 mod:Mod K mg base
 bs:∀ b o,base.get? b=aa o->s.heap.get? b=aa o/\H b=ae
 bsz:base.objs.size<=s.heap.objs.size
 funs:s.heap.FunFrames base outer
 frf:∀ b∈gx outer,H b=ae
 hok:d_ P w H s.heap
 bare:nL s.gens
 tab:w6 K H
def CE(outer:List Env)(P:aX)(w:aN)(H:Hp)(s:aq)(Q:VK)(u:ak)(s':aq):Prop :=
 ∃ v H',s'.os=s.os/\nL s'.gens/\Un (gx outer) [] H H' s.heap s'.heap/\d_ P w H' s'.heap/\RelV v u/\Q v H'
def CR(CX:fV)(outer:List Env)(P:aX)(w:aN)(H:Hp)(s:aq)(Q:VK)(E:XK)(r:Result)(s':aq):Prop :=
 match r with
 | .ok (.ret u)=>CE outer P w H s Q u s'
 | .ok _=>False
 | .error e=>CX outer H s E e s'
structure jn(P:aX)(w:aN)(K:az)(mg:Str->Option ak)(base:aE)(CX:fV)(k:Nat)(f:af)(fd:iq)(ps:List Str)(sp:Sp):Prop where
 len:∀ vs H Q E,sp vs H Q E->vs.length=ps.length
 run:∀ (A:be) (outer:List Env) (s:aq) (H:Hp) (args:Args) (us:List ak) (vs:List V) (Q:VK) (E:XK),Room k A->rO P w K mg base A outer s H->BindsTo s fd args (ps.zip us)->bI vs us->sp vs H Q E ->
  o8 (ay P w) A (.call (.ref f) args) (CR CX outer P w H s Q E) s
theorem jn.mono{P:aX}{w:aN}{K:az}{mg:Str->Option ak}{base:aE}{CX:fV}{j k:Nat}{f:af}{fd:iq}{ps:List Str}{sp:Sp}(F:jn P w K mg base CX j f fd ps sp)(h:j<=k) : jn P w K mg base CX k f fd ps sp:=⟨F.len,λA outer s H args us vs Q E hr=>F.run A outer s H args us vs Q E (hr.mono h)⟩
theorem rO.in1{P:aX}{w:aN}{K:az}{mg:Str->Option ak}{base:aE}{A:be}{outer:List Env}{s:aq}{H:Hp}(e:rO P w K mg base A outer s H) : rO P w K mg base A.in1 outer s H:=⟨e.frames,e.mod,e.bs,e.bsz,e.funs,e.frf,e.hok,e.bare,e.tab⟩
section
variable{X:Cx}{ah:List (af×Obj)}{σ:St}{H:Hp}{s s':aq}
theorem Inv.env0(I:Inv X ah σ H s):rO X.prog X.w X.K X.mg X.base X.A X.stack s H :=⟨I.ok.frames,I.ok.mod,I.bs,cI I.ok.bsz I.sz,I.stack,I.stkFree,I.hok,I.bare,I.tab⟩
theorem Inv.after{Q:VK}{u:ak}(I:Inv X ah σ H s)(h:CE X.stack X.prog X.w H s Q u s'):EP X ah σ Q u s':=by obtain⟨v,H',os,bare,un,hok,r,q⟩:=h;obtain⟨hh,g,d,t,os'⟩:=s';obtain rfl:os'=s.os:=os;exact⟨v,H',I.call (h':=hh) (g':=g) (d':=d) (t':=t) (ch:=[]) un hok bare (λb z=>absurd z (by simp)),r,q⟩
end
def MI(sp:Sp)(dvs:List V)(E:XK)(t:TA):TE:=λσ H Q=>t σ H λvs H1=>sp (vs++dvs) H1 Q E
def Binds(K:az)(fd:iq)(ps:List Str)(ds:List ak):Prop :=
 ∀ (s:aq) (us:List ak),K.In s.heap->(us++ds).length=ps.length->BindsTo s fd ⟨us,[]⟩ (ps.zip (us++ds))
theorem Binds.all{K:az}{fd:iq}{ps:List Str}(h:∀ us:List ak,us.length=ps.length->gE fd ⟨us,[]⟩=pure (ps.zip us)):Binds K fd ps []:=λs us _ hl=>by rw[ja]at hl ⊢;exact .of_eq (h us hl)
def sj(CX:fV)(X:Cx)(E:XK):Prop:=∀ (ah:List (af×Obj)) (σ:St) (H:Hp) (s:aq) (e:ak) (s':aq),Inv X ah σ H s->CX X.stack H s E e s'->X.xe e s'
section
variable{X:Cx}{CX:fV}{k:Nat}{f C:af}{fd:iq}{ps:List Str}{sp:Sp}{dvs:List V}{ds:List ak}{E:XK}{x m:Str}{p pos apos:Pos}{e o:aC}{es:List aC}{ta:TE}{t:TA}
theorem Ue{ah:List (af×Obj)}{σ:St}{H:Hp}{s:aq}{Q:VK}{us:List ak}{vs:List V}(F:jn X.prog X.w X.K X.mg X.base CX k f fd ps sp)(hr:Room k X.A)(hb:Binds X.K fd ps ds)(hd:bI dvs ds)(hx:sj CX X E)(I:Inv X ah σ H s) (r:bI vs us) (h:sp (vs++dvs) H Q E):ax (ay X.prog X.w) X.A (call (.ref f) us) (EP X ah σ Q) X.xe s:=by
 have r2:bI (vs++dvs) (us++ds):=r.append hd;have hl:(us++ds).length=ps.length:=by rw[← r2.length]; exact F.len _ _ _ _ h
 refine wpAny_call (zh (F.run X.A X.stack s H ⟨us,[]⟩ (us++ds) (vs++dvs) Q E hr I.env0 (hb s us I.kIn hl) r2 h) λr s' hq=>?_);cases r with
 | error e=>exact hx ah σ H s e s' I hq
 | ok fl=>
  cases fl with
  | ret u=>exact I.after hq
  | next=>exact kj hq
  | brk=>exact kj hq
  | cont=>exact kj hq
theorem Fi(F:jn X.prog X.w X.K X.mg X.base CX k f fd ps sp)(hr:Room k X.A)(hg:Gl X x)(hm:X.mg x=aa (.ref f))(hk:sV X.K (.ref f)=ai)(hb:Binds X.K fd ps ds)(hd:bI dvs ds)(hx:sj CX X E)(ha:PA X (e::es) t) (jF:(x == ("__debug__" : Str))=ao:=by decide) (he:bq (e::es) X.env=(ao,bv e X.env)::bq es X.env:=by rfl) (dI:(fZ pos (bq es X.env)).any (·.1)=ao:=by rfl) : PE X (.Call (.Name x p) (e::es) [] pos) (MI sp dvs E t):=by intro ah s σ H Q I h;refine Cz (Cf I hg hm ?_ jF);refine PySem.W.callWith_K (h₀:=X.base) I.ok.mod.kin hk (aU (ha pos ah s σ H _ I h) λus s1 ⟨vs,H1,I1,r,q⟩=>⟨I1.kIn,?_⟩) he dI;exact Ue F hr hb hd hx I1 r q
end
structure b8(N P:List Str)(sc:eC):Prop where
 kind:sc.kind = .function
 co:sc.isCoroutine=ao
 gen:sc.isGenerator=ao
 nd:N.Nodup
 pre:N.take P.length=P
 par:∀ x∈P,sc.names.lookup x=aa .local\/sc.names.lookup x=aa .cell
 nofree:∀ y∈sc.names,y.2≠.free
theorem G4{kindOf:Str->Option gY}{x:Str}:∀ {binds:List (Str×ak)} {m:Str->Option ak},(∀ v,(x,v)∉binds)->bindL kindOf binds m x=m x
 | [],_,_=>rfl
 | (n,v)::r,m,h=>by
  unfold bindL;rw[G4 λw hw=>h w (kX _ hw)];split
  ·have:x≠n:=by rintro rfl; exact h v my
   simp[this]
  ·rfl
theorem Je{kindOf:Str->Option gY}{x:Str}:∀ {binds:List (Str×ak)} {m:Str->Option ak},(∀ v,(x,v)∉binds)->bindC kindOf binds m x=m x
 | [],_,_=>rfl
 | (n,v)::r,m,h=>by
  unfold bindC;rw[Je λw hw=>h w (kX _ hw)];split
  ·rfl
  ·have:x≠n:=by rintro rfl; exact h v my
   simp[this]
theorem E8{kindOf:Str->Option gY}{x:Str}{v:ak}:∀ {P:List Str} {vs:List ak} {i:Nat} {m:Str->Option ak},P.Nodup->P[i]?=aa x->vs[i]?=aa v->kindOf x=aa .local -> bindL kindOf (P.zip vs) m x=aa v
 | [],_,_,_,_,h,_,_=>by simp at h
 | _::_,[],_,_,_,_,h,_=>by simp at h
 | p::P,w::vs,0,m,nd,h1,h2,hk=>by simp at h1 h2; subst h1; subst h2;show bindL kindOf ((p,w)::P.zip vs) m p=_;unfold bindL;rw[G4 λv hv=>(jx.mp nd).1 (List.of_mem_zip hv).1,if_pos hk];simp
 | p::P,w::vs,i+1,m,nd,h1,h2,hk=>by show bindL kindOf ((p,w)::P.zip vs) m x=_;unfold bindL;exact E8 (i:=i) (jx.mp nd).2 (by simpa using h1) (by simpa using h2) hk
theorem IV{kindOf:Str->Option gY}{x:Str}{v:ak}:∀ {P:List Str} {vs:List ak} {i:Nat} {m:Str->Option ak},P.Nodup->P[i]?=aa x->vs[i]?=aa v->kindOf x≠aa .local -> bindC kindOf (P.zip vs) m x=aa v
 | [],_,_,_,_,h,_,_=>by simp at h
 | _::_,[],_,_,_,_,h,_=>by simp at h
 | p::P,w::vs,0,m,nd,h1,h2,hk=>by simp at h1 h2; subst h1; subst h2;show bindC kindOf ((p,w)::P.zip vs) m p=_;unfold bindC;rw[Je λv hv=>(jx.mp nd).1 (List.of_mem_zip hv).1,if_neg hk];simp
 | p::P,w::vs,i+1,m,nd,h1,h2,hk=>by show bindC kindOf ((p,w)::P.zip vs) m x=_;unfold bindC;exact IV (i:=i) (jx.mp nd).2 (by simpa using h1) (by simpa using h2) hk
def start(N:List Str)(vs:List V):St:=vs.map aa++bF (N.length-vs.length) ae
def iX(CX:fV)(P:aX)(w:aN)(K:az)(mg:Str->Option ak)(base:aE)(N:List Str)(qual:Str)(scope:eC)(f:af)(cd:ak)(A:be)(outer:List Env)(s:aq)(H:Hp)(E:XK):Cx where
 prog:=P
 w:=w
 K:=K
 mg:=mg
 base:=base
 A:=A.deeper (jV qual scope s.heap.objs.size f cd)
 N:=N
 s₀:=s
 H₀:=H
 env:=jV qual scope s.heap.objs.size f cd
 outer:=outer
 stack:=jV qual scope s.heap.objs.size f cd::outer
 ex:=[]
 calm:=ai
 fn:=λ_=>ai
 pn:=[]
 xe:=λe s'=>ax (ay P w) (A.deeper (jV qual scope s.heap.objs.size f cd)) (leaving (jV qual scope s.heap.objs.size f cd) e) (λ_ s''=>CX outer H s E e s'') (λe' s''=>CX outer H s E e' s'') s'
theorem EX{sc:eC}{n:Nat}{x:Str}(h:sc.names.lookup x=aa .cell):∃ c,(gq n sc.names []).lookup x=aa c:=by have q:=PySem.W.cellsFrom_some sc.names n [] (.inl h);exact Option.isSome_iff_exists.mp q
theorem Ov{CX:fV}{P:aX}{w:aN}{K:az}{mg:Str->Option ak}{base:aE}{N ps:List Str}{qual:Str}{scope:eC}{f:af}{cd:ak}{A:be}{outer:List Env}{s s1:aq}{H:Hp}{E:XK}{us:List ak}{vs:List V}(S:b8 N ps scope) (hd:A.handled=ae) (e0:rO P w K mg base A outer s H) (hl:vs.length=ps.length) (r:bI vs us)(x:InCallC s s.heap.objs.size (bindL (jV qual scope s.heap.objs.size f cd).kindOf (ps.zip us) λ_=>ae) (gq (s.heap.objs.size+1) scope.names []) (bindC (jV qual scope s.heap.objs.size f cd).kindOf (ps.zip us) λ_=>ae) s1) : Inv (iX CX P w K mg base N qual scope f cd A outer s H E) [] (start N vs) H s1:=by
 have dI:ps.length<=N.length:=by have:=congrArg sW S.pre; rw[jW]at this; lia
 obtain⟨h1,tk,rfl,hk⟩:=x.done;have noA:∀ b:af,b∉(iX CX P w K mg base N qual scope f cd A outer s H E).ex:=λb z=>absurd (show b∈([]:List af)from z) (by simp);refine⟨⟨e0.mod,S.kind,rfl,rfl,bi _,λy z c h1 h2=>?_,λy hy=>?_,λy c _ h=>?_,λ_=>hd,Around.frames_deeper e0.frames,.inr ⟨rfl,rfl⟩,λb z=>absurd z (noA b),e0.bs,e0.bsz,λb _ _=>noA b,λb z=>absurd z (noA b),e0.funs,e0.frf,e0.tab⟩,rfl,e0.bare,Un.kept hk,⟨_,x.toInCall.ns,λi y v h1 h2 h3=>?_⟩,λy c h=>⟨_,x.cell y c h⟩,e0.hok.fresh (bi _),λy c h=>?_,λp hp=>absurd (show p∈([]:List (af×Obj))from hp) (by simp),e0.hok.kept hk,?_⟩
 ·exact name_of_addr x.apart (lD h1) (lD h2)
 ·have hy:scope.names.lookup y=aa .cell\/scope.names.lookup y=aa .free:=hy;rcases hy with hy | hy
  ·exact EX hy
  ·exact absurd rfl (S.nofree _ (lD hy))
 ·exact lA (x.above y c (lD h))
 ·have hi:i<vs.length:=by
   unfold start at h2;by_cases hi:i<vs.length
   ·exact hi
   ·rw[jy (by simpa using hi)]at h2;rw[List.getElem?_replicate]at h2;split at h2 <;> cases h2
  have ha:vs[i]?=aa v:=by
   unfold start at h2;rw[fJ (by simpa using hi),ir]at h2;cases e:vs[i]? with
   | none=>rw[e]at h2; cases h2
   | some a=>rw[e]at h2; cases h2; rfl
  obtain⟨u,hu,rv⟩:=r.get ha;have hp:ps[i]?=aa y:=by rw[← S.pre,zi ∅]; exact h1
  have ndP:ps.Nodup:=by rw[← S.pre]; exact S.nd.sublist (List.take_sublist _ _)
  refine⟨u,rv,?_⟩;rcases S.par y (vI hp)with k | k
  ·exact .inl ⟨k,E8 ndP hp hu k⟩
  ·obtain⟨c,e⟩:=EX (n:=s.heap.objs.size+1) k;refine .inr ⟨.inl k,c,e,?_⟩;have q:=x.cell y c e;rw[IV ndP hp hu (by show scope.names.lookup y≠_; rw[k]; decide)]at q;exact q
 ·exact e0.hok.fresh (lA (x.above y c (lD h)))
 ·unfold start;show _=N.length;rw[dq,cD,List.length_replicate];lia
theorem D7{CX:fV}{P:aX}{w:aN}{K:az}{mg:Str->Option ak}{base:aE}{k:Nat}{f:af}{name qual:Str}{params:sX}{body:List bf}{scope:eC}{dV kV doc pm aP ct oc:ak}{an od:Option af}{osl:Array (Option ak)} {N ps:List Str} {sp:Sp} (lk:K.lookup f=aa ⟨oc,od,.func (kl name qual params body scope dV kV doc pm an aP ct),osl⟩) (bM:zj K aP qual=ai) (S:b8 N ps scope)(len:∀ vs H Q E,sp vs H Q E->vs.length=ps.length)(jD:∀ (A:be) (outer:List Env) (s:aq) (H:Hp) (vs:List V) (Q:VK) (E:XK),Room k (A.deeper (jV qual scope s.heap.objs.size f aP))->sp vs H Q E -> ∃ t,jS (iX CX P w K mg base N qual scope f aP A outer s H E) body t/\t { nx:=λ_ H'=>Q .non H',rt:=Q } (start N vs) H) : jn P w K mg base CX (k+1) f (kl name qual params body scope dV kV doc pm an aP ct) ps sp:=by
 refine⟨len,λA outer s H args us vs Q E hr e0 hb r mQ=>?_⟩;have hl:=len _ _ _ _ mQ;have KX:K.In s.heap:=e0.mod.kin.keeps λb o e=>(e0.bs b o e).1;have lim:s.heap.NoLimit:=e0.mod.nolimit.keeps λb o e=>(e0.bs b o e).1;have Ut:∀ y∈ps.zip us,scope.names.lookup y.1=aa .local\/(scope.names.lookup y.1=aa .cell/\((gq (s.heap.objs.size+1) scope.names []).lookup y.1).isSome=ai):=λ⟨n,v⟩ hy=>by
  rcases S.par n (List.of_mem_zip hy).1 with q | q
  ·exact .inl q
  ·exact .inr ⟨q,PySem.W.cellsFrom_some _ _ _ (.inl q)⟩
 refine codeAny_call_function hr.depth (KX _ _ lk) rfl S.co S.gen rfl (PySem.W.codeRec_of KX bM) (hb _ _ _ _ ?_);refine wpAny_newFunctionEnv_cells S.kind Ut λenv he s1 x=>?_;subst he;refine⟨lim.keeps x.toInCall.keep,codeAny_func ?_⟩;obtain⟨t,ht,hq⟩:=jD A outer s H vs Q E (hr.deeper _) mQ;have I:Inv (iX CX P w K mg base N qual scope f aP A outer s H E) [] (start N vs) H s1:=Ov S hr.hd e0 hl r x;refine dW (ht [] s1 (start N vs) H _ I hq) (λfl s' hs=>?_) λe s' hs=>hs;have fin:∀ {σ':St} {H':Hp} {v:V} {u:ak},Inv (iX CX P w K mg base N qual scope f aP A outer s H E) [] σ' H' s'->RelV v u->Q v H'->CE outer P w H s Q u s' :=λ{σ' H' v u} J rv q=>⟨v,H',J.os,J.bare,J.base,J.hok,rv,q⟩
 cases fl with
 | ret u=>obtain⟨v,σ',H',J,rv,q⟩:=hs;exact fin J rv q
 | next=>obtain⟨σ',H',J,q⟩:=hs;exact fin (v:=V.non) (u:=Value.none) J rfl q
 | brk=>obtain⟨_,_,_,q⟩:=hs;exact kj q
 | cont=>obtain⟨_,_,_,q⟩:=hs;exact kj q
section
variable{X:Cx}{x:Str}{p pos:Pos}{e:aC}{es:List aC}{t:TA}{id T:String}{r:List V->Hp->VK->Prop}
def HJ(r:List V->Hp->VK->Prop)(t:TA):TE:=λσ H Q=>t σ H λvs H1=>r vs H1 Q
theorem sN(hc:gL X (.builtin id) r)(hg:Gl X x)(hm:X.mg x=ae)(hv:fq x=aa (.builtin id))(ha:PA X (e::es) t)(hn:x≠"__name__":=by decide)(jF:(x == ("__debug__" : Str))=ao:=by decide)(he:bq (e::es) X.env=(ao,bv e X.env)::bq es X.env:=by rfl) (dI:(fZ pos (bq es X.env)).any (·.1)=ao:=by rfl):PE X (.Call (.Name x p) (e::es) [] pos) (HJ r t):=by intro ah s σ H Q I h;refine Cz (sH I hg hm hv ?_ hn jF);exact PyProof.Rows.callWith_builtin1 (aU (ha pos ah s σ H _ I h) λus s1 ⟨vs,H1,I1,r1,q1⟩=>hc ah s1 σ H1 vs us Q I1 r1 q1) he dI
theorem sB(hc:gL X (.type T) r)(hg:Gl X x)(hm:X.mg x=ae)(hv:fq x=aa (.type T))(ha:PA X (e::es) t)(hn:x≠"__name__":=by decide)(jF:(x == ("__debug__" : Str))=ao:=by decide)(he:bq (e::es) X.env=(ao,bv e X.env)::bq es X.env:=by rfl) (dI:(fZ pos (bq es X.env)).any (·.1)=ao:=by rfl):PE X (.Call (.Name x p) (e::es) [] pos) (HJ r t):=by intro ah s σ H Q I h;refine Cz (sH I hg hm hv ?_ hn jF);exact Jp (aU (ha pos ah s σ H _ I h) λus s1 ⟨vs,H1,I1,r1,q1⟩=>hc ah s1 σ H1 vs us Q I1 r1 q1) he dI
end
end L2
namespace HT
section
open PySem.SeqAt
open PySem.AutoSeq1 (wpAny_loadPart')
open PySem.MeetsSeq PySem.MeetsSeq2 PySem.MeetsSeq3
end
section
variable{prog:aX}{w:aN}{A:be}{E:ak->aq->Prop}{s:aq}
theorem cat_tup{t b:af}{vs ws:List ak}{Q:ak->aq->Prop}(ht:IsTup s.heap t vs.toArray)(hb:IsTup s.heap b ws.toArray)(hv:vs≠[])(h1:ws=[]->Q (.ref t) s) (h2:ws≠[]->Q (.ref s.heap.objs.size) { s with heap:=s.heap.push { cls:=.type "tuple",data:=.seq (vs++ws).toArray } })(hsz:vs.length+ws.length<=bp):ax (ay prog w) A (jw .Add (.ref t) (.ref b)) Q E s:=by
 obtain⟨⟨cls,dd,data,sl⟩,ho,hc,n,hd⟩:=id ht;obtain⟨⟨cls2,dd2,data2,sl2⟩,pq,hc2,n2,wt⟩:=id hb;simp only at hc hd hc2 wt;subst hc hd hc2 wt;have e:vs.toArray++ws.toArray=(vs++ws).toArray:=by simp
 by_cases hw:ws=[]
 ·exact concat_meets ⟨_,ho,rfl⟩ ⟨_,pq,rfl⟩ noFill_tuple_add seq_tuple_add PySem.F.slot_tuple_add PySem.F.entry_tuple_add (PySem.F.args_tuple_add_2 _ _)
   (tuple_addW1 t b vs.toArray ws.toArray n n2 dd dd2 sl sl2 (by simpa using hv) (by simp[hw])) ⟨ho,pq,h1 hw⟩
 ·refine concat_meets ⟨_,ho,rfl⟩ ⟨_,pq,rfl⟩ noFill_tuple_add seq_tuple_add PySem.F.slot_tuple_add PySem.F.entry_tuple_add (PySem.F.args_tuple_add_2 _ _)
   (tuple_addW2 t b vs.toArray ws.toArray n n2 dd dd2 sl sl2 (by simpa using hv) (by simpa using hw) (by rw[dA,dA]; exact hsz)) ⟨ho,pq,?_⟩
  rw[e];exact h2 hw
def sIx(n d:Nat):Option Int->Nat
 | none=>d
 | some v=>if v<0 then(v+(n:Int)).toNat else min v.toNat n
theorem sIx_nat(n d k:Nat):sIx n d (aa (k:Int))=min k n:=by show(if(k:Int)<0 then((k:Int)+(n:Int)).toNat else min (k:Int).toNat n)=min k n;rw[if_neg ∅,mG]
theorem sIx_le(n d:Nat)(hd:d<=n)(o:Option Int):sIx n d o<=n:=by
 cases o with
 | none=>exact hd
 | some v=>
  show(if v<0 then(v+(n:Int)).toNat else min v.toNat n)<=n;by_cases hv:v<0
  ·rw[if_pos hv]; lia
  ·rw[if_neg hv]; exact Nat.min_le_right _ _
theorem EI(v:Int)(n d:Nat):(if v<0 then max (v+(n:Int)) 0 else min v (n:Int))=((sIx n d (aa v):Nat):Int):=by
 show(if v<0 then max (v+(n:Int)) 0 else min v (n:Int))=(((if v<0 then(v+(n:Int)).toNat else min v.toNat n):Nat):Int)
 by_cases hv:v<0
 ·simp only[if_pos hv]; lia
 ·simp only[if_neg hv]; lia
theorem Nq(lo hi:Option Int)(n:Nat):Ju lo hi 1 (n:Int)=(((sIx n 0 lo:Nat):Int),((sIx n n hi:Nat):Int)):=by
 have h1:¬ ((1:Int)<0):=∅
 unfold Ju;simp only[h1,if_false];refine Prod.ext ?_ ?_
 ·cases lo with
  | none=>rfl
  | some v=>exact EI v n 0
 ·cases hi with
  | none=>rfl
  | some v=>exact EI v n n
theorem Qt(i j:Nat):CA (i:Int) (j:Int) 1=j-i:=by
 unfold CA;have h1:(1:Int) > 0:=∅
 simp only[h1,if_true,Int.ediv_one];split <;> lia
theorem Iw{v:ak}{o:Option Int}{Q:Option Int->aq->Prop}(p:nQ v o)(h:Q o s):ax (ay prog w) A (Builtin.Slice.slicePartIndex v) Q E s:=by
 cases p with
 | none=>exact slicePart_none h
 | int i t=>exact slicePart_int h
theorem Rn{sl:af}{vl vu:ak}{lo hi:Option Int}{n:Nat}{Q:Int×Int×Nat->aq->Prop}(hs:s.heap.IsSliceOf sl vl vu .none)(pl:nQ vl lo)(pu:nQ vu hi)(h:Q (((sIx n 0 lo:Nat):Int),1,sIx n n hi-sIx n 0 lo) s):ax (ay prog w) A (Builtin.Slice.sliceApplied (.ref sl) (pure (n:Int))) Q E s:=by
 obtain⟨os,wu,hcs,hds⟩:=id hs;unfold Builtin.Slice.sliceApplied Builtin.Slice.sliceFields;refine ar (ar (sY wu hds (x:=vl) rfl (ar (sY wu hds (x:=vu) rfl (ar (sY wu hds (x:=.none) rfl (aD ?_)))))));refine ar (slicePart_none ?_);show ax _ _ (if((1:Int) == 0)=ai then _ else _) _ _ s;rw[if_neg (by decide)];refine ar (Iw pl (ar (Iw pu (ar (aD ?_)))));show ax _ _ (match Ju lo hi 1 (n:Int)with | (lo,hi)=>pure (lo,(1:Int),CA lo hi 1)) _ _ s;rw[Nq lo hi n];show ax _ _ (pure (((sIx n 0 lo:Nat):Int),(1:Int),CA ((sIx n 0 lo:Nat):Int) ((sIx n n hi:Nat):Int) 1)) _ _ s;rw[Qt];exact aD h
theorem Pq(xs:Array ak)(i k:Nat):((bQ k).filterMap λ(m:Nat)=>xs[((i:Int)+(m:Int) * 1).toNat]?).toArray=((xs.toList.drop i).take k).toArray:=by
 have e:(λ(m:Nat)=>xs[((i:Int)+(m:Int) * 1).toNat]?)=λm=>xs[i+m]?:=by
  funext m;have:((i:Int)+(m:Int) * 1).toNat=i+m:=∅
  rw[this]
 rw[e];have:=pick_run xs i k;rw[Jv]at this;have e2:((λx=>xs[x]?) ∘ λx=>i+x)=λm=>xs[i+m]?:=rfl;rw[e2]at this;rw[this]
theorem getItem_tuple_cut{t sl:af}{items:Array ak}{vl vu:ak}{lo hi:Option Int}{Q:ak->aq->Prop}(ht:IsTup s.heap t items)(hs:s.heap.IsSliceOf sl vl vu .none)(pl:nQ vl lo)(pu:nQ vu hi)(hw:¬ (sIx items.size 0 lo=0/\sIx items.size items.size hi=items.size))(h:Q (.ref s.heap.objs.size) { s with heap:=s.heap.push { cls:=.type "tuple",data:=.seq ((items.toList.drop (sIx items.size 0 lo)).take (sIx items.size items.size hi-sIx items.size 0 lo)).toArray } })(hsz:items.size<=bp):ax (ay prog w) A (qz (.ref t) (.ref sl)) Q E s:=by
 have zN:sizeOk (.seq ((items.toList.drop (sIx items.size 0 lo)).take (sIx items.size items.size hi-sIx items.size 0 lo)).toArray):=by show((items.toList.drop (sIx items.size 0 lo)).take (sIx items.size items.size hi-sIx items.size 0 lo)).toArray.size<=bp;rw[dA,jW,jX,gX];lia
 have hj:sIx items.size items.size hi<=items.size:=sIx_le _ _ (bi _) hi;obtain⟨os,wu,hcs,hds⟩:=id hs;have hTs:s.TypeIs (.ref sl) "slice":=⟨os,wu,hcs⟩
 unfold qz
 try with_reducible refine lF ?_
 first | refine ar (aD ?_) | skip
 refine ar (wpAny_sequenceKey ht.typeIs (by decide) ?_);refine ar (wpAny_callSpecial?_slot (name:=CB "__getitem__") ht.typeIs Ul (vJ Ul ht.typeIs entry_tuple_getitem ?_ (args_tuple_getitem _ _)));show ax _ _ (Builtin.Tuple.tupleItemsOf (.ref t) >>= _) _ _ s;refine ar (tupleItemsOf_ ht ?_);refine ar (wpAny_typeOf hTs ?_);rw[if_pos (by decide)];refine ar (Rn hs pl pu ?_);have hno:¬ ((((sIx items.size 0 lo:Nat):Int) == 0 && (1:Int) == 1 && (sIx items.size items.size hi-sIx items.size 0 lo) == items.size)=ai):=by intro q;rw[iu,iu]at q;have q1:((sIx items.size 0 lo:Nat):Int)=0:=eq_of_beq q.1.1;have q2:sIx items.size items.size hi-sIx items.size 0 lo=items.size:=eq_of_beq q.2;exact hw ⟨∅,∅⟩
 show ax _ _ (if(((sIx items.size 0 lo:Nat):Int) == 0 && (1:Int) == 1 && (sIx items.size items.size hi-sIx items.size 0 lo) == items.size)=ai then _ else _) _ _ s;rw[if_neg hno,Pq]
 first
  | exact ar (m:=CC _) (mH (aD ⟨_,rfl,aD h⟩) zN)
  | exact ar (m:=CC _) (mH (ar (aD (aD ⟨_,rfl,aD h⟩))) zN)
  | exact ar (ar (m:=CC _) (mH (aD (aD ⟨_,rfl,aD h⟩)) zN))
  | exact ar (ar (m:=CC _) (mH (aD ⟨_,rfl,aD h⟩) zN))
end
end HT
namespace L2
abbrev TO:=St->Hp->(Option Int->Hp->Prop)->Prop
def PO(X:Cx)(e:Option aC)(t:TO):Prop :=
 ∀ (ah:List (af×Obj)) (s:aq) (σ:St) (H:Hp) (Q:Option Int->Hp->Prop),Inv X ah σ H s->t σ H Q ->
  ax (ay X.prog X.w) X.A (evalPart e X.env) (λu s'=>∃ o H',Inv X ah σ H' s'/\nQ u o/\Q o H') X.xe s
def RX:TO:=λ_ H Q=>Q ae H
def MV(t:TE):TO:=λσ H Q=>t σ H λx H1=>∃ i,x = .int i/\Q (aa i) H1
section
variable{X:Cx}{e:aC}{te:TE}{lo hi:Option aC}{tl th:TO}{pos p2:Pos}
theorem NS:PO X ae RX:=by intro ah s σ H Q I h;rw[evalPart_none];exact aD ⟨ae,H,I,.none,h⟩
theorem PD(h:PE X e te):PO X (aa e) (MV te):=by intro ah s σ H Q I hw;rw[evalPart_some];refine aU (h ah s σ H _ I hw) λu s1 ⟨x,H1,I1,r1,q1⟩=>?_;obtain⟨i,rfl,q⟩:=q1;obtain⟨t,rfl⟩:=r1;exact⟨aa i,H1,I1,.int i t,q⟩
def m8(X:Cx)(r:V->Option Int->Option Int->Hp->VK->Prop):Prop :=
 ∀ (ah:List (af×Obj)) (s:aq) (σ:St) (H:Hp) (x:V) (v vl vu:ak) (lo hi:Option Int) (sl:af) (Q:VK),Inv X ah σ H s->RelV x v->s.heap.IsSliceOf sl vl vu .none->nQ vl lo->nQ vu hi->r x lo hi H Q ->
  ∃ T id,typeLookup (.type T) "__getitem__" = pure (aa (.builtin id))/\s.TypeIs v T/\ax (ay X.prog X.w) X.A (qz v (.ref sl)) (EP X ah σ Q) X.xe s
theorem m8.or{r r':V->Option Int->Option Int->Hp->VK->Prop}(h:m8 X r)(h':m8 X r'):m8 X (λx lo hi H Q=>r x lo hi H Q\/r' x lo hi H Q):=by
 intro ah s σ H x v vl vu lo hi sl Q I rx hs pl pu q;rcases q with q | q
 ·exact h ah s σ H x v vl vu lo hi sl Q I rx hs pl pu q
 ·exact h' ah s σ H x v vl vu lo hi sl Q I rx hs pl pu q
def QP(r:V->Option Int->Option Int->Hp->VK->Prop)(te:TE)(tl th:TO):TE:=λσ H Q=>te σ H λx H1=>tl σ H1 λl H2=>th σ H2 λu H3=>r x l u H3 Q
theorem OH{r:V->Option Int->Option Int->Hp->VK->Prop}(hr:m8 X r)(he:PE X e te)(hl:PO X lo tl)(hu:PO X hi th):PE X (.Subscript e (.Slice lo hi ae p2) pos) (QP r te tl th):=by intro ah s σ H Q I h;refine Subscript_ (aU (he ah s σ H _ I h) λv s1 ⟨x,H1,I1,r1,q1⟩=>?_);refine wpAny_Slice (aU (hl ah s1 σ H1 _ I1 q1) λvl s2 ⟨l,H2,I2,pl,q2⟩=>aU (hu ah s2 σ H2 _ I2 q2) λvu s3 ⟨u,H3,I3,pu,q3⟩=>?_);rw[evalPart_none];refine aD ?_;have I4:Inv X ah σ H3 { s3 with heap:=s3.heap.push { cls:=.type "slice",data:=.fields #[vl,vu,.none] } }:=I3.kept (t':=s3.toks) λb ob q=>bK _ q;obtain⟨T,id,hT,ht,hg⟩:=hr ah { s3 with heap:=s3.heap.push { cls:=.type "slice",data:=.fields #[vl,vu,.none] } } σ H3 x v vl vu l u s3.heap.objs.size Q I4 r1 (Heap.IsSliceOf.new ..) pl pu q3;show ax (ay X.prog X.w) X.A (subscriptTail e (.Slice lo hi ae p2) v (.ref s3.heap.objs.size)) (EP X ah σ Q) X.xe { s3 with heap:=s3.heap.push { cls:=.type "slice",data:=.fields #[vl,vu,.none] } };exact tail_any (ops:=[.ref s3.heap.objs.size,v]) ht hT hg (by with_unfolding_all rfl)
def oB(xs:List V)(lo hi:Option Int):List V:=(xs.drop (HT.sIx xs.length 0 lo)).take (HT.sIx xs.length xs.length hi-HT.sIx xs.length 0 lo)
theorem EH(xs:List V)(lo hi:Option Int):(oB xs lo hi).length<=xs.length:=by unfold oB;rw[jW,jX];lia
def Ht(K:az):V->Option Int->Option Int->Hp->VK->Prop:=λx lo hi H Q=>∃ a xs,x = .ref a/\dj K H a xs /\
 ¬ (HT.sIx xs.length 0 lo=0/\HT.sIx xs.length xs.length hi=xs.length)/\∀ p,H p=ae->Q (.ref p) (upd H p (.tup (oB xs lo hi)))
theorem Ny:m8 X (Ht X.K):=by
 intro ah s σ H x v vl vu lo hi sl Q I rx hs pl pu h;obtain⟨a,xs,rfl,hx,hw,q⟩:=h;cases rx;obtain⟨its,r,ht,hz⟩:=I.tuple hx;have bY:its.toArray.size=xs.length:=by rw[dA]; exact r.length.symm
 refine⟨"tuple",_,PyProof.Rows.slot_tuple_getitem.lookup,ht.typeIs,?_⟩;refine HT.getItem_tuple_cut ht hs pl pu (by rw[bY]; exact hw) ?_ (by rw[bY]; exact hz);rw[bY];refine⟨.ref s.heap.objs.size,_,I.laid (t':=s.toks) (o:=.tup (oB xs lo hi)) (λb ob q=>bK _ q) (bi _) ?_,rfl,q _ (I.hok.fresh (bi _))⟩;exact⟨cI (EH xs lo hi) hz,_,(r.drop (HT.sIx xs.length 0 lo)).take (HT.sIx xs.length xs.length hi-HT.sIx xs.length 0 lo),Jl.new _ _⟩
def Fl(K:az):R2:=λx y H Q=>∃ a b xs ys,x = .ref a/\y = .ref b/\dj K H a xs/\dj K H b ys/\xs≠[]/\xs.length+ys.length<=bp /\
 (ys=[]->Q (.ref a) H)/\(ys≠[]->∀ p,H p=ae->Q (.ref p) (upd H p (.tup (xs++ys))))
theorem bI.nil_iff{xs:List V}{us:List ak}(r:bI xs us):us=[]↔xs=[]:=by
 cases r with
 | nil=>simp
 | cons _ _=>simp
theorem UN:cu X (jw .Add) (Fl X.K):=by
 intro ah s σ H x y v u Q I rx ry h;obtain⟨a,b,xs,ys,rfl,rfl,ha,hb,hx,hz,q1,q2⟩:=h;cases rx;cases ry;obtain⟨its,r1,p1,_⟩:=I.tuple ha;obtain⟨its2,r2,p2,_⟩:=I.tuple hb;refine HT.cat_tup p1 p2 (λz=>hx (r1.nil_iff.mp z)) (λz=>⟨.ref a,H,I,rfl,q1 (r2.nil_iff.mp z)⟩) (λz=>?_) (by rw[← r1.length,← r2.length]; exact hz);refine⟨.ref s.heap.objs.size,_,I.laid (t':=s.toks) (o:=.tup (xs++ys)) (λb ob q=>bK _ q) (bi _) ?_,rfl,q2 (λw=>z (r2.nil_iff.mpr w)) _ (I.hok.fresh (bi _))⟩;exact⟨by rw[dq]; exact hz,_,r1.append r2,Jl.new _ _⟩
end
def j_(n:Nat)(i:Int):Option Nat:=if 0<=i then(if i<n then aa i.toNat else ae)else if -(n:Int)<=i then aa (i+n).toNat else ae
def ff{α:Type}(xs:List α)(i:Int):Option α:=(j_ xs.length i).bind λj=>xs[j]?
theorem M4{n:Nat}{i:Int}{j:Nat}(h:j_ n i=aa j):seqIndex? i n=aa j/\j<n/\-(n:Int)<=i/\i<n:=by
 unfold j_ at h;by_cases h0:0<=i
 ·rw[if_pos h0]at h;by_cases h1:i<n
  ·rw[if_pos h1]at h;have e:i.toNat=j:=eJ h;exact⟨by rw[seqIndex_of h0 h1,e],∅,∅,h1⟩
  ·rw[if_neg h1]at h; cases h
 ·rw[if_neg h0]at h;by_cases h1 : -(n:Int)<=i
  ·rw[if_pos h1]at h;have e:(i+n).toNat=j:=eJ h;exact⟨by rw[seqIndex_neg ∅ h1,e],∅,h1,∅⟩
  ·rw[if_neg h1]at h; cases h
theorem Ag{α:Type}{xs:List α}{i:Int}{v:α}(h:ff xs i=aa v):∃ j,seqIndex? i xs.length=aa j/\xs[j]?=aa v/\j<xs.length/\-(xs.length:Int)<=i/\i<xs.length:=by
 unfold ff at h;cases e:j_ xs.length i with
 | none=>rw[e]at h; cases h
 | some j=>rw[e]at h;obtain⟨h1,h2,h3,h4⟩:=M4 e;exact⟨j,h1,h,h2,h3,h4⟩
theorem Q4{α:Type}{xs:List α}{j:Nat}{v:α}(h:xs[j]?=aa v):ff xs (j:Int)=aa v:=by
 have hj:j<xs.length:=(eu.mp h).1;have e:j_ xs.length (j:Int)=aa j:=by unfold j_;rw[if_pos ∅,if_pos ∅]; simp
 unfold ff; rw[e]; exact h
def Bb(b:aC):Prop:=∀ o i,CD b ao o i=operate [o,i] (qz o i)
def lX(X:Cx)(r:R2):Prop :=
 ∀ (value slice:aC) (ah:List (af×Obj)) (s:aq) (σ:St) (H:Hp) (x y:V) (v u:ak) (Q:VK),Inv X ah σ H s->RelV x v->RelV y u->r x y H Q ->
  CD slice ao v u=operate [v,u] (qz v u)->ax (ay X.prog X.w) X.A (subscriptTail value slice v u) (EP X ah σ Q) X.xe s
def Co(X:Cx)(id:String)(r:V->List V->Hp->VK->Prop):Prop :=
 ∀ (ah:List (af×Obj)) (s:aq) (σ:St) (H:Hp) (x:V) (xs:List V) (v:ak) (us:List ak) (Q:VK),Inv X ah σ H s->RelV x v->bI xs us->r x xs H Q ->
  ax (ay X.prog X.w) X.A (call (.builtin id) (v::us)) (EP X ah σ Q) X.xe s
section
variable{X:Cx}{a b:aC}{ta tb:TE}{pos:Pos}
theorem lX.or{r r':R2}(h:lX X r)(h':lX X r'):lX X (λx y H Q=>r x y H Q\/r' x y H Q):=by
 intro value slice ah s σ H x y v u Q I rx ry q hs;rcases q with q | q
 ·exact h value slice ah s σ H x y v u Q I rx ry q hs
 ·exact h' value slice ah s σ H x y v u Q I rx ry q hs
theorem Gd{r:R2}(hr:lX X r)(ha:PE X a ta)(hb:PE X b tb)(hs:Bb b):PE X (.Subscript a b pos) (xp r ta tb):=by intro ah s σ H Q I h;exact Subscript_ (BY ha hb I h λv u s2 x y H2 I2 rx ry q=>hr a b ah s2 σ H2 x y v u Q I2 rx ry q (hs _ _))
def Hd(K:az):R2:=λx y H Q=>∃ p xs i v,x = .ref p/\y = .int i/\ce K H p xs/\ff xs i=aa v/\Q v H
def D8(K:az):R2:=λx y H Q=>∃ p xs i v,x = .ref p/\y = .int i/\dj K H p xs/\ff xs i=aa v/\Q v H
def Ek:R2:=λx y H Q=>∃ z i c,x = .str z/\y = .int i/\z.length<=bp/\ff z.cps.toList i=aa c/\Q (.str ⟨#[c]⟩) H
theorem UQ:lX X (Hd X.K):=by
 intro value slice ah s σ H x y v u Q I rx ry h hs;obtain⟨p,xs,i,z,rfl,rfl,hq,he,q⟩:=h;cases rx;obtain⟨t,rfl⟩:=ry;obtain⟨its,r,pl,hz⟩:=I.list hq;obtain⟨j,h1,h2,h3,h4,h5⟩:=Ag he;obtain⟨w,ew,rw'⟩:=r.get h2;have hl:=r.length;have hn:=xP;have fin:EP X ah σ Q w s:=⟨z,H,I,rw',q⟩
 by_cases h0:0<=i
 ·have hj:i.toNat=j:=by
   rw[seqIndex_of h0 h5]at h1;exact eJ h1
  exact item_listR pl.isList h0 ∅ (by rw[hj]; simpa using ew) fin hs
 ·have hj:(i+(its.toArray.size:Int)).toNat=j:=by
   rw[seqIndex_neg ∅ h4]at h1;rw[dA,← hl];exact eJ h1
  exact subscriptTail_builtinR (x:=w) pl.isList.typeIs slot_list_getitem.lookup
   (wpAny_getItem_list_neg (Q:=λr s'=>r=w/\EP X ah σ Q r s') pl.isList ∅ (by rw[dA] <;> lia) ∅ (by rw[hj]; simpa using ew) ⟨rfl,fin⟩) hs
theorem UV:lX X (D8 X.K):=by
 intro value slice ah s σ H x y v u Q I rx ry h hs;obtain⟨p,xs,i,z,rfl,rfl,hq,he,q⟩:=h;cases rx;obtain⟨t,rfl⟩:=ry;obtain⟨its,r,pl,hz⟩:=I.tuple hq;obtain⟨j,h1,h2,h3,h4,h5⟩:=Ag he;obtain⟨w,ew,rw'⟩:=r.get h2;have hl:=r.length;have hn:=xP;have fin:EP X ah σ Q w s:=⟨z,H,I,rw',q⟩
 exact subscriptTail_builtinR (x:=w) pl.typeIs slot_tuple_getitem.lookup
  (getItem_tuple (j:=j) (Q:=λr s'=>r=w/\EP X ah σ Q r s') pl ∅ ∅ (by rw[dA,← hl]; exact h1) (by simpa using ew) ⟨rfl,fin⟩) hs
theorem OD:lX X Ek:=by
 intro value slice ah s σ H x y v u Q I rx ry h hs;obtain⟨z,i,c,rfl,rfl,hz,he,q⟩:=h;obtain⟨t,rfl⟩:=rx;obtain⟨t',rfl⟩:=ry;obtain⟨j,h1,h2,h3,h4,h5⟩:=Ag he;have hl:z.cps.toList.length=z.length:=by simp[Str.length]
 rw[hl]at h1 h4 h5;have hn:=xP;exact tail_any (typeIs_str s z t) slot_str_getitem.lookup (getItem_str (c:=c) (by have e1:decide (i < -(2 ^ 63:Int))=ao:=decide_eq_false ∅;have e2:decide (i ≥ 2 ^ 63)=ao:=decide_eq_false ∅;rw[e1,e2,Bool.or_false]) (by rw[h1]; simpa using h2) ⟨.str ⟨#[c]⟩,H,I.tok _,⟨_,rfl⟩,q⟩) hs
def HY(K:az):R2:=λx y H Q=>Hd K x y H Q\/D8 K x y H Q\/Ek x y H Q
theorem fh:lX X (HY X.K):=UQ.or (UV.or OD)
theorem Inv.lst{ah:List (af×Obj)}{σ:St}{H:Hp}{s:aq}{p:af}{xs:List V}(I:Inv X ah σ H s)(h:H p=aa (.lst xs)) : ∃ (its:List ak) (n:Nat),bI xs its/\s.heap.get? p=aa { cls:=.type "list",data:=.seq its.toArray n }/\xs.length<=bp:=by obtain⟨z,its,n,r,e⟩:=I.hok p _ h;exact⟨its,n,r,e,z⟩
theorem PX(lo hi:Option Int)(n:Nat):(sZ lo hi ae n).1=((HT.sIx n 0 lo:Nat):Int)/\(sZ lo hi ae n).2.1=((HT.sIx n n hi:Nat):Int)/\(sZ lo hi ae n).2.2=1:=by
 refine⟨?_,?_,rfl⟩
 ·cases lo with
  | none=>simp[sZ,HT.sIx]
  | some i=>
   simp only[sZ,HT.sIx,Jw,show(1:Int) > 0 by decide,if_true];by_cases h:i<0
   ·simp only[h,if_true] <;> lia
   ·simp only[h,if_false] <;> lia
 ·cases hi with
  | none=>simp[sZ,HT.sIx]
  | some i=>
   simp only[sZ,HT.sIx,Jw,show(1:Int) > 0 by decide,if_true];by_cases h:i<0
   ·simp only[h,if_true] <;> lia
   ·simp only[h,if_false] <;> lia
theorem Lw(its:List ak)(lo hi:Option Int):slicePick its.toArray lo hi ae=((its.drop (HT.sIx its.length 0 lo)).take (HT.sIx its.length its.length hi-HT.sIx its.length 0 lo)).toArray:=by obtain⟨h1,h2,h3⟩:=PX lo hi its.toArray.size;unfold slicePick;rw[h1,h2,h3];simp only[sliceRange_one,pick_run,dA] <;> rfl
def F9(K:az):V->Option Int->Option Int->Hp->VK->Prop:=λx lo hi H Q=>∃ a xs,x = .ref a/\ce K H a xs/\∀ p,H p=ae->Q (.ref p) (upd H p (.lst (oB xs lo hi)))
theorem UG:m8 X (F9 X.K):=by
 intro ah s σ H x v vl vu lo hi sl Q I rx hs pl pu h;obtain⟨a,xs,rfl,hx,q⟩:=h;cases rx;obtain⟨its,r,ht,hz⟩:=I.list hx;have bY:=r.length;refine⟨"list",_,slot_list_getitem.lookup,ht.isList.typeIs,?_⟩;refine wpAny_getItem_list_slice ht.isList hs pl pu .none (by simp) ?_ (by rw[dA] <;> lia);rw[Lw,← bY];refine⟨.ref s.heap.objs.size,_,I.laid (t':=s.toks) (o:=.lst (oB xs lo hi)) (λb ob q=>bK _ q) (bi _) ?_,rfl,q _ (I.hok.fresh (bi _))⟩;exact⟨cI (EH xs lo hi) hz,_,0,(r.drop (HT.sIx xs.length 0 lo)).take (HT.sIx xs.length xs.length hi-HT.sIx xs.length 0 lo),dz _ rfl⟩
def ke:V->Bool
 | .non=>ai
 | .bl _=>ai
 | .int _=>ai
 | .str _=>ai
 | _=>ao
def jL:V->V->Bool
 | .non,.non=>ai
 | .bl a,.bl b=>a == b
 | .bl a,.int b=>(if a then 1 else 0) == b
 | .int a,.bl b=>a == (if b then 1 else 0)
 | .int a,.int b=>a == b
 | .str a,.str b=>a == b
 | _,_=>ao
theorem Ga{A:be}{s:aq}{y x:V}{u v:ak}(ry:RelV y u)(rx:RelV x v)(fy:ke y=ai)(fx:ke x=ai):zk A s u v (jL y x):=by
 cases y with
 | non=>
  cases ry;cases x with
  | non=>cases rx; exact SeqAt.EqAt.same _
  | bl b=>cases rx; exact SeqAt.EqAt.none_bool b
  | int b=>obtain⟨t,rfl⟩:=rx; exact SeqAt.EqAt.none_int b t
  | str b=>obtain⟨t,rfl⟩:=rx; exact SeqAt.EqAt.none_str b t
  | _=>exact absurd (show ao=ai from fx) gn
 | bl a=>
  cases ry;cases x with
  | non=>cases rx; exact SeqAt.EqAt.bool_none a
  | bl b=>cases rx; exact SeqAt.EqAt.bool_bool a b
  | int b=>obtain⟨t,rfl⟩:=rx; exact SeqAt.EqAt.bool_int a b t
  | str b=>obtain⟨t,rfl⟩:=rx; exact SeqAt.EqAt.bool_str a b t
  | _=>exact absurd (show ao=ai from fx) gn
 | int a=>
  obtain⟨t',rfl⟩:=ry;cases x with
  | non=>cases rx; exact SeqAt.EqAt.int_none a t'
  | bl b=>cases rx; exact SeqAt.EqAt.int_bool a t' b
  | int b=>obtain⟨t,rfl⟩:=rx; exact SeqAt.EqAt.int_int a t' b t
  | str b=>obtain⟨t,rfl⟩:=rx; exact SeqAt.EqAt.int_str a t' b t
  | _=>exact absurd (show ao=ai from fx) gn
 | str a=>
  obtain⟨t',rfl⟩:=ry;cases x with
  | non=>cases rx; exact SeqAt.EqAt.str_none a t'
  | bl b=>cases rx; exact SeqAt.EqAt.str_bool a t' b
  | int b=>obtain⟨t,rfl⟩:=rx; exact SeqAt.EqAt.str_int a t' b t
  | str b=>obtain⟨t,rfl⟩:=rx; exact SeqAt.EqAt.str_str a t' b t
  | _=>exact absurd (show ao=ai from fx) gn
 | _=>exact absurd (show ao=ai from fy) gn
def nu(x:V)(u:ak):Bool:=match u with
 | .none=>jL .non x
 | .bool b=>jL (.bl b) x
 | .int i _=>jL (.int i) x
 | .str z _=>jL (.str z) x
 | _=>ao
theorem Fj{x y:V}{u:ak}(r:RelV y u)(f:ke y=ai):nu x u=jL y x:=by
 cases y with
 | non=>cases r; rfl
 | bl b=>cases r; rfl
 | int i=>obtain⟨t,rfl⟩:=r; rfl
 | str z=>obtain⟨t,rfl⟩:=r; rfl
 | _=>exact absurd (show ao=ai from f) gn
theorem AV{x:V}:∀ {xs:List V} {us:List ak},bI xs us->xs.all ke=ai->us.any (nu x)=xs.any λy=>jL y x
 | _,_,.nil,_=>rfl
 | y::xs,u::us,.cons r t,f=>by rw[vK,iu]at f;rw[nR,nR,Fj r f.1,AV t f.2]
theorem Ae{A:be}{s:aq}{x:V}{v:ak}(rx:RelV x v)(fx:ke x=ai):∀ {xs:List V} {us:List ak},bI xs us->xs.all ke=ai->∀ u∈us,zk A s u v (nu x u)
 | _,_,.nil,_=>λu hu=>by cases hu
 | y::xs,u::us,.cons r t,f=>λu' hu=>by
  rw[vK,iu]at f;rcases cb.mp hu with rfl | hu
  ·rw[Fj r f.1]; exact Ga r rx f.1 fx
  ·exact Ae rx fx t f.2 u' hu
def uH(x:V)(xs:List V):Bool:=xs.any λy=>jL y x
def AU(K:az)(neg:Bool):R2:=λx y H Q=>∃ p xs,y = .ref p/\(ce K H p xs\/dj K H p xs)/\ke x=ai/\xs.all ke=ai/\Q (.bl (if neg then !uH x xs else uH x xs)) H
theorem RZ:cu X (eY .In) (AU X.K ao):=by
 intro ah s σ H x y v u Q I rx ry h;obtain⟨p,xs,rfl,hq,fx,fs,q⟩:=h;cases ry;rcases hq with hq | hq
 ·obtain⟨its,r,pl,hz⟩:=I.list hq;refine SeqAt.in_listAt (nu x) pl.isList (λw hw=>Ae rx fx r fs w (by simpa using hw)) ⟨.bl _,H,I,rfl,?_⟩;rw[show its.toArray.any (nu x)=its.any (nu x) by simp,AV r fs];exact q
 ·obtain⟨its,r,pl,hz⟩:=I.tuple hq;refine SeqAt.in_tupleAt (nu x) pl (λw hw=>Ae rx fx r fs w (by simpa using hw)) ⟨.bl _,H,I,rfl,?_⟩;rw[show its.toArray.any (nu x)=its.any (nu x) by simp,AV r fs];exact q
theorem Tz:gL X (.type "list") (λxs H Q=>∃ p ys,xs=[.ref p]/\(ce X.K H p ys\/dj X.K H p ys)/\∀ l,H l=ae->Q (.ref l) (upd H l (.lst ys))):=by
 intro ah s σ H xs us Q I r h;obtain⟨p,ys,rfl,hq,q⟩:=h;obtain⟨u,rfl,rx⟩:=vals1 r;cases rx;have fin:∀ (its:List ak),bI ys its->ys.length<=bp->∀ (h':aE) (c':Nat),(∀ b o',s.heap.get? b=aa o'->h'.get? b=aa o') ->
   h'.get? s.heap.objs.size=aa { cls:=.type "list",dict:=ae,data:=.seq its.toArray c',slots:=#[] }->EP X ah σ Q (.ref s.heap.objs.size) { s with heap:=h' }:=λits r' hz h' c' kp e=>
  ⟨.ref s.heap.objs.size,_,I.laid (t':=s.toks) kp (bi _) (show dS X.prog X.w _ h' _ (.lst ys)from⟨hz,its,c',r',e⟩),rfl,q _ (I.hok.fresh (bi _))⟩
 rcases hq with hq | hq
 ·obtain⟨its,r',pl,hz⟩:=I.list hq;have bY:=r'.length;obtain⟨o,ho,hc,n,hd⟩:=pl.isList;exact call_list_seq p (.inl rfl) ho hc hd (λh' c' kp e=>fin its r' hz h' c' kp e) (by simp only[dA] <;> lia)
 ·obtain⟨its,r',pl,hz⟩:=I.tuple hq;have bY:=r'.length;obtain⟨o,ho,hc,n,hd⟩:=pl;exact call_list_seq p (.inr rfl) ho hc hd (λh' c' kp e=>fin its r' hz h' c' kp e) (by simp only[dA] <;> lia)
theorem RE:gL X (.type "tuple") (λxs H Q=>∃ p ys,xs=[.ref p]/\((ce X.K H p ys/\∀ l,H l=ae->Q (.ref l) (upd H l (.tup ys)))\/(dj X.K H p ys/\Q (.ref p) H))):=by
 intro ah s σ H xs us Q I r h;obtain⟨p,ys,rfl,h⟩:=h;obtain⟨u,rfl,rx⟩:=vals1 r;cases rx;rcases h with⟨hq,q⟩ | ⟨hq,q⟩
 ·obtain⟨its,r',pl,hz⟩:=I.list hq;have bY:=r'.length;refine call_tuple_list pl.isList (λh' kp=>?_) (by simp only[dA] <;> lia);have I1:Inv X ah σ H { s with heap:=h' }:=I.kept (t':=s.toks) kp;have I2:Inv X ah σ (upd H h'.objs.size (.tup ys)) { s with heap:=h'.push { cls:=.type "tuple",data:=.seq its.toArray } } :=I1.laid (t':=s.toks) (λb o e=>bK _ e) (bi _) (show dS X.prog X.w _ _ _ (.tup ys)from⟨hz,its,r',Jl.new _ _⟩);exact⟨.ref h'.objs.size,_,I2,rfl,q _ (I1.hok.fresh (bi _))⟩
 ·obtain⟨its,r',pl,hz⟩:=I.tuple hq;exact call_tuple_same pl ⟨.ref p,H,I,rfl,q⟩
def Cc(K:az)(T:String)(x:V)(H:Hp):Prop:=match x with
 | .str _=>T = "str"
 | .int _=>T = "int"
 | .ref p=>(T = "list"/\∃ xs,ce K H p xs)\/(T = "tuple"/\∃ o,K.lookup p=aa o/\o.cls = .type "tuple"/\o.dict=ae) \/
   (T = "dict"/\((∃ kvs,H p=aa (.dK kvs))\/∃ kvs,H p=aa (.dT kvs)))\/(T = "set"/\∃ S n,H p=aa (.set S n))
 | _=>False
theorem Fs{ah:List (af×Obj)}{σ:St}{H:Hp}{s:aq}{T:String}{x:V}{v:ak}(I:Inv X ah σ H s)(r:RelV x v)(ty:Cc X.K T x H) : s.TypeIs v T/\∀ a,v = .ref a->∃ ob,s.heap.get? a=aa ob/\ob.dict=ae:=by
 cases x with
 | str z=>
  obtain⟨t,rfl⟩:=r;cases (show T = "str" from ty);exact⟨typeIs_str s z t,λ_ e=>nomatch e⟩
 | int i=>
  obtain⟨t,rfl⟩:=r;cases (show T = "int" from ty);exact⟨typeIs_int s i t,λ_ e=>nomatch e⟩
 | ref p=>
  cases r;rcases ty with⟨rfl,xs,hq⟩ | ⟨rfl,o,hk,hc,hd⟩ | ⟨rfl,hk⟩ | ⟨rfl,S,n,hk⟩
  ·obtain⟨its,_,pl,_⟩:=I.list hq;refine⟨pl.isList.typeIs,λa e=>?_⟩;cases e;obtain⟨o,n,e,c,hd,_⟩:=pl;exact⟨o,e,hd⟩
  ·refine⟨⟨o,I.kIn p o hk,hc⟩,λa e=>?_⟩;cases e;exact⟨o,I.kIn _ o hk,hd⟩
  ·have z:∃ o,s.heap.get? p=aa o/\o.ExactDict:=by
    rcases hk with⟨kvs,hk⟩ | ⟨kvs,hk⟩
    ·obtain⟨_,_,_,_,o,_,_,e,ex,_⟩:=I.hok p _ hk;exact⟨o,e,ex⟩
    ·obtain⟨_,_,_,_,o,_,_,e,ex,_⟩:=I.hok p _ hk;exact⟨o,e,ex⟩
   obtain⟨o,e,ex⟩:=z;refine⟨⟨o,e,ex.1⟩,λa e2=>?_⟩;cases e2;exact⟨o,e,ex.2.1⟩
  ·obtain⟨o,_,_,_,e,ex,_⟩:=I.hok p _ hk;refine⟨⟨o,e,ex.1⟩,λa e2=>?_⟩;cases e2;exact⟨o,e,ex.2.1⟩
 | _=>exact kj ty
def Q3(K:az)(T:String)(r:V->List V->Hp->VK->Prop)(to:TE):TE:=λσ H Q=>to σ H λx H1=>Cc K T x H1/\r x [] H1 Q
def ML(K:az)(T:String)(r:V->List V->Hp->VK->Prop)(to:TE)(t:TA):TE:=λσ H Q=>to σ H λx H1=>Cc K T x H1/\t σ H1 λxs H2=>r x xs H2 Q
variable{o e:aC}{es:List aC}{to:TE}{t:TA}{name:Str}{apos cpos:Pos}{T id:String}{r:V->List V->Hp->VK->Prop}
theorem MP(pa:PlainAttrs T)(slot:Slot T name id)(tW:typeOf (.builtin id)=pure (.type "method_descriptor"))(hm:Co X id r)(ho:PE X o to)(wb:s_ o name X.env (bv o X.env)=bv o X.env:=by rfl) (wc:(apos.endLine == cpos.line)=ai:=by rfl):PE X (.Call (.Attribute o name apos) [] [] cpos) (Q3 X.K T r to):=by intro ah s σ H Q I h;refine wpAny_Call_method0_late wb wc (aU (ho ah s σ H _ I h) λv s1 ⟨x,H1,I1,r1,ty,q1⟩=>?_);obtain⟨h1,h2⟩:=Fs I1 r1 ty;exact⟨T,id,pa,slot,tW,h1,h2,Jx rfl (PySem.evalArgs_none (hm ah s1 σ H1 x [] v [] Q I1 r1 .nil q1))⟩
theorem HZ(pa:PlainAttrs T)(slot:Slot T name id)(tW:typeOf (.builtin id)=pure (.type "method_descriptor"))(hm:Co X id r)(ho:PE X o to)(ha:PA X (e::es) t)(wb:s_ o name X.env (bv o X.env)=bv o X.env:=by rfl)(Kg:((fZ cpos (bq (e::es) X.env)).all (λx=>!x.1) && (backToKw cpos (CF [] X.env)).all (λx=>x.1.isSome) && decide ((e::es).length+([]:List qA).length+(if([]:List qA).isEmpty then 0 else 1)<30))=ai:=by rfl)(wc:(apos.endLine == cpos.line)=ai:=by rfl) (hs:bq (e::es) X.env=(ao,bv e X.env)::bq es X.env:=by rfl) (zM:(fZ cpos (bq es X.env)).any (·.1)=ao:=by rfl) : PE X (.Call (.Attribute o name apos) (e::es) [] cpos) (ML X.K T r to t):=by intro ah s σ H Q I h;refine wpAny_Call_method_late wb Kg wc rfl (aU (ho ah s σ H _ I h) λv s1 ⟨x,H1,I1,r1,ty,q1⟩=>?_);obtain⟨h1,h2⟩:=Fs I1 r1 ty;refine⟨T,id,pa,slot,tW,h1,h2,?_⟩;have hA:=ha cpos ah s1 σ H1 _ I1 q1;rw[hs]at hA ⊢;refine Jx (by show(ao || (fZ cpos (bq es X.env)).any (·.1))=ao; rw[zM] <;> rfl) (Jy ?_);exact aU hA λus s2 ⟨vs,H2,I2,r2,q2⟩=>hm ah s2 σ H2 x vs v us Q I2 r1 r2 q2
end
def Ji(X:Cx)(id:String)(r:V->List V->Hp->VK->Prop):Prop :=
 ∀ (ah:List (af×Obj)) (s:aq) (σ:St) (H:Hp) (x:V) (xs:List V) (v:ak) (us:List ak) (Q:VK),Inv X ah σ H s->RelV x v->bI xs us->r x xs H Q ->
  ax (ay X.prog X.w) X.A (call (.builtin id) (v::us)) (EP X ah σ Q) X.xe s
theorem bI.one:∀ {x:V} {us:List ak},bI [x] us->∃ u,us=[u]/\RelV x u
 | _,_,.cons r .nil=>⟨_,rfl,r⟩
theorem bI.two:∀ {x y:V} {us:List ak},bI [x,y] us->∃ u v,us=[u,v]/\RelV x u/\RelV y v
 | _,_,_,.cons r (.cons q .nil)=>⟨_,_,rfl,r,q⟩
theorem bI.zero:∀ {us:List ak},bI [] us->us=[]
 | _,.nil=>rfl
theorem bI.dropLast{xs:List V}{us:List ak}(h:bI xs us):bI xs.dropLast us.dropLast:=by
 induction h with
 | nil=>exact .nil
 | cons r t ih=>
  cases t with
  | nil=>exact .nil
  | cons q t'=>exact .cons r ih
theorem bI.eraseIdx:∀ {xs:List V} {us:List ak} (i:Nat),bI xs us->bI (xs.eraseIdx i) (us.eraseIdx i)
 | _,_,_,.nil=>.nil
 | _,_,0,.cons _ t=>t
 | _,_,i+1,.cons r t=>.cons r (bI.eraseIdx i t)
theorem bI.reverse{xs:List V}{us:List ak}(h:bI xs us):bI xs.reverse us.reverse:=by
 induction h with
 | nil=>exact .nil
 | cons r t ih=>rw[List.reverse_cons,List.reverse_cons]; exact bI.append ih (.cons r .nil)
section
variable{X:Cx}{ah:List (af×Obj)}{σ:St}{H:Hp}{s:aq}{l b:af}{xs ys zs:List V}
theorem Inv.lset{its its':List ak}{n:Nat}{f:Array ak->Array ak}{t':Nat}(I:Inv X ah σ H s)(hH:H l=aa (.lst xs))(e:s.heap.get? l=aa { cls:=.type "list",data:=.seq its.toArray n }) (hf:f its.toArray=its'.toArray) (hv:bI ys its') (hz:ys.length<=bp) : Inv X ah σ (upd H l (.lst ys)) { s with heap:=s.heap.update l (o9 f),toks:=t' }:=by have q:=PySem.IsL.update e f;rw[hf]at q;refine I.write (x:=l) (e:=l) (by rw[hH]; exact trivial) (.inl rfl) (λb' u hb hu=>(tf s.heap (o9 f) (gW hb)).trans hu) ⟨_,q⟩ ?_;exact⟨hz,its',_,hv,q⟩
theorem Inv.lnew{its:List ak}{t':Nat}(I:Inv X ah σ H s)(hv:bI ys its)(hz:ys.length<=bp) : Inv X ah σ (upd H s.heap.objs.size (.lst ys)) { s with heap:=s.heap.push { cls:=.type "list",data:=.seq its.toArray },toks:=t' } :=I.laid (λ_ _ q=>bK _ q) (bi _) ⟨hz,its,0,hv,dz _ rfl⟩
theorem Inv.fresh(I:Inv X ah σ H s):H s.heap.objs.size=ae:=I.hok.fresh (bi _)
theorem Inv.lstM(I:Inv X ah σ H s)(hH:H l=aa (.lst xs)):xs.length<=bp/\∃ (its:List ak) (n:Nat),bI xs its/\xs.length=its.length/\s.heap.get? l=aa { cls:=.type "list",data:=.seq its.toArray n }:=by obtain⟨z,its,n,r,e⟩:=I.hok l _ hH;exact⟨z,its,n,r,r.length,e⟩
theorem Ri{n:Nat}(h:n<=bp):Jz n=ao:=by unfold Jz;exact decide_eq_false ∅
end
section
variable{X:Cx}
def Pj:V->List V->Hp->VK->Prop:=λx vs H Q=>∃ l xs y,x = .ref l/\vs=[y]/\H l=aa (.lst xs)/\xs.length<bp/\Q .non (upd H l (.lst (xs++[y])))
theorem Ba:Ji X "list.append" Pj:=by
 intro ah s σ H x vs v us Q I rx rv h;obtain⟨l,xs,y,rfl,rfl,hH,hz,q⟩:=h;cases rx;obtain⟨u,rfl,ru⟩:=rv.one;obtain⟨z,its,n,r,hl,e⟩:=I.lstM hH;refine call_meets F.slot_list_append ⟨_,e,rfl⟩ F.entry_list_append (F.args_list_append_2 _ _) (PySem.list_append l its.toArray n u (by rw[dA]; lia)) ⟨e,?_⟩;refine⟨.non,_,I.lset (its':=its++[u]) hH e (by simp) (r.append (.cons ru .nil)) ?_,rfl,q⟩;rw[dq,ti];lia
theorem OL{α:Type}(xs:List α)(k:Nat):(bF k xs).flatten.length=k * xs.length:=by
 induction k with
 | zero=>simp
 | succ k ih=>rw[CG,JA,dq,ih,Nat.succ_mul,Nat.add_comm]
end
section
variable{κ:Type}[DecidableEq κ]
def iJ(kvs:List (κ×V))(k:κ):Option V:=(kvs.find? λkv=>decide (kv.1=k)).map (·.2)
def gR(kvs:List (κ×V))(k:κ)(v:V):List (κ×V) :=if(kvs.any λkv=>decide (kv.1=k))=ai then kvs.map (λkv=>if kv.1=k then(kv.1,v)else kv)else kvs++[(k,v)]
def D9(kvs:List (κ×V))(k:κ):List (κ×V):=kvs.filter λkv=>decide (kv.1≠k)
theorem u7{p:κ×V}{r:List (κ×V)}{k:κ}(e:p.1=k):iJ (p::r) k=aa p.2:=by simp[iJ,f6,e]
theorem uG{p:κ×V}{r:List (κ×V)}{k:κ}(e:¬ p.1=k):iJ (p::r) k=iJ r k:=by simp[iJ,f6,e]
theorem Fe(k:κ):∀ kvs:List (κ×V),(kvs.any λkv=>decide (kv.1=k))=(iJ kvs k).isSome
 | []=>rfl
 | p::r=>by
  rw[nR];by_cases e:p.1=k
  ·simp only[u7 e,decide_eq_true e,Bool.true_or,Option.isSome_some]
  ·rw[uG e,decide_eq_false e,Bool.false_or]; exact Fe k r
theorem B_(kvs:List (κ×V))(k:κ)(v:V):(gR kvs k v).length<=kvs.length+1:=by
 unfold gR;split
 ·rw[cD]; lia
 ·rw[dq,eD,tj]; lia
theorem o3.isSome_eq{o:Option V}{u:Option ak}(r:o3 o u):o.isSome=u.isSome:=by
 cases o with
 | none=>cases u with
  | none=>rfl
  | some _=>exact(show False from r).elim
 | some _=>cases u with
  | none=>exact(show False from r).elim
  | some _=>rfl
theorem o3.getD{o:Option V}{u:Option ak}{d:V}{d':ak}(r:o3 o u)(rd:RelV d d'):RelV (o.getD d) (u.getD d'):=by
 cases o with
 | none=>cases u with
  | none=>exact rd
  | some _=>exact(show False from r).elim
 | some _=>cases u with
  | none=>exact(show False from r).elim
  | some _=>exact r
theorem KV.val{kvs:List (κ×V)}{vs:List (κ×ak)}(r:KV kvs vs)(k:κ):o3 (iJ kvs k) (o_ vs k):=by
 unfold KV at r
 induction r with
 | nil=>exact True.intro
 | @cons p q ps qs h t ih=>
  obtain⟨h1,h2⟩:=h;by_cases e:p.1=k
  ·have e':q.1=k:=h1.symm.trans e;have b:o_ (q::qs) k=aa q.2:=by simp[o_,f6,e']
   rw[u7 e,b]; exact h2
  ·have e':¬ q.1=k:=λz=>e (h1.trans z);have b:o_ (q::qs) k=o_ qs k:=by simp[o_,f6,e']
   rw[uG e,b]; exact ih
theorem KV.any{kvs:List (κ×V)}{vs:List (κ×ak)}(r:KV kvs vs)(k:κ):(kvs.any λkv=>decide (kv.1=k))=vs.any λkv=>decide (kv.1=k):=by
 unfold KV at r
 induction r with
 | nil=>rfl
 | cons h t ih=>rw[nR,nR,ih,h.1]
theorem KV.repl{kvs:List (κ×V)}{vs:List (κ×ak)}(r:KV kvs vs)(k:κ){y:V}{u:ak}(ry:RelV y u) : KV (kvs.map λkv=>if kv.1=k then(kv.1,y)else kv) (vs.map λkv=>if kv.1=k then(kv.1,u)else kv):=by
 unfold KV at r ⊢
 induction r with
 | nil=>exact .nil
 | @cons p q ps qs h t ih=>
  rw[d4,d4];refine .cons ?_ ih;obtain⟨h1,h2⟩:=h;by_cases e:p.1=k
  ·rw[if_pos e,if_pos (h1.symm.trans e)]; exact⟨h1,ry⟩
  ·rw[if_neg e,if_neg (λz=>e (h1.trans z))]; exact⟨h1,h2⟩
theorem KV.put{kvs:List (κ×V)}{vs:List (κ×ak)}(r:KV kvs vs)(k:κ){y:V}{u:ak}(ry:RelV y u):KV (gR kvs k y) (stored vs k u):=by
 unfold gR stored;rw[r.any k];by_cases e:(vs.any λkv=>decide (kv.1=k))=ai
 ·rw[if_pos e,if_pos e]; exact r.repl k ry
 ·rw[if_neg e,if_neg e]; exact CH r ⟨rfl,ry⟩
theorem KV.drop{kvs:List (κ×V)}{vs:List (κ×ak)}(r:KV kvs vs)(k:κ):KV (D9 kvs k) (without vs k):=by
 unfold KV at r ⊢;unfold D9 without
 induction r with
 | nil=>exact .nil
 | @cons p q ps qs h t ih=>
  obtain⟨h1,h2⟩:=h;rw[tm,tm];by_cases e:p.1=k
  ·have a:¬ decide (p.1≠k)=ai:=by simp[e]
   have b:¬ decide (q.1≠k)=ai:=by simp[h1.symm.trans e]
   rw[if_neg a,if_neg b]; exact ih
  ·have e':¬ q.1=k:=λz=>e (h1.trans z);have a:decide (p.1≠k)=ai:=by simp[e]
   have b:decide (q.1≠k)=ai:=by simp[e']
   rw[if_pos a,if_pos b]; exact .cons ⟨h1,h2⟩ ih
theorem KV.length{kvs:List (κ×V)}{vs:List (κ×ak)}(r:KV kvs vs):kvs.length=vs.length:=Paired.length r
end
theorem o0{P:aX}{w:aN}{k:aI}{u:ak}(r:RelV (kV k) u):(gf P w).is k u=ai:=by
 cases k with
 | inl i=>obtain⟨t,e⟩:=(show ∃ t,u=Value.int i t from r); subst e; exact KP P w i t
 | inr x=>obtain⟨t,e⟩:=(show ∃ t,u=Value.str x t from r); subst e; exact M7 P w x t
theorem E4{P:aX}{w:aN}:∀ {ks:List aI} {us:List ak},bI (ks.map kV) us->ItemsAre (gf P w) ks us
 | [],_,r=>by rw[vL]at r; cases r; exact .nil
 | k::ks,_,r=>by
  rw[d4]at r;cases r with
  | cons h t=>exact .cons (o0 h) (E4 t)
abbrev KT(H:Hp):List (List aI×V)->List (List aI×af×ak)->Prop:=nI λp q=>p.1=q.1/\H q.2.1=aa (.tup (p.1.map kV))/\RelV p.2 q.2.2
theorem KT.val{H:Hp}{kvs:List (List aI×V)}{xs:List (List aI×af×ak)}(r:KT H kvs xs)(k:List aI):o3 (iJ kvs k) ((atKey xs k).map (·.2)):=by
 induction r with
 | nil=>exact True.intro
 | @cons p q ps qs h t ih=>
  obtain⟨h1,_,h2⟩:=h;by_cases e:p.1=k
  ·have e':q.1=k:=h1.symm.trans e;have b:atKey (q::qs) k=aa q.2:=by simp[atKey,f6,e']
   rw[u7 e,b]; exact h2
  ·have e':¬ q.1=k:=λz=>e (h1.trans z);have b:atKey (q::qs) k=atKey qs k:=by simp[atKey,f6,e']
   rw[uG e,b]; exact ih
theorem KT.repl{H:Hp}{kvs:List (List aI×V)}{xs:List (List aI×af×ak)}(r:KT H kvs xs)(k:List aI){y:V}{u:ak}(ry:RelV y u) : KT H (kvs.map λkv=>if kv.1=k then(kv.1,y)else kv) (xs.map (putAt k u)):=by
 induction r with
 | nil=>exact .nil
 | @cons p q ps qs h t ih=>
  rw[d4,d4];refine .cons ?_ ih;obtain⟨h1,h2,h3⟩:=h;unfold putAt;by_cases e:p.1=k
  ·rw[if_pos e,if_pos (h1.symm.trans e)]; exact⟨h1,h2,ry⟩
  ·rw[if_neg e,if_neg (λz=>e (h1.trans z))]; exact⟨h1,h2,h3⟩
theorem KT.put{H:Hp}{kvs:List (List aI×V)}{xs:List (List aI×af×ak)}(r:KT H kvs xs)(k:List aI){b:af}{y:V}{u:ak}(hb:H b=aa (.tup (k.map kV)))(ry:RelV y u) : KT H (gR kvs k y) (storedH xs k b u):=by
 have e:(kvs.any λkv=>decide (kv.1=k))=(atKey xs k).isSome:=by rw[Fe,(r.val k).isSome_eq,CI]
 unfold gR storedH;rw[e];by_cases q:(atKey xs k).isSome=ai
 ·rw[if_pos q,if_pos q]; exact r.repl k ry
 ·rw[if_neg q,if_neg q]; exact CH r ⟨rfl,hb,ry⟩
theorem KT.keeps{H H':Hp}{kvs:List (List aI×V)}{xs:List (List aI×af×ak)}(r:KT H kvs xs)(ht:∀ b ys,H b=aa (.tup ys)->H' b=aa (.tup ys)):KT H' kvs xs :=Paired.mapP r λ_ _ z=>⟨z.1,ht _ _ z.2.1,z.2.2⟩
section
variable{P:aX}{w:aN}{H:Hp}{h:aE}{a:af}
theorem HD{u:HO}(ok:d_ P w H h)(e:Rd H a u):dS P w H h a u:=e.ok ok
theorem qu{kvs:List (aI×V)}(ok:d_ P w H h)(e:Rd H a (.dK kvs)):kvs.length<=bp/\(a == nJ)=ao/\∃ vs,KV kvs vs/\h.DictOf (gf P w) a vs :=show dS P w H h a (.dK kvs)from HD ok e
theorem u0{kvs:List (aI×V)}(ok:d_ P w H h)(e:H a=aa (.dK kvs)):kvs.length<=bp/\(a == nJ)=ao/\∃ vs,KV kvs vs/\h.DictOf (gf P w) a vs:=qu ok (.inl e)
theorem sw{ks:List aI}(ok:d_ P w H h)(e:H a=aa (.tup (ks.map kV))):(vC (gf P w)).is h ks a:=by
 obtain⟨_,its,r,⟨o,h1,h2,n,h3⟩,_⟩:=(show dS P w H h a (.tup (ks.map kV))from ok a _ e)
 exact⟨o,its.toArray,n,h1,h2,h3,by simpa using E4 r⟩
theorem qi{kvs:List (List aI×V)}(ok:d_ P w H h)(e:Rd H a (.dT kvs)):kvs.length<=bp/\(a == nJ)=ao /\ ∃ xs,KT H kvs xs/\h.DictOfH (vC (gf P w)) a xs:=by
 obtain⟨z,y,xs,r,o,es,ep,h1,h2,h3,h4,h5⟩:=(show dS P w H h a (.dT kvs)from HD ok e)
 refine⟨z,y,xs,r,o,es,ep,h1,h2,h3,h4,λx hx=>?_,h5⟩;have all:∀ {l:List (List aI×V)} {m:List (List aI×af×ak)},KT H l m->∀ x∈m,(vC (gf P w)).is h x.1 x.2.1:=by
  intro l m q
  induction q with
  | nil=>intro x hx; exact nomatch hx
  | @cons p q ps qs hq t ih=>
   intro x hx;rcases cb.mp hx with e | hx
   ·subst e;exact sw ok (by rw[← hq.1]; exact hq.2.1)
   ·exact ih x hx
 exact all r x hx
theorem Lb{kvs:List (List aI×V)}(ok:d_ P w H h)(e:H a=aa (.dT kvs)):kvs.length<=bp/\(a == nJ)=ao /\ ∃ xs,KT H kvs xs/\h.DictOfH (vC (gf P w)) a xs:=qi ok (.inl e)
end
def kJ(H:Hp)(a:af)(y:V)(r:Option V):Prop :=(∃ kvs k,Rd H a (.dK kvs)/\y=kV k/\r=iJ kvs k)\/∃ kvs k b,Rd H a (.dT kvs)/\y = .ref b/\H b=aa (.tup (k.map kV))/\r=iJ kvs k
def zc(H:Hp)(a:af)(y v:V)(H':Hp):Prop :=
 (∃ kvs k,H a=aa (.dK kvs)/\y=kV k/\kvs.length<bp/\H'=upd H a (.dK (gR kvs k v))) \/
 ∃ kvs k b,H a=aa (.dT kvs)/\y = .ref b/\H b=aa (.tup (k.map kV))/\kvs.length<bp/\H'=upd H a (.dT (gR kvs k v))
theorem kJ.k{H:Hp}{a:af}{kvs:List (aI×V)}{k:aI}(e:H a=aa (.dK kvs)):kJ H a (kV k) (iJ kvs k):=.inl ⟨kvs,k,.inl e,rfl,rfl⟩
theorem kJ.t{H:Hp}{a b:af}{kvs:List (List aI×V)}{k:List aI}(e:H a=aa (.dT kvs))(eb:H b=aa (.tup (k.map kV))):kJ H a (.ref b) (iJ kvs k):=.inr ⟨kvs,k,b,.inl e,rfl,eb,rfl⟩
theorem zc.k{H:Hp}{a:af}{kvs:List (aI×V)}{k:aI}{v:V}(e:H a=aa (.dK kvs))(hl:kvs.length<bp):zc H a (kV k) v (upd H a (.dK (gR kvs k v))):=.inl ⟨kvs,k,e,rfl,hl,rfl⟩
theorem zc.t{H:Hp}{a b:af}{kvs:List (List aI×V)}{k:List aI}{v:V}(e:H a=aa (.dT kvs))(eb:H b=aa (.tup (k.map kV)))(hl:kvs.length<bp) : zc H a (.ref b) v (upd H a (.dT (gR kvs k v))):=.inr ⟨kvs,k,b,e,rfl,eb,hl,rfl⟩
section
variable{X:Cx}{ah:List (af×Obj)}{σ:St}{H:Hp}{s:aq}{a:af}{y v:V}{u r:ak}{o:Option V}{A:be}{E:ak->aq->Prop}
theorem Inv.big(I:Inv X ah σ H s):nJ<s.heap.objs.size:=by have h:cE<s.heap.objs.size:=(I.mod.glob.keeps I.bk).lt;exact nS (by decide) h
theorem Oy{Q:ak->aq->Prop}(hu:A.units+1<cLine)(I:Inv X ah σ H s)(g:kJ H a y (aa v))(ry:RelV y u)(h:∀ w' s',Inv X ah σ H s'->RelV v w'->Q w' s') : ax (ay X.prog X.w) A (qz (.ref a) u) Q E s:=by
 rcases g with⟨kvs,k,e,ey,l⟩ | ⟨kvs,k,b,e,ey,eb,l⟩
 ·subst ey;obtain⟨z,hd,vs,rel,dd⟩:=qu I.hok e;obtain⟨w',hw,rw'⟩:=o3.some_of (v:=v) (o:=o_ vs k) (by rw[l]; exact rel.val k);exact wpAny_getItem_of (o0 ry) dd.mapOf hw (h w' _ (I.tok _) rw')
 ·subst ey;cases (show u=Value.ref b from ry);obtain⟨z,hd,xs,rel,dd⟩:=qi I.hok e;obtain⟨w',hw,rw'⟩:=o3.some_of (v:=v) (o:=(atKey xs k).map (·.2)) (by rw[l]; exact rel.val k);obtain⟨p,hp,fu⟩:=qB.mp hw;refine wpAny_getItem_heap (zm hu) (sw I.hok eb) dd hp ?_;rw[fu];exact h w' _ (I.tok _) rw'
theorem Tw{Q:ak->aq->Prop}(hu:A.units+1<cLine)(I:Inv X ah σ H s)(g:kJ H a y o)(ry:RelV y u)(h:∀ s',Inv X ah σ H s'->Q (.bool o.isSome) s') : ax (ay X.prog X.w) A (eY .In u (.ref a)) Q E s:=by
 rcases g with⟨kvs,k,e,ey,l⟩ | ⟨kvs,k,b,e,ey,eb,l⟩
 ·subst ey;obtain⟨z,hd,vs,rel,dd⟩:=qu I.hok e;refine wpAny_in_of (o0 ry) hd dd.mapOf ?_;rw[← (rel.val k).isSome_eq,← l];exact h _ (I.tok _)
 ·subst ey;cases (show u=Value.ref b from ry);obtain⟨z,hd,xs,rel,dd⟩:=qi I.hok e;refine wpAny_in_heap (zm hu) (sw I.hok eb) hd dd ?_;have q:=(rel.val k).isSome_eq;rw[CI]at q;rw[← q,← l];exact h _ (I.tok _)
theorem Rg{Q:ak->aq->Prop}(hu:A.units+1<cLine)(I:Inv X ah σ H s)(g:kJ H a y o)(ry:RelV y u)(h:∀ s',Inv X ah σ H s'->Q (.bool (!o.isSome)) s') : ax (ay X.prog X.w) A (eY .NotIn u (.ref a)) Q E s:=by
 rcases g with⟨kvs,k,e,ey,l⟩ | ⟨kvs,k,b,e,ey,eb,l⟩
 ·subst ey;obtain⟨z,hd,vs,rel,dd⟩:=qu I.hok e;refine wpAny_notIn_of (o0 ry) hd dd.mapOf ?_;rw[← (rel.val k).isSome_eq,← l];exact h _ (I.tok _)
 ·subst ey;cases (show u=Value.ref b from ry);obtain⟨z,hd,xs,rel,dd⟩:=qi I.hok e;refine wpAny_notIn_heap (zm hu) (sw I.hok eb) hd dd ?_;have q:=(rel.val k).isSome_eq;rw[CI]at q;rw[← q,← l];exact h _ (I.tok _)
theorem z_{h':aE}{t':Nat}{ob:HO}(I:Inv X ah σ H s)(mu:uC (H a))(hs:i_ a s.heap h')(he:∃ q,h'.get? a=aa q)(new:dS X.prog X.w (upd H a ob) h' a ob) : Inv X ah σ (upd H a ob) { s with heap:=h',toks:=t' } :=I.write (x:=a) (e:=a) mu (.inl rfl) (λb q hb z=>(hs.2 b hb).trans z) he new
theorem Er{P:aX}{w:aN}{H':Hp}{h':aE}{kvs:List (aI×V)}{vs:List (aI×ak)}(z:kvs.length<=bp)(hd:(a == nJ)=ao)(rel:KV kvs vs)(dd:h'.DictOf (gf P w) a vs) : dS P w H' h' a (.dK kvs):=⟨z,hd,vs,rel,dd⟩
theorem Nh{H':Hp}{Q:Unit->aq->Prop}(hu:A.units+1<cLine)(I:Inv X ah σ H s)(g:zc H a y v H')(ry:RelV y u)(rv:RelV v r)(h:∀ s',Inv X ah σ H' s'->Q () s') : ax (ay X.prog X.w) A (setItem (.ref a) u r) Q E s:=by
 rcases g with⟨kvs,k,e,ey,l,eH⟩ | ⟨kvs,k,b,e,ey,eb,l,eH⟩
 ·subst ey eH;obtain⟨z,hd,vs,rel,dd⟩:=u0 I.hok e;have hz:vs.length<=bp:=by rw[← rel.length]; exact z
  have hl:(gR kvs k v).length<=bp:=by have:=B_ kvs k v; lia
  refine wpAny_setItem_pairs (hsz:=hz) (o0 ry) dd λh' dd' hs=>h _ ?_;have he:∃ q,h'.get? a=aa q:=let ⟨q,_,_,hq,_⟩:=dd'; ⟨q,hq⟩
  exact z_ I (by rw[e]; exact True.intro) hs he (Er hl hd (rel.put k rv) dd')
 ·subst ey eH;cases (show u=Value.ref b from ry);obtain⟨z,hd,xs,rel,dd⟩:=Lb I.hok e;have hz:xs.length<=bp:=by rw[← Paired.length rel]; exact z
  have hl:(gR kvs k v).length<=bp:=by have:=B_ kvs k v; lia
  refine wpAny_setItem_heap (hsz:=hz) (zm hu) (sw I.hok eb) dd λh' dd' hs=>h _ ?_;obtain⟨q,es,ep,hq,h2,h3,h4,_,h5⟩:=dd';refine z_ I (by rw[e]; exact True.intro) hs ⟨q,hq⟩ ⟨hl,hd,_,(rel.put k eb rv).keeps λc ys ec=>?_,q,es,ep,hq,h2,h3,h4,h5⟩;rw[cn (K4 ec e (λz=>nomatch z))];exact ec
end
def A5(i:aC):Prop:=∀ ov iv,CD i ao ov iv=operate [ov,iv] (qz ov iv)
theorem IE{prog:aX}{w:aN}{A:be}{E:ak->aq->Prop}{s:aq}{env:Env}{value slice:aC}{pos:Pos}{T id:String}{Q:ak->aq->Prop}(hl:typeLookup (.type T) "__getitem__" = pure (aa (.builtin id))) (hs:A5 slice)(h:ax (ay prog w) A (bv value env) (λo s₁=>ax (ay prog w) A (bv slice env) (λi s₂=>s₂.TypeIs o T/\ax (ay prog w) A (qz o i) Q E s₂) E s₁) E s) : ax (ay prog w) A (bv (.Subscript value slice pos) env) Q E s:=by
 refine Subscript_ (dW h (λo s₁ h₁=>dW h₁ (λi s₂ h₂=>?_) λ_ _ x=>x) λ_ _ x=>x);obtain⟨hT,h₂⟩:=h₂;unfold subscriptTail;refine ar ?_;rw[getitemInPython_of_ne hT.not_modules];refine ar (wpAny_specialOf hT hl ?_);have fin:ax (ay prog w) A (CD slice ao o i) (λr s₃=>ax (ay prog w) A (letTemporaryGo value o r >>= λ_=>pure r) Q E s₃) E s₂:=by rw[hs o i];exact wpAny_operating (dW h₂ (λr s₃ h₃=>ar (wpAny_letTemporaryGo (aD h₃))) λ_ _ x=>x)
 first
  | exact aD (ar fin)
  | exact ar (aD (ar fin))
  | exact ar fin
theorem On{X:Cx}{ah:List (af×Obj)}{σ:St}{H:Hp}{s:aq}{a:af}{y:V}{o:Option V}(I:Inv X ah σ H s)(g:kJ H a y o):s.TypeIs (.ref a) "dict":=by
 rcases g with⟨kvs,k,e,_,_⟩ | ⟨kvs,k,b,e,_,_,_⟩
 ·obtain⟨_,_,vs,_,dd⟩:=qu I.hok e;exact dd.typeIs
 ·obtain⟨_,_,xs,_,dd⟩:=qi I.hok e;exact dd.typeIs
def MM(td ty:TE):TE:=λσ H Q=>td σ H λx H1=>ty σ H1 λy H2=>∃ a v,x = .ref a/\kJ H2 a y (aa v)/\Q v H2
def SZ(ty td:TE):TE:=λσ H Q=>ty σ H λy H1=>td σ H1 λx H2=>∃ a o,x = .ref a/\kJ H2 a y o/\Q (.bl o.isSome) H2
def ME(ty td:TE):TE:=λσ H Q=>ty σ H λy H1=>td σ H1 λx H2=>∃ a o,x = .ref a/\kJ H2 a y o/\Q (.bl (!o.isSome)) H2
def MB(td ty tv:TE):TS:=λD σ H=>tv σ H λv H1=>td σ H1 λx H2=>ty σ H2 λy H3=>∃ a H4,x = .ref a/\zc H3 a y v H4/\D.nx σ H4
section
variable{X:Cx}{o i e value:aC}{pos pos' tpos:Pos}{td ty tv:TE}
theorem Kx(hu:X.A.units+1<cLine)(ho:PE X o td)(hi:PE X i ty)(hs:A5 i):PE X (.Subscript o i pos) (MM td ty):=by intro ah s σ H Q I h;refine IE PySem.F.slot_dict_getitem.lookup hs (aU (ho ah s σ H _ I h) λu s1 ⟨x,H1,I1,rx,q1⟩=>aU (hi ah s1 σ H1 _ I1 q1) λiv s2 ⟨y,H2,I2,ry,a,v,ex,g,q2⟩=>?_);subst ex;obtain rfl:u=Value.ref a:=rx;exact⟨On I2 g,Oy hu I2 g ry λw' s3 I3 rw'=>⟨v,H2,I3,rw',q2⟩⟩
theorem GF(hu:X.A.units+1<cLine)(hi:PE X i ty)(ho:PE X o td):PC X .In i o (SZ ty td):=by intro ah s σ H Q I h;refine aU (hi ah s σ H _ I h) λiv s1 ⟨y,H1,I1,ry,q1⟩=>aU (ho ah s1 σ H1 _ I1 q1) λu s2 ⟨x,H2,I2,rx,a,ov,ex,g,q2⟩=>?_;subst ex;obtain rfl:u=Value.ref a:=rx;exact Tw hu I2 g ry λs3 I3=>⟨.bl ov.isSome,H2,I3,rfl,q2⟩
theorem QH(hu:X.A.units+1<cLine)(hi:PE X i ty)(ho:PE X o td):PC X .NotIn i o (ME ty td):=by intro ah s σ H Q I h;refine aU (hi ah s σ H _ I h) λiv s1 ⟨y,H1,I1,ry,q1⟩=>aU (ho ah s1 σ H1 _ I1 q1) λu s2 ⟨x,H2,I2,rx,a,ov,ex,g,q2⟩=>?_;subst ex;obtain rfl:u=Value.ref a:=rx;exact Rg hu I2 g ry λs3 I3=>⟨.bl (!ov.isSome),H2,I3,rfl,q2⟩
theorem L5(hu:X.A.units+1<cLine)(ho:PE X o td)(hi:PE X i ty)(hv:PE X value tv)(hs:mB value (aa (.Subscript o i pos')) pos.line X.env=pure ao) : PS X (.Assign [.Subscript o i pos'] value pos) (MB td ty tv):=by intro ah s σ H D I h;refine wpAny_Assign_Subscript (aU (hv ah s σ H _ I h) λr s1 ⟨v,H1,I1,rv,q1⟩=>aU (ho ah s1 σ H1 _ I1 q1) λu s2 ⟨x,H2,I2,rx,q2⟩=>aU (hi ah s2 σ H2 _ I2 q2) λiv s3 ⟨y,H3,I3,ry,a,H4,ex,g,q3⟩=>?_) hs;subst ex;obtain rfl:u=Value.ref a:=rx;exact Nh hu I3 g ry rv λs4 I4=>⟨σ,H4,I4,q3⟩
end
theorem FF{P:aX}{w:aN}{H:Hp}(h:aE)(hb:nJ<h.objs.size):dS P w H (h.push { cls:=.type "dict",data:=.dict #[] }) h.objs.size (.dK []) :=⟨kY _,beq_eq_false_iff_ne.mpr (gW (c7 hb)),[],.nil,Heap.DictOf.new h⟩
def Qi:TE:=λ_ H Q=>∀ p,H p=ae->Q (.ref p) (upd H p (.dK []))
section
variable{X:Cx}{pos:Pos}
theorem M_:PE X (.Dict [] [] pos) Qi:=λah s σ H Q I h=>wpAny_Dict_empty ⟨.ref s.heap.objs.size,_,I.laid (a:=s.heap.objs.size) (o:=.dK []) (t':=s.toks) (λ_ _ q=>bK _ q) (bi _) (FF s.heap I.big),rfl,h _ (I.hok.fresh (bi _))⟩
end
def AW:List (TE×TE)->St->Hp->(List (V×V)->Hp->Prop)->Prop
 | [],_,H,Q=>Q [] H
 | (tk,tv)::r,σ,H,Q=>tk σ H λx H1=>tv σ H1 λy H2=>AW r σ H2 λps H3=>Q ((x,y)::ps) H3
abbrev VV:List (V×V)->List (ak×ak)->Prop:=nI λp q=>RelV p.1 q.1/\RelV p.2 q.2
def yF(X:Cx)(pos:Pos)(keys:List (Option aC))(values:List aC)(trs:List (TE×TE)):Prop :=
 ∀ (ah:List (af×Obj)) (s:aq) (σ:St) (H:Hp) (Q:List (V×V)->Hp->Prop),Inv X ah σ H s->AW trs σ H Q ->
  ax (ay X.prog X.w) X.A (evalPairs (pairTrees keys values X.env pos)) (λvs s'=>∃ ps H',Inv X ah σ H' s'/\VV ps vs/\Q ps H') X.xe s
theorem Su{X:Cx}{pos:Pos}:yF X pos [] [] []:=λah s σ H Q I h=>pairTrees_nil_walk ⟨[],H,I,.nil,h⟩
theorem O7{X:Cx}{pos:Pos}{k v:aC}{ks:List (Option aC)}{vs:List aC}{tk tv:TE}{trs:List (TE×TE)}(hk:PE X k tk)(hv:PE X v tv)(hr:yF X pos ks vs trs) : yF X pos (aa k::ks) (v::vs) ((tk,tv)::trs):=λah s σ H Q I h=>pairTrees_cons_walk (aU (hk ah s σ H _ I h) λu s1 ⟨x,H1,I1,rx,q1⟩=>aU (hv ah s1 σ H1 _ I1 q1) λw2 s2 ⟨y,H2,I2,ry,q2⟩=>aU (hr ah s2 σ H2 _ I2 q2) λws s3 ⟨ps,H3,I3,rel,q3⟩=>⟨(x,y)::ps,H3,I3,.cons ⟨rx,ry⟩ rel,q3⟩)
def sR(kvs more:List (aI×V)):List (aI×V):=more.foldl (λau kv=>gR au kv.1 kv.2) kvs
theorem KV.merge:∀ {more:List (aI×V)} {rs:List (aI×ak)} {kvs:List (aI×V)} {vs:List (aI×ak)},KV more rs->KV kvs vs->KV (sR kvs more) (merged vs rs):=by
 intro more rs kvs vs r;unfold KV at r
 induction r generalizing kvs vs with
 | nil=>intro q; exact q
 | @cons p q ps qs h t ih=>
  intro r0;have e:KV (gR kvs p.1 p.2) (stored vs q.1 q.2):=by have:=r0.put p.1 h.2;rw[← h.1]; exact this
  exact ih e
theorem HC:∀ (more kvs:List (aI×V)),(sR kvs more).length<=kvs.length+more.length
 | [],kvs=>by show kvs.length<=kvs.length+0; lia
 | p::r,kvs=>by have h1:=HC r (gR kvs p.1 p.2);have h2:=B_ kvs p.1 p.2;show(sR (gR kvs p.1 p.2) r).length<=_;rw[eD]; lia
theorem EC{P:aX}{w:aN}:∀ {kvs:List (aI×V)} {ws:List (ak×ak)},VV (kvs.map λkv=>(kV kv.1,kv.2)) ws->∃ rs,Carries (gf P w) ws rs/\KV kvs rs
 | [],_,r=>by rw[vL]at r; cases r; exact⟨[],True.intro,.nil⟩
 | p::kvs,_,r=>by
  rw[d4]at r;cases r with
  | @cons a b as bs h t=>obtain⟨rs,c,q⟩:=EC (P:=P) (w:=w) t;obtain⟨b1,b2⟩:=b;exact⟨(p.1,b2)::rs,⟨o0 h.1,rfl,c⟩,.cons ⟨rfl,h.2⟩ q⟩
def Tp(trs:List (TE×TE)):TE:=λσ H Q=>∀ p,H p=ae->AW trs σ (upd H p (.dK [])) λps H2=>H2 p=aa (.dK [])/\∃ kvs:List (aI×V),ps=kvs.map (λkv=>(kV kv.1,kv.2))/\kvs.length<=15/\Q (.ref p) (upd H2 p (.dK (sR [] kvs)))
theorem LJ{X:Cx}{pos:Pos}{keys:List (Option aC)}{values:List aC}{trs:List (TE×TE)}(h:yF X pos keys values trs)(tT:keys.all (·.isSome)=ai)(hl:keys.length=values.length)(h0:keys≠[])(h15:keys.length<=15):PE X (.Dict keys values pos) (Tp trs):=by
 intro ah s σ H Q I q;have hn:=I.hok.fresh (bi s.heap.objs.size);have I1:=I.laid (a:=s.heap.objs.size) (o:=.dK []) (h':=s.heap.push { cls:=.type "dict",data:=.dict #[] }) (t':=s.toks) (λ_ _ q=>bK _ q) (bi _) (FF s.heap I.big);refine wpAny_Dict_walk (knd:=gf X.prog X.w) tT hl h0 h15 (aU (h ah _ σ _ _ I1 (q _ hn)) λws s2 ⟨ps,H2,I2,rel,e,kvs,ep,lk,q2⟩=>?_);subst ep;obtain⟨rs,c,rk⟩:=EC (P:=X.prog) (w:=X.w) rel;obtain⟨z,hd,vs0,r0,dd⟩:=u0 I2.hok e;cases r0;refine⟨rs,c,dd,λh' dd' hs=>⟨.ref s.heap.objs.size,_,?_,rfl,q2⟩⟩;have hz:(sR [] kvs).length<=bp:=by have h1:=HC kvs [];rw[tj]at h1;rw[sU]; lia
 have he:∃ q,h'.get? s.heap.objs.size=aa q:=let ⟨q,_,_,hq,_⟩:=dd'; ⟨q,hq⟩
 exact z_ I2 (by rw[e]; exact True.intro) hs he (Er hz hd (rk.merge .nil) dd')
structure M2(X:Cx)(o:aC)(m:Str)(apos:Pos)(e f:aC)(cpos:Pos):Prop where
 base:s_ o m X.env (bv o X.env)=bv o X.env
 few:((fZ cpos (bq [e,f] X.env)).all (λx=>!x.1) && (backToKw cpos (CF [] X.env)).all (λx=>x.1.isSome) && decide (([e,f]:List aC).length+([]:List qA).length+(if([]:List qA).isEmpty then 0 else 1)<30))=ai
 line:(apos.endLine == cpos.line)=ai
 trees:fZ cpos (bq [e,f] X.env)=[(ao,bv e X.env),(ao,bv f X.env)]
def EZ(H:Hp)(a:af):Prop:=(∃ kvs,Rd H a (.dK kvs))\/∃ kvs,Rd H a (.dT kvs)
theorem PN{X:Cx}{ah:List (af×Obj)}{σ:St}{H:Hp}{s:aq}{a:af}(I:Inv X ah σ H s)(d:EZ H a) : s.TypeIs (.ref a) "dict"/\(∀ b,Value.ref a = .ref b->∃ ob,s.heap.get? b=aa ob/\ob.dict=ae)/\(a == nJ)=ao:=by
 rcases d with⟨kvs,e⟩ | ⟨kvs,e⟩
 ·obtain⟨_,hd,vs,_,dd⟩:=qu I.hok e;refine⟨dd.typeIs,λb q=>?_,hd⟩;cases q;obtain⟨ob,_,_,h1,h2,_⟩:=dd;exact⟨ob,h1,h2.2.1⟩
 ·obtain⟨_,hd,xs,_,dd⟩:=qi I.hok e;refine⟨dd.typeIs,λb q=>?_,hd⟩;cases q;obtain⟨ob,_,_,h1,h2,_⟩:=dd;exact⟨ob,h1,h2.2.1⟩
section
variable{X:Cx}{ah:List (af×Obj)}{σ:St}{H:Hp}{s:aq}{a:af}{y d:V}{u r:ak}{o:Option V}{A:be}{E:ak->aq->Prop}
theorem Ms{Q:ak->aq->Prop}(hu:A.units+1<cLine)(I:Inv X ah σ H s)(g:kJ H a y o)(ry:RelV y u)(rd:RelV d r)(h:∀ w' s',Inv X ah σ H s'->RelV (o.getD d) w'->Q w' s') : ax (ay X.prog X.w) A (call (.builtin "dict.get") [.ref a,u,r]) Q E s:=by
 rcases g with⟨kvs,k,e,ey,l⟩ | ⟨kvs,k,b,e,ey,eb,l⟩
 ·subst ey;obtain⟨z,hd,vs,rel,dd⟩:=qu I.hok e;refine call_meetsIn JB dd.typeIs PySem.F.entry_dict_get (PySem.F.args_dict_get_3 _ _ _) (meets_dict_get_default (gf X.prog X.w) a (o0 ry) hd r) ⟨_,dd.mapOf,h _ _ (I.tok _) ?_⟩;rw[l];exact(rel.val k).getD rd
 ·subst ey;cases (show u=Value.ref b from ry);obtain⟨z,hd,xs,rel,dd⟩:=qi I.hok e;refine call_meetsIn JB dd.typeIs PySem.F.entry_dict_get (PySem.F.args_dict_get_3 _ _ _) (meetsH_dict_get_default (vC (gf X.prog X.w)) a b hd r) ⟨zm hu,k,xs,sw I.hok eb,dd,h _ _ (I.tok _) ?_⟩;rw[l];exact(rel.val k).getD rd
end
def Q7(td ty tx:TE):TE:=λσ H Q=>td σ H λx H1=>∃ a,x = .ref a/\EZ H1 a/\ty σ H1 λy H2=>tx σ H2 λz H3=>∃ o,kJ H3 a y o/\Q (o.getD z) H3
section
variable{X:Cx}{o e f:aC}{apos cpos:Pos}{td ty tx:TE}
theorem Nf(hu:X.A.units+1<cLine)(ho:PE X o td)(he:PE X e ty)(hf:PE X f tx)(m:M2 X o "get" apos e f cpos):PE X (.Call (.Attribute o "get" apos) [e,f] [] cpos) (Q7 td ty tx):=by intro ah s σ H Q I h;refine wpAny_Call_method m.base m.few m.line PySem.F.plainAttrs_dict JB PySem.F.type_dict_get (aU (ho ah s σ H _ I h) λu s1 ⟨x,H1,I1,rx,a,ex,d,q1⟩=>?_);subst ex;obtain rfl:u=Value.ref a:=rx;obtain⟨t1,t2,_⟩:=PN I1 d;refine⟨t1,t2,?_⟩;rw[m.trees];refine Jx rfl (Jy (Cy (aU (he ah s1 σ H1 _ I1 q1) λiv s2 ⟨y,H2,I2,ry,q2⟩=>Cy (aU (hf ah s2 σ H2 _ I2 q2) λfv s3 ⟨z,H3,I3,rz,ov,g,q3⟩=>Jt ?_))));exact Ms hu I3 g ry rz λw' s4 I4 rw'=>⟨_,H3,I4,rw',q3⟩
end
end L2
namespace Att
open PySem PySem.W PySem.Calls PyProof.Rows
theorem R5{P:Params}{h:aE}:∀ (ns:List Int) (vs:List ak),WellAll P h vs (ns.map WData.int)->IntsAre vs ns:=by
 intro ns
 induction ns with
 | nil=>
  intro vs w;rw[vL]at w;cases w;exact .nil
 | cons n ns ih=>
  intro vs w;rw[d4]at w;cases w with
  | cons a b=>
   cases a;exact .cons _ _ (ih _ b)
theorem Tt{l:OpenLaw}{n:Nat}(hn:l.most=aa n){P:Params}{h:aE}{args:List WData}{vals:List ak}(zQ:l.row.toRowW.claim.pre args=ai) (hwl:WellAll P h vals args) : ∃ a vs ns,vals=[Value.ref a]/\args=[WData.list (ns.map WData.int)]/\h.get? a=aa { cls:=.type "list",data:=.seq vs.toArray }/\IntsAre vs ns/\ns.length<=n:=by
 have hsh:WShape.hasAll [] args [.list .int]=ai:=(pre_splitW zQ).1;have hc:l.pre.holds [] { args:=args }=ai:=(pre_splitW zQ).2;obtain⟨d,r,rfl,h1,h2⟩:=hasAllW_cons hsh;obtain rfl:=hasAllW_nil h2;obtain⟨xs,rfl,h3⟩:=hasW_list h1;obtain⟨ns,rfl⟩:=items_int h3;have bY:ns.length<=n:=by
  unfold OpenLaw.pre at hc;have h4:(WTm.not (.lt (.lit (.int (n:Int))) (.len (.arg 0)))).holds [] { args:=[.list (ns.map .int)] }=ai:=by have h4:=(holds_andW hc).1;rw[hn]at h4;exact h4
  have h5:=condW_of h4 (w_not (w_lt w_lit (w_len_list (w_arg rfl))));rw[cD]at h5;refine Nat.le_of_not_lt λq=>?_;have q':(n:Int)<((ns.length:Nat):Int):=∅
  first
   | (rw[decide_eq_true q']at h5; exact absurd h5 (by decide))
   | (simp at h5; lia)
 cases hwl with
 | cons w1 w2=>
  cases w2;cases w1 with
  | list ho tT=>exact⟨_,_,ns,rfl,rfl,ho,R5 ns _ tT,bY⟩
theorem Po(l:OpenLaw)(args:List WData):l.row.toRowW.claim.post args (.bool ai) args=ai :=
 postW_of (r:=l.row.toRowW) (X:=(ai == ai))
  (show WShape.has [] (.bool ai) .bool=ai by first | rfl | decide | simp[WShape.has,WShape.arms,WShape.armsAll])
  (show(WTm.eq .res (.lit (.bool ai))).value [] { args:=args,res:=aa (.bool ai),after:=args }=aa (.bool (ai == ai))from w_eq_bool (w_res rfl) w_lit) rfl
theorem attach_call{l:OpenLaw}{n:Nat}{q:aX}{loose:List Str}{XP:(Str->Option ak)->aE->Prop}{YP:aN->aE->Prop}{d:DefRec}(hn:l.most=aa n) (qJ:d.params.defaults=[])(call:∀ (w:aN) (s₀ s₁:aq) (mg mb:Str->Option ak) (fa:af) (o:Obj) (pm cd doc:ak) (a:af) (vs:List ak) (ns:List Int),Ground q loose [] XP w s₀ mg mb s₁.heap->YP w s₁.heap -> s₁.heap.get? fa=aa o->o.data = .func (docDef d.name d.params d.body d.scope pm cd doc)->s₁.heap.CodeRec cd d.name->mg d.name=aa (.ref fa) -> s₁.heap.get? a=aa { cls:=.type "list",data:=.seq vs.toArray }->IntsAre vs ns->ns.length<=n->s₁.gens = #[] -> o8 (ay l.prog w) tq (.call (.ref fa) ⟨[.ref a],[]⟩) (λr s'=>r = .ok (.ret (.bool ai))/\OldK s₁.heap s'.heap/\s'.os=s₁.os/\nL s'.gens) s₁) : WalkO q loose XP YP l.row.toRowW d [] (λf vs=>PySem.call f vs):=by intro w s₀ s₁ mg mb G Y fa o pm cd doc dV kV ho hd bM hD ww hg args vals as zQ hlay hrd hwl hlo;obtain rfl:dV = .none:=Dflts.none hD qJ;obtain rfl:kV = .none:=Dflts.noKw hD;obtain⟨a,vs,ns,rfl,rfl,Dx,Dr,bY⟩:=Tt hn zQ hwl;refine enter_call (zh (call w s₀ s₁ mg mb fa o pm cd doc a vs ns G Y ho (fd_plain hd) bM ww Dx Dr bY hg) λr s' hq=>?_);obtain⟨rfl,h2,h3,h4⟩:=hq;exact⟨.inl ⟨.bool ai,.bool ai,[],rfl,λ_=>rfl,.bool ai,Po l _,λ_=>⟨List.Pairwise.nil,λ_ hm=>(nomatch hm)⟩⟩,h2,h3,h4⟩
section
variable{prog:aX}{w:aN}{A:be}{E:ak->aq->Prop}{s:aq}{K:Frag}
def yR(h:aE):aE:={ h with objs:=#[] }
theorem Jg(h:aE)(b:af):(yR h).get? b=ae:=by
 cases e:(yR h).get? b with
 | none=>rfl
 | some o=>exact absurd (bC e) (zn _)
def BD(h:aE)(L d:af):List (af×Obj):=(bQ h.objs.size).filterMap λa=>if a=L\/a=d then ae else(h.get? a).map λo=>(a,o)
theorem OU{h:aE}{L d a:af}{o:Obj}:(a,o)∈BD h L d↔a≠L/\a≠d/\h.get? a=aa o:=by
 unfold BD;rw[Jq];constructor
 ·rintro⟨b,_,e⟩;split at e
  ·cases e
  ·rename_i hb;obtain⟨o',ho,e'⟩:=qB.mp e;cases e';exact⟨λq=>hb (.inl q),λq=>hb (.inr q),ho⟩
 ·rintro⟨n1,n2,ho⟩;refine⟨a,nK.mpr (bC ho),?_⟩;rw[if_neg (show ¬ (a=L\/a=d)from λq=>q.elim n1 n2),ho] <;> rfl
theorem RK{h:aE}{L:af}{m:Str->Option ak}(n:h.Ns L m):Fr (yR h) L h m :=
 ⟨n,λb o e=>(by rw[Jg]at e; cases e),kY _⟩
end
end Att
namespace L2
theorem Ef:∀ {vs:List ak} {ns:List Int},IntsAre vs ns->bI (ns.map V.int) vs
 | _,_,.nil=>.nil
 | _,_,.cons n t h=>.cons ⟨t,rfl⟩ (Ef h)
def BM(H:Hp):Prop:=∀ b,H b=ae\/(∃ o xs,H b=aa (.frz o (.lst xs)))\/∃ q,H b=aa (.tbl q)
def j7(K:az):Hp:=λb=>match lz K "road" with
 | some (_,P)=>if b=P then aa (.tbl "road.<locals>.<lambda>")else ae
 | none=>ae
theorem p5{K:az}{b:af}{u:HO}(h:j7 K b=aa u):u = .tbl "road.<locals>.<lambda>"/\∃ c,lz K "road" = aa (c,b):=by
 unfold j7 at h;split at h
 ·rename_i c P e;split at h
  ·rename_i hb;subst hb;cases h;exact⟨rfl,c,e⟩
  ·cases h
 ·cases h
theorem E6{K:az}{c P:af}(h:lz K "road" = aa (c,P)):j7 K P=aa (.tbl "road.<locals>.<lambda>"):=by unfold j7;rw[h];exact if_pos rfl
def Ex(K:az)(h:aE):Prop:=∀ c P,lz K "road" = aa (c,P)->zo K c P=ai/\K.lookup P=ae/\h.get? P=aa { cls:=.none,data:=.fields #[] }
theorem Pa{P:aX}{w:aN}{K:az}{mg mb:Str->Option ak}{CX:fV}{k:Nat}{fa a:af}{fd:iq}{x:Str}{sp:Sp}{s₁:aq}{vs:List ak}{ns:List Int}(KX:K.In s₁.heap) (ku:s₁.heap.Ns cE mg) (hb:s₁.heap.Ns qx mb) (hbb:∀ x:Str,x≠"__name__"->mb x=fq x) (hlim:s₁.heap.NoLimit) (hbm:∃ bm ob,mg "__builtins__" = aa (.ref bm)/\bm≠qx/\s₁.heap.get? bm=aa ob/\ob.cls = .type "module"/\ob.dict=aa qx/\ob.data = .plain) (pr:Ex K s₁.heap) (hg:s₁.gens = #[])(ha:s₁.heap.get? a=aa { cls:=.type "list",data:=.seq vs.toArray }) (hi:IntsAre vs ns) (hl:ns.length<=bp) (hr:Room k tq)(F:∀ base:aE,K.In base->base.Ns cE mg->jn P w K mg base CX k fa fd [x] sp) (Uu:∀ (s:aq) (u:ak),BindsTo s fd ⟨[u],[]⟩ [(x,u)])(mQ:∀ H:Hp,BM H->ce K H a (ns.map V.int)->sp [.ref a] H (λv _=>v = .bl ai) λ_ _ _=>False)(hCX:∀ H e s',CX [] H s₁ (λ_ _ _=>False) e s'->False) : o8 (ay P w) tq (.call (.ref fa) ⟨[.ref a],[]⟩) (λr s'=>r = .ok (.ret (.bool ai))/\OldK s₁.heap s'.heap/\s'.os=s₁.os/\nL s'.gens) s₁:=by
 have rv:=Ef hi;have lenV:=hi.length;have core:∀ H:Hp,BM H->ce K H a (ns.map V.int)->d_ P w H s₁.heap->(∀ b,H b≠ae->b=a\/∃ c,lz K "road" = aa (c,b))->(H a≠ae->K.lookup a=ae)->w6 K H ->
   o8 (ay P w) tq (.call (.ref fa) ⟨[.ref a],[]⟩) (λr s'=>r = .ok (.ret (.bool ai))/\OldK s₁.heap s'.heap/\s'.os=s₁.os/\nL s'.gens) s₁:=by
  intro H hO hS hok hA hK hTH;have base_of:∀ {b:af} {o:Obj},s₁.heap.get? b=aa o->H b=ae->(m_ s₁.heap H).get? b=aa o:=λe n=>Oq e n;have noA:∀ {b:af} {o:Obj} {es:Array DictEntry} {ep:Nat},s₁.heap.get? b=aa o->o.data = .dict es ep->H b=ae:=λ{b o es ep} e d=>by
   cases q:H b with
   | none=>rfl
   | some u=>
    rcases hA b (by rw[q]; simp)with e' | ⟨c,e'⟩
    ·subst e';rw[ha]at e; cases e;have d':Data.seq vs.toArray _=Data.dict es ep:=d;cases d'
    ·rw[(pr c b e').2.2]at e; cases e;cases d
  have nsK:∀ {b:af} {m:Str->Option ak},s₁.heap.Ns b m->(m_ s₁.heap H).Ns b m:=λ{b m} ⟨o,es,ep,e,d,r⟩=>⟨o,es,ep,base_of e (noA e d),d,r⟩
  have hKb:K.In (m_ s₁.heap H):=λb o e=>base_of (KX b o e) (by
   cases q:H b with
   | none=>rfl
   | some u=>
    rcases hA b (by rw[q]; simp)with e' | ⟨c,e'⟩
    ·subst e';rw[hK (by rw[q]; simp)]at e; cases e
    ·rw[(pr c b e').2.1]at e; cases e)
  have hM:Mod K mg (m_ s₁.heap H):=⟨hKb,nsK ku,⟨mb,nsK hb,hbb⟩,(let ⟨mc,h1,h2⟩:=hlim; ⟨mc,nsK h1,h2⟩),by
   obtain⟨bm,ob,b1,b2,b3,b4,b5,b6⟩:=hbm;refine⟨bm,ob,b1,b2,base_of b3 ?_,b4,b5,b6⟩;cases q:H bm with
   | none=>rfl
   | some u=>
    rcases hA bm (by rw[q]; simp)with e' | ⟨c,e'⟩
    ·subst e'; rw[ha]at b3; cases b3; simp at b4
    ·rw[(pr c bm e').2.2]at b3; cases b3; simp at b4⟩
  have e0:rO P w K mg (m_ s₁.heap H) tq [] s₁ H:=⟨rfl,hM,λb o e=>Uf e,mD (Ku _ _),trivial,λb hb=>absurd (show b∈([]:List af)from hb) (by simp),hok,.of_eq hg,hTH⟩
  refine zh ((F _ hKb (nsK ku)).run tq [] s₁ H ⟨[.ref a],[]⟩ [.ref a] [.ref a] _ _ hr e0 (Uu s₁ (.ref a)) (.cons rfl .nil) (mQ H hO hS)) λr s' h=>?_;cases r with
  | error e=>exact(hCX H e s' h).elim
  | ok fl=>
   cases fl with
   | next=>exact kj h
   | brk=>exact kj h
   | cont=>exact kj h
   | ret u=>
    obtain⟨v,H',os,bare,un,Kh,r',q⟩:=h;have q':v = .bl ai:=q;subst q';obtain rfl:u=Value.bool ai:=r';refine⟨rfl,⟨λb o e=>?_,λb o e=>un.there b o e (by simp)⟩,os,bare⟩;cases q:H b with
    | none=>exact .inl (un.keep b o e q (by intro z; exact absurd (show b∈([]:List af)from z) (by simp)) (by simp))
    | some u=>
     rcases hO b with z | ⟨ob,xs,z⟩ | ⟨qn,z⟩
     ·rw[q]at z; cases z
     ·have z2:=un.frzs b ob _ z;obtain⟨e1,_⟩:=hok b _ z;obtain⟨e2,_⟩:=Kh b _ z2;rw[e]at e1; cases e1;exact .inl e2
     ·rcases hA b (by rw[q]; simp)with e' | ⟨c,e'⟩
      ·subst e';obtain⟨ps,e1,_⟩:=hok b _ z;rw[ha]at e1; cases e1
      ·obtain⟨k1,k2,k3⟩:=pr c b e';rw[k3]at e; cases e;obtain⟨oc,vs',_,_,_,_,_,_,_,f1,f2,f3,f4,_⟩:=PySem.W.codeHd_of_K KX k1;obtain⟨ps,e1,_⟩:=Kh b _ (un.tbls b _ z);exact .inr (.inl ⟨⟨c,oc,vs',f1,f2,f3,f4⟩,rfl,#[],ps,rfl,by rw[e1]; simp⟩)
 cases hk:K.lookup a with
 | some o=>
  have e:=KX a o hk;rw[ha]at e;cases e;have tH:∀ b u,j7 K b=aa u->dS P w (j7 K) s₁.heap b u:=λb u z=>by
   obtain⟨rfl,c,e⟩:=p5 z;exact⟨#[],(pr c b e).2.2,trivial,λpos cv h=>by cases h⟩
  refine core (j7 K) (λb=>?_) (.inr ⟨_,vs.toArray,_,hk,rfl,rfl,rfl,by rw[dA,lenV]; exact hl,by simpa using rv⟩) tH (λb z=>?_) (λz=>?_) λx hx c P e=>?_
  ·cases q:j7 K b with
   | none=>exact .inl rfl
   | some u=>exact .inr (.inr ⟨_,congrArg aa (p5 q).1⟩)
  ·cases q:j7 K b with
   | none=>exact absurd q z
   | some u=>exact .inr (p5 q).2
  ·cases q:j7 K a with
   | none=>exact absurd q z
   | some u=>
    obtain⟨_,c,e'⟩:=p5 q;rw[(pr c a e').2.2]at ha; cases ha
  ·obtain rfl:x = "road":=by simpa[vj]using hx
   exact E6 e
 | none=>
  have ta:∀ c P,lz K "road" = aa (c,P)->P≠a:=λc P e z=>by subst z; rw[(pr c P e).2.2]at ha; cases ha
  refine core (λb=>if b=a then aa (.frz { cls:=.type "list",data:=.seq vs.toArray } (.lst (ns.map V.int)))else j7 K b) (λb=>?_) (.inl (.inr ⟨{ cls:=.type "list",data:=.seq vs.toArray },if_pos rfl⟩)) (λb u z=>?_) (λb z=>?_) (λ_=>hk) λx hx c P e=>?_
  ·by_cases hb:b=a
   ·exact .inr (.inl ⟨_,_,if_pos hb⟩)
   ·cases q:j7 K b with
    | none=>exact .inl ((if_neg hb).trans q)
    | some u=>exact .inr (.inr ⟨_,(if_neg hb).trans (q.trans (congrArg aa (p5 q).1))⟩)
  ·by_cases hb:b=a
   ·have z':=(if_pos hb).symm.trans z;cases z';subst hb;exact⟨ha,by rw[cD]; exact hl,vs,_,rv,ha⟩
   ·obtain⟨rfl,c,e⟩:=p5 ((if_neg hb).symm.trans z);exact⟨#[],(pr c b e).2.2,trivial,λpos cv h=>by cases h⟩
  ·by_cases hb:b=a
   ·exact .inl hb
   ·cases q:j7 K b with
    | none=>exact absurd ((if_neg hb).trans q) z
    | some u=>exact .inr (p5 q).2
  ·obtain rfl:x = "road":=by simpa[vj]using hx
   exact(if_neg (ta c P e)).trans (E6 e)
theorem U3{l:CJ}{n k:Nat}{q:aX}{loose:List Str}{XP:(Str->Option ak)->aE->Prop}{YP:aN->aE->Prop}{d:DefRec}{K:Params->az}{CX:aN->fV}{sp:aN->Sp}{x:Str}(hn:l.most=aa n) (hn2:n<=bp) (qJ:d.params.defaults=[]) (hr:Room k tq)(hY:∀ (w:aN) (h:aE),YP w h->(K w.params).In h/\Ex (K w.params) h)(F:∀ (w:aN) (mg:Str->Option ak) (fa:af) (h:aE),(K w.params).In h->h.Ns cE mg->mg d.name=aa (.ref fa) -> ∃ fd:iq,(∀ (s:aq) (u:ak),BindsTo s fd ⟨[u],[]⟩ [(x,u)]) /\ ∀ base:aE,(K w.params).In base->base.Ns cE mg->jn l.prog w (K w.params) mg base (CX w) k fa fd [x] (sp w))(mQ:∀ (w:aN) (H:Hp) (a:af) (ns:List Int),ns.length<=n->BM H->ce (K w.params) H a (ns.map V.int)->sp w [.ref a] H (λv _=>v = .bl ai) λ_ _ _=>False)(hCX:∀ (w:aN) (H:Hp) (s:aq) (e:ak) (s':aq),CX w [] H s (λ_ _ _=>False) e s'->False) : PySem.W.WalkO q loose XP YP l.row.toRowW d [] (λf vs=>PySem.call f vs):=by refine Att.attach_call hn qJ λw s₀ s₁ mg mb fa o pm cd doc a vs ns G Y ho hd bM ww Dx Dr bY hg=>?_;have KX:=(hY w _ Y).1;obtain⟨fd,hb,hF⟩:=F w mg fa _ KX G.T.g ww;exact Pa KX G.T.g G.T.b G.T.builtins G.T.nolimit G.T.bmain (hY w _ Y).2 hg Dx Dr (cI bY hn2) hr hF hb (λH hO hS=>mQ w H a ns bY hO hS) λH e s'=>hCX w H s₁ e s'
def kL(s:bf):sX:=match s with
 | .FunctionDef _ a _ _ _ _ _ _ _ _=>a
 | _=>{ posonlyargs:=[],args:=[],vararg:=ae,kwonlyargs:=[],kw_defaults:=[],kwarg:=ae,defaults:=[] }
def gS(s:bf):List bf:=match s with
 | .FunctionDef _ _ b _ _ _ _ _ _ _=>b
 | _=>[]
def aY(s:bf):eC:=match s with
 | .FunctionDef _ _ _ _ _ _ sc _ _ _=>sc
 | _=>{ kind:=.function,names:=[],isGenerator:=ao,isCoroutine:=ao }
abbrev AK:fV:=λ_ _ _ _ _ _=>False
abbrev E0:XK:=λ_ _ _=>False
structure oH(K:az)(x qual:Str)(st:bf)(f:af)(fd:iq):Prop where
 ex:∃ (oc:ak) (od:Option af) (kV doc pm:ak) (an:Option af) (aP ct:ak) (osl:Array (Option ak)),
  fd=kl x qual (kL st) (gS st) (aY st) .none kV doc pm an aP ct/\K.lookup f=aa ⟨oc,od,.func fd,osl⟩/\zj K aP qual=ai
 kp:sV K (.ref f)=ai
section
variable{P:aX}{w:aN}{K:az}{mg:Str->Option ak}{base:aE}
theorem oH.ok{x qual:Str}{st:bf}{f:af}{fd:iq}{N ps:List Str}{k:Nat}{sp:Sp}(F:oH K x qual st f fd)(S:b8 N ps (aY st))(len:∀ vs H Q E,sp vs H Q E->vs.length=ps.length)(jD:∀ (aP:ak) (A:be) (outer:List Env) (s:aq) (H:Hp) (vs:List V) (Q:VK) (E:XK),Room k (A.deeper (jV qual (aY st) s.heap.objs.size f aP))->sp vs H Q E -> ∃ t,jS (iX AK P w K mg base N qual (aY st) f aP A outer s H E).nox (gS st) t/\t { nx:=λ_ H'=>Q .non H',rt:=Q } (start N vs) H):jn P w K mg base AK (k+1) f fd ps sp:=by obtain⟨oc,od,kV,doc,pm,an,aP,ct,osl,rfl,lk,bM⟩:=F.ex;refine D7 lk bM S len λA outer s H vs Q E hr mQ=>?_;obtain⟨t,h,q⟩:=jD aP A outer s H vs Q E hr mQ;exact⟨t,h.nox,q⟩
theorem oH.binds{x qual:Str}{st:bf}{f:af}{fd:iq}{ps:List Str}(F:oH K x qual st f fd)(h:∀ (kV doc pm:ak) (an:Option af) (aP ct:ak) (us:List ak),us.length=ps.length->gE (kl x qual (kL st) (gS st) (aY st) .none kV doc pm an aP ct) ⟨us,[]⟩=pure (ps.zip us)):Binds K fd ps []:=by obtain⟨oc,od,kV,doc,pm,an,aP,ct,osl,rfl,lk,bM⟩:=F.ex;exact .all (h kV doc pm an aP ct)
theorem HG{x qual:Str}{st:bf}{f:af}{oc:ak}{od an:Option af}{osl:Array (Option ak)}{kV doc pm aP ct:ak}(l:K.lookup f=aa ⟨oc,od,.func (kl x qual (kL st) (gS st) (aY st) .none kV doc pm an aP ct),osl⟩)(c:zj K aP qual=ai) (k:sV K (.ref f)=ai):oH K x qual st f (kl x qual (kL st) (gS st) (aY st) .none kV doc pm an aP ct):=⟨⟨oc,od,kV,doc,pm,an,aP,ct,osl,rfl,l,c⟩,k⟩
end
theorem Hv{n:Nat}(h:n<=1000):n<bp:=tt h (by decide)
section
variable{X:Cx}
theorem pv(i:Nat){x:Str}{pos:Pos}(hN:X.N[i]?=aa x:=by rfl)(hv:fW X.env.scope x:=by first | exact Or.inl rfl | exact Or.inr (Or.inl rfl) | exact Or.inr (Or.inr rfl))(hd:(x == ("__debug__" : Str))=ao:=by decide)(bM:(x == ("__classdict__" : Str))=ao:=by decide):PE X (.Name x pos) (Iq i):=gP hN hv hd bM
end
theorem rJ{A B:Prop}(h:B):if ao=ai then A else B:=by rw[if_neg gn];exact h
theorem sk{A B:Prop}(h:A):if ai=ai then A else B:=by rw[if_pos rfl];exact h
def Same(H H':Hp):Prop:=∀ b o,H b=aa o->H' b=aa o
theorem Same.refl(H:Hp):Same H H:=λ_ _ h=>h
theorem Same.trans{H H1 H2:Hp}(a:Same H H1)(b:Same H1 H2):Same H H2:=λc o h=>b c o (a c o h)
theorem Same.free{H H':Hp}(e:Same H H'){l:af}(h:H' l=Option.none):H l=Option.none:=by
 cases q:H l with
 | none=>rfl
 | some o=>
  rw[e l o q]at h;cases h
theorem Same.seq{K:az}{H H':Hp}{a:af}{xs:List V}(e:Same H H')(h:ce K H a xs):ce K H' a xs:=by
 rcases h with(h | ⟨o,h⟩) | h
 ·exact .inl (.inl (e _ _ h))
 ·exact .inl (.inr ⟨o,e _ _ h⟩)
 ·exact .inr h
end L2
set_option maxHeartbeats 4000000
namespace L2
def iI(env:Env):List (Str×gY)->List (Str×af)->List (Str×af)
 | [],cs=>cs
 | (n,k)::r,cs=>if k == .free then iI env r ((n,(env.cells.lookup n).getD 0)::cs)else iI env r cs
theorem Sw{env:Env}{y:Str}{c:af}(names:List (Str×gY))(cs:List (Str×af))(hh:∀ x∈names,x.2 = .free->∃ c,env.cells.lookup x.1=aa c)(h:(iI env names cs).lookup y=aa c):cs.lookup y=aa c\/env.cells.lookup y=aa c:=by
 induction names generalizing cs with
 | nil=>exact .inl h
 | cons a r ih=>
  obtain⟨n,k⟩:=a;unfold iI at h;have hr:∀ x∈r,x.2 = .free->∃ c,env.cells.lookup x.1=aa c:=λx hx=>hh x (kX _ hx);split at h
  ·rename_i hk;obtain⟨c',iz⟩:=hh (n,k) (my ..) (by simpa using hk);rcases ih _ hr h with q | q
   ·rw[kZ]at q;split at q
    ·rename_i hb;have e:y=n:=by simpa using hb
     subst e;rw[iz]at q;exact .inr (by rw[iz]; exact q)
    ·exact .inl q
   ·exact .inr q
  ·exact ih _ hr h
theorem Hx{α:Type}{n:Str}{v:α}{l:List (Str×α)}:((n,v)::l).lookup n=aa v:=by rw[kZ]; simp
theorem GV{α:Type}{n y:Str}{v:α}{l:List (Str×α)}(h:∃ c,l.lookup y=aa c):∃ c,((n,v)::l).lookup y=aa c:=by
 rw[kZ];split
 ·exact⟨_,rfl⟩
 ·exact h
theorem Bo{env:Env}{y:Str}:∀ (names:List (Str×gY)) (cs:List (Str×af)),(∃ c,cs.lookup y=aa c)->∃ c,(iI env names cs).lookup y=aa c
 | [],cs,h=>h
 | (n,k)::r,cs,h=>by
  unfold iI;split
  ·exact Bo r _ (GV h)
  ·exact Bo r _ h
theorem zW{env:Env}{y:Str}:∀ (names:List (Str×gY)) (cs:List (Str×af)),(∃ x∈names,x.1=y/\x.2 = .free)->∃ c,(iI env names cs).lookup y=aa c
 | [],cs,⟨_,h,_⟩=>by simp at h
 | (n,k)::r,cs,⟨x,hx,e1,e2⟩=>by
  unfold iI;rcases cb.mp hx with e | hx
  ·subst e;simp only at e1 e2;subst e1 e2;simp only[beq_self_eq_true,if_true];exact Bo r _ ⟨_,Hx⟩
  ·split
   ·exact zW r _ ⟨x,hx,e1,e2⟩
   ·exact zW r _ ⟨x,hx,e1,e2⟩
theorem BI{env:Env}:∀ (names:List (Str×gY)) (cs:List (Str×af)),(∀ x∈names,x.2 = .free->∃ c,env.cells.lookup x.1=aa c) -> (forIn (m:=Sem) names cs λx r=>match x with | (name,kind)=>if(kind == NameKind.free)=ai then do let c ← cellOf env name; pure (ForInStep.yield ((name,c)::r))else pure (ForInStep.yield r))=pure (iI env names cs)
 | [],cs,_=>rfl
 | (n,k)::r,cs,h=>by
  have hr:∀ x∈r,x.2 = .free->∃ c,env.cells.lookup x.1=aa c:=λx hx=>h x (kX _ hx);rw[List.forIn_cons];unfold iI;by_cases hk:(k == NameKind.free)=ai
  ·obtain⟨c,hc⟩:=h (n,k) (my ..) (by simpa using hk);simp only[hk,if_true];have e:cellOf env n=pure c:=by unfold cellOf; rw[hc]
   rw[e];simp only[pure_bind];rw[BI r _ hr,hc];rfl
  ·simp only[hk,if_false,pure_bind];exact BI r _ hr
theorem IB{scope:eC}{env:Env}(h:∀ x∈scope.names,x.2 = .free->∃ c,env.cells.lookup x.1=aa c):zp scope env=pure (iI env scope.names []):=by unfold zp;have q:=BI scope.names [] h;simp only[bind_pure_comp]at q ⊢;rw[q];rfl
theorem vh{n c:Nat}(h1:n+1<=c)(h2:c<n):False:=∅
theorem z8:∀ (names:List (Str×gY)) (n:Nat) (a b:List (Str×af)),gq n names (a++b)=gq n names a++b
 | [],_,_,_=>rfl
 | (x,k)::r,n,a,b=>by
  unfold gq;split
  ·exact z8 r (n+1) ((x,n)::a) b
  ·exact z8 r n a b
theorem xm{y:Str}{c:af}:∀ (names:List (Str×gY)) (n:Nat) (a:List (Str×af)),(y,c)∈gq n names a->(y,c)∈a\/(y,.cell)∈names
 | [],_,_,h=>.inl h
 | (x,k)::r,n,a,h=>by
  unfold gq at h;split at h
  ·rename_i hk;rcases xm r _ _ h with z | z
   ·rcases cb.mp z with z | z
    ·cases z;have e:k = .cell:=by simpa using hk
     subst e;exact .inr (my ..)
    ·exact .inl z
   ·exact .inr (kX _ z)
  ·rcases xm r _ _ h with z | z
   ·exact .inl z
   ·exact .inr (kX _ z)
theorem B3{y:Str}:∀ (names:List (Str×gY)) (n:Nat) (a:List (Str×af)),(∃ c,a.lookup y=aa c)->∃ c,(gq n names a).lookup y=aa c
 | [],_,_,h=>h
 | (x,k)::r,n,a,h=>by
  unfold gq;split
  ·exact B3 r _ _ (GV h)
  ·exact B3 r _ _ h
theorem zb{y:Str}:∀ (names:List (Str×gY)) (n:Nat) (a:List (Str×af)),(y,.cell)∈names->∃ c,(gq n names a).lookup y=aa c
 | (x,k)::r,n,a,h=>by
  unfold gq;rcases cb.mp h with e | h
  ·cases e;exact B3 r _ _ ⟨_,Hx⟩
  ·split
   ·exact zb r _ _ h
   ·exact zb r _ _ h
def lf(X:Cx)(scope:eC)(C:af):List (Str×af):=gq (C+1) scope.names (iI X.env scope.names [])
theorem Be(X:Cx)(scope:eC)(C:af):lf X scope C=gq (C+1) scope.names []++iI X.env scope.names []:=z8 scope.names (C+1) [] _
theorem GK{M:Model}{A:be}{E:ak->aq->Prop}{s:aq}{scope:eC}{globals:af}{cl:List (Str×af)}{qual:Str}{env:Env}{Q:Env->aq->Prop}(hQ:Q (newEnv scope s.heap.objs.size globals (gq (s.heap.objs.size+1) scope.names cl) qual ae .none (aa env) qx) { s with heap:=zq (s.heap.push { cls:=.type "dict",data:=.dict #[] }) scope.names }) : ax M A (newFunctionEnv scope globals cl [] qual ae .none (aa env)) Q E s:=by
 simp only[newFunctionEnv,Option.isSome_some,if_true];refine ar (CK ?_);refine ar (wpAny_layCells _ (λname kind cells=>by cases hkc:kind == NameKind.cell <;> simp[hkc]) _ _ _ _ ?_);rw[show({ s with heap:=s.heap.push { cls:=.type "dict",data:=.dict #[] } }:aq).heap.objs.size=s.heap.objs.size+1 from vG ..];refine ar ?_;rw[List.forIn_nil];exact aD (aD hQ)
theorem Ax{s:aq}{names:List (Str×gY)}{y:Str}{c:af}(h:(y,c)∈gq (s.heap.objs.size+1) names []) : (zq (s.heap.push { cls:=.type "dict",data:=.dict #[] }) names).IsCell c ae/\s.heap.objs.size+1<=c/\∀ z,(z,c)∈gq (s.heap.objs.size+1) names []->y=z:=by have ok:=cellsFrom_ok names (s.heap.push { cls:=.type "dict",data:=.dict #[] }) (s.heap.objs.size+1) [] ⟨λ_ _ hm=>(nomatch hm),List.Pairwise.nil⟩ (by rw[vG]; exact bi _);rw[vG]at ok;exact⟨(ok.empty y c h).1,(ok.empty y c h).2,λz hz=>name_of_addr ok.apart h hz⟩
def cS(X:Cx)(scope:eC)(N':List Str)(C:af)(s₀:aq)(H₀:Hp)(ex:List af)(pn:List (af×Obj)):Cx where
 prog:=X.prog
 w:=X.w
 K:=X.K
 mg:=X.mg
 base:=X.base
 A:=X.A
 N:=N'
 s₀:=s₀
 H₀:=H₀
 env:=compEnvC scope (lf X scope C) C X.env
 outer:=X.stack
 stack:=X.stack
 ex:=ex
 fn:=λy=>scope.names.lookup y == aa .cell
 calm:=X.calm
 pn:=X.pn++pn
 xe:=λ_ _=>False
def jo(σ:St)(cap:List Nat):St:=cap.map λi=>(σ[i]?).join
structure mi(X:Cx)(scope:eC)(x:Str)(N':List Str)(cap:List Nat):Prop where
 kind:scope.kind = .function
 cells:∀ y∈scope.names,y.2 = .cell->scope.names.lookup y.1=aa .cell
 names:∀ y∈scope.names,y.2 = .local->scope.names.lookup y.1=aa .local
 loc:scope.names.lookup x=aa .local\/scope.names.lookup x=aa .cell
 free:∀ y∈scope.names,y.2 = .free->X.env.kindOf y.1=aa .cell\/X.env.kindOf y.1=aa .free
 nd:N'.Nodup
 hd:N'.head?=aa x
 len:N'.length=cap.length+1
 caps:∀ i j y,N'[i+1]?=aa y->cap[i]?=aa j->X.N[j]?=aa y/\scope.names.lookup y=aa .free
theorem Pz{names:List (Str×gY)}{y:Str}{k:gY}(h:names.lookup y=aa k):∃ x∈names,x.1=y/\x.2=k:=⟨(y,k),lD h,rfl,rfl⟩
theorem AT{env:Env}{x:Str}:∀ {names:List (Str×gY)} {k:gY}, (names.map λ(n,k)=>if(k == NameKind.free && env.scope.kind == .function && env.kindOf n == aa .cell)then(n,NameKind.cell)else(n,k)).lookup x=aa k -> ∃ k',names.lookup x=aa k'/\(k=k'\/(k' = .free/\k = .cell))
 | [],_,h=>by simp at h
 | (n,k0)::r,k,h=>by
  change zr x ((if(k0 == NameKind.free && env.scope.kind == .function && env.kindOf n == aa .cell)=ai then(n,NameKind.cell)else(n,k0))::_)=_ at h;rw[kZ];by_cases hc:(k0 == NameKind.free && env.scope.kind == .function && env.kindOf n == aa .cell)=ai
  ·rw[if_pos hc,kZ]at h;split at h
   ·rename_i hb;cases h;have:k0 = .free:=by simp at hc; exact hc.1.1
    exact⟨k0,rfl,.inr ⟨this,rfl⟩⟩
   ·exact AT h
  ·rw[if_neg hc,kZ]at h;split at h
   ·rename_i hb;cases h;exact⟨k0,rfl,.inl rfl⟩
   ·exact AT h
theorem B6{env:Env}{x:Str}:∀ {names:List (Str×gY)},names.lookup x=aa .free -> let q:=(names.map λ(n,k)=>if(k == NameKind.free && env.scope.kind == .function && env.kindOf n == aa .cell)then(n,NameKind.cell)else(n,k)).lookup x
  q=aa .cell\/q=aa .free
 | [],h=>by simp at h
 | (n,k0)::r,h=>by
  show zr x ((if(k0 == NameKind.free && env.scope.kind == .function && env.kindOf n == aa .cell)=ai then(n,NameKind.cell)else(n,k0))::_)=_\/zr x ((if(k0 == NameKind.free && env.scope.kind == .function && env.kindOf n == aa .cell)=ai then(n,NameKind.cell)else(n,k0))::_)=_;rw[kZ]at h;by_cases hc:(k0 == NameKind.free && env.scope.kind == .function && env.kindOf n == aa .cell)=ai
  ·rw[if_pos hc,kZ];cases hb:x == n with
   | true=>exact .inl rfl
   | false=>rw[hb]at h; exact B6 h
  ·rw[if_neg hc,kZ];cases hb:x == n with
   | true=>rw[hb]at h; cases h; exact .inr rfl
   | false=>rw[hb]at h; exact B6 h
theorem xW{env:Env}{x:Str}:∀ {names:List (Str×gY)},names.lookup x=aa .cell -> (names.map λ(n,k)=>if(k == NameKind.free && env.scope.kind == .function && env.kindOf n == aa .cell)then(n,NameKind.cell)else(n,k)).lookup x=aa .cell
 | [],h=>by simp at h
 | (n,k0)::r,h=>by
  show zr x ((if(k0 == NameKind.free && env.scope.kind == .function && env.kindOf n == aa .cell)=ai then(n,NameKind.cell)else(n,k0))::_)=_;rw[kZ]at h;by_cases hc:(k0 == NameKind.free && env.scope.kind == .function && env.kindOf n == aa .cell)=ai
  ·rw[if_pos hc,kZ];cases hb:x == n with
   | true=>rfl
   | false=>rw[hb]at h; exact xW h
  ·rw[if_neg hc,kZ];cases hb:x == n with
   | true=>rw[hb]at h; cases h; rfl
   | false=>rw[hb]at h; exact xW h
section
variable{X:Cx}{ah:List (af×Obj)}{σ:St}{H:Hp}{s:aq}{scope:eC}{x:Str}{N':List Str}{cap:List Nat}
theorem Inv.freeHas(I:Inv X ah σ H s)(B:mi X scope x N' cap):∀ y∈scope.names,y.2 = .free->∃ c,X.env.cells.lookup y.1=aa c:=λy hy e=>I.ok.has y.1 (B.free y hy e)
theorem Inv.clIn(I:Inv X ah σ H s)(B:mi X scope x N' cap){y:Str}{c:af}(h:(iI X.env scope.names []).lookup y=aa c):X.env.cells.lookup y=aa c:=by
 rcases Sw scope.names [] (I.freeHas B) h with q | q
 ·simp at q
 ·exact q
theorem Inv.cbIn(I:Inv X ah σ H s)(B:mi X scope x N' cap){C:af}{y:Str}{c:af}(h:(lf X scope C).lookup y=aa c):((y,c)∈gq (C+1) scope.names []/\scope.names.lookup y=aa .cell)\/((iI X.env scope.names []).lookup y=aa c/\X.env.cells.lookup y=aa c):=by
 rw[Be,JC]at h;cases e:(gq (C+1) scope.names []).lookup y with
 | none=>rw[e]at h; exact .inr ⟨h,I.clIn B h⟩
 | some c'=>
  rw[e]at h;cases h;have m:=lD e;rcases xm _ _ _ m with z | z
  ·cases z
  ·exact .inl ⟨m,B.cells _ z rfl⟩
theorem Inv.cbOld(I:Inv X ah σ H s)(B:mi X scope x N' cap){C:af}{y:Str}{c:af}(h:(iI X.env scope.names []).lookup y=aa c)(hk:scope.names.lookup y=aa .free):(lf X scope C).lookup y=aa c:=by
 rw[Be,JC];cases e:(gq (C+1) scope.names []).lookup y with
 | none=>exact h
 | some c'=>
  rcases xm _ _ _ (lD e)with z | z
  ·cases z
  ·have:=B.cells _ z rfl;rw[hk]at this; cases this
theorem Inv.block{fp:List af}{h₁:aE}{m:Str->Option ak}{t':Nat}(hh:h₁=zq (s.heap.push { cls:=.type "dict",data:=.dict #[] }) scope.names)(I:Inv X ah σ H s)(B:mi X scope x N' cap)(wx:∀ b∈fp,kW X ah H b)(hfo:∀ b∈fp,∃ o,s.heap.get? b=aa o)(ku:h₁.Ns s.heap.objs.size m)(old:∀ b o,s.heap.get? b=aa o->h₁.get? b=aa o):Inv (cS X scope N' s.heap.objs.size s H fp ah) [] (ae::jo σ cap) H { s with heap:=h₁,toks:=t' }:=by
 have ltC:∀ x c,X.env.cells.lookup x=aa c->c<s.heap.objs.size:=λx c e=>(I.cell x c e).elim λv q=>q.lt;have ncell:∀ {y:Str} {c:af},(y,c)∈gq (s.heap.objs.size+1) scope.names []->h₁.IsCell c ae/\s.heap.objs.size+1<=c/\∀ z,(z,c)∈gq (s.heap.objs.size+1) scope.names []->y=z:=λh=>by rw[hh]; exact Ax h
 have lk:∀ y k,(compEnvC scope (lf X scope s.heap.objs.size) s.heap.objs.size X.env).kindOf y=aa k->∃ k',scope.names.lookup y=aa k'/\(k=k'\/(k' = .free/\k = .cell)):=λy k h=>AT h;have fhas:∀ y,scope.names.lookup y=aa .free->∃ c,(iI X.env scope.names []).lookup y=aa c:=λy h=>zW scope.names [] (Pz h);have nfs:∀ b∈gx X.stack,b≠s.heap.objs.size:=λb hb e=>by
  rcases cb.mp (I.stkSub b hb)with z | z
  ·exact absurd I.lt (by rw[← z,e]; exact fk _)
  ·exact I.nofs (mD e.symm) z
 refine⟨⟨I.ok.mod,B.kind,I.ok.glob,I.ok.blt,bi _,λy z c h1 h2=>?_,λy hy=>?_,λy c h jG=>?_,I.ok.hd,I.ok.frames,.inl rfl,λb hb=>?_,λb o e=>I.bs b o e,cI I.ok.bsz I.sz,λb o e hb=>?_,λb hb hf=>?_,I.stack,(λb hb=>I.stkFree b hb),I.tab⟩,rfl,I.bare,Un.kept old,⟨m,ku,λi y v e1 e2 e3=>?_⟩,λy c h=>?_,I.hok.fresh (bi _),λy c h=>?_,λp hp=>?_,I.hok.kept old,?_⟩
 ·-- inj
  rcases I.cbIn B h1 with⟨a1,a2⟩ | ⟨a1,a2⟩ <;> rcases I.cbIn B h2 with⟨b1,b2⟩ | ⟨b1,b2⟩
  ·exact(ncell a1).2.2 z b1
  ·exact(vh (ncell a1).2.1 (ltC _ _ b2)).elim
  ·exact(vh (ncell b1).2.1 (ltC _ _ a2)).elim
  ·exact I.ok.inj y z c a2 b2
 ·-- has
  show ∃ c,(lf X scope s.heap.objs.size).lookup y=aa c;have kw:scope.names.lookup y=aa .free->∃ c,(lf X scope s.heap.objs.size).lookup y=aa c:=λq=>(fhas y q).imp λc hc=>I.cbOld B hc q;rcases hy with hy | hy
  ·obtain⟨k',q,z | ⟨z,_⟩⟩:=lk y _ hy
   ·subst z; exact zb _ _ _ (lD q)
   ·subst z; exact kw q
  ·obtain⟨k',q,z | ⟨_,z⟩⟩:=lk y _ hy
   ·subst z; exact kw q
   ·cases z
 ·-- cab
  have hk:scope.names.lookup y=aa .cell:=by simpa using(show(scope.names.lookup y == aa .cell)=ai from h)
  show s.heap.objs.size<=c;rcases I.cbIn B jG with⟨a1,a2⟩ | ⟨a1,a2⟩
  ·have:=(ncell a1).2.1; lia
  ·obtain⟨c',iz⟩:=zb (n:=s.heap.objs.size+1) (a:=[]) _ (lD hk);have e:(lf X scope s.heap.objs.size).lookup y=aa c':=by rw[Be,JC,iz]; rfl
   have e2:(lf X scope s.heap.objs.size).lookup y=aa c:=jG;rw[e]at e2; cases e2;have:=(ncell (lD iz)).2.1; lia
 ·-- exf
  obtain⟨f0,f1,f2,f3,f4,f5⟩:=wx b hb;obtain⟨o,ho⟩:=hfo b hb;refine⟨λe=>absurd (bC ho) (by rw[e]; exact fk _),λy c h=>?_⟩;rcases I.cbIn B h with⟨a1,a2⟩ | ⟨a1,a2⟩
  ·rintro rfl;exact vh (ncell a1).2.1 (bC ho)
  ·exact f4 y c a2
 ·-- noex
  obtain⟨f0,f1,f2,f3,f4,f5⟩:=wx b hb;rcases f3 with z | z
  ·exact I.ok.noex b o e z
  ·exact absurd (fQ (bC e) (cI I.ok.bsz z)) (fk _)
 ·-- exfs
  obtain⟨f0,f1,f2,f3,f4,f5⟩:=wx b hb;rcases cb.mp (I.stkSub b hf)with z | z
  ·exact f1 z
  ·exact f2 z
 ·-- loc
  cases i with
  | zero=>simp at e2
  | succ i=>
   have lR:(jo σ cap)[i]?=aa (aa v):=by simpa using e2
   unfold jo at lR;rw[ir]at lR;cases hj:cap[i]? with
   | none=>rw[hj]at lR; cases lR
   | some j=>
    rw[hj]at lR;have e4:(σ[j]?).join=aa v:=eJ lR;have e5:σ[j]?=aa (aa v):=by
     cases hq:σ[j]? with
     | none=>rw[hq]at e4; cases e4
     | some o=>rw[hq]at e4; exact congrArg aa e4
    obtain⟨b1,b2⟩:=B.caps i j y e1 hj;obtain⟨mm,hn,hl⟩:=I.loc;have wa:=B.free _ (lD b2) rfl;have vis:fW X.env.scope y:=by
     rcases wa with z | z
     ·exact .inr (.inl z)
     ·exact .inr (.inr z)
    obtain⟨u,r,l⟩:=hl j y v b1 e5 vis;refine⟨u,r,.inr ⟨B6 b2,?_⟩⟩;rcases l with⟨l,_⟩ | ⟨_,c,hc,lL⟩
    ·rcases wa with z | z
     ·rw[l]at z; cases z
     ·rw[l]at z; cases z
    ·obtain⟨c',iz⟩:=fhas y b2;have e6:=I.clIn B iz;rw[hc]at e6;cases e6;obtain⟨oo,ho,hd⟩:=lL;exact⟨c,I.cbOld B iz b2,oo,old c oo ho,hd⟩
 ·rcases I.cbIn B h with⟨a1,a2⟩ | ⟨a1,a2⟩
  ·exact⟨ae,(ncell a1).1⟩
  ·obtain⟨v,oo,ho,hd⟩:=I.cell y c a2;exact⟨v,oo,old c oo ho,hd⟩
 ·rcases I.cbIn B h with⟨a1,a2⟩ | ⟨a1,a2⟩
  ·exact I.hok.fresh (cI (zt _) (ncell a1).2.1)
  ·exact I.freeC y c a2
 ·have iP:p∈X.pn++ah:=by simpa[cS]using hp
  obtain⟨e,n,ne,nf,d⟩:=I.pin p iP;refine⟨old _ _ e,n,c7 (bC e),λhf=>?_,d⟩;rcases cb.mp (I.stkSub p.1 hf)with z | z
  ·exact ne z
  ·exact nf z
 ·show(ae::jo σ cap).length=N'.length;rw[B.len]; simp[jo]
end
def yt(X:Cx)(ifs:List aC)(t:TT):Prop :=
 ∀ (ah:List (af×Obj)) (s:aq) (σ:St) (H:Hp) (Q:Bool->Hp->Prop),Inv X ah σ H s->t σ H Q ->
  ax (ay X.prog X.w) X.A (forIn ifs ai λc r=>if r=ai then do let ok ← nN c X.env (bv c X.env); pure (ForInStep.yield ok)else pure (ForInStep.yield r)) (TP X ah σ Q) X.xe s
theorem Fv{P:aX}{w:aN}{A:be}{R:Result->aq->Prop}{s:aq}{elt tg iter:aC}{ifs:List aC}{scope:eC}{pos:Pos}{it au:ak}{env:Env}(J:Nat->aq->Prop)(turn:∀ k s1,J k s1->ax (ay P w) A (pyNext it) (λr s2=>match r with
   | none=>R (.ok .next) s2
   | some v=>ax (ay P w) A (Cw tg it v) (λ_ s3=>ax (ay P w) A (assign tg env v) (λ_ s4=>ax (ay P w) A (forIn ifs ai λc r=>if r=ai then do let ok ← nN c env (bv c env); pure (ForInStep.yield ok)else pure (ForInStep.yield r)) (λb s5=>if b=ai then ax (ay P w) A (bv elt env) (λy s6=>ax (ay P w) A (call (.builtin "list.append") [au,y]) (λ_ s7=>∃ j,j<k/\J j s7) (λ_ _=>False) s6) (λ_ _=>False) s5 else ∃ j,j<k/\J j s5) (λ_ _=>False) s4) (λ_ _=>False) s3) (λ_ _=>False) s2) (λ_ _=>False) s1) (k:Nat) (h:J k s) :
  o8 (ay P w) A (.compLoop (.ListComp elt [⟨tg,iter,ifs,0⟩] scope pos) 0 it au env) R s:=by
 refine codeAny_loop rfl J (λj s1 hJ=>?_) k h;show ax _ A (Sem.onRaise (compTurn (.ListComp elt [⟨tg,iter,ifs,0⟩] scope pos) 0 it au env) (λx=>do noteFrame x env; theTreesLotGoes x)) _ _ s1;refine wpAny_noted ?_;rw[compTurn_list];have no:∀ (E':ak->aq->Prop) (a:ak) (b:aq),False->E' a b:=λ_ _ _ f=>f.elim;refine ar (wpAny_standAt (ar (dW (turn j s1 hJ) (λr s2 h2=>?_) (no _))));cases r with
 | none=>exact aD h2
 | some v=>
  refine ar (dW h2 (λ_ s3 h3=>ar (dW h3 (λ_ s4 h4=>ar (dW h4 (λb s5 h5=>?_) (no _))) (no _))) (no _));cases b with
  | true=>exact ar (ar (dW h5 (λy s6 h6=>ar (dW h6 (λ_ s7 h7=>aD (aD ⟨rfl,h7⟩)) (no _))) (no _)))
  | false=>exact aD ⟨rfl,h5⟩
def MC:TT:=λ_ H Q=>Q ai H
theorem NM{X:Cx}:yt X [] MC:=λ_ _ _ H _ I h=>wpAny_tests_nil ⟨H,I,h⟩
theorem TZ{X:Cx}{c:aC}{t:TT}(h:PT X c t):yt X [c] t:=λah s σ H Q I hw=>wpAny_tests_one (h ah s σ H Q I hw)
def Ch(wi:TI)(ts:TT)(te:TE)(cap:List Nat):TE:=λσ H Q=>wi σ H λJ H1=>∀ l,H1 l=ae->∃ W:Nat->Nat->List V->Hp->Prop,(∃ m,W 0 m [] (upd H1 l (.lst [])))/\∀ i m ys H,W i m ys H ->
 (J.stop i H/\Q (.ref l) H)\/(J.go i H/\∀ v H',J.yld i H v H'->ts (aa v::jo σ cap) H' λb H2=>if b=ai then te (aa v::jo σ cap) H2 λy H3=>H3 l=aa (.lst ys)/\ys.length<bp/\∃ m',m'<m/\W (i+1) m' (ys++[y]) (upd H3 l (.lst (ys++[y]))) else ∃ m',m'<m/\W (i+1) m' ys H2)
section
variable{X:Cx}{ah:List (af×Obj)}{σ:St}{H:Hp}{s:aq}{scope:eC}{x:Str}{N':List Str}{cap:List Nat}
theorem Inv.unblock{fp:List af}{H':Hp}{σ':St}{s':aq}{g_:aE}(I:Inv X ah σ H s)(wx:∀ b∈fp,kW X ah H b)(I':Inv (cS X scope N' s.heap.objs.size s H fp ah) [] σ' H' s') (sb:i_ s.heap.objs.size s'.heap g_):Inv X ah σ H' { s' with heap:=g_ }:=by
 have k:∀ b o,b≠s.heap.objs.size->s'.heap.get? b=aa o->g_.get? b=aa o:=λb o hb e=>(sb.2 b hb).trans e;have nC:∀ b o,s.heap.get? b=aa o->b≠s.heap.objs.size:=λb o e=>c7 (bC e);have un:Un (gx X.stack) fp H H' s.heap g_:=by
  refine⟨λb o e n hb hx=>k b o (nC b o e) (I'.base.keep b o e n hb hx),λb o e n hb hx=>?_,λb o e n hx=>I'.base.free b o e n hx,λb o e hx=>?_,I'.base.tups,I'.base.frzs,I'.base.tbls⟩
  ·obtain⟨sl,q⟩:=I'.base.slot b o e n hb hx;exact⟨sl,k b _ (nC b o e) q⟩
  ·obtain⟨o',q⟩:=I'.base.there b o e hx;exact⟨o',k b o' (nC b o e) q⟩
 have hok:d_ X.prog X.w H' g_:=λb u e=>by
  have hCn:H' s.heap.objs.size=ae:=I'.free;refine(I'.hok b u e).stay (λc v hc q=>k c v ?_ q) (λ_ q=>q) λ_ _ q=>q;rintro rfl;rcases hc with z | z
  ·rw[← z,hCn]at e; cases e
  ·rw[hCn]at z; cases z
 refine I.call' (s':={ s' with heap:=g_ }) (ch:=fp) I'.os un hok I'.bare λb hb=>?_;obtain⟨f0,f1,f2,f3,f4,f5⟩:=wx b hb;exact⟨f3,f1,f4,f5⟩
theorem Os{elt iter:aC}{px pos:Pos}{ifs:List aC}{wi:TI}{ts:TT}{te:TE}(B:mi X scope x N' cap)(hc:X.calm=ai)(hi:PI X (.Name x px) iter wi)(ht:∀ C s₀ H₀ ex pn,yt (cS X scope N' C s₀ H₀ ex pn) ifs ts) (he:∀ C s₀ H₀ ex pn,PE (cS X scope N' C s₀ H₀ ex pn) elt te) (hs:∀ x,vF iter X.env x=pure x:=by intro _; rfl) : PE X (.ListComp elt [⟨.Name x px,iter,ifs,0⟩] scope pos) (Ch wi ts te cap):=by
 intro ah s σ H Q I h;rw[eval_ListComp];refine wpAny_comprehension_free (use:=ae) rfl hs (IB (I.freeHas B)) B.kind B.names (aU (hi ah s σ H _ I h) λv s1 h1=>aU h1 λitv s2 h2=>?_);obtain⟨it,fp,tn,J,H2,e,I2,T,bd,f2,h2⟩:=h2;subst e;refine mH ?_;have I3:Inv X ah σ (upd H2 s2.heap.objs.size (.lst [])) { s2 with heap:=s2.heap.push { cls:=.type "list",data:=.seq ([]:List ak).toArray },toks:=s2.toks }:=I2.lnew (its:=[]) (t':=s2.toks) .nil (kY _);obtain⟨W,⟨m0,w0⟩,turn⟩:=h2 s2.heap.objs.size I2.fresh;generalize lS:({ s2 with heap:=s2.heap.push { cls:=.type "list",data:=.seq ([]:List ak).toArray },toks:=s2.toks }:aq)=s3 at I3;have hs3':({ s2 with heap:=s2.heap.push { cls:=.type "list",data:=.seq ([]:List ak).toArray } }:aq)=s3:=lS;generalize hH3:upd H2 s2.heap.objs.size (.lst [])=H3 at I3 w0;have nl:∀ b∈fp,b≠s2.heap.objs.size:=λb hb e=>by obtain⟨o,ho,_⟩:=T.obj _ _ bd b hb;exact absurd (bC ho) (by rw[e]; exact fk _)
 have k3:∀ b o,s2.heap.get? b=aa o->s3.heap.get? b=aa o:=λb o e=>by rw[← lS]; exact bK _ e
 have f3:∀ b∈fp,kW X ah H3 b:=λb hb=>⟨by rw[← hH3,cn (nl b hb)]; exact(f2 b hb).1,(f2 b hb).2⟩
 have bL:tn 0 s3.heap:=T.keep _ _ _ bd λb _ o e=>k3 b o e;have fo3:∀ b∈fp,∃ o,s3.heap.get? b=aa o:=λb hb=>(T.obj _ _ bL b hb).imp λo q=>q.1;refine GK ?_;generalize hh:zq (s3.heap.push { cls:=.type "dict",data:=.dict #[] }) scope.names=h₁;have old:∀ b o,s3.heap.get? b=aa o->h₁.get? b=aa o:=λb o e=>hh ▸ CL _ _ b o (bK _ e);have ku:h₁.Ns s3.heap.objs.size (λ_=>ae):=hh ▸ (Heap.Ns.new s3.heap (.type "dict")).keeps (CL _ _);have I4:=Inv.block (t':=s3.toks) hh.symm I3 B f3 fo3 ku old;have bV:tn 0 h₁:=T.keep _ _ _ bL λb _ o e=>old b o e;have statB:∀ {H':Hp},(∀ b∈fp,H' b=ae)->∀ b∈fp,kW (cS X scope N' s3.heap.objs.size s3 H3 fp ah) [] H' b:=λhn b hb=>by
  obtain⟨f0,f1,f2',f3',f4,f5⟩:=f3 b hb;refine⟨hn b hb,λe=>?_,λhf=>?_,.inl hb,λy c h=>?_,λp hp=>f5 p (by simpa[cS]using hp)⟩
  ·obtain⟨o,ho⟩:=fo3 b hb;exact absurd (bC ho) (by rw[show b=s3.heap.objs.size from e]; exact fk _)
  ·rcases cb.mp (I3.stkSub b hf)with z | z
   ·exact f1 z
   ·exact f2' z
  ·rcases I3.cbIn B h with⟨a1,a2⟩ | ⟨a1,a2⟩
   ·rintro rfl;obtain⟨o,ho⟩:=fo3 _ hb;exact vh (Ax a1).2.1 (bC ho)
   ·exact f4 y c a2
 have Ds:Loc (cS X scope N' s3.heap.objs.size s3 H3 fp ah).env.scope x:=B.loc.elim (λh=>.inl (CM h)) (λh=>.inr (xW h));have Dy:(cS X scope N' s3.heap.objs.size s3 H3 fp ah).fn x=ai\/(cS X scope N' s3.heap.objs.size s3 H3 fp ah).env.scope.names.lookup x=aa .local:=B.loc.elim (λh=>.inr (CM h)) (λh=>.inl (by show(scope.names.lookup x == aa .cell)=ai; rw[h]; rfl));have hN0:(cS X scope N' s3.heap.objs.size s3 H3 fp ah).N[0]?=aa x:=by show N'[0]?=aa x;rw[← List.head?_eq_getElem?]; exact B.hd
 have loop:o8 (ay X.prog X.w) X.A (.compLoop (.ListComp elt [⟨.Name x px,iter,ifs,0⟩] scope pos) 0 (.ref it) (.ref s2.heap.objs.size) (compEnvC scope (lf X scope s3.heap.objs.size) s3.heap.objs.size X.env))
   (compPost (ay X.prog X.w) X.A X.xe ae (EP X ah σ Q) (.ref s2.heap.objs.size) s3.heap.objs.size) { s3 with heap:=h₁,toks:=s3.toks }:=by
  refine Fv (λn s'=>∃ i ys σ' H',(∃ v0,σ'=v0::jo σ cap)/\Inv (cS X scope N' s3.heap.objs.size s3 H3 fp ah) [] σ' H' s'/\tn i s'.heap/\(∀ b∈fp,H' b=ae)/\W i n ys H') ?_ m0
   ⟨0,[],_,H3,⟨ae,rfl⟩,I4,bV,λb hb=>(f3 b hb).1,w0⟩
  rintro n s5 ⟨i,ys,σ5,H5,⟨v0,rfl⟩,I5,cg,fr5,w5⟩;rcases turn i n ys H5 w5 with⟨stop,q⟩ | ⟨go,step⟩
  ·refine dW (T.done (cS X scope N' s3.heap.objs.size s3 H3 fp ah) rfl rfl rfl hc i [] s5 _ H5 (λ_ _=>False) I5 (statB fr5) cg stop) (λr s6 ⟨hr,I6⟩=>?_) (λ_ _ f=>f.elim);subst hr;obtain⟨mm,hn6,_⟩:=I6.loc;exact⟨mm,hn6,λg_ sb=>⟨.ref s2.heap.objs.size,H5,I3.unblock f3 I6 sb,rfl,q⟩⟩
  ·refine dW (T.item (cS X scope N' s3.heap.objs.size s3 H3 fp ah) rfl rfl rfl hc i [] s5 _ H5 (λ_ _=>False) I5 (statB fr5) cg go) (λr s6 ⟨u,hr,h6⟩=>?_) (λ_ _ f=>f.elim);subst hr;refine dW h6 (λ_ s7 ⟨v,H7,I7,r7,y7,qK,fr7⟩=>?_) (λ_ _ f=>f.elim);have I7':=I7.pinned (statB fr7) (T.obj _ _ qK);have back:∀ {σ8:St} {H8:Hp} {s8:aq},Inv (cS X scope N' s3.heap.objs.size s3 H3 fp ah) ([]++sF fp s7.heap) σ8 H8 s8->tn (i+1) s8.heap/\(∀ b∈fp,H8 b=ae):=λ{σ8 H8 s8} I8=>⟨T.keep _ _ _ qK λb hb o e=>(I8.pin (b,o) (jT _ (jT _ (sy hb e)))).1,λb hb=>by obtain⟨o,e,d⟩:=T.obj _ _ qK b hb;exact(I8.pin (b,o) (jT _ (jT _ (sy hb e)))).2.1⟩
   refine Cu (yx (v:=v) I7' B.nd hN0 Ds r7 (λs8 I8=>?_) Dy);refine aU (ht _ _ _ _ _ _ s8 _ H7 _ I8 (step v H7 y7)) λb s9 ⟨H9,I9,q9⟩=>?_;cases b with
   | false=>
    obtain⟨m',hm,w9⟩:=(show ∃ m',m'<n/\W (i+1) m' ys H9 from q9)
    exact⟨m',hm,i+1,ys,_,H9,⟨aa v,rfl⟩,I9.unpinned,(back I9).1,(back I9).2,w9⟩
   | true=>refine aU (he _ _ _ _ _ _ s9 _ H9 _ I9 q9) λu10 s10 ⟨y,H10,I10,r10,Dz,DB,m',hm,w10⟩=>?_;refine aU (Ba _ s10 _ H10 (.ref s2.heap.objs.size) [y] _ [u10] (λz H11=>H11=upd H10 s2.heap.objs.size (.lst (ys++[y]))) I10 rfl (.cons r10 .nil) ⟨_,ys,y,rfl,rfl,Dz,DB,rfl⟩) λ_ s11 ⟨_,H11,I11,_,e11⟩=>?_;subst e11;exact⟨m',hm,i+1,ys++[y],_,_,⟨aa v,rfl⟩,I11.unpinned,(back I11).1,(back I11).2,w10⟩
 exact codeAny_compStart_list loop (T.self _ 0 _ _ _ bV loop)
end
def Walk(J:It)(xs:List V)(R:Hp->Prop):Prop :=
 ∀ H,R H->∀ i,(∀ x,xs[i]?=aa x->J.go i H/\∀ y H',J.yld i H y H'->H'=H/\y=x)/\(i=xs.length->J.stop i H)
theorem Pk{K:az}{a:af}{xs:List V}:Walk (Aj K a) xs (λH=>ce K H a xs):=λH h i=>⟨λx hx=>⟨⟨xs,x,h,hx⟩,λy H' z=>⟨z.1,by have:=z.2 xs h; rw[hx]at this; exact(eJ this).symm⟩⟩,λhi=>⟨xs,h,mD hi.symm⟩⟩
theorem K5{K:az}{a:af}{xs:List V}:Walk (Bq K a) xs (λH=>dj K H a xs):=λH h i=>⟨λx hx=>⟨⟨xs,x,h,hx⟩,λy H' z=>⟨z.1,by have:=z.2 xs h; rw[hx]at this; exact(eJ this).symm⟩⟩,λhi=>⟨xs,h,mD hi.symm⟩⟩
def rR(lo:Int)(n:Nat):List V:=(bQ n).map λi=>V.int (lo+(i:Nat))
theorem xD(lo:Int)(n:Nat):(rR lo n).length=n:=by simp[rR]
theorem FZ{lo:Int}{n:Nat}:Walk (uQ lo n) (rR lo n) (λ_=>True):=λH _ i=>by
 refine⟨λx hx=>?_,λhi=>by rw[xD]at hi; exact mD hi.symm⟩;have br:i<n:=by have:=(eu.mp hx).1; rw[xD]at this; exact this
 refine⟨br,λy H' z=>⟨z.1,?_⟩⟩;unfold rR at hx;rw[ir,CN br]at hx;have wy:V.int (lo+(i:Nat))=x:=eJ hx;rw[z.2,← wy]
def sg(c:Nat):V:=.str ⟨#[c]⟩
def vk(z:Str):It:=⟨λi _=>i<z.cps.size,λi H x H'=>H'=H/\∃ c,z.cps[i]?=aa c/\x=sg c,λi _=>i=z.cps.size⟩
theorem Qd{z:Str}:Walk (vk z) (z.cps.toList.map sg) (λ_=>True):=λH _ i=>by
 refine⟨λx hx=>?_,λhi=>by show i=z.cps.size; simpa using hi⟩;rw[ir]at hx;cases e:z.cps.toList[i]? with
 | none=>rw[e]at hx; cases hx
 | some c=>
  rw[e]at hx;have br:i<z.cps.size:=by have:=(eu.mp e).1; simpa using this
  refine⟨br,λy H' w=>⟨w.1,?_⟩⟩;obtain⟨c',e',rfl⟩:=w.2;have:z.cps[i]?=aa c:=by simpa using e
  rw[this]at e';cases e';exact(eJ hx)
theorem Same.upd{H H':Hp}{l:af}{o:HO}(h:Same H H')(hl:H l=ae):Same H (upd H' l o):=λb u e=>by rw[cn (mX e hl)]; exact h b u e
theorem Same.tup{K:az}{H H':Hp}{a:af}{xs:List V}(e:Same H H')(h:dj K H a xs):dj K H' a xs:=by
 rcases h with(h | ⟨o,h⟩) | h
 ·exact .inl (.inl (e _ _ h))
 ·exact .inl (.inr ⟨o,e _ _ h⟩)
 ·exact .inr h
section
variable{X:Cx}{tg:aC}
theorem Rw{P:aX}{w:aN}{K:az}{z:Str}{it:af}{St':Nat->aE->Prop} (tW:∀ i h,St' i h->∃ o n vs,h.get? it=aa o/\o.cls = .type n/\o.data = .fields vs /\ ["enumerate","zip","dict_itemiterator","dict_reverseitemiterator","odict_iterator","itertools.zip_longest","itertools.pairwise"].contains n=ao)(Uv:∀ (A:be) (i:Nat) (s:aq) (Q:ak->aq->Prop) (E:ak->aq->Prop),St' i s.heap->Q (.ref it) s->ax (ay P w) A (o5 (.ref it)) Q E s)(hW:∀ A:be,A.handled=ae->Walks P w A it [it] [it] z.cps.size (SignAt z) St'):uB P w K tg (vk z) [it] it St' where
 mem:=by simp
 obj:=λi h st b hb=>by
  have e:b=it:=by simpa using hb
  subst e;obtain⟨o,n,vs,h1,_,h3,_⟩:=tW i h st;exact⟨o,h1,λv q=>by rw[h3]at q; cases q⟩
 keep:=λi h h' st k=>by exact(hW ({}:be) rfl).frame i h h' st k
 item:=by intro X hP hw hK hc i ah s σ H E I hf st hg;subst hP hw hK;obtain⟨f0,f1,f2,f3,f4,f5⟩:=hf it (by simp);refine(hW X.A (I.ok.hd hc)).item i s _ _ hg st λv h' tk hv aA k=>?_;have I1:Inv X ah σ H { s with heap:=h',toks:=tk }:=I.turned (t':=tk) (λb o hb e=>k b o (by simpa using hb) e) f0 f1 f3 f4 f5;obtain⟨o,n,vs,h1,h2,h3,h4⟩:=tW _ _ aA;obtain⟨c,u,e1,rfl⟩:=hv;exact⟨_,rfl,xf (s:={ s with heap:=h',toks:=tk }) h1 h2 h3 h4 ⟨sg c,H,I1,⟨u,rfl⟩,⟨rfl,c,e1,rfl⟩,aA,λb hb=>(hf b hb).1⟩⟩
 done:=by intro X hP hw hK hc i ah s σ H E I hf st hg;subst hP hw hK;obtain⟨f0,f1,f2,f3,f4,f5⟩:=hf it (by simp);have lT:i=z.cps.size:=hg;subst lT;exact(hW X.A (I.ok.hd hc)).done s _ _ st λh' tk k=>⟨rfl,I.turned (t':=tk) (λb o hb e=>k b o (by simpa using hb) e) f0 f1 f3 f4 f5⟩
 self:=Uv
theorem QN{J:It}{xs:List V}{R:Hp->Prop}{g:TG}{tb:TS}{D:ln}{σ:St}{H:Hp}(hJ:Walk J xs R)(Pv:Nat->St->Hp->Prop)(h0:Pv 0 σ H)(hl:∀ i σ H,i<=xs.length->Pv i σ H->R H)(hs:∀ i x σ H,xs[i]?=aa x->Pv i σ H->g x σ H λσ2 H2=>tb { D with nx:=Pv (i+1),ct:=Pv (i+1),bk:=D.nx } σ2 H2) (hd:∀ σ H,Pv xs.length σ H->D.nx σ H) : ∃ W:Nat->Nat->St->Hp->Prop,(∃ m,W 0 m σ H)/\∀ i m σ H,W i m σ H -> (J.stop i H/\D.nx σ H)\/(J.go i H/\∃ N:St->Hp->Prop,(∀ σ' H',N σ' H'->∃ m',m'<m/\W (i+1) m' σ' H')/\∀ x H',J.yld i H x H'->g x σ H' λσ2 H2=>tb { D with nx:=N,ct:=N,bk:=D.nx } σ2 H2):=by
 refine⟨λi m σ H=>m=xs.length-i/\i<=xs.length/\Pv i σ H,⟨xs.length,by simp,kY _,h0⟩,?_⟩;rintro i m σ H ⟨rfl,hi,p⟩;have q:=hJ H (hl i σ H hi p) i;by_cases br:i<xs.length
 ·have hx:xs[i]?=aa xs[i]:=by simp[br]
  obtain⟨go,yl⟩:=q.1 xs[i] hx;refine .inr ⟨go,Pv (i+1),λσ' H' p'=>⟨xs.length-(i+1),∅,rfl,br,p'⟩,λx H' y=>?_⟩;obtain⟨rfl,rfl⟩:=yl x H' y;exact hs i _ σ _ hx p
 ·have e:i=xs.length:=∅
  subst e;exact .inl ⟨q.2 rfl,hd σ H p⟩
theorem Tg{α:Type}(l:List α)(f:α->Bool)(d:Nat->Bool)(hd:∀ i x,l[i]?=aa x->d i=f x):(bQ l.length).all d=l.all f:=by
 induction l generalizing d with
 | nil=>rfl
 | cons x r ih=>rw[eD,qC,vK,CO,vK,hd 0 x rfl];congr 1;exact ih _ λi y h=>hd (i+1) y (by simpa using h)
theorem Jb{bs:List Bool}{us:List ak}(r:bI (bs.map V.bl) us){i:Nat}{v:ak}(h:us.toArray[i]?=aa v):v = .bool (bs.getD i ao):=by
 have hl:=r.length;rw[cD]at hl;have hi:i<us.length:=by have:=(tu.mp h).1; simpa using this
 have e:(bs.map V.bl)[i]?=aa (.bl (bs.getD i ao)):=by rw[ir,iN ∅];simp[List.getD,iN (show i<bs.length by lia)]
 obtain⟨u,e1,e2⟩:=r.get e;have:us[i]?=aa v:=by simpa using h
 rw[this]at e1;cases e1;exact e2
theorem wX{A:be}(h:A.handled=ae):A.in1.handled=ae:=h
theorem Io(hc:X.calm=ai):gL X (.builtin "all") (λxs H Q=>∃ (p:af) (bs:List Bool),xs=[.ref p]/\ce X.K H p (bs.map V.bl)/\Q (.bl (bs.all id)) H):=by
 intro ah s σ H xs us Q I r h;obtain⟨p,bs,rfl,hq,q⟩:=h;obtain⟨u,rfl,ru⟩:=vals1 r;cases ru;obtain⟨its,rv,pl,hz⟩:=I.list hq;have hl:=rv.length;rw[cD]at hl;refine call_all_walk (CP pl.isList ?_);have cP:p≠s.heap.objs.size:=by obtain⟨o,ho,_⟩:=pl.isList;exact c7 (bC ho)
 refine⟨s.heap.objs.size,_,_,_,_,_,λi=>bs.getD i ao,rfl,Walks.list (wX (I.ok.hd hc)) s.heap.objs.size p cP its.toArray,⟨⟨_,dz _ rfl,rfl,rfl⟩,?_⟩,λi v s' Q' E' hv hQ=>?_,λh' tk k=>?_⟩
 ·obtain⟨o,ho,hc,hd⟩:=pl.isList;exact⟨o,bK _ ho,hc,hd⟩
 ·rw[Jb rv hv];exact nO hQ
 ·have e:(bQ its.toArray.size).all (λi=>bs.getD i ao)=bs.all id:=by
   rw[dA,← hl];exact Tg bs id _ λi x hx=>by simp[List.getD,hx]
  rw[e];have I1:Inv X ah σ H { s with heap:=s.heap.push { cls:=.type "list_iterator",data:=.fields #[.ref p,.int 0 0] },toks:=s.toks }:=I.kept (t':=s.toks) λb o e=>bK _ e;exact⟨.bl _,H,Inv.turned (t':=tk) I1 (it:=s.heap.objs.size) (λb o hb e=>k b o (by simpa using hb) e) I.fresh (mC I.lt) (.inr I.sz) (λx c e z=>by obtain⟨v,qq⟩:=I.cell x c e;exact absurd qq.lt (by rw[z]; exact fk _)) (λpp hp z=>absurd (bC (I.pin pp hp).1) (by rw[z]; exact fk _)),rfl,q⟩
end
section
variable{X:Cx}
def mf(z:Str)(lo hi:Option Int):Str:=⟨((z.cps.toList.drop (HT.sIx z.length 0 lo)).take (HT.sIx z.length z.length hi-HT.sIx z.length 0 lo)).toArray⟩
theorem QL(a b:Nat):sliceRange (a:Int) (b:Int) 1=(bQ (b-a)).map λk=>a+k:=by
 unfold sliceRange;have e:(if(1:Int) > 0 then(if(a:Int)<(b:Int)then((b:Int)-a+1-1) / 1 else 0)else(if(a:Int) > b then((a:Int)-b-1-1) / (-1)else 0)).toNat=b-a:=by
  rw[if_pos (by decide)];split
  ·rw[Int.ediv_one]; lia
  ·have:b-a=0:=∅
   rw[this]; rfl
 show(bQ (if(1:Int) > 0 then(if(a:Int)<(b:Int)then((b:Int)-a+1-1) / 1 else 0)else(if(a:Int) > b then((a:Int)-b-1-1) / (-1)else 0)).toNat).map _=_;rw[e];refine gF λk _=>?_;lia
theorem LZ(lo hi:Option Int)(n:Nat):Builtin.Str.strSliceIndices lo hi 1 n=(bQ (HT.sIx n n hi-HT.sIx n 0 lo)).map λk=>HT.sIx n 0 lo+k:=by
 rw[← QL];have p:(1:Int) > 0:=by decide
 cases lo <;> cases hi <;> (unfold Builtin.Str.strSliceIndices HT.sIx; simp only[p,if_true]; congr 1 <;> (try split) <;> lia)
theorem No{α:Type}(l:List α)(a k:Nat):((bQ k).map λj=>a+j).filterMap (λi=>l[i]?)=(l.drop a).take k:=by
 induction k with
 | zero=>simp
 | succ k ih=>
  rw[tw,pc,List.filterMap_append,ih,List.take_succ];congr 1;simp[nM];cases l[a+k]? <;> rfl
theorem Nl(z:Str)(t:Tok)(l u:Option (Int×Tok)):∃ m,sliceMade z t l u ae=m/\(m = .val (.str z t)/\mf z (l.map (·.1)) (u.map (·.1))=z\/m = .str (mf z (l.map (·.1)) (u.map (·.1)))):=by
 refine⟨_,rfl,?_⟩;unfold sliceMade slicePicked;have e:=LZ (l.map (·.1)) (u.map (·.1)) z.length;simp only[CQ,Jw];rw[e];have pk:=No z.cps.toList (HT.sIx z.length 0 (l.map (·.1))) (HT.sIx z.length z.length (u.map (·.1))-HT.sIx z.length 0 (l.map (·.1)));have pk':(((bQ (HT.sIx z.length z.length (u.map (·.1))-HT.sIx z.length 0 (l.map (·.1)))).map λk=>HT.sIx z.length 0 (l.map (·.1))+k).filterMap (z.cps[·]?)).toArray=(mf z (l.map (·.1)) (u.map (·.1))).cps:=by unfold mf;rw[← pk];simp
 split
 ·rename_i h;left;refine⟨rfl,?_⟩;simp only[beq_self_eq_true,CS,cD,List.length_range,beq_iff_eq]at h;have h0:HT.sIx z.length z.length (u.map (·.1))<=z.length:=HT.sIx_le _ _ (bi _) _;have hl:z.cps.toList.length=z.length:=by simp[Str.length]
  have h1:HT.sIx z.length 0 (l.map (·.1))=0\/z.length=0:=∅
  unfold mf;rw[h];rcases h1 with h1 | h1
  ·rw[h1,zu,km ∅]
  ·have:z.cps.toList=[]:=zv ∅;rw[this];cases z;rename_i c;simp at this;subst this;simp
 ·right;rw[show(⟨(((bQ (HT.sIx z.length z.length (u.map (·.1))-HT.sIx z.length 0 (l.map (·.1)))).map λk=>HT.sIx z.length 0 (l.map (·.1))+k).filterMap (z.cps[·]?)).toArray⟩:Str)=mf z (l.map (·.1)) (u.map (·.1))from by rw[pk']]
def GH:V->Option Int->Option Int->Hp->VK->Prop:=λx lo hi H Q=>∃ z,x = .str z/\z.length<=bp/\Q (.str (mf z lo hi)) H
theorem SJ(z:Str)(lo hi:Option Int):(mf z lo hi).length<=z.length:=by unfold mf Str.length;simp;lia
theorem part_of{v:ak}{o:Option Int}(p:nQ v o):∃ q:Option (Int×Tok),v=partValue q/\q.map (·.1)=o:=by
 cases p with
 | none=>exact⟨ae,rfl,rfl⟩
 | int i t=>exact⟨aa (i,t),rfl,rfl⟩
theorem UD:m8 X GH:=by
 intro ah s σ H x v vl vu lo hi sl Q I rx hs pl pu h;obtain⟨z,rfl,hz,q⟩:=h;obtain⟨t,rfl⟩:=rx;obtain⟨l,rfl,rfl⟩:=part_of pl;obtain⟨u,rfl,rfl⟩:=part_of pu;refine⟨"str",_,F.slot_str_getitem.lookup,typeIs_str s z t,?_⟩;obtain⟨m,em,hm⟩:=Nl z t l u;refine getItem_meets (typeIs_str s z t) (by decide) F.slot_str_getitem F.entry_str_getitem (F.args_str_getitem_2 _ _) (meets_str_getitem_slice z t sl l u ae (by decide)) ⟨hs,?_⟩;rw[em];rcases hm with⟨rfl,e⟩ | rfl
 ·exact⟨.str z,H,I,⟨t,rfl⟩,by rw[e]at q; exact q⟩
 ·exact⟨cI (SJ z _ _) hz,⟨.str _,H,I.tok _,⟨_,rfl⟩,q⟩⟩
def iW(K:az)(H:Hp)(d:Nat)(x y:V)(k:Bool):Prop :=
 ∀ (X:Cx),X.K=K->∀ (ah:List (af×Obj)) (σ:St) (s:aq) (u v:ak) (A:be),Inv X ah σ H s->RelV x u->RelV y v->A.units+d<cLine->zk A s u v k
theorem L1{K:az}{H:Hp}{d:Nat}{x y:V}(fx:ke x=ai)(fy:ke y=ai):iW K H d x y (jL x y):=λ_ _ _ _ _ _ _ _ _ rx ry _=>Ga rx ry fx fy
def gy(e:Nat->Bool)(n m:Nat):Bool:=(bQ (min n m)).all e && n == m
theorem Jf{A:be}:A.in1.units=A.units+1:=rfl
theorem AY{H:Hp}{d:Nat}{a b:af}{xs ys:List V}{e:Nat->Bool}{ah:List (af×Obj)}{σ:St}{s:aq}{A:be}(I:Inv X ah σ H s)(ha:ce X.K H a xs)(hb:ce X.K H b ys)(he:∀ (j:Nat) x y,xs[j]?=aa x->ys[j]?=aa y->iW X.K H d x y (e j)) (hu:A.units+(d+1)<cLine):SeqAt.RcAt A s (.ref a) (.ref b) (gy e xs.length ys.length)/\SeqAt.RcNeAt A s (.ref a) (.ref b) (!gy e xs.length ys.length):=by
 obtain⟨us,ru,pu,_⟩:=I.list ha;obtain⟨vs,rv,pv',_⟩:=I.list hb;have wz:=ru.length;have kz:=rv.length;have hE:∀ j (h1:j<us.toArray.size) (h2:j<vs.toArray.size),zk A.in1 s us.toArray[j] vs.toArray[j] (e j):=λj h1 h2=>by
  have iQ:j<us.length:=by simpa using h1
  have iR:j<vs.length:=by simpa using h2
  have e1:xs[j]?=aa xs[j]:=iN ∅;have e2:ys[j]?=aa ys[j]:=iN ∅;obtain⟨u,q1,r1⟩:=ru.get e1;obtain⟨v,q2,r2⟩:=rv.get e2;have f1:us[j]=u:=by rw[iN iQ]at q1; exact eJ q1
  have f2:vs[j]=v:=by rw[iN iR]at q2; exact eJ q2
  have:=he j xs[j] ys[j] e1 e2 X rfl ah σ s u v A.in1 I r1 r2 (by rw[Jf]; lia);simpa[f1,f2]using this
 by_cases hsz:xs.length=ys.length
 ·have hs:us.toArray.size=vs.toArray.size:=by simp; lia
  have e1:gy e xs.length ys.length=(bQ us.toArray.size).all e:=by unfold gy;rw[hsz,Nat.min_self,beq_self_eq_true,Bool.and_true,dA,← wz,hsz]
  rw[e1];exact⟨.lists pu.isList pv'.isList hs ∅ hE,.lists pu.isList pv'.isList hs ∅ hE⟩
 ·have e1:gy e xs.length ys.length=ao:=by
   unfold gy;rw[beq_false_of_ne hsz,CT]
  have hs:(us.toArray.size != vs.toArray.size)=ai:=by simp; lia
  rw[e1];exact⟨.lists_lengths pu.isList pv'.isList hs ∅,.lists_lengths pu.isList pv'.isList hs ∅⟩
theorem B7{H:Hp}{d:Nat}{a b:af}{xs ys:List V}{e:Nat->Bool}{ah:List (af×Obj)}{σ:St}{s:aq}{A:be}(I:Inv X ah σ H s)(ha:dj X.K H a xs)(hb:dj X.K H b ys)(he:∀ (j:Nat) x y,xs[j]?=aa x->ys[j]?=aa y->iW X.K H d x y (e j)) (hu:A.units+(d+1)<cLine):SeqAt.RcAt A s (.ref a) (.ref b) (gy e xs.length ys.length)/\SeqAt.RcNeAt A s (.ref a) (.ref b) (!gy e xs.length ys.length):=by
 obtain⟨us,ru,pu,_⟩:=I.tuple ha;obtain⟨vs,rv,pv',_⟩:=I.tuple hb;have wz:=ru.length;have kz:=rv.length;have hE:∀ j (h1:j<us.toArray.size) (h2:j<vs.toArray.size),zk A.in1 s us.toArray[j] vs.toArray[j] (e j):=λj h1 h2=>by
  have iQ:j<us.length:=by simpa using h1
  have iR:j<vs.length:=by simpa using h2
  have e1:xs[j]?=aa xs[j]:=iN ∅;have e2:ys[j]?=aa ys[j]:=iN ∅;obtain⟨u,q1,r1⟩:=ru.get e1;obtain⟨v,q2,r2⟩:=rv.get e2;have f1:us[j]=u:=by rw[iN iQ]at q1; exact eJ q1
  have f2:vs[j]=v:=by rw[iN iR]at q2; exact eJ q2
  have:=he j xs[j] ys[j] e1 e2 X rfl ah σ s u v A.in1 I r1 r2 (by rw[Jf]; lia);simpa[f1,f2]using this
 have e1:gy e xs.length ys.length=((bQ (min us.toArray.size vs.toArray.size)).all e && us.toArray.size == vs.toArray.size):=by unfold gy;rw[dA,dA,← wz,← kz]
 rw[e1];exact⟨.tuples pu pv' ∅ hE,.tuples pu pv' ∅ hE⟩
theorem KG{K:az}{H:Hp}{d:Nat}{a b:af}{xs ys:List V}{e:Nat->Bool}(ha:ce K H a xs)(hb:ce K H b ys)(cP:a≠b)(he:∀ (j:Nat) x y,xs[j]?=aa x->ys[j]?=aa y->iW K H d x y (e j)) : iW K H (d+1) (.ref a) (.ref b) (gy e xs.length ys.length):=λX hK ah σ s u v A I ru rv hu=>by
 subst hK;cases ru;cases rv;exact .of_refs cP (AY I ha hb he hu).1
theorem MT{K:az}{H:Hp}{d:Nat}{a b:af}{xs ys:List V}{e:Nat->Bool}(ha:dj K H a xs)(hb:dj K H b ys)(cP:a≠b)(he:∀ (j:Nat) x y,xs[j]?=aa x->ys[j]?=aa y->iW K H d x y (e j)) : iW K H (d+1) (.ref a) (.ref b) (gy e xs.length ys.length):=λX hK ah σ s u v A I ru rv hu=>by
 subst hK;cases ru;cases rv;exact .of_refs cP (B7 I ha hb he hu).1
theorem EB{K:az}{H:Hp}{d:Nat}{a:af}:iW K H d (.ref a) (.ref a) ai:=λX hK ah σ s u v A I ru rv hu=>by
 cases ru;cases rv;exact .same _
def ux(K:az)(neg:Bool):R2:=λx y H Q=>∃ a b xs ys d e,x = .ref a/\y = .ref b/\((ce K H a xs/\ce K H b ys)\/(dj K H a xs/\dj K H b ys))/\d<=8 /\
 (∀ (j:Nat) x y,xs[j]?=aa x->ys[j]?=aa y->iW K H d x y (e j))/\Q (.bl (if neg then !gy e xs.length ys.length else gy e xs.length ys.length)) H
theorem KZ(hu:X.A.units+64<cLine):cu X (eY .Eq) (ux X.K ao):=by
 intro ah s σ H x y v u Q I rx ry h;obtain⟨a,b,xs,ys,d,e,rfl,rfl,hs,hd,he,q⟩:=h;cases rx;cases ry;rcases hs with⟨h1,h2⟩ | ⟨h1,h2⟩
 ·exact(AY I h1 h2 he ∅).1 _ _ _ _ ⟨.bl _,H,I,rfl,q⟩
 ·exact(B7 I h1 h2 he ∅).1 _ _ _ _ ⟨.bl _,H,I,rfl,q⟩
theorem Qz(hu:X.A.units+64<cLine):cu X (eY .NotEq) (ux X.K ai):=by
 intro ah s σ H x y v u Q I rx ry h;obtain⟨a,b,xs,ys,d,e,rfl,rfl,hs,hd,he,q⟩:=h;cases rx;cases ry;rcases hs with⟨h1,h2⟩ | ⟨h1,h2⟩
 ·exact(AY I h1 h2 he ∅).2 _ _ _ _ ⟨.bl _,H,I,rfl,q⟩
 ·exact(B7 I h1 h2 he ∅).2 _ _ _ _ ⟨.bl _,H,I,rfl,q⟩
end
abbrev Tx:=List Nat
def tS(l:Tx):Str:=⟨l.toArray⟩
def tV(l:Tx):V:=.str (tS l)
def c0(ls:List Tx):List V:=ls.map tV
theorem oU(l:Tx):(tS l).cps.toList=l:=by simp[tS]
theorem mj(l:Tx):(tS l).length=l.length:=by simp[tS,Str.length]
theorem ya(z:Str):tS z.cps.toList=z:=by cases z; simp[tS]
theorem pQ{a b:Tx}(h:tS a=tS b):a=b:=by rw[← oU a,h,oU]
theorem NF{a b:Tx}(h:tV a=tV b):a=b:=pQ (V.str.inj h)
theorem yK(ls:List Tx):(c0 ls).length=ls.length:=cD _
def fj(a b:Tx):Bool:=decide (a<=b)
def bu(ls:List Tx):List Tx:=ls.mergeSort fj
theorem FS(a b c:Tx)(h1:fj a b=ai)(h2:fj b c=ai):fj a c=ai:=by simp only[fj,decide_eq_true_eq]at *;exact List.le_trans h1 h2
theorem Nj(a b:Tx):(fj a b || fj b a)=ai:=by simp only[fj,zw,decide_eq_true_eq];exact List.le_total a b
theorem QE{a b:Tx}(h1:fj a b=ai)(h2:fj b a=ai):a=b:=by simp only[fj,decide_eq_true_eq]at *;exact List.le_antisymm h1 h2
theorem iU(ls:List Tx):(bu ls).Perm ls:=List.mergeSort_perm _ _
theorem sE(ls:List Tx):(bu ls).Pairwise (λa b=>fj a b=ai):=List.pairwise_mergeSort FS Nj _
theorem BB(ls:List Tx):(bu ls).length=ls.length:=(iU ls).length_eq
theorem oV{ls ms:List Tx}(hp:ms.Perm ls)(hs:ms.Pairwise (λa b=>fj a b=ai)):ms=bu ls :=List.Perm.eq_of_pairwise (le:=λa b=>fj a b=ai) (λ_ _ _ _ h1 h2=>QE h1 h2) hs (sE ls) (hp.trans (iU ls).symm)
theorem HM{ls:List Tx}(hs:ls.Pairwise (λa b=>fj a b=ai)):bu ls=ls:=(oV (mI ls) hs).symm
theorem LM{ls ms:List Tx}(hp:ls.Perm ms):bu ls=bu ms:=oV ((iU ls).trans hp) (sE ls)
theorem FO:∀ (p:Str) (l:List Str),risingS p l=ai->(p::l).Pairwise (λa b=>fj a.cps.toList b.cps.toList=ai)
 | p,[],_=>List.pairwise_singleton _ _
 | p,x::r,h=>by
  have h':(!ltCps x.cps.toList p.cps.toList && risingS x r)=ai:=h;rw[iu,ltCps_eq]at h';have q:=FO x r h'.2;have px:fj p.cps.toList x.cps.toList=ai:=by simp only[fj,decide_eq_true_eq];intro br;simp[br]at h'
  refine List.pairwise_cons.mpr ⟨λy hy=>?_,q⟩;rcases cb.mp hy with rfl | hy
  ·exact px
  ·exact FS _ _ _ px (List.rel_of_pairwise_cons q hy)
theorem IL{ss:List Str}(h:sortedS ss=ai):(ss.map λz=>z.cps.toList).Pairwise (λa b=>fj a b=ai):=by
 rw[CU];cases ss with
 | nil=>exact List.Pairwise.nil
 | cons x r=>exact FO x r h
theorem zX:∀ {ls:List Tx} {us:List ak},bI (c0 ls) us->d7 us (ls.map tS)
 | [],_,.nil=>.nil
 | l::ls,_::_,.cons ⟨t,e⟩ r=>by subst e; exact .cons _ t (zX (ls:=ls) r)
theorem uW:∀ {ss:List Str} {us:List ak},d7 us ss->bI (c0 (ss.map λz=>z.cps.toList)) us
 | _,_,.nil=>.nil
 | _,_,.cons y t h=>.cons ⟨t,by rw[ya]⟩ (uW h)
section
variable{X:Cx}
theorem Inv.sorted{ah:List (af×Obj)}{σ:St}{H:Hp}{s1:aq}{ls:List Tx}{ss aR:List Str}{h':aE}{out:Array ak}{e:Nat}(I:Inv X ah σ H s1)(hl:ss=ls.map tS)(iS:ls.length<64)(k:∀ b o,s1.heap.get? b=aa o->h'.get? b=aa o) (ho:h'.get? s1.heap.objs.size=aa (lG "list" out e)) (a1:d7 out.toList aR) (a2:aR.Perm ss) (a3:sortedS aR=ai) : Inv X ah σ (upd H s1.heap.objs.size (.lst (c0 (bu ls)))) { s1 with heap:=h' }:=by
 have e1:aR.map (λz=>z.cps.toList)=bu ls:=by
  refine oV ?_ (IL a3);have:=a2.map λz=>z.cps.toList;rw[hl,eE]at this;have e2:(ls.map ((λz:Str=>z.cps.toList) ∘ tS))=ls:=by simp[JD,oU]
  rw[e2]at this;exact this
 have hv:bI (c0 (bu ls)) out.toList:=by rw[← e1]; exact uW a1
 refine I.laid (t':=s1.toks) k (bi _) ⟨?_,out.toList,e,hv,?_⟩
 ·rw[yK,BB];exact lA (Hv ∅)
 ·rw[JE]; exact ho
theorem N_(z:Tx)(n:Nat):Txt.mul (tS z) (n:Int)=tS (bF n z).flatten:=by
 unfold Txt.mul;cases n with
 | zero=>simp[tS,o7]
 | succ n=>
  rw[if_neg ∅];split
  ·rename_i h;simp only[zw,beq_iff_eq]at h;rcases h with h | h
   ·have:n=0:=∅
    subst this;simp
   ·rw[mj]at h;have:z=[]:=zv h;subst this;simp
  ·unfold tS;congr 1;have gen:∀ (k:Nat) (au:Array Nat),(bF k z.toArray).foldl (·++·) au=au++(bF k z).flatten.toArray:=by
    intro k
    induction k with
    | zero=>intro au; simp
    | succ k ih=>intro au; rw[CG,jz,ih,CG,JA]; simp[Array.append_assoc]
   have e:=gen (n+1) #[];simp only[mG];simpa using e
theorem P0:cu X (jw .Mult) (λx y H Q=>∃ (z:Tx) (n:Nat),x=tV z/\y = .int n/\n<=100/\z.length<=100/\Q (tV (bF n z).flatten) H):=by
 intro ah s σ H x y v u Q I rx ry h;obtain⟨z,n,rfl,rfl,hn,hz,q⟩:=h;obtain⟨t,rfl⟩:=rx;obtain⟨t',rfl⟩:=ry;refine SB.mul ?_ λt2 k=>?_
 ·have hp:z.length * n<=10000:=cI (CV hz hn) (by decide);refine⟨by rw[Bool.or_eq_false_iff]; constructor <;> (apply decide_eq_false; lia),λh1 _=>?_,λh1 _=>?_⟩
  ·rw[mj];intro hgt;have h2:(2 ^ 63-1:Int) / n ≥ (2 ^ 63-1) / 100:=by
    have hn0:(0:Int)<n:=∅
    apply (Int.le_ediv_iff_mul_le hn0).mpr;have:((2 ^ 63-1:Int) / 100) * n<=((2 ^ 63-1) / 100) * 100:=Int.mul_le_mul_of_nonneg_left ∅ (by decide);refine Int.le_trans this (by decide)
   have h3:((2 ^ 63-1:Int) / 100) > 1000:=by decide
   lia
  ·rw[mj,mG];unfold Builtin.Str.tooLong;apply decide_eq_false;have:10000<bp:=by rw[sU]; decide
   lia
 ·rw[N_];exact⟨tV _,H,I.tok _,⟨_,rfl⟩,q⟩
end
theorem Oh(t:gG)(j:Nat):(t.put j).1.led=t.led/\(t.put j).1.plain=t.plain:=⟨rfl,rfl⟩
theorem KM(t:gG)(n:Nat):(t.orStandIn n).led=t.led/\((t.orStandIn n).plain=t.plain\/(t.orStandIn n).plain=ao):=by
 unfold SetTable.orStandIn;split
 ·exact⟨rfl,.inl rfl⟩
 ·exact⟨rfl,.inr rfl⟩
theorem LQ(t:gG)(es:Array (Int×ak))(h:Int)(x:ak):(layNew t es h x).2.1.led=t.led/\((layNew t es h x).2.1.plain=t.plain\/(layNew t es h x).2.1.plain=ao):=by
 unfold layNew;split
 ·rename_i slot wasDummy _;have h1:=Oh t slot;have h2:=KM (t.put slot).1 (JF es (t.put slot).2 (h,x)).size;exact⟨h2.1.trans h1.1,by rw[← h1.2]; exact h2.2⟩
 ·exact⟨rfl,.inr rfl⟩
theorem Py(t:gG)(es:Array (Int×ak))(wanted:Nat)(hp:t.plain=ao):(tz t es wanted).2.1.led=t.led/\(tz t es wanted).2.1.plain=ao:=by
 unfold tz;split
 ·rename_i t' order e;have q:t'.led=t.led/\t'.plain=t.plain:=by
   unfold SetTable.relaid SetTable.laid at e;cases q:JG (nU wanted-1) (es.map (·.1))with
   | none=>rw[q]at e; cases e
   | some ow=>rw[q]at e; cases e; exact⟨rfl,rfl⟩
  dsimp only;split
  ·exact⟨q.1,q.2.trans hp⟩
  ·exact⟨rfl,rfl⟩
 ·exact⟨rfl,rfl⟩
def df(w:aN):Bool:=w.params.followText "set-order"
structure b7(P:aX)(w:aN)(h:aE)(a:af)(ks:List Str):Prop where
 ex:∃ (es:Array (Int×ak)) (ep:Nat) (t:gG) (ss:List Str),h.get? a=aa { cls:=.type "set",dict:=ae,data:=.set es ep t }/\d7 (es.toList.map (·.2)) ss/\ss.Perm ks/\ElemsOf (dQ P w) es.toList /\
  es.size<4090/\t.fits es.size=ai/\t.led=(!df w)/\(ks≠[]->t.plain=ao)
theorem b7.at{P:aX}{w:aN}{h h':aE}{a:af}{ks:List Str}(S:b7 P w h a ks)(k:∀ o,h.get? a=aa o->h'.get? a=aa o):b7 P w h' a ks:=by obtain⟨es,ep,t,ss,e,r⟩:=S.ex;exact⟨es,ep,t,ss,k _ e,r⟩
theorem yB:∀ {vs:List ak} {ss:List Str},d7 vs ss->∀ x,x∈ss↔∃ t,Value.str x t∈vs
 | _,_,.nil,x=>by simp
 | _,_,.cons y t h,x=>by
  rw[cb,yB h x];constructor
  ·rintro(rfl | ⟨t',q⟩)
   ·exact⟨t,my ..⟩
   ·exact⟨t',kX _ q⟩
  ·rintro⟨t',q⟩;rcases cb.mp q with q | q
   ·cases q; exact .inl rfl
   ·exact .inr ⟨t',q⟩
theorem uz:∀ {us vs:List ak},us.Perm vs->∀ {ss:List Str},d7 vs ss->∃ aR,d7 us aR/\aR.Perm ss:=by intro us vs p ss h;refine⟨us.map strOf,strsAre_map us λv hv=>h.all v (p.mem_iff.mp hv),?_⟩;have:=p.map strOf;rwa[h.strs]at this
section
variable{P:aX}{w:aN}{A:be}{E:ak->aq->Prop}{s:aq}
def jr(ks:List Str)(x:Str):List Str:=if x∈ks then ks else ks++[x]
theorem b7.put{h:aE}{a:af}{es es':Array (Int×ak)}{ep:Nat}{t t':gG}(e:h.get? a=aa { cls:=.type "set",dict:=ae,data:=.set es ep t }) : (h.update a (Obj.putSet es' t')).get? a=aa { cls:=.type "set",dict:=ae,data:=.set es' (ep+1) t' }:=by have:=tD (Obj.putSet es' t') e (by rw[putSet_of es' t' rfl]; rfl);rw[putSet_of es' t' rfl]at this;exact this
theorem ET{a:af}{ks:List Str}{x:Str}{tk:Tok}{Q:Bool->aq->Prop}(S:b7 P w s.heap a ks)(hn:ks.length<4000)(h:∀ h' b,i_ a s.heap h'->b7 P w h' a (jr ks x)->Q b { s with heap:=h' }) : ax (ay P w) A (setAddHashed a (.str x tk) ((dQ P w).hash x)) Q E s:=by
 obtain⟨es,ep,t,ss,ho,hS,hp,fR,hsz,hf,g9,dI⟩:=S.ex;have isD:∀ y t',(dQ P w).is x (.str y t')=decide (y=x):=λy t'=>by
  show qw x (.str y t')=_;rw[o6];simp[qw]
  try exact eq_comm
 have jc:(dQ P w).is x (.str x tk)=ai:=by rw[isD]; simp
 have hb:es.size<scanBound:=nS hsz (by decide);unfold setAddHashed setAddHashedIn;refine lF (ar (iw ho rfl hf ?_));dsimp only;rw[byScan_of (knd:=dQ P w) (x:=.str x tk) rfl hb fR];simp only[if_true];unfold setAddByScan;refine ar (ar (k6 (ar (JH jc ho rfl hf fR ?_))));have memx:x∈ks↔∃ e∈es.toList,(dQ P w).is x e.2=ai:=by
  rw[← hp.mem_iff,yB hS x];constructor
  ·rintro⟨t',q⟩;obtain⟨e,he,ee⟩:=cO.mp q;exact⟨e,he,by rw[ee,isD]; simp⟩
  ·rintro⟨e,he,q⟩;obtain⟨y,t',ey⟩:=hS.all e.2 (cO.mpr ⟨e,he,rfl⟩);rw[ey,isD]at q;have:y=x:=of_decide_eq_true q;subst this;exact⟨t',cO.mpr ⟨e,he,ey⟩⟩
 have klen:ks.length=es.size:=by
  have e1:=hp.length_eq;have e2:ss.length=es.size:=by rw[← hS.strs]; simp
  lia
 cases hr:List.findIdx? (λe=>(dQ P w).is x e.2) es.toList with
 | some j=>dsimp only;obtain⟨hj,wA,_⟩:=JI.mp hr;have hx:x∈ks:=memx.mpr ⟨_,JJ hj,wA⟩;refine aD (aD ?_);exact h s.heap _ (vM a s.heap) (by unfold jr; rw[if_pos hx]; exact S)
 | none=>
  dsimp only;have hx:¬ x∈ks:=λhm=>by obtain⟨e,he,q⟩:=memx.mp hm;have:=JK.mp hr e he;rw[q]at this;exact Bool.noConfusion this
  have hgw:∀ (b:Bool) {s₁:aq} {Q':Unit->aq->Prop},Q' () s₁->ax (ay P w) A (match b with | ai=>rule "set.scan.the-table-gave-way" | ao=>pure ()) Q' E s₁ :=
   λb s₁ Q' hq=>by cases b <;> first | exact aD hq | exact k6 hq
  have zO:=layNew_perm t es ((dQ P w).hash x) (.str x tk);have zP:=layNew_fits t es ((dQ P w).hash x) (.str x tk);have hmk:=LQ t es ((dQ P w).hash x) (.str x tk);generalize hL:layNew t es ((dQ P w).hash x) (.str x tk)=L at zO zP hmk ⊢;obtain⟨es1,t1,wasDummy,gave⟩:=L;dsimp only at zO zP hmk ⊢;rw[vN]at zO;have hel1:ElemsOf (dQ P w) es1.toList:=(fR.push jc rfl).perm zO;have hsz1:es1.size=es.size+1:=by have:=zO.length_eq;simpa using this
  have hS1:∃ jd,d7 (es1.toList.map (·.2)) jd/\jd.Perm (jr ks x):=by
   have p1:=zO.map (λe:Int×ak=>e.2);rw[pc]at p1;have q1:d7 (es.toList.map (·.2)++[Value.str x tk]) (ss++[x]):=by
    have gen:∀ {vs:List ak} {zs:List Str},d7 vs zs->d7 (vs++[Value.str x tk]) (zs++[x]):=by
     intro vs zs hh
     induction hh with
     | nil=>exact .cons x tk .nil
     | cons y t _ ih=>exact .cons y t ih
    exact gen hS
   obtain⟨jd,r1,r2⟩:=uz p1 q1;refine⟨jd,r1,r2.trans ?_⟩;unfold jr;rw[if_neg hx];exact hp.append_right _
  obtain⟨jd,r1,r2⟩:=hS1;have cP:jr ks x≠[]:=by unfold jr; rw[if_neg hx]; simp
  have tail:∀ t2:gG,t2.fits es1.size=ai->t2.led=(!df w)->t2.plain=ao->ax (ay P w) A (do
    storeSet a es1 t2
    if(!wasDummy && t2.tooFull)=ai then do
      (match (tz t2 es1 (tE es1.size)).2.2 with | ai=>rule "set.scan.the-table-gave-way" | ao=>pure ())
      storeSet a (tz t2 es1 (tE es1.size)).1 (tz t2 es1 (tE es1.size)).2.1
      pure (aa ai)
     else pure (aa ai)) (λr s'=>∃ h',r=aa ai/\s'={ s with heap:=h' }/\i_ a s.heap h'/\b7 P w h' a (jr ks x)) E s:=by
   intro t2 qL kz fu;refine ar (tF ho rfl ?_ (vO (nS (show es1.size<4090 by lia) (by decide))));have o1:=b7.put (es':=es1) (t':=t2) ho;have jH:=nV s.heap a (Obj.putSet es1 t2);split
   ·have gu:=relayAll_perm t2 es1 (tE es1.size);have hf3:=relayAll_fits t2 es1 (tE es1.size);have hm3:=Py t2 es1 (tE es1.size) fu;generalize hRl:tz t2 es1 (tE es1.size)=Rl at gu hf3 hm3 ⊢;obtain⟨es2,t3,gave2⟩:=Rl;dsimp only at gu hf3 hm3 ⊢;have hsz2:es2.size=es1.size:=by have:=gu.length_eq; simpa using this
    refine ar (hgw _ ?_);refine ar (tF o1 rfl ?_ (vO (nS (show es2.size<4090 by lia) (by decide))));obtain⟨j0,u1,u2⟩:=uz (gu.map (λe:Int×ak=>e.2)) r1;refine aD ⟨_,rfl,rfl,jH.trans (nV _ a _),⟨es2,_,t3,j0,b7.put o1,u1,u2.trans r2,hel1.perm gu,∅,hf3,hm3.1.trans kz,λ_=>hm3.2⟩⟩
   ·exact aD ⟨_,rfl,rfl,jH,⟨es1,_,t2,jd,o1,r1,r2,hel1,∅,qL,kz,λ_=>fu⟩⟩
  have Kd:t1.led=(!df w):=hmk.1.trans g9;refine ar (hgw _ ?_);split
  ·refine ar ?_;rw[hashByValue_scannable 8 (x:=.str x tk) rfl];refine aD ?_;have hk:plainKind (.str x tk)=ao:=rfl;rw[hk];simp only[pe,if_false];refine aU (tail { t1 with plain:=ao } (SetTable.fits_plain_off zP) Kd rfl) λr s' ⟨h',e1,e2,e3,e4⟩=>?_;subst e1 e2;exact aD (h h' _ e3 e4)
  ·rename_i hpl1;refine ar (aD ?_);simp only[if_true];refine aU (tail t1 zP Kd (by simpa using hpl1)) λr s' ⟨h',e1,e2,e3,e4⟩=>?_;subst e1 e2;exact aD (h h' _ e3 e4)
end
def met(val:Nat->Str)(i:Nat):List Str:=((bQ i).map val).foldl jr []
theorem Hn(val:Nat->Str)(i:Nat):met val (i+1)=jr (met val i) (val i):=by unfold met; rw[tw,pc,List.foldl_append]; rfl
theorem Gh(val:Nat->Str){i:Nat}:∀ {j:Nat},i<=j->(met val i).length<=(met val j).length
 | 0,h=>by rw[show i=0 by lia]; exact bi _
 | j+1,h=>by
  by_cases e:i=j+1
  ·subst e; exact bi _
  ·refine cI (Gh val (j:=j) ∅) ?_;rw[Hn];unfold jr;split
   ·exact bi _
   ·simp
section
variable{P:aX}{w:aN}{A:be}{R:Result->aq->Prop}{I:af}{fp wr:List af}{G:Array GenState->Array GenState->Prop}{n:Nat}{Pv:Nat->ak->Prop}{St:Nat->aq->Prop}
theorem Mz(W:WalksS P w A.in1 I fp wr G n Pv St)(S:af)(hSf:S∉fp)(val:Nat->Str)(DC:∀ i v,Pv i v->∃ t,v = .str (val i) t)(hb:∀ i,i<=n->(met val i).length<4000) : ∀ (k i:Nat) (s:aq),n-i=k->i<=n->St i s->b7 P w s.heap S (met val i) -> (∀ s',Moved (S::wr) G s s'->b7 P w s'.heap S (met val n)->R (.ok (.ret .none)) s')->o8 (ay P w) A (.builtin "set.update.loop" ⟨[.ref S,.ref I],[]⟩) R s:=by
 have hSw:S∉wr:=λh=>hSf (W.sub _ h);have jZ:∀ b∈wr,b∈S::wr:=λb hb=>kX _ hb;intro k
 induction k with
 | zero=>
  intro i s hk hi lQ hS hR;obtain rfl:i=n:=∅
  refine vP Um ?_;rw[zx JL _];show ax _ A.in1 (pyNext (.ref I) >>= _) _ _ s;refine ar (W.done s _ _ lQ λs' hm=>?_);show ax _ A.in1 (ret Value.none) _ _ s';exact aD (hR s' (hm.mono jZ) (hS.at λo e=>hm.heap S o hSw e))
 | succ k ih=>
  intro i s hk hi lQ hS hR;have br:i<n:=∅
  refine vP Um ?_;rw[zx JL _];show ax _ A.in1 (pyNext (.ref I) >>= _) _ _ s;refine ar (W.item i s _ _ br lQ λv s' hP hst' hm=>?_);obtain⟨t,rfl⟩:=DC i v hP;have wB:b7 P w s'.heap S (met val i):=hS.at λo e=>hm.heap S o hSw e;show ax _ A.in1 (holding [Value.str (val i) t] (setAdd S (.str (val i) t)) >>= _) _ _ s';refine ar (lF ?_);unfold setAdd;refine lF ?_;have jc:(dQ P w).is (val i) (.str (val i) t)=ai:=by show qw (val i) (.str (val i) t)=ai;simp[qw]
  refine ar ((dQ P w).pyHash (k:=val i) jc ?_);have wd:(met val i).length<4000:=hb i (lA br);refine ET (s:={ s' with toks:=s'.toks+1 }) wB wd λh' b je tX=>?_;rw[← Hn]at tX;refine aD ⟨CW JL _,ih (i+1) _ ∅ br (W.frame _ s' _ _ hst' (zt _) λb hb o e=>?_) tX λs'' hm'' hS''=>?_⟩
  ·rw[je.2 b (λh:b=S=>hSf (by rw[← h]; exact hb))]; exact e
  ·refine hR s'' (Moved.trans W.gtrans ((hm.mono jZ).then_heap (zt _) λb o hb e=>?_) hm'') hS'';rw[je.2 b (λh:b=S=>hb (by rw[h]; exact my))]; exact e
end
section
variable{P:aX}{w:aN}{A:be}{E:ak->aq->Prop}{s:aq}
theorem NR(a:ak){Q:ak->aq->Prop} (h:b7 P w (s.heap.push { cls:=.type "set",dict:=ae,data:=.set #[] 0 (.fresh 0 0 (!df w)) }) s.heap.objs.size [] -> Q (.ref s.heap.objs.size) { s with heap:=s.heap.push { cls:=.type "set",dict:=ae,data:=.set #[] 0 (.fresh 0 0 (!df w)) } }) : o8 (ay P w) A (.call (.builtin "set.__new__") ⟨[.type "set",a],[]⟩) (wants Q E) s:=by
 refine codeAny_of_tree ?_;show ax _ A.in1 (do checkBuiltinCall "set.__new__" ⟨[.type "set",a],[]⟩; again (.builtin "set.__new__" ⟨[.type "set",a],[]⟩)) _ _ s;refine ar (wpAny_of_eq (PySem.F.newCall_set_1 a) (aD ⟨CW F.plain_set_new _,vP F.entry_set_new ?_⟩));rw[zx F.plain_set_new _];unfold Builtin.«set.__new__» Builtin.Frozenset.newClass;have jZ:=CY;obtain⟨hp,g,d,tk,os⟩:=s;dsimp only
 wp_walk
 refine k8 (aD ?_);dsimp only;simp only[newObj];refine ar (CK (aD ?_));refine aD (h ⟨#[],0,_,[],dz _ rfl,.nil,mI _,λe he=>by simp at he,by decide,rfl,rfl,λh=>absurd rfl h⟩)
end
end L2
set_option maxHeartbeats 8000000
namespace L2
theorem KI:entryFor table "set.__iter__" = aa Builtin.«frozenset.__iter__»:=entryFor_alias (id':="frozenset.__iter__") (by kernel_rfl) rfl (by decide +kernel) (by kernel_rfl)
theorem Fp:Slot "set_iterator" "__next__" "set_iterator.__next__" :=
 .of (owner:="set_iterator") (n:="__next__") (by rw[typeLookup_type,builtinLookup_eq_fast]; kernel_rfl) (by decide +kernel) (by decide +kernel) (by decide +kernel) (by first | exact .inl (by decide +kernel) | exact .inr (by decide +kernel)) (by rw[isSubtype_type]; kernel_rfl)
theorem N6:entryFor table "set_iterator.__next__" = aa Builtin.«set_iterator.__next__»:=entryFor_of_fast (by kernel_rfl)
theorem O0(a:ak):argsOk "set_iterator.__next__" ⟨[a],[]⟩:=by unfold argsOk; kernel_rfl
theorem D6:Slot "set_iterator" "__iter__" "set_iterator.__iter__" :=
 .of (owner:="set_iterator") (n:="__iter__") (by rw[typeLookup_type,builtinLookup_eq_fast]; kernel_rfl) (by decide +kernel) (by decide +kernel) (by decide +kernel) (by first | exact .inl (by decide +kernel) | exact .inr (by decide +kernel)) (by rw[isSubtype_type]; kernel_rfl)
theorem OZ:entryFor table "set_iterator.__iter__" = aa Builtin.«dict_keyiterator.__iter__»:=entryFor_alias (id':="dict_keyiterator.__iter__") (by kernel_rfl) rfl (by decide +kernel) (by kernel_rfl)
theorem Ko(a:ak):argsOk "set_iterator.__iter__" ⟨[a],[]⟩:=by unfold argsOk; kernel_rfl
def jm(first:ak)(i:Nat)(a:af)(n ep:Nat):Obj:={ cls:=.type "set_iterator",data:=.fields #[first,.int i 0,.ref a,.int n 0,.int ep 0] }
section
variable{P:aX}{w:aN}{A:be}{E:ak->aq->Prop}{s:aq}
theorem wU{I a:af}{first:ak}{i n ep:Nat}{Q:ak->aq->Prop}(h:s.heap.get? I=aa (jm first i a n ep))(hQ:Q (.ref I) s):ax (ay P w) A (o5 (.ref I)) Q E s:=by
 have hT:s.TypeIs (.ref I) "set_iterator":=⟨_,h,rfl⟩
 refine wpAny_pyIter_slot hT D6 (vJ D6 hT OZ ?_ (Ko _));show ax _ _ (ret (.ref I)) _ _ s;exact aD ⟨_,rfl,"set_iterator",_,hT,Fp.lookup,hQ⟩
theorem pR{I a:af}{first:ak}{i:Nat}{es:Array (Int×ak)}{ep:Nat}{t:gG}{Q:Option ak->aq->Prop}(ha:s.heap.get? a=aa { cls:=.type "set",dict:=ae,data:=.set es ep t })(hf:t.fits es.size=ai)(hI:s.heap.get? I=aa (jm first i a es.size ep))(h:ax (ay P w) A.in1 (if let .int slot _:=first then do
    match ← nW a slot.toNat (i:Int).toNat (ep:Int).toNat with
    | some (x,next)=>do
     nX (.ref I) 0 (eN next)
     nX (.ref I) 1 (eN ((i:Int)+1))
     ret x
    | none=>do nX (.ref I) 2 .none; raiseNew (← newExc (.type "StopIteration") [])
   else do
    let aa places ← seqItems? first | unsupported "internal:set_iterator"
    match places[(i:Int).toNat]? with
    | some (.int place _)=>do
     let x ← setNextDrawn a place.toNat (ep:Int).toNat
     nX (.ref I) 1 (eN ((i:Int)+1))
     ret x
    | some _=>unsupported "internal:set_iterator"
    | none=>do nX (.ref I) 0 (eN 0); nX (.ref I) 2 .none; raiseNew (← newExc (.type "StopIteration") []))
   (λfin s'=>∃ r,fin = .done (.ret r)/\Q (aa r) s') (λe s'=>ax (ay P w) A (do if ← isInstance e (.type "StopIteration")then pure ae else throw e) Q E s') s) :
  ax (ay P w) A (pyNext (.ref I)) Q E s:=by
 have hT:s.TypeIs (.ref I) "set_iterator":=⟨_,hI,rfl⟩
 unfold pyNext;refine ar (wpAny_attempt (wpAny_callSpecial?_slot (name:=CB "__next__") hT Fp (vJ Fp hT N6 ?_ (O0 _))));unfold Builtin.«set_iterator.__next__» slotArgs;refine ar (aD ?_);refine ar (wpAny_fieldsOf hI rfl ?_);show ax _ _ (setEntries a >>= _) _ _ s;refine ar (CZ ha rfl hf ?_);have e0:(((es.size:Nat):Int) != ((es.size:Nat):Int))=ao:=by simp
 rw[e0];simp only[pe,if_false];refine dW ?_ (λfin s' q=>?_) (λe s' q=>q) (Q:=λfin s'=>∃ r,fin = .done (.ret r)/\Q (aa r) s') (E:=λe s'=>ax (ay P w) A (do if ← isInstance e (.type "StopIteration")then pure ae else throw e) Q E s')
 ·exact h
 ·obtain⟨r,e1,e2⟩:=q;exact⟨r,e1,aD e2⟩
end
theorem BZ{α:Type}:∀ {l:List α} {i:Nat} (h:i<l.length),(l[i]::l.eraseIdx i).Perm l
 | [],i,h=>by simp at h
 | x::r,0,h=>by simp
 | x::r,i+1,h=>by have q:=BZ (l:=r) (i:=i) (by simpa using h);simp only[List.getElem_cons_succ,List.eraseIdx_cons_succ];exact(List.Perm.swap x _ _).trans (List.Perm.cons x q)
theorem FT{α:Type}(next:Nat->Nat):∀ (bx k:Nat) (left:List α) (out:Array α),bx=left.length->(pickOrder.go next bx k left out).toList.Perm (out.toList++left)
 | 0,k,left,out,h=>by have:left=[]:=zv h.symm;subst this;simp[pickOrder.go]
 | bx+1,k,left,out,h=>by
  have br:next k % left.length<left.length:=qD _ ∅
  unfold pickOrder.go;rw[iN br];dsimp only;have ih:=FT next bx (k+1) (left.eraseIdx (next k % left.length)) (out.push left[next k % left.length]) (by rw[C0,if_pos br]; lia)
  refine ih.trans ?_;rw[vN,gH];exact JM _ (BZ br)
theorem AD{α:Type}(next:Nat->Nat)(xs:Array α):(vQ next xs).toList.Perm xs.toList:=by
 have:=FT next xs.size 0 xs.toList #[] (by simp)
 simpa[vQ]using this
section
variable{P:aX}{w:aN}{A:be}{E:ak->aq->Prop}{s:aq}
theorem Qs{src:Source}{n:Nat}{Q:Nat->aq->Prop}(hn:n≠0)(h:∀ k d,k<n->Q k { s with drawn:=d }):ax (ay P w) A (choose src n) Q E s:=λΓ p hΓ=>by unfold choose;rw[Sem.wp_choose];refine⟨hn,?_⟩;exact h _ _ (qD _ (Nat.pos_of_ne_zero hn))
theorem FK{α:Type}:∀ (n:Nat) (xs:List α) (s:aq) (Q:List α->aq->Prop),n=xs.length->(∀ ys d,ys.Perm xs->Q ys { s with drawn:=d })->ax (ay P w) A (drawOrder n xs) Q E s
 | 0,[],s,Q,_,h=>by unfold drawOrder;exact aD (h [] s.drawn (mI _))
 | 0,x::xs,s,Q,hn,h=>by simp at hn
 | n+1,[],s,Q,hn,h=>by simp at hn
 | n+1,x::xs,s,Q,hn,h=>by unfold drawOrder;refine ar (Qs (by simp) λk d hk=>?_);rw[iN hk];dsimp only;refine ar (FK n ((x::xs).eraseIdx k) _ _ (by rw[C0,if_pos hk]; lia) λys d' hy=>?_);refine aD (h _ d' ?_);exact(List.Perm.cons _ hy).trans (BZ hk)
theorem xg{Q:Option ak->aq->Prop}{R:Fin->aq->Prop}(hh:A.handled=ae)(hQ:∀ h',(∀ b o,s.heap.get? b=aa o->h'.get? b=aa o)->Q ae { s with heap:=h' }) : ax (ay P w) A.in1 (do raiseNew (← newExc (.type "StopIteration") [])) R (λe s'=>ax (ay P w) A (do if ← isInstance e (.type "StopIteration")then pure ae else throw e) Q E s') s:=by
 refine ar ?_;simp only[newExc,newTuple];refine ar (mH ?_ (by size_fits)); refine ar (m:=firstArgMember _ _) (wpAny_of_eq (a:=Value.none) (by first | rfl | (simp only[firstArgMember]; rfl)) ?_);refine mH ?_ (by size_fits); simp only[raiseNew];refine ar (wpAny_handled ?_); rw[show A.in1.handled=ae from hh];refine ar (aD (wpAny_throw ?_)); refine ar (zy (T:="StopIteration") (b:=ai) ⟨_,dz _ rfl,rfl⟩ isSubtype_stop ?_);exact aD (hQ _ λb o e=>bK _ (bK _ e))
theorem Bs{I a:af}{first f':ak}{i n ep:Nat}{Q:Unit->aq->Prop}(hI:s.heap.get? I=aa (jm first i a n ep))(h:∀ h',i_ I s.heap h'->h'.get? I=aa (jm f' i a n ep)->Q () { s with heap:=h' }) : ax (ay P w) A (nX (.ref I) 0 f') Q E s:=by refine vR hI rfl (by simp[jm]) (h _ (nV ..) ?_);rw[tD _ hI (by rfl)];rfl
theorem AB{I a:af}{first:ak}{i n ep:Nat}{Q:Unit->aq->Prop}(hI:s.heap.get? I=aa (jm first i a n ep))(h:∀ h',i_ I s.heap h'->h'.get? I=aa (jm first (i+1) a n ep)->Q () { s with heap:=h' }) : ax (ay P w) A (nX (.ref I) 1 (eN ((i:Int)+1))) Q E s:=by refine vR hI rfl (by simp[jm]) (h _ (nV ..) ?_);rw[tD _ hI (by rfl)];rfl
theorem xQ{I a:af}{first:ak}{i n ep:Nat}{Q:Unit->aq->Prop}(hI:s.heap.get? I=aa (jm first i a n ep))(h:∀ h',i_ I s.heap h'->(∃ o,h'.get? I=aa o)->Q () { s with heap:=h' }) : ax (ay P w) A (nX (.ref I) 2 .none) Q E s:=by refine vR hI rfl (by simp[jm]) (h _ (nV ..) ⟨_,tD _ hI (by rfl)⟩)
abbrev qc(es:Array (Int×ak))(ep:Nat)(t:gG):Obj:={ cls:=.type "set",dict:=ae,data:=.set es ep t }
theorem P6{I a:af}{es:Array (Int×ak)}{ep:Nat}{t:gG}(cP:a≠I)(hf:t.fits es.size=ai)(hb:df w=ai)(hh:A.handled=ae) : Walks P w A I [I,a] [I] es.size (λi v=>((vQ (w.params.setOrder a ep) es).toList.map (·.2))[i]?=aa v) (λi h=>h.get? I=aa (jm (eN 0) i a es.size ep)/\h.get? a=aa (qc es ep t)):=by
 have hsz:(vQ (w.params.setOrder a ep) es).size=es.size:=by have:=(AD (w.params.setOrder a ep) es).length_eq; simpa using this
 have body:∀ (s:aq) (i:Nat) (Q:Option (ak×Nat)->aq->Prop) (E:ak->aq->Prop),s.heap.get? a=aa (qc es ep t) ->
   Q (((vQ (w.params.setOrder a ep) es)[i]?).map λe=>(e.2,0)) s->ax (ay P w) A.in1 (nW a (0:Int).toNat (i:Int).toNat (ep:Int).toNat) Q E s:=λs i Q E ha hq=>by
  unfold nW;refine ar (iw ha rfl hf ?_);unfold nY;refine ar (ar (k8 (aD ?_)));show ax _ _ (if df w=ai then _ else _) _ _ s;rw[if_pos hb];simp only[mG,bne_self_eq_false,pe,if_false];unfold setWalk;refine ar (ar (iw ha rfl hf ?_));unfold nY;refine ar (ar (k8 (aD ?_)));show ax _ _ (if df w=ai then _ else _) _ _ s;rw[if_pos hb];refine ar (k8 (aD (aD ?_)));exact hq
 refine⟨λb hb=>by simp at hb; simp[hb],λi h h' st k=>⟨k I (by simp) _ st.1,k a (by simp) _ st.2⟩,λi s Q E hi st hQ=>?_,λs Q E st hQ=>?_,λi s Q E st hQ=>wU st.1 hQ⟩
 ·refine pR st.2 hf st.1 ?_;refine ar (body s i _ _ st.2 ?_);have br:i<(vQ (w.params.setOrder a ep) es).size:=∅
  rw[zz br];dsimp only[lH];refine ar (Bs st.1 λh1 jH e1=>?_);refine ar (AB (s:={ s with heap:=h1 }) e1 λh2 fK e2=>?_);refine aD ⟨_,rfl,hQ _ h2 s.toks ?_ ⟨e2,?_⟩ λb o hb e=>?_⟩
  ·rw[ir];simp[zz br]
  ·exact(fK.2 a cP).trans ((jH.2 a cP).trans st.2)
  ·exact(fK.2 b (by simpa using hb)).trans ((jH.2 b (by simpa using hb)).trans e)
 ·refine pR st.2 hf st.1 ?_;refine ar (body s es.size _ _ st.2 ?_);rw[Array.getElem?_eq_none ∅];dsimp only[CQ];refine ar (xQ st.1 λh1 jH _=>?_);exact xg (s:={ s with heap:=h1 }) hh λh2 k2=>hQ h2 s.toks λb o hb e=>k2 b o ((jH.2 b (by simpa using hb)).trans e)
theorem TY{I a T:af}{es:Array (Int×ak)}{ep:Nat}{t:gG}{ord:List Nat}(cP:a≠I)(hT:T≠I)(hf:t.fits es.size=ai)(hp:ord.Perm (bQ es.size))(hh:A.handled=ae) : Walks P w A I [I,a,T] [I] es.size (λi v=>(ord.filterMap λj=>(es[j]?).map (·.2))[i]?=aa v) (λi h=>h.get? I=aa (jm (.ref T) i a es.size ep)/\h.get? a=aa (qc es ep t)/\h.get? T=aa { cls:=.type "tuple",data:=.seq (ord.map λ(k:Nat)=>eN k).toArray }):=by
 have tY:ord.length=es.size:=by simpa using hp.length_eq
 have pi:∀ j∈ord,j<es.size:=λj hj=>by simpa using hp.mem_iff.mp hj
 have fm:∀ (l:List Nat),(∀ j∈l,j<es.size)->∀ (i j:Nat),l[i]?=aa j->∃ e:Int×ak,es[j]?=aa e/\(l.filterMap λj=>(es[j]?).map (·.2))[i]?=aa e.2:=by
  intro l
  induction l with
  | nil=>intro _ i j h; simp at h
  | cons x r ih=>
   intro hl i j h;have hx:x<es.size:=hl x (my ..);have ex:es[x]?=aa es[x]:=zz hx;cases i with
   | zero=>simp at h;subst h;exact⟨_,ex,by rw[nM,ex]; rfl⟩
   | succ i=>obtain⟨e,q1,q2⟩:=ih (λj hj=>hl j (kX _ hj)) i j (by simpa using h);exact⟨e,q1,by rw[nM,ex]; simpa using q2⟩
 have tupR:∀ (s:aq) (Q:Option (Array ak)->aq->Prop) (E:ak->aq->Prop),s.heap.get? T=aa { cls:=.type "tuple",data:=.seq (ord.map λ(k:Nat)=>eN k).toArray }->Q (aa (ord.map λ(k:Nat)=>eN k).toArray) s->ax (ay P w) A.in1 (seqItems? (.ref T)) Q E s:=λs Q E ht hq=>by exact wpAny_seqItems ht rfl hq
 refine⟨λb hb=>by simp at hb; simp[hb],λi h h' st k=>⟨k I (by simp) _ st.1,k a (by simp) _ st.2.1,k T (by simp) _ st.2.2⟩,λi s Q E hi st hQ=>?_,λs Q E st hQ=>?_,λi s Q E st hQ=>wU st.1 hQ⟩
 ·refine pR st.2.1 hf st.1 ?_;refine ar (tupR s _ _ st.2.2 ?_);have br:i<ord.length:=∅
  have e1:((ord.map λ(k:Nat)=>eN k).toArray)[(i:Int).toNat]?=aa (eN (ord[i]:Nat)):=by simp[br]
  dsimp only;rw[e1];obtain⟨e,q1,q2⟩:=fm ord pi i ord[i] (iN br);show ax _ _ (setNextDrawn a _ _ >>= _) _ _ s;refine ar ?_;unfold setNextDrawn;refine ar (iw st.2.1 rfl hf ?_);simp only[mG,bne_self_eq_false,pe,if_false];rw[q1];refine aD ?_;refine ar (AB st.1 λh2 fK e2=>?_);refine aD ⟨_,rfl,hQ _ h2 s.toks q2 ⟨e2,(fK.2 a cP).trans st.2.1,(fK.2 T hT).trans st.2.2⟩ λb o hb e=>(fK.2 b (by simpa using hb)).trans e⟩
 ·refine pR st.2.1 hf st.1 ?_;refine ar (tupR s _ _ st.2.2 ?_);have e1:((ord.map λ(k:Nat)=>eN k).toArray)[(es.size:Int).toNat]?=ae:=by simp[tY]
  dsimp only;rw[e1];refine ar (Bs st.1 λh1 jH e1=>?_);refine ar (xQ (s:={ s with heap:=h1 }) e1 λh2 fK _=>?_);exact xg (s:={ s with heap:=h2 }) hh λh3 k3=>hQ h3 s.toks λb o hb e=>k3 b o ((fK.2 b (by simpa using hb)).trans ((jH.2 b (by simpa using hb)).trans e))
theorem Ls(j k:Nat):JN #[j] k=if j<k then 1 else 0:=by
 unfold JN;simp only[dA,eD,tj];unfold JO;simp;split
 ·rename_i h;unfold JO;simp
 ·unfold JO;simp
theorem LW{I a:af}{es:Array (Int×ak)}{ep:Nat}{t:gG}(cP:a≠I)(hf:t.fits es.size=ai)(hb:df w=ao)(g9:t.led=ai)(h1:es.size=1)(hh:A.handled=ae) : Walks P w A I [I,a] [I] 1 (λi v=>(es.toList.map (·.2))[i]?=aa v) (λi h=>h.get? I=aa (jm (eN (if i=0 then 0 else((t.place.getD 0 0:Nat):Int)+1)) i a es.size ep)/\h.get? a=aa (qc es ep t)):=by
 have tZ:t.place.size=1:=by simp only[tG,iu,beq_iff_eq]at hf;lia
 obtain⟨j,hj⟩:∃ j,t.place = #[j]:=by
  match hq:t.place,tZ with
  | ⟨[j]⟩,_=>exact⟨j,rfl⟩
 have gj:((t.place.getD 0 0:Nat):Int)=(j:Int):=by rw[hj]; rfl
 obtain⟨e,he⟩:∃ e,es = #[e]:=by
  match hq:es,h1 with
  | ⟨[e]⟩,_=>exact⟨e,rfl⟩
 have body:∀ (s:aq) (slot:Nat) (i:Nat) (Q:Option (ak×Nat)->aq->Prop) (E:ak->aq->Prop),s.heap.get? a=aa (qc es ep t) ->
   Q (if j<slot then ae else aa (e.2,j+1)) s->ax (ay P w) A.in1 (nW a slot i ep) Q E s:=λs slot i Q E ha hq=>by
  unfold nW;refine ar (iw ha rfl hf ?_);unfold nY;refine ar (ar (k8 (aD ?_)));show ax _ _ (if df w=ai then _ else _) _ _ s;rw[if_neg (by rw[hb]; decide)];refine gs (λhc=>absurd (show(!t.plain && decide (es.size > 1))=ai from hc) (by rw[h1]; simp)) (λ_=>?_);refine ar ?_;refine dW (Q:=λ_ s'=>s'=s) (E:=E) ?_ (λ_ s' wC=>?_) (λ_ _ x=>x)
  ·refine gs (λhc=>absurd (show(!t.led && !es.isEmpty)=ai from hc) (by rw[g9]; simp)) (λ_=>aD rfl)
  ·subst wC;rw[hj,Ls,he];by_cases br:j<slot
   ·rw[if_pos br]at hq ⊢;exact aD hq
   ·rw[if_neg br]at hq ⊢;exact aD hq
 refine⟨λb hb=>by simp at hb; simp[hb],λi h h' st k=>⟨k I (by simp) _ st.1,k a (by simp) _ st.2⟩,λi s Q E hi st hQ=>?_,λs Q E st hQ=>?_,λi s Q E st hQ=>wU st.1 hQ⟩
 ·obtain rfl:i=0:=∅
  refine pR st.2 hf st.1 ?_;show ax _ _ (nW a (0:Int).toNat ((0:Nat):Int).toNat (ep:Int).toNat >>= _) _ _ s;simp only[mG,Int.toNat_zero];refine ar (body s 0 0 _ _ st.2 ?_);rw[if_neg (zn j)];dsimp only;refine ar (Bs st.1 λh1 jH e1=>?_);refine ar (AB (s:={ s with heap:=h1 }) e1 λh2 fK e2=>?_);refine aD ⟨_,rfl,hQ _ h2 s.toks ?_ ⟨?_,?_⟩ λb o hb e=>?_⟩
  ·rw[he]; rfl
  ·rw[e2,if_neg (by decide),gj]; rfl
  ·exact(fK.2 a cP).trans ((jH.2 a cP).trans st.2)
  ·exact(fK.2 b (by simpa using hb)).trans ((jH.2 b (by simpa using hb)).trans e)
 ·refine pR st.2 hf st.1 ?_;rw[if_neg (by decide),gj];show ax _ _ (nW a ((j:Int)+1).toNat ((1:Nat):Int).toNat (ep:Int).toNat >>= _) _ _ s;have e1:((j:Int)+1).toNat=j+1:=∅
  rw[e1,mG,mG];refine ar (body s (j+1) 1 _ _ st.2 ?_);rw[if_pos (mE j)];dsimp only;refine ar (xQ st.1 λh1 jH _=>?_);exact xg (s:={ s with heap:=h1 }) hh λh2 k2=>hQ h2 s.toks λb o hb e=>k2 b o ((jH.2 b (by simpa using hb)).trans e)
theorem G7:∀ {vs:List ak} {ss:List Str} (i:Nat) (v:ak),d7 vs ss->vs[i]?=aa v->∃ t,v = .str (ss.getD i o7) t
 | _,_,i,v,.nil,h=>by simp at h
 | _,_,0,v,.cons y t _,h=>by simp at h; exact⟨t,by rw[← h]; rfl⟩
 | _,_,i+1,v,.cons y t hr,h=>by simp only[List.getElem?_cons_succ]at h;obtain⟨t',e⟩:=G7 i v hr h;exact⟨t',by rw[e]; rfl⟩
set_option maxRecDepth 100000 in
theorem OC{l:af}{items:Array ak}{ss:List Str}{Q:ak->aq->Prop}(hh:A.handled=ae)(hl:s.heap.IsList l items)(hi:d7 items.toList ss)(hb:(met (λi=>ss.getD i o7) items.size).length<4000)(h:∀ (h':aE) (tk:Nat),b7 P w h' s.heap.objs.size (met (λi=>ss.getD i o7) items.size)->(∀ b o,b<s.heap.objs.size->s.heap.get? b=aa o->h'.get? b=aa o)->Q (.ref s.heap.objs.size) { s with heap:=h',toks:=tk }) : ax (ay P w) A (call (.type "set") [.ref l]) Q E s:=by
 obtain⟨c,tl,hmro⟩:=F.called_set.mro; have hmade:=F.called_set.made; have jZ:=F.called_set.sub;refine wpAny_call (codeAny_of_tree ?_);show ax _ _ (callAny (.type "set") _) _ _ _; refine aD ⟨Code.quiet_builtin _ (by decide +kernel),vP F.entry_type_call ?_⟩;rw[Around.under_plain (weight_type_call_type "set" [.ref l] []) rfl]; have h1:=F.called_set.notType; have h2:=F.called_set.canCreate;have hct:=PySem.F.typeCall_set_1 (.ref l)
 repeat any_goals (first | assumption | wp_step)
 refine zh (NR (P:=P) (w:=w) (.ref l) (E:=E) (Q:=λobj s1=>obj = .ref s.heap.objs.size/\s1={ s with heap:=s.heap.push { cls:=.type "set",dict:=ae,data:=.set #[] 0 (.fresh 0 0 (!df w)) } }/\b7 P w s1.heap s.heap.objs.size []) λS0=>⟨rfl,rfl,S0⟩) λr s1 hr=>?_;cases r with
 | error e=>exact hr
 | ok fl=>
  cases fl with
  | ret obj=>
   obtain⟨rfl,rfl,S0⟩:=hr;have hS:=dz (h:=s.heap) (o:=({ cls:=.type "set",dict:=ae,data:=.set #[] 0 (.fresh 0 0 (!df w)) }:Obj));have wB:(s.heap.push { cls:=.type "set",dict:=ae,data:=.set #[] 0 (.fresh 0 0 (!df w)) }).get? s.heap.objs.size=aa { cls:=.type "set",dict:=ae,data:=.set #[] 0 (.fresh 0 0 (!df w)) }:=dz _ rfl;have hT:Shared.TypeIs { s with heap:=s.heap.push { cls:=.type "set",dict:=ae,data:=.set #[] 0 (.fresh 0 0 (!df w)) } } (.ref s.heap.objs.size) "set":=⟨_,wB,rfl⟩
   have hli:=F.called_set.init.lookup; have hbi:=F.called_set.init.bind (.ref s.heap.objs.size)
   repeat any_goals (first | assumption | wp_step)
   refine zh (codeAny_call_builtin (R:=wants (λr s2=>r = .none/\∃ h' tk,s2={ s with heap:=h',toks:=tk }/\b7 P w h' s.heap.objs.size (met (λi=>ss.getD i o7) items.size) /\ (∀ b o,b<s.heap.objs.size->s.heap.get? b=aa o->h'.get? b=aa o)) E) F.called_set.init.plain F.entry_set_init (check_set_init_1 hT ?_)) λr2 s2 mR=>?_
   ·obtain⟨⟨ocls,odict,odata,oslots⟩,tY,jG,nl,t4⟩:=hl;simp only at jG t4; subst jG; subst t4;have hol':(s.heap.push { cls:=.type "set",dict:=ae,data:=.set #[] 0 (.fresh 0 0 (!df w)) }).get? l=aa { cls:=.type "list",dict:=odict,data:=.seq items nl,slots:=oslots }:=bK _ tY;have hsls:=PySem.F.sub_list_set; have hslf:=PySem.F.sub_list_frozenset; have cP:(Value.type "list" == Value.type "dict")=ao:=by decide
    have wz:(s.heap.push { cls:=.type "set",dict:=ae,data:=.set #[] 0 (.fresh 0 0 (!df w)) }).IsList l items:=⟨_,hol',rfl,nl,rfl⟩
    unfold Builtin.«set.__init__» noKeywords Builtin.Frozenset.updateFrom; generalize hPI:o5=PI
    wp_walk
    subst hPI;refine CP wz (ar (wpAny_runValue ?_));have hlS:l<s.heap.objs.size:=bC tY;have hh3:A.in1.in1.in1.handled=ae:=by simp[hh]
    have hsz:(s.heap.push { cls:=.type "set",dict:=ae,data:=.set #[] 0 (.fresh 0 0 (!df w)) }).objs.size=s.heap.objs.size+1:=vG ..;have hneI:l≠(s.heap.push { cls:=.type "set",dict:=ae,data:=.set #[] 0 (.fresh 0 0 (!df w)) }).objs.size:=by rw[hsz]; exact c7 (mJ hlS)
    have hSf:s.heap.objs.size∉[(s.heap.push { cls:=.type "set",dict:=ae,data:=.set #[] 0 (.fresh 0 0 (!df w)) }).objs.size,l]:=by rw[hsz]; simp only[cb,gZ,kn,or_false,not_or]; exact⟨c7 (mE _),mC hlS⟩
    refine Mz ((Walks.list hh3 _ l hneI items).toS) s.heap.objs.size hSf (λi=>ss.getD i o7) (λi v hv=>G7 i v hi (by rw[zA]; exact hv)) (λi hi=>tt (Gh _ hi) hb) (items.size-0) 0 _ ∅ (kY _)
     ⟨⟨_,dz _ rfl,rfl,rfl⟩,(wz.push _)⟩ (S0.at λo e=>bK _ e) ?_
    intro s' hm tX;obtain⟨h',g',d',tk',os'⟩:=s';obtain rfl:g'=s.gens:=hm.gens;obtain rfl:d'=s.drawn:=hm.drawn;obtain rfl:os'=s.os:=hm.os;show ax _ _ _ _ _ _;refine aD ?_;show ax _ _ (ret Value.none) _ _ _;refine aD ⟨rfl,h',tk',rfl,tX,λb o hb e=>hm.heap b o ?_ (bK _ (bK _ e))⟩;rw[hsz]; simp only[cb,gZ,kn,or_false,not_or]; exact⟨c7 hb,c7 (mJ hb)⟩
   ·cases r2 with
    | error e=>exact mR
    | ok fl2=>
     cases fl2 with
     | ret r=>
      obtain⟨rfl,h',tk,rfl,tX,wD⟩:=mR
      repeat any_goals (first | assumption | wp_step)
      exact h _ _ tX wD
     | _=>exact mR.elim
  | _=>exact hr.elim
end
theorem Ip{n:Nat}(h:n<=4096):n<bp:=tt h (by decide)
theorem QY:typeLookup (.type "set") "__len__" = pure (aa (.builtin "set.__len__")):=F.slot_set_len.lookup
section
variable{P:aX}{w:aN}{A:be}{E:ak->aq->Prop}{s:aq}
structure G5(P:aX)(w:aN)(s s':aq)(a I:af)(ks:List Str)(fp:List af)(n:Nat)(Pv:Nat->ak->Prop)(St:Nat->aE->Prop):Prop where
 wk:∀ A:be,A.handled=ae->Walks P w A I fp [I] n Pv St
 st:St 0 s'.heap
 old:∀ b o,s.heap.get? b=aa o->s'.heap.get? b=aa o
 new:s.heap.objs.size<=I
 lt:∀ b∈fp,b<s'.heap.objs.size
 rest:s'={ s with heap:=s'.heap,drawn:=s'.drawn }
 ord:∀ au:Array ak,ItemsOf Pv au n->∃ ss,d7 au.toList ss/\ss.Perm ks
 len:n<4090
 fps:∀ b∈fp,b=a\/s.heap.objs.size<=b
theorem yj{l:List ak}{au:Array ak}{n:Nat}(hl:l.length=n)(h:ItemsOf (λi v=>l[i]?=aa v) au n):au.toList=l:=by
 refine ko λi=>?_;by_cases hi:i<n
 ·have:i<au.size:=by rw[h.1]; exact hi
  have q:=h.2 i au[i] (zz this);rw[q];simp[this]
 ·rw[jA (by rw[gX,h.1]; lia),jA ∅]
end
def ca(ls:List Tx):List Tx:=ls.foldl (λks x=>if x∈ks then ks else ks++[x]) []
theorem EN(ls:List Tx):met (λi=>(ls.map tS).getD i o7) ls.length=(ca ls).map tS:=by
 have gen:∀ (l:List Tx) (au:List Tx),(l.map tS).foldl jr (au.map tS)=(l.foldl (λks x=>if x∈ks then ks else ks++[x]) au).map tS:=by
  intro l
  induction l with
  | nil=>intro au; rfl
  | cons x r ih=>
   intro au;rw[d4,jz,jz];have:jr (au.map tS) (tS x)=(if x∈au then au else au++[x]).map tS:=by
    unfold jr;have hm:tS x∈au.map tS↔x∈au:=by rw[cO];exact⟨λ⟨y,hy,e⟩=>by rw[← pQ e]; exact hy,λh=>⟨x,h,rfl⟩⟩
    by_cases h:x∈au
    ·rw[if_pos h,if_pos (hm.mpr h)]
    ·rw[if_neg h,if_neg (λz=>h (hm.mp z)),pc]; rfl
   rw[this,ih]
 have e:(bQ ls.length).map (λi=>(ls.map tS).getD i o7)=ls.map tS:=by
  refine ko λi=>?_;rw[ir];by_cases hi:i<ls.length
  ·rw[CN hi];simp[hi]
  ·rw[jA (by simpa using hi),jA (by simpa using hi)];rfl
 unfold met;rw[e];exact gen ls []
theorem GW(l au:List Tx):(au.Nodup->(l.foldl (λks x=>if x∈ks then ks else ks++[x]) au).Nodup)/\∀ x,x∈l.foldl (λks x=>if x∈ks then ks else ks++[x]) au↔x∈au\/x∈l:=by
 induction l generalizing au with
 | nil=>exact⟨λh=>h,λx=>by simp⟩
 | cons y r ih=>
  rw[jz];obtain⟨h1,h2⟩:=ih (if y∈au then au else au++[y]);refine⟨λh=>h1 ?_,λx=>?_⟩
  ·split
   ·exact h
   ·rename_i hy;rw[zB];exact⟨h,by simp,λa ha b hb=>by simp at hb; subst hb; exact λe=>hy (e ▸ ha)⟩
  ·rw[h2 x,cb];split
   ·rename_i hy;constructor
    ·rintro(h | h)
     ·exact .inl h
     ·exact .inr (.inr h)
    ·rintro(h | rfl | h)
     ·exact .inl h
     ·exact .inl hy
     ·exact .inr h
   ·rw[eM,gZ,or_assoc]
theorem vq(l:List Tx):(ca l).Nodup:=(GW l []).1 List.nodup_nil
theorem ml(l:List Tx)(x:Tx):x∈ca l↔x∈l:=by rw[ca,(GW l []).2 x]; simp
theorem yE(l:List Tx):(ca l).length<=l.length:=by
 have gen:∀ (l au:List Tx),(l.foldl (λks x=>if x∈ks then ks else ks++[x]) au).length<=au.length+l.length:=by
  intro l
  induction l with
  | nil=>intro au; simp
  | cons x r ih=>intro au;rw[jz];refine cI (ih _) ?_;split <;> simp <;> lia
 simpa[ca]using gen l []
section
variable{X:Cx}
def iD(X:Cx)(a:af)(ls:List Tx):HO:=.ext λh=>b7 X.prog X.w h a (ls.map tS)
theorem AI(hc:X.calm=ai):gL X (.type "set") (λxs H Q=>∃ (p:af) (ls:List Tx),xs=[.ref p]/\ce X.K H p (c0 ls)/\(ca ls).length<4000/\∀ a,H a=ae->Q (.ref a) (upd H a (iD X a (ca ls)))):=by
 intro ah s σ H xs us Q I r h;obtain⟨p,ls,rfl,hq,h60,q⟩:=h;obtain⟨u,rfl,ru⟩:=vals1 r;cases ru;obtain⟨its,rv,pl,hz⟩:=I.list hq;have hl:=rv.length;rw[yK]at hl;refine OC (P:=X.prog) (w:=X.w) (I.ok.hd hc) pl.isList (by simpa using zX rv) (by rw[dA,show its.length=ls.length by lia,EN,cD]; exact h60) λh' tk S k=>?_;have S':b7 X.prog X.w h' s.heap.objs.size ((ca ls).map tS):=by
  have e:its.toArray.size=ls.length:=by rw[dA]; lia
  rw[e,EN]at S;exact S
 refine⟨.ref s.heap.objs.size,_,I.laid (t':=tk) (o:=iD X s.heap.objs.size (ca ls)) (λb o e=>k b o (bC e) e) (bi _) ?_,rfl,q _ I.fresh⟩;obtain⟨es,ep,t,ss,e,_⟩:=S'.ex;exact⟨S',⟨_,e⟩,λh1 h2 q1 q2=>q1.at q2⟩
end
structure Fu(P:aX)(w:aN)(K:az)(mg:Str->Option ak)(base:aE)(x:Str)(k:Nat)(ps:List Str)(sp:Sp):Prop where
 ex:∃ f fd,mg x=aa (.ref f)/\jn P w K mg base AK k f fd ps sp/\Binds K fd ps []/\sV K (.ref f)=ai
theorem Fu.mono{P:aX}{w:aN}{K:az}{mg:Str->Option ak}{base:aE}{x:Str}{j k:Nat}{ps:List Str}{sp:Sp}(c:Fu P w K mg base x j ps sp)(h:j<=k):Fu P w K mg base x k ps sp:=by obtain⟨f,fd,h1,h2,h3,h4⟩:=c.ex;exact⟨f,fd,h1,h2.mono h,h3,h4⟩
structure cA(K:az)(mg:Str->Option ak)(x:Str)(st:bf):Prop where
 ex:∃ f fd,mg x=aa (.ref f)/\oH K x x st f fd
def oW(t:af)(H H':Hp):Prop:=∀ b o,H b=aa o->b≠t->H' b=aa o
theorem oW.trans{t:af}{H H1 H2:Hp}(a:oW t H H1)(b:oW t H1 H2):oW t H H2:=λc o h hc=>b c o (a c o h hc) hc
theorem Same.near{t:af}{H H':Hp}(h:Same H H'):oW t H H':=λb o e _=>h b o e
theorem oW.free{t:af}{H H':Hp}(e:oW t H H'){l:af}(h:H' l=ae)(hl:l≠t):H l=ae:=by
 cases q:H l with
 | none=>rfl
 | some o=>rw[e l o q hl]at h; cases h
theorem oW.seq{K:az}{t a:af}{H H':Hp}{xs:List V}(e:oW t H H')(ha:a≠t)(h:ce K H a xs):ce K H' a xs:=by
 rcases h with(h | ⟨o,h⟩) | h
 ·exact .inl (.inl (e _ _ h ha))
 ·exact .inl (.inr ⟨o,e _ _ h ha⟩)
 ·exact .inr h
theorem oW.tup{K:az}{t a:af}{H H':Hp}{xs:List V}(e:oW t H H')(ha:a≠t)(h:dj K H a xs):dj K H' a xs:=by
 rcases h with(h | ⟨o,h⟩) | h
 ·exact .inl (.inl (e _ _ h ha))
 ·exact .inl (.inr ⟨o,e _ _ h ha⟩)
 ·exact .inr h
def xn(H:Hp)(t:af)(n:Nat):Prop:=∃ xs,H t=aa (.lst xs)/\xs.length<=n
theorem xn.mono{H:Hp}{t:af}{m n:Nat}(h:xn H t m)(hn:m<=n):xn H t n:=let ⟨xs,a,b⟩:=h; ⟨xs,a,cI b hn⟩
theorem xn.upd{H:Hp}{t p:af}{n:Nat}{o:HO}(h:xn H t n)(hp:H p=ae):xn (upd H p o) t n:=by obtain⟨xs,a,b⟩:=h;exact⟨xs,by rw[cn (mX a hp)]; exact a,b⟩
theorem Hj{H:Hp}{p:af}{o:HO}(h:H p=ae):Same H (upd H p o):=λb u q=>by rw[cn (mX q h)]; exact q
theorem Bu{α:Type}{xs:List α}{k:Int}(h0:0<=k)(h:k.toNat<xs.length):ff xs k=aa xs[k.toNat]:=by
 have e:((k.toNat:Nat):Int)=k:=∅
 have q:=Q4 (xs:=xs) (j:=k.toNat) (v:=xs[k.toNat]) (by simp[h]);rwa[e]at q
structure D3(K:az)(H:Hp)(a:af):Prop where
 ex:∃ ns:List Int,ce K H a (ns.map V.int)/\ns.length<=63
theorem D3.near{K:az}{H H':Hp}{a t:af}(h:D3 K H a)(hn:oW t H H')(ha:a≠t):D3 K H' a:=let ⟨ns,q,l⟩:=h.ex; ⟨ns,hn.seq ha q,l⟩
def Fx(N:List Str)(sc scope:eC)(x:Str)(N':List Str)(cap:List Nat):Bool :=
 decide (scope.kind = .function) && scope.names.all (λy=>(decide (y.2≠.cell) || decide (scope.names.lookup y.1=aa .cell)) && (decide (y.2≠.local) || decide (scope.names.lookup y.1=aa .local)) && (decide (y.2≠.free) || decide (sc.names.lookup y.1=aa .cell) || decide (sc.names.lookup y.1=aa .free)))
 && (decide (scope.names.lookup x=aa .local) || decide (scope.names.lookup x=aa .cell)) && decide N'.Nodup && decide (N'.head?=aa x) && decide (N'.length=cap.length+1) && (cap.zip N'.tail).all λp=>decide (N[p.1]?=aa p.2) && decide (scope.names.lookup p.2=aa .free)
theorem mi.of{X:Cx}{scope:eC}{x:Str}{N':List Str}{cap:List Nat}(N:List Str)(sc:eC)(hN:X.N=N)(wE:X.env.scope=sc)(h:Fx N sc scope x N' cap=ai):mi X scope x N' cap:=by
 subst hN wE;simp only[Fx,iu,decide_eq_true_eq,vS,zw]at h;obtain⟨⟨⟨⟨⟨⟨h1,h2⟩,h3⟩,h4⟩,h5⟩,h6⟩,h7⟩:=h;refine⟨h1,λy hy e=>(h2 y hy).1.1.elim (λz=>absurd e z) λz=>z,λy hy e=>?_,h3,λy hy e=>?_,h4,h5,h6,λi j y e1 e2=>?_⟩
 ·rcases(h2 y hy).1.2 with z | z
  ·exact absurd e z
  ·exact z
 ·rcases(h2 y hy).2 with(z | z) | z
  ·exact absurd e z
  ·exact .inl z
  ·exact .inr z
 ·have hm:(j,y)∈cap.zip N'.tail:=by
   refine List.mem_iff_getElem?.mpr ⟨i,?_⟩;rw[List.getElem?_zip_eq_some];refine⟨e2,?_⟩;rw[← List.drop_one,kq,Nat.add_comm];exact e1
  exact h7 _ hm
end L2
namespace Pu
open L2
abbrev St:=L2.St
inductive PV where
 | non | bl (b:Bool) | int (i:Int) | str (x:Tx) | tup (xs:List PV) | lst (xs:List PV) | raw (v:V) | exc (c:ak)
def NG(a:af)(c:ak):HO:=.ext λh=>∃ o vs,h.get? a=aa o/\o.cls=c/\o.data = .fields vs/\o.dict=ae
def bB:Nat:=1000000
theorem m9:bB<=bp:=by rw[sU]; decide
def gz:HO->Prop
 | .lst _=>True
 | .dK _=>True
 | .dT _=>True
 | .ins _ _ _=>True
 | .own _=>True
 | _=>False
mutual
def bg(K:az)(H:Hp)(F:af->Prop):PV->V->Prop
 | .non,v=>v = .non
 | .bl b,v=>v = .bl b
 | .int i,v=>v = .int i
 | .str x,v=>v=tV x/\x.length<=bB
 | .tup xs,v=>∃ a vs,v = .ref a/\H a=aa (.tup vs)/\bo K H F xs vs
 | .lst xs,v=>∃ a vs,v = .ref a/\Rd H a (.lst vs)/\F a/\bo K H F xs vs
 | .raw u,v=>v=u
 | .exc c,v=>∃ a,v = .ref a/\H a=aa (NG a c)
def bo(K:az)(H:Hp)(F:af->Prop):List PV->List V->Prop
 | [],vs=>vs=[]
 | x::xs,vs=>∃ v r,vs=v::r/\bg K H F x v/\bo K H F xs r
end
section
variable{K:az}{H H':Hp}{F F':af->Prop}
mutual
theorem bg.mono(hF:∀ a,F a->F' a)(hL:∀ a xs,F a->Rd H a (.lst xs)->Rd H' a (.lst xs))(hT:∀ a o,H a=aa o->¬ gz o->H' a=aa o):∀ (x:PV) (v:V),bg K H F x v->bg K H' F' x v
 | .non,_,h=>h
 | .bl _,_,h=>h
 | .int _,_,h=>h
 | .str _,_,h=>h
 | .raw _,_,h=>h
 | .exc _,_,⟨a,e,h⟩=>⟨a,e,hT a _ h id⟩
 | .tup xs,_,⟨a,vs,e,h1,h2⟩=>⟨a,vs,e,hT a _ h1 id,bo.mono hF hL hT xs vs h2⟩
 | .lst xs,_,⟨a,vs,e,h1,h0,h2⟩=>⟨a,vs,e,hL a vs h0 h1,hF a h0,bo.mono hF hL hT xs vs h2⟩
theorem bo.mono(hF:∀ a,F a->F' a)(hL:∀ a xs,F a->Rd H a (.lst xs)->Rd H' a (.lst xs))(hT:∀ a o,H a=aa o->¬ gz o->H' a=aa o):∀ (xs:List PV) (vs:List V),bo K H F xs vs->bo K H' F' xs vs
 | [],_,h=>h
 | x::xs,_,⟨v,r,e,h1,h2⟩=>⟨v,r,e,bg.mono hF hL hT x v h1,bo.mono hF hL hT xs r h2⟩
end
theorem bo.len:∀ {xs:List PV} {vs:List V},bo K H F xs vs->vs.length=xs.length
 | [],_,h=>by rw[show _=[] from h]; rfl
 | _::_,_,⟨_,_,e,_,h2⟩=>by rw[e,eD,eD,bo.len h2]
theorem bo.get:∀ {xs:List PV} {vs:List V} {i:Nat} {x:PV},bo K H F xs vs->xs[i]?=aa x->∃ v,vs[i]?=aa v/\bg K H F x v
 | [],_,_,_,_,e=>by simp at e
 | x::xs,_,0,y,⟨v,r,e,h1,_⟩,q=>by simp at q; subst q; subst e; exact⟨v,rfl,h1⟩
 | x::xs,_,i+1,y,⟨v,r,e,_,h2⟩,q=>by obtain⟨w,a,b⟩:=bo.get (i:=i) (x:=y) h2 (by simpa using q);subst e;exact⟨w,by simpa using a,b⟩
theorem bo.back:∀ {xs:List PV} {vs:List V} {i:Nat} {v:V},bo K H F xs vs->vs[i]?=aa v->∃ x,xs[i]?=aa x/\bg K H F x v
 | [],_,_,_,h,e=>by rw[show _=[] from h]at e; simp at e
 | x::xs,_,0,y,⟨v,r,e,h1,_⟩,q=>by subst e; simp at q; subst q; exact⟨x,rfl,h1⟩
 | x::xs,_,i+1,y,⟨v,r,e,_,h2⟩,q=>by subst e;obtain⟨w,a,b⟩:=bo.back (i:=i) (v:=y) h2 (by simpa using q);exact⟨w,by simpa using a,b⟩
theorem bo.app:∀ {xs ys:List PV} {vs ws:List V},bo K H F xs vs->bo K H F ys ws->bo K H F (xs++ys) (vs++ws)
 | [],_,_,_,h,g=>by rw[show _=[] from h]; exact g
 | x::xs,_,_,_,⟨v,r,e,h1,h2⟩,g=>by subst e; exact⟨v,_,rfl,h1,bo.app h2 g⟩
theorem bo.one{x:PV}{v:V}(h:bg K H F x v):bo K H F [x] [v]:=⟨v,[],rfl,h,rfl⟩
theorem bo.drop:∀ (n:Nat) {xs:List PV} {vs:List V},bo K H F xs vs->bo K H F (xs.drop n) (vs.drop n)
 | 0,_,_,h=>h
 | _+1,[],_,h=>by rw[show _=[] from h]; rfl
 | n+1,_::_,_,⟨_,_,e,_,h2⟩=>by subst e; exact bo.drop n h2
theorem bo.take:∀ (n:Nat) {xs:List PV} {vs:List V},bo K H F xs vs->bo K H F (xs.take n) (vs.take n)
 | 0,_,_,_=>by rw[C1,C1]; rfl
 | _+1,[],_,h=>by rw[show _=[] from h]; rfl
 | n+1,_::_,_,⟨v,_,e,h1,h2⟩=>by subst e; exact⟨v,_,rfl,h1,bo.take n h2⟩
theorem bo.set{x:PV}{v:V}(hx:bg K H F x v):∀ (n:Nat) {xs:List PV} {vs:List V},bo K H F xs vs->bo K H F (xs.set n x) (vs.set n v)
 | _,[],_,h=>by rw[show _=[] from h]; rfl
 | 0,_::_,_,⟨_,r,e,_,h2⟩=>by subst e; exact⟨v,r,rfl,hx,h2⟩
 | n+1,_::_,_,⟨w,_,e,h1,h2⟩=>by subst e; exact⟨w,_,rfl,h1,bo.set hx n h2⟩
theorem bo.cons{x:PV}{v:V}{xs:List PV}{vs:List V}(h:bg K H F x v)(g:bo K H F xs vs):bo K H F (x::xs) (v::vs):=⟨v,vs,rfl,h,g⟩
end
structure bX(O O' F F':af->Prop)(H H':Hp):Prop where
 fro:∀ a,F a->F' a
 keep:∀ b o,H b=aa o->¬ O b->H' b=aa o
 there:∀ b o,H b=aa o->∃ o',H' b=aa o'
 fnew:∀ a,F' a->F a\/H a=ae\/O a
 onew:∀ a,O' a->O a\/H a=ae
theorem bX.refl(O F:af->Prop)(H:Hp):bX O O F F H H:=⟨λ_ h=>h,λ_ _ h _=>h,λ_ o h=>⟨o,h⟩,λ_ h=>.inl h,λ_ h=>.inl h⟩
theorem bX.trans{O O1 O2 F F1 F2:af->Prop}{H H1 H2:Hp}(g:bX O O1 F F1 H H1)(k:bX O1 O2 F1 F2 H1 H2):bX O O2 F F2 H H2 where
 fro:=λa h=>k.fro a (g.fro a h)
 keep:=λb o h n=>k.keep b o (g.keep b o h n) λz=>(g.onew b z).elim n λq=>by rw[q]at h; cases h
 there:=λb o h=>let ⟨o',h'⟩:=g.there b o h; k.there b o' h'
 fnew:=λa h=>by
  have back:H1 a=ae->H a=ae\/O a:=λz=>by
   cases q:H a with
   | none=>exact .inl rfl
   | some o=>obtain⟨o',h'⟩:=g.there a o q; rw[z]at h'; cases h'
  rcases k.fnew a h with z | z | z
  ·exact g.fnew a z
  ·exact .inr (back z)
  ·exact .inr ((g.onew a z).symm)
 onew:=λa h=>by
  rcases k.onew a h with z | z
  ·exact g.onew a z
  ·cases q:H a with
   | none=>exact .inr rfl
   | some o=>obtain⟨o',h'⟩:=g.there a o q; rw[z]at h'; cases h'
def oF(O F:af->Prop)(H:Hp):Prop:=∀ b,O b->¬ F b/\∃ o,H b=aa o/\gz o
section
variable{K:az}{O O' F F':af->Prop}{H H':Hp}
theorem bX.imm(g:bX O O' F F' H H')(f:oF O F H){a:af}{o:HO}(h:H a=aa o)(n:¬ gz o):H' a=aa o :=
 g.keep _ _ h λz=>by
  obtain⟨_,o',e',n'⟩:=f a z;rw[h]at e'; cases e'; exact n n'
theorem bX.lst(g:bX O O' F F' H H')(f:oF O F H){a:af}{xs:List V}(hF:F a)(h:Rd H a (.lst xs)):Rd H' a (.lst xs):=by
 have no:¬ O a:=λz=>(f a z).1 hF;rcases h with h | ⟨o,h⟩
 ·exact .inl (g.keep _ _ h no)
 ·exact .inr ⟨o,g.keep _ _ h no⟩
theorem bg.grow(g:bX O O' F F' H H')(f:oF O F H){x:PV}{v:V}(h:bg K H F x v):bg K H' F' x v:=bg.mono g.fro (λ_ _ hF q=>g.lst f hF q) (λ_ _ q n=>g.imm f q n) x v h
theorem bo.grow(g:bX O O' F F' H H')(f:oF O F H){x:List PV}{v:List V}(h:bo K H F x v):bo K H' F' x v:=bo.mono g.fro (λ_ _ hF q=>g.lst f hF q) (λ_ _ q n=>g.imm f q n) x v h
end
theorem _root_.L2.Same.rd{H H':Hp}{a:af}{u:HO}(e:Same H H')(h:Rd H a u):Rd H' a u:=h.elim (λz=>.inl (e _ _ z)) λ⟨o,z⟩=>.inr ⟨o,e _ _ z⟩
structure Al(F F':af->Prop)(H H':Hp):Prop where
 fro:∀ a,F a->F' a
 same:Same H H'
 fnew:∀ a,F' a->F a\/(H a=ae/\∃ o,H' a=aa o)
theorem Al.refl(F:af->Prop)(H:Hp):Al F F H H:=⟨λ_ h=>h,Same.refl H,λ_ h=>.inl h⟩
theorem Al.grow{F F' O:af->Prop}{H H':Hp}(a:Al F F' H H'):bX O O F F' H H' :=⟨a.fro,λb o h _=>a.same b o h,λb o h=>⟨o,a.same b o h⟩,λb h=>(a.fnew b h).imp id λz=>.inl z.1,λ_ h=>.inl h⟩
theorem Al.rep{K:az}{F F':af->Prop}{H H':Hp}(a:Al F F' H H'){x:PV}{v:V}(h:bg K H F x v):bg K H' F' x v:=bg.mono a.fro (λ_ _ _ q=>a.same.rd q) (λ_ _ q _=>a.same _ _ q) x v h
theorem Al.reps{K:az}{F F':af->Prop}{H H':Hp}(a:Al F F' H H'){x:List PV}{v:List V}(h:bo K H F x v):bo K H' F' x v:=bo.mono a.fro (λ_ _ _ q=>a.same.rd q) (λ_ _ q _=>a.same _ _ q) x v h
theorem Al.trans{F F1 F2:af->Prop}{H H1 H2:Hp}(a:Al F F1 H H1)(b:Al F1 F2 H1 H2):Al F F2 H H2 :=
 ⟨λc h=>b.fro c (a.fro c h),a.same.trans b.same,λc h=>by
  rcases b.fnew c h with z | ⟨z,w⟩
  ·rcases a.fnew c z with y | ⟨y,o,q⟩
   ·exact .inl y
   ·exact .inr ⟨y,o,b.same _ _ q⟩
  ·exact .inr ⟨a.same.free z,w⟩⟩
theorem Al.new{F:af->Prop}{H:Hp}{l:af}{o:HO}(h:H l=ae):Al F (λa=>F a\/a=l) H (upd H l o) :=⟨λ_ h=>.inl h,Hj h,λa z=>z.imp id λe=>by subst e; exact⟨h,o,cz⟩⟩
theorem Al.new0{F:af->Prop}{H:Hp}{l:af}{o:HO}(h:H l=ae):Al F F H (upd H l o):=⟨λ_ h=>h,Hj h,λa z=>.inl z⟩
inductive PO where
 | lst (xs:List PV) | dK (kvs:List (aI×PV)) | lls (f7:List (List PV)) | ins (C:af) (fs:List (Str×PV))
def jq:PO->Bool
 | .lls _=>ao
 | _=>ai
inductive Slot where
 | none | val (v:PV) | own (o:PO)
abbrev aj:=List Slot
def fP(K:az)(H:Hp)(F:af->Prop)(kvs:List (aI×PV))(ws:List (aI×V)):Prop:=nI (λ(p:aI×PV) (q:aI×V)=>p.1=q.1/\bg K H F p.2 q.2) kvs ws
def rS(K:az)(H:Hp)(F:af->Prop)(fs:List (Str×PV))(ws:List (Str×V)):Prop:=nI (λ(p:Str×PV) (q:Str×V)=>p.1=q.1/\bg K H F p.2 q.2) fs ws
def kg(K:az)(H:Hp)(F:af->Prop)(f7:List (List PV))(as:List af):Prop:=nI (λ(xs:List PV) (b:af)=>∃ vs,H b=aa (.lst vs)/\bo K H F xs vs) f7 as
def gb(K:az)(H:Hp)(F:af->Prop)(po:PO)(a:af)(S:af->Prop):Prop :=
 match po with
 | .lst xs=>(∃ vs,H a=aa (.lst vs)/\bo K H F xs vs)/\∀ b,S b↔b=a
 | .dK kvs=>(∃ ws,H a=aa (.dK ws)/\fP K H F kvs ws)/\∀ b,S b↔b=a
 | .lls f7=>∃ as,H a=aa (.lst (as.map .ref))/\kg K H F f7 as/\as.Nodup/\a∉as/\∀ b,S b↔b=a\/b∈as
 | .ins C fs=>(∃ dx ws,H a=aa (.ins C dx ws)/\rS K H F fs ws)/\∀ b,S b↔b=a
structure a9(K:az)(F:af->Prop)(S:Nat->af->Prop)(ε:aj)(σ:St)(H:Hp):Prop where
 len:ε.length=σ.length
 ex:∀ a,F a->∃ o,H a=aa o
 val:∀ (i:Nat) (pv:PV),ε[i]?=aa (.val pv)->∃ v,σ[i]?=aa (aa v)/\bg K H F pv v
 own:∀ (i:Nat) (po:PO),ε[i]?=aa (.own po)->∃ a,σ[i]?=aa (aa (.ref a))/\gb K H F po a (S i)
 foot:∀ (i:Nat) (b:af),S i b->(∃ po,ε[i]?=aa (.own po))/\¬ F b/\∃ o,H b=aa o/\gz o
 dist:∀ (i j:Nat) (b:af),S i b->S j b->i=j
def U(S:Nat->af->Prop)(b:af):Prop:=∃ i,S i b
section
variable{K:az}{F F':af->Prop}{S:Nat->af->Prop}{ε:aj}{σ:St}{H H':Hp}
theorem a9.fit(r:a9 K F S ε σ H):oF (U S) F H:=λb ⟨i,h⟩=>(r.foot i b h).2
theorem fP.mono{kvs:List (aI×PV)}{ws:List (aI×V)}(hF:∀ x v,bg K H F x v->bg K H' F' x v)(h:fP K H F kvs ws):fP K H' F' kvs ws:=by
 unfold fP at h ⊢
 induction h with
 | nil=>exact .nil
 | cons r _ ih=>exact .cons ⟨r.1,hF _ _ r.2⟩ ih
theorem rS.mono{fs:List (Str×PV)}{ws:List (Str×V)}(hF:∀ x v,bg K H F x v->bg K H' F' x v)(h:rS K H F fs ws):rS K H' F' fs ws:=by
 unfold rS at h ⊢
 induction h with
 | nil=>exact .nil
 | cons r _ ih=>exact .cons ⟨r.1,hF _ _ r.2⟩ ih
theorem kg.mono{f7:List (List PV)}{as:List af}(qM:∀ x v,bo K H F x v->bo K H' F' x v)(ha:∀ b o,b∈as->H b=aa o->H' b=aa o)(h:kg K H F f7 as):kg K H' F' f7 as:=by
 unfold kg at h ⊢
 induction h with
 | nil=>exact .nil
 | cons r _ ih=>obtain⟨vs,h1,h2⟩:=r;exact .cons ⟨vs,ha _ _ (by simp) h1,qM _ _ h2⟩ (ih λb o hb=>ha b o (by simp[hb]))
theorem gb.mono{po:PO}{a:af}{Sa:af->Prop}(hF:∀ x v,bg K H F x v->bg K H' F' x v)(qM:∀ x v,bo K H F x v->bo K H' F' x v)(ha:∀ b o,Sa b->H b=aa o->H' b=aa o)(h:gb K H F po a Sa):gb K H' F' po a Sa:=by
 cases po with
 | lst xs=>obtain⟨⟨vs,e,q⟩,w⟩:=h; exact⟨⟨vs,ha a _ ((w a).mpr rfl) e,qM _ _ q⟩,w⟩
 | dK kvs=>obtain⟨⟨ws,e,q⟩,w⟩:=h; exact⟨⟨ws,ha a _ ((w a).mpr rfl) e,q.mono hF⟩,w⟩
 | lls f7=>obtain⟨as,e,q,n1,n2,w⟩:=h; exact⟨as,ha a _ ((w a).mpr (.inl rfl)) e,q.mono qM λb o hb=>ha b o ((w b).mpr (.inr hb)),n1,n2,w⟩
 | ins C fs=>obtain⟨⟨dx,ws,e,q⟩,w⟩:=h; exact⟨⟨dx,ws,ha a _ ((w a).mpr rfl) e,q.mono hF⟩,w⟩
theorem a9.al(r:a9 K F S ε σ H)(a:Al F F' H H'):a9 K F' S ε σ H' where
 len:=r.len
 ex:=λb h=>(a.fnew b h).elim (λz=>let ⟨o,q⟩:=r.ex b z; ⟨o,a.same _ _ q⟩) λz=>z.2
 val:=λi pv e=>let ⟨v,h1,h2⟩:=r.val i pv e; ⟨v,h1,a.rep h2⟩
 own:=λi po e=>let ⟨b,h1,h2⟩:=r.own i po e; ⟨b,h1,h2.mono (λ_ _ q=>a.rep q) (λ_ _ q=>a.reps q) λc o _ q=>a.same _ _ q⟩
 foot:=λi b h=>by
  obtain⟨h1,h2,o,h3,h4⟩:=r.foot i b h;refine⟨h1,λz=>?_,o,a.same _ _ h3,h4⟩;rcases a.fnew b z with y | ⟨y,_⟩
  ·exact h2 y
  ·rw[h3]at y; cases y
 dist:=r.dist
end
inductive R(α:Type) where
 | ok (a:α) (ε:aj) | er (c:ak) (ε:aj) | no
def R.bind{α β:Type}(r:R α)(k:α->aj->R β):R β:=match r with
 | .ok a ε=>k a ε
 | .er c ε=>.er c ε
 | .no=>.no
def aS{α:Type}(o:Option α)(ε:aj):R α:=match o with
 | some a=>.ok a ε
 | none=>.no
@[simp] theorem R.bind_ok{α β:Type}(a:α)(ε:aj)(k:α->aj->R β):(R.ok a ε).bind k=k a ε:=rfl
@[simp] theorem R.bind_er{α β:Type}(c:ak)(ε:aj)(k:α->aj->R β):(R.er c ε:R α).bind k = .er c ε:=rfl
@[simp] theorem R.bind_no{α β:Type}(k:α->aj->R β):(R.no:R α).bind k = .no:=rfl
@[simp] theorem dE{α:Type}(a:α)(ε:aj):aS (aa a) ε = .ok a ε:=rfl
@[simp] theorem UU{α:Type}(ε:aj):aS (ae:Option α) ε = .no:=rfl
def Ok(K:az)(E:XK)(σ:St)(F:af->Prop)(S:Nat->af->Prop)(H:Hp){α:Type}(r:R α)(C:α->aj->(af->Prop)->(Nat->af->Prop)->Hp->Prop):Prop:=match r with
 | .ok a ε'=>∀ F' S' H',a9 K F' S' ε' σ H'->bX (U S) (U S') F F' H H'->C a ε' F' S' H'
 | .er c ε'=>∀ x F' S' H',a9 K F' S' ε' σ H'->bX (U S) (U S') F F' H H'->E c x H'
 | .no=>False
section
variable{K:az}{E:XK}{σ:St}{F:af->Prop}{S:Nat->af->Prop}{H:Hp}{α β:Type}{C C':α->aj->(af->Prop)->(Nat->af->Prop)->Hp->Prop}{D:β->aj->(af->Prop)->(Nat->af->Prop)->Hp->Prop}
theorem Ok.imp{r:R α}(h:Ok K E σ F S H r C)(f:∀ a ε' F' S' H',a9 K F' S' ε' σ H'->bX (U S) (U S') F F' H H'->C a ε' F' S' H'->C' a ε' F' S' H'):Ok K E σ F S H r C':=by
 cases r with
 | ok a ε'=>exact λF' S' H' r g=>f a ε' F' S' H' r g (h F' S' H' r g)
 | er c ε'=>exact h
 | no=>exact h
theorem Ok.from{r:R β}{F1:af->Prop}{S1:Nat->af->Prop}{H1:Hp}(h:Ok K E σ F S H r D)(g:bX (U S) (U S1) F F1 H H1):Ok K E σ F1 S1 H1 r D:=by
 cases r with
 | ok a ε'=>exact λF' S' H' r' g'=>h F' S' H' r' (g.trans g')
 | er c ε'=>exact λx F' S' H' r' g'=>h x F' S' H' r' (g.trans g')
 | no=>exact h
theorem Ok.bind{r:R α}{k:α->aj->R β}(h:Ok K E σ F S H (r.bind k) D):Ok K E σ F S H r (λa ε1 F1 S1 H1=>Ok K E σ F1 S1 H1 (k a ε1) D):=by
 cases r with
 | ok a ε'=>exact λF' S' H' r g=>Ok.from h g
 | er c ε'=>exact h
 | no=>exact h
end
structure Bx(p:Prop):Prop where
 run:p
def iV(X:Cx)(e:aC):TE:=λσ H Q=>Bx (∀ ah s,Inv X ah σ H s->ax (ay X.prog X.w) X.A (bv e X.env) (EP X ah σ Q) X.xe s)
def z7(X:Cx)(e:aC):TT:=λσ H Q=>Bx (∀ ah s,Inv X ah σ H s->ax (ay X.prog X.w) X.A (nN e X.env (bv e X.env)) (TP X ah σ Q) X.xe s)
def wpS(X:Cx)(st:bf):TS:=λD σ H=>Bx (∀ ah s,Inv X ah σ H s->ax (ay X.prog X.w) X.A (exec st X.env) (SP X ah D) X.xe s)
def uI(X:Cx)(st:List bf):TS:=λD σ H=>Bx (∀ ah s,Inv X ah σ H s->ax (ay X.prog X.w) X.A (execs st X.env) (SP X ah D) X.xe s)
section
variable{X:Cx}{e:aC}{st:bf}{sts:List bf}
theorem cx:PE X e (iV X e):=λah s _ _ _ I h=>h.run ah s I
theorem r8:PT X e (z7 X e):=λah s _ _ _ I h=>h.run ah s I
theorem Fz:PS X st (wpS X st):=λah s _ _ _ I h=>h.run ah s I
theorem sC:jS X sts (uI X sts):=λah s _ _ _ I h=>h.run ah s I
theorem cT{t:TE}(h:PE X e t){σ:St}{H:Hp}{Q:VK}(q:t σ H Q):iV X e σ H Q:=⟨λah s I=>h ah s σ H Q I q⟩
theorem sM{t:TT}(h:PT X e t){σ:St}{H:Hp}{Q:Bool->Hp->Prop}(q:t σ H Q):z7 X e σ H Q:=⟨λah s I=>h ah s σ H Q I q⟩
theorem iZ{t:TS}(h:PS X st t){σ:St}{H:Hp}{D:ln}(q:t D σ H):wpS X st D σ H:=⟨λah s I=>h ah s σ H D I q⟩
theorem BF{t:TS}(h:jS X sts t){σ:St}{H:Hp}{D:ln}(q:t D σ H):uI X sts D σ H:=⟨λah s I=>h ah s σ H D I q⟩
end
def DE(X:Cx)(E:XK)(e:aC)(d:aj->R PV):Prop :=
 ∀ F S ε σ H Q,a9 X.K F S ε σ H->Ok X.K E σ F S H (d ε) (λpv _ F' _ H'=>∀ v,bg X.K H' F' pv v->Q v H')->iV X e σ H Q
def DN(X:Cx)(E:XK)(e:aC)(d:aj->R PO):Prop :=
 ∀ F S ε σ H Q,a9 X.K F S ε σ H->Ok X.K E σ F S H (d ε) (λpo _ F' S' H'=>∀ a Sa,gb X.K H' F' po a Sa->(∀ b,Sa b->H b=ae/\¬ F' b/\¬ U S' b/\∃ o,H' b=aa o/\gz o)->Q (.ref a) H')->iV X e σ H Q
def DT(X:Cx)(E:XK)(e:aC)(d:aj->R Bool):Prop :=
 ∀ F S ε σ H Q,a9 X.K F S ε σ H->Ok X.K E σ F S H (d ε) (λb _ _ _ H'=>Q b H')->z7 X e σ H Q
end Pu
namespace Pu
open L2
section
variable{X:Cx}{E:XK}{a b c:aC}{da db dc:aj->R PV}{pos:Pos}
def dC(pv:PV):aj->R PV:=λε=>.ok pv ε
theorem a8{i j pos}:DE X E (.Constant (.int i) j pos) (dC (.int i)):=λF S ε σ H Q r h=>cT IF (h F S H r (bX.refl ..) _ rfl)
theorem uL{i j pos}:DE X E (.Constant (.bool i) j pos) (dC (.bl i)):=λF S ε σ H Q r h=>cT PR (h F S H r (bX.refl ..) _ rfl)
theorem nE(l:Tx){x:Str}{j pos}(hx:x=tS l:=by decide +kernel)(hl:l.length<=bB:=by decide):DE X E (.Constant (.str x) j pos) (dC (.str l)):=λF S ε σ H Q r h=>cT OA (h F S H r (bX.refl ..) _ (by rw[hx]; exact⟨rfl,hl⟩))
def dV(i:Nat):aj->R PV:=λε=>match ε[i]? with
 | some (.val pv)=>.ok pv ε
 | _=>.no
theorem ap(i:Nat){x:Str}{pos:Pos}(hN:X.N[i]?=aa x:=by rfl)(hv:fW X.env.scope x:=by first | exact Or.inl rfl | exact Or.inr (Or.inl rfl) | exact Or.inr (Or.inr rfl))(hd:(x == ("__debug__" : Str))=ao:=by decide)(bM:(x == ("__classdict__" : Str))=ao:=by decide):DE X E (.Name x pos) (dV i):=λF S ε σ H Q r h=>by
 unfold dV at h;split at h
 ·rename_i p e;obtain⟨v,e1,e2⟩:=r.val i p e;exact cT (gP hN hv hd bM) ⟨v,e1,h F S H r (bX.refl ..) v e2⟩
 ·exact h.elim
theorem yO{x:Str}{i:Int}{pos:Pos}(h:∃ t,X.mg x=aa (.int i t))(hg:Gl X x:=by rfl)(hd:(x == ("__debug__" : Str))=ao:=by decide):DE X E (.Name x pos) (dC (.int i)):=λF S ε σ H Q r q=>by obtain⟨t,e⟩:=h;exact cT (Hc (v:=.int i) hg e ⟨t,rfl⟩ hd) (q F S H r (bX.refl ..) _ rfl)
theorem BX{x:Str}{l:Tx}{pos:Pos}(h:∃ t,X.mg x=aa (.str (tS l) t))(hg:Gl X x:=by rfl)(hl:l.length<=bB:=by decide)(hd:(x == ("__debug__" : Str))=ao:=by decide):DE X E (.Name x pos) (dC (.str l)):=λF S ε σ H Q r q=>by obtain⟨t,e⟩:=h;exact cT (Hc (v:=tV l) hg e ⟨t,rfl⟩ hd) (q F S H r (bX.refl ..) _ ⟨rfl,hl⟩)
def a9.frz{K:az}{F:af->Prop}{S:Nat->af->Prop}{ε:aj}{σ:St}{H:Hp}{i:Nat}{xs:List PV}(r:a9 K F S ε σ H)(e:ε[i]?=aa (.own (.lst xs))) : ∃ a F' S',a9 K F' S' (ε.set i (.val (.lst xs))) σ H/\bX (U S) (U S') F F' H H/\σ[i]?=aa (aa (.ref a))/\bg K H F' (.lst xs) (.ref a):=by
 obtain⟨a,e1,⟨vs,ha,hr⟩,hS⟩:=r.own i _ e;have hi:i<ε.length:=(eu.mp e).1;have sub:∀ b,F b->F b\/b=a:=λb h=>.inl h;have mono:∀ x v,bg K H F x v->bg K H (λb=>F b\/b=a) x v:=bg.mono sub (λ_ _ _ q=>q) (λ_ _ q _=>q);have monos:∀ x v,bo K H F x v->bo K H (λb=>F b\/b=a) x v:=bo.mono sub (λ_ _ _ q=>q) (λ_ _ q _=>q);have rp:bg K H (λb=>F b\/b=a) (.lst xs) (.ref a):=⟨a,vs,rfl,.inl ha,.inr rfl,monos _ _ hr⟩
 refine⟨a,λb=>F b\/b=a,λj b=>S j b/\j≠i,⟨by rw[k9]; exact r.len,λb h=>?_,λj pv q=>?_,λj po q=>?_,λj b h=>?_,λj k b h1 h2=>r.dist j k b h1.1 h2.1⟩,?_,e1,rp⟩
 ·rcases h with h | rfl
  ·exact r.ex b h
  ·exact⟨_,ha⟩
 ·by_cases hj:i=j
  ·subst hj;rw[ip hi]at q;cases q;exact⟨_,e1,rp⟩
  ·rw[fI hj]at q;obtain⟨v,q1,q2⟩:=r.val j pv q;exact⟨v,q1,mono _ _ q2⟩
 ·by_cases hj:i=j
  ·subst hj;rw[ip hi]at q;cases q
  ·rw[fI hj]at q;obtain⟨v,q1,q2⟩:=r.own j po q;refine⟨v,q1,?_⟩;have q3:=q2.mono (H':=H) mono monos λ_ _ _ z=>z;have eS:(λb=>S j b/\j≠i)=S j:=by funext b; simp[gW hj]
   rw[eS]; exact q3
 ·obtain⟨⟨po,q1⟩,q2,q3⟩:=r.foot j b h.1;refine⟨⟨po,by rw[fI (gW h.2)]; exact q1⟩,λz=>?_,q3⟩;rcases z with z | rfl
  ·exact q2 z
  ·exact h.2 (r.dist j i b h.1 ((hS b).mpr rfl))
 ·refine⟨λ_ h=>.inl h,λb o h _=>h,λb o h=>⟨o,h⟩,λb h=>?_,λb ⟨j,h⟩=>.inl ⟨j,h.1⟩⟩;rcases h with h | rfl
  ·exact .inl h
  ·exact .inr (.inr ⟨i,(hS b).mpr rfl⟩)
def dM(i:Nat):aj->R PV:=λε=>match ε[i]? with
 | some (.own (.lst xs))=>.ok (.lst xs) (ε.set i (.val (.lst xs)))
 | _=>.no
theorem IW(i:Nat){x:Str}{pos:Pos}(hN:X.N[i]?=aa x:=by rfl)(hv:fW X.env.scope x:=by first | exact Or.inl rfl | exact Or.inr (Or.inl rfl) | exact Or.inr (Or.inr rfl))(hd:(x == ("__debug__" : Str))=ao:=by decide)(bM:(x == ("__classdict__" : Str))=ao:=by decide):DE X E (.Name x pos) (dM i):=λF S ε σ H Q r h=>by
 unfold dM at h;split at h
 ·rename_i p e;obtain⟨a,F',S',r',g,e1,e2⟩:=r.frz e;exact cT (gP hN hv hd bM) ⟨_,e1,h F' S' H r' g _ e2⟩
 ·exact h.elim
def P2(K:az)(r:R2)(f:PV->PV->Option PV):Prop:=∀ (F:af->Prop) (H:Hp) (x y:PV) (v u:V) (Q:VK) (pv:PV),bg K H F x v->bg K H F y u->f x y=aa pv->(∀ w F' H',Al F F' H H'->bg K H' F' pv w->Q w H')->r v u H Q
def d2(f:PV->PV->Option PV)(da db:aj->R PV):aj->R PV:=λε=>(da ε).bind λx ε1=>(db ε1).bind λy ε2=>aS (f x y) ε2
theorem yQ{r:R2}{f:PV->PV->Option PV}(hp:P2 X.K r f)(ha:DE X E a da)(hb:DE X E b db){F:af->Prop}{S:Nat->af->Prop}{ε:aj}{σ:St}{H:Hp}{Q:VK}(rl:a9 X.K F S ε σ H)(h:Ok X.K E σ F S H (d2 f da db ε) (λpv _ F' _ H'=>∀ v,bg X.K H' F' pv v->Q v H')):iV X a σ H λx H1=>iV X b σ H1 λy H2=>r x y H2 Q:=by
 refine ha F S ε σ H _ rl ((Ok.bind h).imp λx ε1 F1 S1 H1 r1 g1 h1 v rv=>?_);refine hb F1 S1 ε1 σ H1 _ r1 ((Ok.bind h1).imp λy ε2 F2 S2 H2 r2 g2 h2 u ru=>?_);cases e:f x y with
 | none=>rw[e]at h2; exact h2.elim
 | some pv=>rw[e]at h2;exact hp F2 H2 x y v u Q pv (rv.grow g2 r1.fit) ru e λw F' H' al rw'=>h2 F' S2 H' (r2.al al) al.grow w rw'
theorem bG{op:Operator}{r:R2}{f:PV->PV->Option PV}(ho:cu X (jw op) r)(hp:P2 X.K r f)(ha:DE X E a da)(hb:DE X E b db):DE X E (.BinOp a op b pos) (d2 f da db):=λF S ε σ H Q rl h=>cT (DZ ho cx cx) (yQ hp ha hb rl h)
theorem yP{op:CmpOp}{r:R2}{f:PV->PV->Option PV}(ho:cu X (eY op) r)(hp:P2 X.K r f)(ha:DE X E a da)(hb:DE X E b db)(hm:mz op b=ao):DE X E (.Compare a [op] [b] pos) (d2 f da db):=λF S ε σ H Q rl h=>cT (Q9 ho cx cx hm) (yQ hp ha hb rl h)
def qZ:PV->Option Bool
 | .bl b=>aa b
 | _=>ae
def dB(d:aj->R PV):aj->R Bool:=λε=>(d ε).bind λx ε1=>aS (qZ x) ε1
theorem Ix{K:az}{H:Hp}{F:af->Prop}{x:PV}{v:V}{k:Bool}(h:bg K H F x v)(e:qZ x=aa k):v = .bl k:=by
 cases x <;> simp[qZ]at e;subst e; exact h
theorem rg{F:af->Prop}{S:Nat->af->Prop}{ε:aj}{σ:St}{H:Hp}{Q:Bool->Hp->Prop}{d:aj->R PV}(h:Ok X.K E σ F S H (dB d ε) (λk _ _ _ H'=>Q k H')) : Ok X.K E σ F S H (d ε) (λpv _ F' _ H'=>∀ v,bg X.K H' F' pv v->∃ k,v = .bl k/\Q k H'):=by
 refine(Ok.bind h).imp λx ε1 F1 S1 H1 r1 g1 h1 v rv=>?_;cases e:qZ x with
 | none=>rw[e]at h1; exact h1.elim
 | some k=>rw[e]at h1; exact⟨k,Ix rv e,h1 F1 S1 H1 r1 (bX.refl ..)⟩
theorem gM{op:CmpOp}{r:R2}{f:PV->PV->Option PV}(ho:cu X (eY op) r)(hp:P2 X.K r f)(ha:DE X E a da)(hb:DE X E b db)(hm:mz op b=ao):DT X E (.Compare a [op] [b] pos) (dB (d2 f da db)):=λF S ε σ H Q rl h=>sM (NA ho cx cx hm) (yQ (Q:=λx H'=>∃ k,x = .bl k/\Q k H') hp ha hb rl (rg h))
theorem o4{e:aC}{d:aj->R PV}(hd:DE X E e d)(he:∀ iO,nN e X.env iO=(do let v ← iO; standAt e.pos; holding [v] (truthy v)):=by intro _; rfl):DT X E e (dB d):=λF S ε σ H Q rl h=>sM (Rj cx he) (hd F S ε σ H _ rl (rg h))
def pV(f g:PV->PV->Option PV)(da db dc:aj->R PV):aj->R PV:=λε=>(da ε).bind λx ε1=>(db ε1).bind λy ε2=>(aS ((f x y).bind qZ) ε2).bind λk ε2=>
 match k with
 | true=>(dc ε2).bind λz ε3=>aS (g y z) ε3
 | false=>.ok (.bl ao) ε2
theorem Ig{r r':R2}{f g:PV->PV->Option PV}(hp:P2 X.K r f)(iP:P2 X.K r' g)(ha:DE X E a da)(hb:DE X E b db)(hc:DE X E c dc){F:af->Prop}{S:Nat->af->Prop}{ε:aj}{σ:St}{H:Hp}{Q:VK}(rl:a9 X.K F S ε σ H)(h:Ok X.K E σ F S H (pV f g da db dc ε) (λpv _ F' _ H'=>∀ v,bg X.K H' F' pv v->Q v H')):Ap r r' (iV X a) (iV X b) (iV X c) σ H Q:=by
 refine ha F S ε σ H _ rl ((Ok.bind h).imp λx ε1 F1 S1 H1 r1 g1 h1 v rv=>?_);refine hb F1 S1 ε1 σ H1 _ r1 ((Ok.bind h1).imp λy ε2 F2 S2 H2 r2 g2 h2 u ru=>?_);cases e:f x y with
 | none=>rw[e]at h2; exact h2.elim
 | some pv=>
  rw[e]at h2;refine hp F2 H2 x y v u _ pv (rv.grow g2 r1.fit) ru e λw F' H' al rw'=>?_;cases e2:qZ pv with
  | none=>rw[gI,e2]at h2; exact h2.elim
  | some k=>
   rw[gI,e2]at h2;refine⟨k,Ix rw' e2,?_⟩;have r3:=r2.al al;cases k with
   | false=>exact rJ (Ok.from h2 al.grow F' S2 H' r3 (bX.refl ..) _ rfl)
   | true=>
    have h3:Ok X.K E σ F2 S2 H2 ((dc ε2).bind λz ε3=>aS (g y z) ε3) (λpv _ F' _ H'=>∀ v,bg X.K H' F' pv v->Q v H'):=h2;refine sk (hc F' S2 ε2 σ H' _ r3 ((Ok.bind (Ok.from h3 al.grow)).imp λz ε4 F4 S4 H4 r4 g4 h4 u4 ru4=>?_));cases e4:g y z with
    | none=>rw[e4]at h4; exact h4.elim
    | some pz=>rw[e4]at h4;exact iP F4 H4 y z u u4 Q pz ((al.rep ru).grow g4 r3.fit) ru4 e4 λw5 F5 H5 al5 rw5=>h4 F5 S4 H5 (r4.al al5) al5.grow w5 rw5
theorem IK{op op':CmpOp}{r r':R2}{f g:PV->PV->Option PV}(ho:cu X (eY op) r)(jE:cu X (eY op') r')(hp:P2 X.K r f)(iP:P2 X.K r' g)(ha:DE X E a da)(hb:DE X E b db)(hc:DE X E c dc)(hm:lastMarks [op,op'] [b,c]=ao:=by with_unfolding_all rfl):DE X E (.Compare a [op,op'] [b,c] pos) (pV f g da db dc):=λF S ε σ H Q rl h=>cT (P4 ho jE cx cx cx hm) (Ig hp iP ha hb hc rl h)
theorem EV{op op':CmpOp}{r r':R2}{f g:PV->PV->Option PV}(ho:cu X (eY op) r)(jE:cu X (eY op') r')(hp:P2 X.K r f)(iP:P2 X.K r' g)(ha:DE X E a da)(hb:DE X E b db)(hc:DE X E c dc)(hm:lastMarks [op,op'] [b,c]=ao:=by with_unfolding_all rfl):DT X E (.Compare a [op,op'] [b,c] pos) (dB (pV f g da db dc)):=λF S ε σ H Q rl h=>sM (QA ho jE cx cx cx hm) (Ig (Q:=λx H'=>∃ k,x = .bl k/\Q k H') hp iP ha hb hc rl (rg h))
variable{ta tb:aj->R Bool}{rest:List aC}
def DW(X:Cx)(E:XK)(e:aC)(d:aj->R Bool):Prop:=∀ F S ε σ H Q,a9 X.K F S ε σ H->Ok X.K E σ F S H (d ε) (λb _ _ _ H'=>Q b H')->∀ (iO:Sem ak) ah s,Inv X ah σ H s->ax (ay X.prog X.w) X.A (nN e X.env iO) (TP X ah σ Q) X.xe s
def MW(X:Cx)(e:aC):TT:=λσ H Q=>∀ (iO:Sem ak) ah s,Inv X ah σ H s->ax (ay X.prog X.w) X.A (nN e X.env iO) (TP X ah σ Q) X.xe s
theorem R9{e:aC}:PW X e (MW X e):=λiO ah s _ _ _ I h=>h iO ah s I
theorem DW.dt{e:aC}{d:aj->R Bool}(h:DW X E e d):DT X E e d:=λF S ε σ H Q rl q=>⟨λah s I=>h F S ε σ H Q rl q _ ah s I⟩
def UI(ta tb:aj->R Bool):aj->R Bool:=λε=>(ta ε).bind λk ε1=>match k with
 | true=>tb ε1
 | false=>.ok ao ε1
def qY(ta tb:aj->R Bool):aj->R Bool:=λε=>(ta ε).bind λk ε1=>match k with
 | true=>.ok ai ε1
 | false=>tb ε1
def j4(ta:aj->R Bool):aj->R Bool:=λε=>(ta ε).bind λk ε1=>.ok (!k) ε1
theorem Ac(h:DT X E a ta):DW X E (.BoolOp .Or [a] pos) ta:=λF S ε σ H Q rl q iO ah s I=>Oj r8 iO ah s σ H Q I (h F S ε σ H Q rl q)
theorem Ai(ha:DT X E a ta)(hb:DW X E (.BoolOp .Or (b::rest) pos) tb):DW X E (.BoolOp .Or (a::b::rest) pos) (qY ta tb):=λF S ε σ H Q rl q iO ah s I=>by
 refine P3 r8 R9 iO ah s σ H Q I (ha F S ε σ H _ rl ((Ok.bind q).imp λk ε1 F1 S1 H1 r1 g1 h1=>?_));cases k with
 | true=>exact sk (h1 F1 S1 H1 r1 (bX.refl ..))
 | false=>exact rJ (hb F1 S1 ε1 σ H1 Q r1 h1)
theorem l_(ha:DT X E a ta):DT X E (.UnaryOp .Not a pos) (j4 ta):=λF S ε σ H Q rl q=>sM (Mt r8) (ha F S ε σ H _ rl ((Ok.bind q).imp λk ε1 F1 S1 H1 r1 g1 h1=>h1 F1 S1 H1 r1 (bX.refl ..)))
def ou(da db:aj->R PV):aj->R PV:=λε=>(dB da ε).bind λk ε1=>match k with
 | true=>db ε1
 | false=>.ok (.bl ao) ε1
def UW(da db:aj->R PV):aj->R PV:=λε=>(dB da ε).bind λk ε1=>match k with
 | true=>.ok (.bl ai) ε1
 | false=>db ε1
def Ih(da:aj->R PV):aj->R PV:=λε=>(dB da ε).bind λk ε1=>.ok (.bl (!k)) ε1
theorem Ii{d:aj->R PV}{β:Type}{D:β->aj->(af->Prop)->(Nat->af->Prop)->Hp->Prop}{k:Bool->aj->R β}{F:af->Prop}{S:Nat->af->Prop}{ε:aj}{σ:St}{H:Hp}{P:Bool->Hp->Prop}(h:Ok X.K E σ F S H ((dB d ε).bind k) D) (f:∀ c ε1 F1 S1 H1,a9 X.K F1 S1 ε1 σ H1->bX (U S) (U S1) F F1 H H1->Ok X.K E σ F1 S1 H1 (k c ε1) D->P c H1) : Ok X.K E σ F S H (d ε) (λpv _ F' _ H'=>∀ v,bg X.K H' F' pv v->∃ c,v = .bl c/\P c H'):=by have h2:=(Ok.bind h).imp (C':=λc ε1 F1 S1 H1=>P c H1) λc ε1 F1 S1 H1 r1 g1 h1=>f c ε1 F1 S1 H1 r1 g1 h1;exact rg h2
theorem uf{op}{d:aj->R PV}(h:DE X E a d):DE X E (.BoolOp op [a] pos) d:=λF S ε σ H Q rl q=>cT (Nr cx) (h F S ε σ H Q rl q)
theorem qf(ha:DE X E a da)(hb:DE X E (.BoolOp .And (b::rest) pos) db):DE X E (.BoolOp .And (a::b::rest) pos) (ou da db):=λF S ε σ H Q rl q=>by
 refine cT (KH cx cx) (ha F S ε σ H _ rl (Ii q λk ε1 F1 S1 H1 r1 g1 h1=>?_));cases k with
 | true=>exact sk (hb F1 S1 ε1 σ H1 Q r1 h1)
 | false=>exact rJ (h1 F1 S1 H1 r1 (bX.refl ..) _ rfl)
theorem Rf(ha:DE X E a da):DE X E (.UnaryOp .Not a pos) (Ih da):=λF S ε σ H Q rl q=>cT (RN cx) (ha F S ε σ H _ rl (Ii q λk ε1 F1 S1 H1 r1 g1 h1=>h1 F1 S1 H1 r1 (bX.refl ..) _ rfl))
def cV{α:Type}(t:aj->R Bool)(da db:aj->R α):aj->R α:=λε=>(t ε).bind λk ε1=>match k with
 | true=>da ε1
 | false=>db ε1
def P1(K:az)(r:V->Hp->VK->Prop)(f:PV->Option PV):Prop:=∀ (F:af->Prop) (H:Hp) (x:PV) (v:V) (Q:VK) (pv:PV),bg K H F x v->f x=aa pv->(∀ w F' H',Al F F' H H'->bg K H' F' pv w->Q w H')->r v H Q
def d1(f:PV->Option PV)(da:aj->R PV):aj->R PV:=λε=>(da ε).bind λx ε1=>aS (f x) ε1
theorem Qc{r:V->Hp->VK->Prop}{f:PV->Option PV}(hp:P1 X.K r f)(ha:DE X E a da){F:af->Prop}{S:Nat->af->Prop}{ε:aj}{σ:St}{H:Hp}{Q:VK}(rl:a9 X.K F S ε σ H)(h:Ok X.K E σ F S H (d1 f da ε) (λpv _ F' _ H'=>∀ v,bg X.K H' F' pv v->Q v H')):iV X a σ H λx H1=>r x H1 Q:=by
 refine ha F S ε σ H _ rl ((Ok.bind h).imp λx ε1 F1 S1 H1 r1 g1 h1 v rv=>?_);cases e:f x with
 | none=>rw[e]at h1; exact h1.elim
 | some pv=>rw[e]at h1;exact hp F1 H1 x v Q pv rv e λw F' H' al rw'=>h1 F' S1 H' (r1.al al) al.grow w rw'
theorem sd{op:UnaryOp}{r:V->Hp->VK->Prop}{f:PV->Option PV}(ho:y_ X (unaryOp op) r)(hp:P1 X.K r f)(ha:DE X E a da):DE X E (.UnaryOp op a pos) (d1 f da):=λF S ε σ H Q rl h=>cT (RA ho cx) (Qc hp ha rl h)
end
def pG(X:Cx)(es:List aC):TA:=λσ H Q=>Bx (∀ pos ah s,Inv X ah σ H s->ax (ay X.prog X.w) X.A (spliced (fZ pos (bq es X.env))) (AP X ah σ Q) X.xe s)
def DA(X:Cx)(E:XK)(es:List aC)(d:aj->R (List PV)):Prop :=
 ∀ F S ε σ H Q,a9 X.K F S ε σ H->Ok X.K E σ F S H (d ε) (λpvs _ F' _ H'=>∀ vs,bo X.K H' F' pvs vs->Q vs H')->pG X es σ H Q
section
variable{X:Cx}{E:XK}{a b c e:aC}{es:List aC}{da db dc d:aj->R PV}{ds:aj->R (List PV)}{pos:Pos}
theorem im{es:List aC}:PA X es (pG X es):=λpos ah s _ _ _ I h=>h.run pos ah s I
theorem pO{t:TA}(h:PA X es t){σ:St}{H:Hp}{Q:List V->Hp->Prop}(q:t σ H Q):pG X es σ H Q:=⟨λpos ah s I=>h pos ah s σ H Q I q⟩
def aB:aj->R (List PV):=λε=>.ok [] ε
def aw(d:aj->R PV)(ds:aj->R (List PV)):aj->R (List PV):=λε=>(d ε).bind λx ε1=>(ds ε1).bind λxs ε2=>.ok (x::xs) ε2
theorem bh:DA X E [] aB:=λF S ε σ H Q rl h=>pO mn (h F S H rl (bX.refl ..) _ rfl)
theorem Oz(ha:DE X E e d)(hr:DA X E es ds)(hs:bq (e::es) X.env=(ao,bv e X.env)::bq es X.env:=by rfl):DA X E (e::es) (aw d ds):=λF S ε σ H Q rl h=>by refine pO (kc cx im hs) (ha F S ε σ H _ rl ((Ok.bind h).imp λx ε1 F1 S1 H1 r1 g1 h1 v rv=>?_));refine hr F1 S1 ε1 σ H1 _ r1 ((Ok.bind h1).imp λxs ε2 F2 S2 H2 r2 g2 h2 vs jI=>?_);exact h2 F2 S2 H2 r2 (bX.refl ..) _ ⟨v,vs,rfl,rv.grow g2 r1.fit,jI⟩
theorem a9.more{K:az}{F N:af->Prop}{S:Nat->af->Prop}{ε:aj}{σ:St}{H:Hp}(r:a9 K F S ε σ H)(hn:∀ b,N b->¬ U S b/\∃ o,H b=aa o):a9 K (λb=>F b\/N b) S ε σ H:=by
 have mono:∀ x v,bg K H F x v->bg K H (λb=>F b\/N b) x v:=bg.mono (λ_ h=>.inl h) (λ_ _ _ q=>q) (λ_ _ q _=>q);have monos:∀ x v,bo K H F x v->bo K H (λb=>F b\/N b) x v:=bo.mono (λ_ h=>.inl h) (λ_ _ _ q=>q) (λ_ _ q _=>q);refine⟨r.len,λb h=>h.elim (r.ex b) λz=>(hn b z).2,λi pv e=>?_,λi po e=>?_,λi b h=>?_,r.dist⟩
 ·obtain⟨v,h1,h2⟩:=r.val i pv e; exact⟨v,h1,mono _ _ h2⟩
 ·obtain⟨v,h1,h2⟩:=r.own i po e; exact⟨v,h1,h2.mono mono monos λ_ _ _ z=>z⟩
 ·obtain⟨h1,h2,h3⟩:=r.foot i b h;exact⟨h1,λz=>z.elim h2 λw=>(hn b w).1 ⟨i,h⟩,h3⟩
def E5:PO->Option PV
 | .lst xs=>aa (.lst xs)
 | _=>ae
def dF(d:aj->R PO):aj->R PV:=λε=>(d ε).bind λpo ε1=>aS (E5 po) ε1
theorem DN.de{d:aj->R PO}(h:DN X E e d):DE X E e (dF d):=λF S ε σ H Q rl q=>by
 unfold dF at q;refine h F S ε σ H Q rl ?_;cases e0:d ε with
 | no=>rw[e0]at q; exact q.elim
 | er c ε'=>rw[e0]at q; exact q
 | ok po ε1=>
  rw[e0]at q;intro F1 S1 H1 r1 g1 a Sa ow fr;cases po with
  | dK kvs=>exact q.elim
  | lls f7=>exact q.elim
  | ins C fs=>exact q.elim
  | lst xs=>
   have hN:∀ b,Sa b->¬ U S1 b/\∃ o,H1 b=aa o:=λb z=>let ⟨_,_,x3,o,x4,_⟩:=fr b z; ⟨x3,o,x4⟩
   obtain⟨⟨vs,ha,hr⟩,hS⟩:=ow;have g2:bX (U S) (U S1) F (λb=>F1 b\/Sa b) H H1:=⟨λb z=>.inl (g1.fro b z),g1.keep,g1.there,λb z=>z.elim (g1.fnew b) λw=>.inr (.inl (fr b w).1),g1.onew⟩
   exact q _ S1 H1 (r1.more hN) g2 _ ⟨a,vs,rfl,.inl ha,.inr ((hS a).mpr rfl),bo.mono (λ_ z=>.inl z) (λ_ _ _ z=>z) (λ_ _ z _=>z) _ _ hr⟩
def sA(xs:List PV):Option PV:=if xs.length<=1000 then aa (.tup xs)else ae
def b_(xs:List PV):Option PO:=if xs.length<=1000 then aa (.lst xs)else ae
def dL{α:Type}(f:List PV->Option α)(ds:aj->R (List PV)):aj->R α:=λε=>(ds ε).bind λxs ε1=>aS (f xs) ε1
def PL(K:az)(r:List V->Hp->VK->Prop)(f:List PV->Option PV):Prop:=∀ (F:af->Prop) (H:Hp) (xs:List PV) (vs:List V) (Q:VK) (pv:PV),bo K H F xs vs->f xs=aa pv->(∀ w F' H',Al F F' H H'->bg K H' F' pv w->Q w H')->r vs H Q
def pN(K:az)(r:List V->Hp->VK->Prop)(f:List PV->Option PO):Prop:=∀ (F:af->Prop) (H:Hp) (xs:List PV) (vs:List V) (Q:VK) (po:PO),(∀ a,F a->∃ o,H a=aa o)->bo K H F xs vs->f xs=aa po ->
 (∀ a F' H' Sa,Al F F' H H'->gb K H' F' po a Sa->(∀ b,Sa b->H b=ae/\¬ F' b/\∃ o,H' b=aa o/\gz o)->Q (.ref a) H')->r vs H Q
theorem Bp{r:List V->Hp->VK->Prop}{f:List PV->Option PV}(hp:PL X.K r f)(hd:DA X E es ds){F:af->Prop}{S:Nat->af->Prop}{ε:aj}{σ:St}{H:Hp}{Q:VK}(rl:a9 X.K F S ε σ H)(h:Ok X.K E σ F S H (dL f ds ε) (λpv _ F' _ H'=>∀ v,bg X.K H' F' pv v->Q v H')):pG X es σ H λxs H1=>r xs H1 Q:=by
 refine hd F S ε σ H _ rl ((Ok.bind h).imp λxs ε1 F1 S1 H1 r1 g1 h1 vs jI=>?_);cases e:f xs with
 | none=>rw[e]at h1; exact h1.elim
 | some pv=>rw[e]at h1;exact hp F1 H1 xs vs Q pv jI e λw F' H' al rw'=>h1 F' S1 H' (r1.al al) al.grow w rw'
theorem oC{O O' F F':af->Prop}{H H':Hp}(g:bX O O' F F' H H'){b:af}(h:H' b=ae):H b=ae:=by
 cases q:H b with
 | none=>rfl
 | some o=>obtain⟨o',e⟩:=g.there b o q; rw[h]at e; cases e
theorem yd{r:List V->Hp->VK->Prop}{f:List PV->Option PO}(hp:pN X.K r f)(hd:DA X E es ds){F:af->Prop}{S:Nat->af->Prop}{ε:aj}{σ:St}{H:Hp}{Q:VK}(rl:a9 X.K F S ε σ H)(h:Ok X.K E σ F S H (dL f ds ε) (λpo _ F' S' H'=>∀ a Sa,gb X.K H' F' po a Sa->(∀ b,Sa b->H b=ae/\¬ F' b/\¬ U S' b/\∃ o,H' b=aa o/\gz o)->Q (.ref a) H')):pG X es σ H λxs H1=>r xs H1 Q:=by
 refine hd F S ε σ H _ rl ((Ok.bind h).imp λxs ε1 F1 S1 H1 r1 g1 h1 vs jI=>?_);cases e:f xs with
 | none=>rw[e]at h1; exact h1.elim
 | some po=>
  rw[e]at h1;refine hp F1 H1 xs vs Q po r1.ex jI e λa F' H' Sa al ow fr=>h1 F' S1 H' (r1.al al) al.grow a Sa ow λb z=>?_;obtain⟨z1,z2,o,z3,z4⟩:=fr b z;refine⟨oC g1 z1,z2,λ⟨i,w⟩=>?_,o,z3,z4⟩;obtain⟨_,_,o',w1,_⟩:=r1.foot i b w;rw[z1]at w1; cases w1
theorem AN{n:Nat}(h:n<=1000):n<=bp:=lA (Hv h)
theorem NN{K:az}:PL K (λxs H Q=>xs.length<=bp/\∀ p,H p=ae->Q (.ref p) (upd H p (.tup xs))) sA:=λF H xs vs Q pv rs e q=>by
 unfold sA at e;split at e
 ·cases e;refine⟨by rw[rs.len]; exact AN (by assumption),λp hp=>q _ F _ (Al.new0 hp) ⟨p,vs,rfl,cz,(Al.new0 hp).reps rs⟩⟩
 ·cases e
theorem xJ{K:az}{F:af->Prop}{H:Hp}{l:af}{xs:List PV}{vs:List V}(hl:H l=ae)(rs:bo K H F xs vs):gb K (upd H l (.lst vs)) F (.lst xs) l (λb=>b=l):=⟨⟨vs,cz,(Al.new0 hl).reps rs⟩,λb=>tI⟩
theorem x_{F:af->Prop}{H:Hp}{l:af}{o:HO}(hl:H l=ae)(hF:∀ a,F a->∃ o,H a=aa o)(hn:gz o):∀ b,b=l->H b=ae/\¬ F b/\∃ o',(upd H l o) b=aa o'/\gz o':=λb z=>by
 subst z;exact⟨hl,(λw=>by obtain⟨o,q⟩:=hF b w; rw[hl]at q; cases q),o,cz,hn⟩
theorem Si{K:az}:pN K (λxs H Q=>xs.length<=bp/\∀ p,H p=ae->Q (.ref p) (upd H p (.lst xs))) b_:=λF H xs vs Q po hF rs e q=>by
 unfold b_ at e;split at e
 ·cases e;exact⟨by rw[rs.len]; exact AN (by assumption),λp hp=>q p F _ _ (Al.new0 hp) (xJ hp rs) (x_ hp hF trivial)⟩
 ·cases e
theorem Fb{x1}(h:DA X E es ds):DE X E (.Tuple es x1 pos) (dL sA ds):=λF S ε σ H Q rl q=>cT (Mi im) (Bp NN h rl q)
theorem lg(h:DA X E es ds):DN X E (.List es pos) (dL b_ ds):=λF S ε σ H Q rl q=>cT (SQ im) (yd Si h rl q)
theorem oS(h:DA X E es ds):DE X E (.List es pos) (dF (dL b_ ds)):=(lg h).de
variable{x:Str}{p:Pos}{id T:String}{r:List V->Hp->VK->Prop}{f:List PV->Option PV}{fn:List PV->Option PO}
theorem dO(hc:gL X (.builtin id) r)(hp:PL X.K r f)(hm:X.mg x=ae)(hv:fq x=aa (.builtin id))(ha:DA X E (e::es) ds)(hg:Gl X x:=by rfl)(hn:x≠"__name__":=by decide)(jF:(x == ("__debug__" : Str))=ao:=by decide)(he:bq (e::es) X.env=(ao,bv e X.env)::bq es X.env:=by rfl) (dI:(fZ pos (bq es X.env)).any (·.1)=ao:=by rfl):DE X E (.Call (.Name x p) (e::es) [] pos) (dL f ds):=λF S ε σ H Q rl q=>cT (sN hc hg hm hv im hn jF he dI) (Bp hp ha rl q)
theorem Am(hc:gL X (.builtin id) r)(hp:pN X.K r fn)(hm:X.mg x=ae)(hv:fq x=aa (.builtin id))(ha:DA X E (e::es) ds)(hg:Gl X x:=by rfl)(hn:x≠"__name__":=by decide)(jF:(x == ("__debug__" : Str))=ao:=by decide)(he:bq (e::es) X.env=(ao,bv e X.env)::bq es X.env:=by rfl) (dI:(fZ pos (bq es X.env)).any (·.1)=ao:=by rfl):DN X E (.Call (.Name x p) (e::es) [] pos) (dL fn ds):=λF S ε σ H Q rl q=>cT (sN hc hg hm hv im hn jF he dI) (yd hp ha rl q)
theorem TJ(hc:gL X (.type T) r)(hp:PL X.K r f)(hm:X.mg x=ae)(hv:fq x=aa (.type T))(ha:DA X E (e::es) ds)(hg:Gl X x:=by rfl)(hn:x≠"__name__":=by decide)(jF:(x == ("__debug__" : Str))=ao:=by decide)(he:bq (e::es) X.env=(ao,bv e X.env)::bq es X.env:=by rfl) (dI:(fZ pos (bq es X.env)).any (·.1)=ao:=by rfl):DE X E (.Call (.Name x p) (e::es) [] pos) (dL f ds):=λF S ε σ H Q rl q=>cT (sB hc hg hm hv im hn jF he dI) (Bp hp ha rl q)
theorem Ol(hc:gL X (.type T) r)(hp:pN X.K r fn)(hm:X.mg x=ae)(hv:fq x=aa (.type T))(ha:DA X E (e::es) ds)(hg:Gl X x:=by rfl)(hn:x≠"__name__":=by decide)(jF:(x == ("__debug__" : Str))=ao:=by decide)(he:bq (e::es) X.env=(ao,bv e X.env)::bq es X.env:=by rfl) (dI:(fZ pos (bq es X.env)).any (·.1)=ao:=by rfl):DN X E (.Call (.Name x p) (e::es) [] pos) (dL fn ds):=λF S ε σ H Q rl q=>cT (sB hc hg hm hv im hn jF he dI) (yd hp ha rl q)
theorem fL{r:R2}{f:PV->PV->Option PV}(hr:lX X r)(hp:P2 X.K r f)(ha:DE X E a da)(hb:DE X E b db)(hs:Bb b:=by exact λ_ _=>rfl):DE X E (.Subscript a b pos) (d2 f da db):=λF S ε σ H Q rl h=>cT (Gd hr cx cx hs) (yQ hp ha hb rl h)
def Bm(X:Cx)(e:Option aC):TO:=λσ H Q=>Bx (∀ ah s,Inv X ah σ H s->ax (ay X.prog X.w) X.A (evalPart e X.env) (λu s'=>∃ o H',Inv X ah σ H' s'/\nQ u o/\Q o H') X.xe s)
theorem Ej{o:Option aC}:L2.PO X o (Bm X o):=λah s _ _ _ I h=>h.run ah s I
theorem IP{o:Option aC}{t:TO}(h:L2.PO X o t){σ:St}{H:Hp}{Q:Option Int->Hp->Prop}(q:t σ H Q):Bm X o σ H Q:=⟨λah s I=>h ah s σ H Q I q⟩
def DO(X:Cx)(E:XK)(e:Option aC)(d:aj->R (Option Int)):Prop:=∀ F S ε σ H Q,a9 X.K F S ε σ H->Ok X.K E σ F S H (d ε) (λo _ _ _ H'=>Q o H')->Bm X e σ H Q
def bW:aj->R (Option Int):=λε=>.ok ae ε
def RD:PV->Option Int
 | .int i=>aa i
 | _=>ae
def aM(d:aj->R PV):aj->R (Option Int):=λε=>(d ε).bind λx ε1=>aS ((RD x).map aa) ε1
theorem iY:DO X E ae bW:=λF S ε σ H Q rl h=>IP NS (h F S H rl (bX.refl ..))
theorem c9(he:DE X E e d):DO X E (aa e) (aM d):=λF S ε σ H Q rl h=>by
 refine IP (PD cx) (he F S ε σ H _ rl ((Ok.bind h).imp λx ε1 F1 S1 H1 r1 g1 h1 v rv=>?_));cases x <;> first | exact(show False from h1).elim | skip
 rename_i i;exact⟨i,rv,h1 F1 S1 H1 r1 (bX.refl ..)⟩
def ba{α:Type}(f:PV->Option Int->Option Int->Option α)(d:aj->R PV)(dl du:aj->R (Option Int)):aj->R α:=λε=>(d ε).bind λx ε1=>(dl ε1).bind λl ε2=>(du ε2).bind λu ε3=>aS (f x l u) ε3
def GP(K:az)(r:V->Option Int->Option Int->Hp->VK->Prop)(f:PV->Option Int->Option Int->Option PV):Prop:=∀ (F:af->Prop) (H:Hp) (x:PV) (lo hi:Option Int) (v:V) (Q:VK) (pv:PV),bg K H F x v->f x lo hi=aa pv->(∀ w F' H',Al F F' H H'->bg K H' F' pv w->Q w H')->r v lo hi H Q
theorem eU{r:V->Option Int->Option Int->Hp->VK->Prop}{f:PV->Option Int->Option Int->Option PV}{lo hi:Option aC}{dl du:aj->R (Option Int)}{p2:Pos}(hr:m8 X r)(hp:GP X.K r f)(he:DE X E e d)(hl:DO X E lo dl)(hu:DO X E hi du) : DE X E (.Subscript e (.Slice lo hi ae p2) pos) (ba f d dl du):=λF S ε σ H Q rl h=>by
 refine cT (OH hr cx Ej Ej) (he F S ε σ H _ rl ((Ok.bind h).imp λx ε1 F1 S1 H1 r1 g1 h1 v rv=>?_));refine hl F1 S1 ε1 σ H1 _ r1 ((Ok.bind h1).imp λl ε2 F2 S2 H2 r2 g2 h2=>?_);refine hu F2 S2 ε2 σ H2 _ r2 ((Ok.bind h2).imp λu ε3 F3 S3 H3 r3 g3 h3=>?_);cases e3:f x l u with
 | none=>rw[e3]at h3; exact h3.elim
 | some pv=>rw[e3]at h3;exact hp F3 H3 x l u v Q pv ((rv.grow g2 r1.fit).grow g3 r2.fit) e3 λw F' H' al rw'=>h3 F' S3 H' (r3.al al) al.grow w rw'
end
inductive aH where
 | next | ret (s:Slot) | brk | cont
def yv(K:az)(H:Hp)(F:af->Prop)(s:Slot)(v:V)(Sr:af->Prop):Prop:=match s with
 | .val pv=>bg K H F pv v/\∀ b,¬ Sr b
 | .own po=>∃ a,v = .ref a/\gb K H F po a Sr
 | .none=>False
def j6(pin:List Nat)(σ σ':St):Prop:=∀ i∈pin,σ'[i]?=σ[i]?
theorem j6.refl(pin:List Nat)(σ:St):j6 pin σ σ:=λ_ _=>rfl
theorem j6.trans{pin:List Nat}{σ σ1 σ2:St}(a:j6 pin σ σ1)(b:j6 pin σ1 σ2):j6 pin σ σ2:=λi h=>(b i h).trans (a i h)
theorem j6.set{pin:List Nat}{σ:St}{i:Nat}{x:Option V}(h:i∉pin):j6 pin σ (σ.set i x):=λj hj=>by rw[fI (by rintro rfl; exact h hj)]
def yS(F':af->Prop)(S':Nat->af->Prop)(H':Hp)(Sr:af->Prop):Prop:=∀ b,Sr b->¬ F' b/\¬ U S' b/\∃ o,H' b=aa o/\gz o
def i6(K:az)(E:XK)(pin:List Nat)(σ:St)(F:af->Prop)(S:Nat->af->Prop)(H:Hp)(r:R aH)(D:ln):Prop:=match r with
 | .ok .next ε'=>∀ F' S' σ' H',a9 K F' S' ε' σ' H'->bX (U S) (U S') F F' H H'->j6 pin σ σ'->D.nx σ' H'
 | .ok .brk ε'=>∀ F' S' σ' H',a9 K F' S' ε' σ' H'->bX (U S) (U S') F F' H H'->j6 pin σ σ'->D.bk σ' H'
 | .ok .cont ε'=>∀ F' S' σ' H',a9 K F' S' ε' σ' H'->bX (U S) (U S') F F' H H'->j6 pin σ σ'->D.ct σ' H'
 | .ok (.ret s) ε'=>∀ v F' S' σ' H' Sr,a9 K F' S' ε' σ' H'->bX (U S) (λb=>U S' b\/Sr b) F F' H H'->j6 pin σ σ'->yv K H' F' s v Sr->yS F' S' H' Sr->D.rt v H'
 | .er c ε'=>∀ x F' S' σ' H',a9 K F' S' ε' σ' H'->bX (U S) (U S') F F' H H'->j6 pin σ σ'->E c x H'
 | .no=>False
def DS(X:Cx)(E:XK)(pin:List Nat)(st:bf)(d:aj->R aH):Prop:=∀ F S ε σ H D,a9 X.K F S ε σ H->i6 X.K E pin σ F S H (d ε) D->wpS X st D σ H
def jj(X:Cx)(E:XK)(pin:List Nat)(st:List bf)(d:aj->R aH):Prop:=∀ F S ε σ H D,a9 X.K F S ε σ H->i6 X.K E pin σ F S H (d ε) D->uI X st D σ H
section
variable{K:az}{E:XK}{pin:List Nat}{σ σ1:St}{F F1:af->Prop}{S S1:Nat->af->Prop}{H H1:Hp}{D:ln}
theorem i6.from{r:R aH}(h:i6 K E pin σ F S H r D)(g:bX (U S) (U S1) F F1 H H1)(p:j6 pin σ σ1):i6 K E pin σ1 F1 S1 H1 r D:=by
 cases r with
 | no=>exact h
 | er c ε'=>exact λx F' S' σ' H' r' g' p'=>h x F' S' σ' H' r' (g.trans g') (p.trans p')
 | ok f ε'=>
  cases f with
  | next=>exact λF' S' σ' H' r' g' p'=>h F' S' σ' H' r' (g.trans g') (p.trans p')
  | brk=>exact λF' S' σ' H' r' g' p'=>h F' S' σ' H' r' (g.trans g') (p.trans p')
  | cont=>exact λF' S' σ' H' r' g' p'=>h F' S' σ' H' r' (g.trans g') (p.trans p')
  | ret s=>exact λv F' S' σ' H' Sr r' g' p'=>h v F' S' σ' H' Sr r' (g.trans g') (p.trans p')
theorem i6.bindE{α:Type}{r:R α}{k:α->aj->R aH}(h:i6 K E pin σ F S H (r.bind k) D):Ok K E σ F S H r (λa ε1 F1 S1 H1=>i6 K E pin σ F1 S1 H1 (k a ε1) D):=by
 cases r with
 | no=>exact h
 | er c ε'=>exact λx F' S' H' r' g'=>h x F' S' σ H' r' g' (j6.refl _ _)
 | ok a ε'=>exact λF' S' H' r' g'=>h.from g' (j6.refl _ _)
end
section
variable{X:Cx}{E:XK}{pin:List Nat}{st:bf}{rest:List bf}{d d1 d2:aj->R aH}{e:aC}{de:aj->R PV}{pos:Pos}
def dG:aj->R aH:=λε=>.ok .next ε
theorem fX:jj X E pin [] dG:=λF S ε σ H D rl h=>BF L7 (h F S σ H rl (bX.refl ..) (j6.refl _ _))
def aF(d1 d2:aj->R aH):aj->R aH:=λε=>match d1 ε with
 | .ok .next ε1=>d2 ε1
 | r=>r
theorem bn(h1:DS X E pin st d1)(h2:jj X E pin rest d2):jj X E pin (st::rest) (aF d1 d2):=λF S ε σ H D rl h=>by
 refine BF (KR Fz sC) (h1 F S ε σ H { D with nx:=uI X rest D } rl ?_);unfold aF at h;split at h
 ·rename_i ε1 e1;rw[e1];exact λF' S' σ' H' r' g' p'=>h2 F' S' ε1 σ' H' D r' (h.from g' p')
 ·rename_i r cP;generalize d1 ε=r1 at h cP;cases r1 with
  | no=>exact h
  | er c ε'=>exact h
  | ok f ε'=>
   cases f with
   | next=>exact absurd rfl (cP ε')
   | brk=>exact h
   | cont=>exact h
   | ret s=>exact h
theorem aZ(h1:DS X E pin st d1):jj X E pin [st] d1:=λF S ε σ H D rl h=>BF (L4 Fz) (h1 F S ε σ H D rl h)
def IJ(f:aH):aj->R aH:=λε=>.ok f ε
def U1(d:aj->R PV):aj->R aH:=λε=>(d ε).bind λ_ ε1=>.ok .next ε1
def dJ(d:aj->R PV):aj->R aH:=λε=>(d ε).bind λx ε1=>.ok (.ret (.val x)) ε1
theorem bX.cup{O O' F F':af->Prop}{H H':Hp}(g:bX O O' F F' H H'):bX O (λb=>O' b\/False) F F' H H':=⟨g.fro,g.keep,g.there,g.fnew,λa h=>h.elim (g.onew a) kj⟩
theorem fG(he:DE X E e de):DS X E pin (.Return (aa e) pos) (dJ de):=λF S ε σ H D rl h=>iZ (xy cx) (he F S ε σ H _ rl (h.bindE.imp λx ε1 F1 S1 H1 r1 g1 h1 v rv=>h1 v F1 S1 σ H1 (λ_=>False) r1 (bX.refl ..).cup (j6.refl _ _) ⟨rv,λ_ z=>z⟩ λ_ z=>z.elim))
theorem SS:DS X E pin (.Return ae pos) (IJ (.ret (.val .non))):=λF S ε σ H D rl h=>iZ Tr (h _ F S σ H (λ_=>False) rl (bX.refl ..).cup (j6.refl _ _) ⟨rfl,λ_ z=>z⟩ λ_ z=>z.elim)
def kD(d:aj->R PO):aj->R aH:=λε=>(d ε).bind λx ε1=>.ok (.ret (.own x)) ε1
theorem uF{dn:aj->R PO}(he:DN X E e dn):DS X E pin (.Return (aa e) pos) (kD dn):=λF S ε σ H D rl h=>by
 refine iZ (xy cx) (he F S ε σ H _ rl ?_);unfold kD at h;cases e0:dn ε with
 | no=>rw[e0]at h; exact h.elim
 | er c ε'=>rw[e0]at h; exact λx F' S' H' r' g'=>h x F' S' σ H' r' g' (j6.refl _ _)
 | ok po ε1=>rw[e0]at h;intro F1 S1 H1 r1 g1 a Sa ow fr;exact h _ F1 S1 σ H1 Sa r1 ⟨g1.fro,g1.keep,g1.there,g1.fnew,λb z=>z.elim (g1.onew b) λw=>.inr (fr b w).1⟩ (j6.refl _ _) ⟨a,rfl,ow⟩ λb z=>let ⟨_,x2,x3,x4⟩:=fr b z; ⟨x2,x3,x4⟩
def fg(i:Nat):aj->R aH:=λε=>match ε[i]? with
 | some (.own po)=>.ok (.ret (.own po)) (ε.set i .none)
 | _=>.no
theorem a9.drop{K:az}{F:af->Prop}{S:Nat->af->Prop}{ε:aj}{σ:St}{H:Hp}(r:a9 K F S ε σ H)(i:Nat):a9 K F (λj b=>S j b/\j≠i) (ε.set i .none) σ H:=by
 have no:∀ {j s},(ε.set i .none)[j]?=aa s->s≠.none->j≠i/\ε[j]?=aa s:=λ{j s} e hs=>by
  by_cases hj:i=j
  ·subst hj;by_cases hi:i<ε.length
   ·rw[ip hi]at e; exact absurd (eJ e).symm hs
   ·rw[jA (by rw[k9]; lia)]at e; cases e
  ·rw[fI hj]at e; exact⟨gW hj,e⟩
 refine⟨by rw[k9]; exact r.len,r.ex,λj pv e=>r.val j pv (no e (by intro z; cases z)).2,λj po e=>?_,λj b h=>?_,λj k b h1 h2=>r.dist j k b h1.1 h2.1⟩
 ·obtain⟨hj,e⟩:=no e (by intro z; cases z);obtain⟨a,h1,h2⟩:=r.own j po e;have eS:(λb=>S j b/\j≠i)=S j:=by funext b; simp[hj]
  exact⟨a,h1,by rw[eS]; exact h2⟩
 ·obtain⟨⟨po,q1⟩,q2⟩:=r.foot j b h.1;exact⟨⟨po,by rw[fI (gW h.2)]; exact q1⟩,q2⟩
theorem mq(i:Nat){x:Str}{p:Pos}(hN:X.N[i]?=aa x:=by rfl)(hv:fW X.env.scope x:=by first | exact Or.inl rfl | exact Or.inr (Or.inl rfl) | exact Or.inr (Or.inr rfl))(hd:(x == ("__debug__" : Str))=ao:=by decide)(bM:(x == ("__classdict__" : Str))=ao:=by decide):DS X E pin (.Return (aa (.Name x p)) pos) (fg i):=λF S ε σ H D rl h=>by
 unfold fg at h;split at h
 ·rename_i po e;obtain⟨a,e1,ow⟩:=rl.own i po e;refine iZ (xy (gP hN hv hd bM)) ⟨_,e1,h _ F (λj b=>S j b/\j≠i) σ H (S i) (rl.drop i) ⟨λ_ z=>z,λ_ _ z _=>z,λ_ o z=>⟨o,z⟩,λ_ z=>.inl z,λb z=>?_⟩ (j6.refl _ _) ⟨a,rfl,ow⟩ λb z=>?_⟩
  ·rcases z with⟨j,z,_⟩ | z
   ·exact .inl ⟨j,z⟩
   ·exact .inl ⟨i,z⟩
  ·exact⟨(rl.foot i b z).2.1,λ⟨j,w,hj⟩=>hj (rl.dist j i b w z),(rl.foot i b z).2.2⟩
 ·exact h.elim
theorem a9.set{K:az}{F:af->Prop}{S:Nat->af->Prop}{ε:aj}{σ:St}{H:Hp}{i:Nat}{pv:PV}{v:V}(r:a9 K F S ε σ H)(h:bg K H F pv v):a9 K F (λj b=>S j b/\j≠i) (ε.set i (.val pv)) (σ.set i (aa v)) H:=by
 have r0:=r.drop i;have len:(ε.set i (.val pv)).length=(σ.set i (aa v)).length:=by rw[k9,k9]; exact r.len
 refine⟨len,r.ex,λj p e=>?_,λj po e=>?_,λj b h=>?_,r0.dist⟩
 ·by_cases hj:i=j
  ·subst hj;have hi:i<ε.length:=by have:=(eu.mp e).1;rw[k9]at this; exact this
   rw[ip hi]at e;cases e;exact⟨v,ip (by rw[← r.len]; exact hi),h⟩
  ·rw[fI hj]at e;obtain⟨w,h1,h2⟩:=r.val j p e;exact⟨w,by rw[fI hj]; exact h1,h2⟩
 ·have hj:i≠j:=by
   rintro rfl;have hi:i<ε.length:=by have:=(eu.mp e).1;rw[k9]at this; exact this
   rw[ip hi]at e; cases e
  rw[fI hj]at e;obtain⟨a,h1,h2⟩:=r.own j po e;have eS:(λb=>S j b/\j≠i)=S j:=by funext b; simp[gW hj]
  exact⟨a,by rw[fI hj]; exact h1,by rw[eS]; exact h2⟩
 ·obtain⟨⟨po,q1⟩,q2⟩:=r0.foot j b h;refine⟨⟨po,?_⟩,q2⟩;rw[fI (gW h.2)]at q1 ⊢;exact q1
theorem bX.less{S:Nat->af->Prop}{F:af->Prop}{H:Hp}(i:Nat):bX (U S) (U λj b=>S j b/\j≠i) F F H H:=⟨λ_ z=>z,λ_ _ z _=>z,λ_ o z=>⟨o,z⟩,λ_ z=>.inl z,λb ⟨j,z⟩=>.inl ⟨j,z.1⟩⟩
theorem a9.setOwn{K:az}{F:af->Prop}{S:Nat->af->Prop}{ε:aj}{σ:St}{H:Hp}{i:Nat}{po:PO}{a:af}{Sa:af->Prop}(r:a9 K F S ε σ H)(hi:i<ε.length)(h:gb K H F po a Sa)(fr:yS F S H Sa) : a9 K F (λj b=>(S j b/\j≠i)\/(j=i/\Sa b)) (ε.set i (.own po)) (σ.set i (aa (.ref a))) H:=by
 have r0:=r.drop i;refine⟨by rw[k9,k9]; exact r.len,r.ex,λj p e=>?_,λj po' e=>?_,λj b h=>?_,λj k b h1 h2=>?_⟩
 ·have hj:i≠j:=by rintro rfl; rw[ip hi]at e; cases e
  rw[fI hj]at e;obtain⟨w,h1,h2⟩:=r.val j p e;exact⟨w,by rw[fI hj]; exact h1,h2⟩
 ·by_cases hj:i=j
  ·subst hj;rw[ip hi]at e;cases e;have eS:(λb=>(S i b/\i≠i)\/(i=i/\Sa b))=Sa:=by funext b; simp
   exact⟨a,ip (by rw[← r.len]; exact hi),by rw[eS]; exact h⟩
  ·rw[fI hj]at e;obtain⟨a',h1,h2⟩:=r.own j po' e;have eS:(λb=>(S j b/\j≠i)\/(j=i/\Sa b))=S j:=by funext b; simp[gW hj]
   exact⟨a',by rw[fI hj]; exact h1,by rw[eS]; exact h2⟩
 ·rcases h with h | ⟨rfl,h⟩
  ·obtain⟨⟨po',q1⟩,q2⟩:=r0.foot j b h;refine⟨⟨po',?_⟩,q2⟩;rw[fI (gW h.2)]at q1 ⊢;exact q1
  ·obtain⟨x1,x2,x3⟩:=fr b h;exact⟨⟨po,ip hi⟩,x1,x3⟩
 ·rcases h1 with h1 | ⟨rfl,h1⟩ <;> rcases h2 with h2 | ⟨rfl,h2⟩
  ·exact r.dist j k b h1.1 h2.1
  ·exact absurd ⟨j,h1.1⟩ (fr b h2).2.1
  ·exact absurd ⟨k,h2.1⟩ (fr b h1).2.1
  ·rfl
def bH(i:Nat)(d:aj->R PV):aj->R aH:=λε=>(d ε).bind λx ε1=>.ok .next (ε1.set i (.val x))
theorem fe(i:Nat){x:Str}{p:Pos}(hN:X.N.Nodup)(he:DE X E e de)(hp:i∉pin:=by decide)(hi:X.N[i]?=aa x:=by rfl)(hx:Loc X.env.scope x:=by first | exact Or.inl rfl | exact Or.inr rfl)(hs:mB e (aa (.Name x p)) pos.line X.env=pure ao:=by rfl)(hf:X.fn x=ai\/X.env.scope.names.lookup x=aa .local:=by first | exact .inl rfl | exact .inr rfl):DS X E pin (.Assign [.Name x p] e pos) (bH i de):=λF S ε σ H D rl h=>iZ (IA hN hi hx cx hs hf) (he F S ε σ H _ rl (h.bindE.imp λx ε1 F1 S1 H1 r1 g1 h1 v rv=>h1 F1 _ _ H1 (r1.set rv) (bX.less i) (j6.set hp)))
def cQ(i:Nat)(d:aj->R PO):aj->R aH:=λε=>(d ε).bind λx ε1=>if i<ε1.length then .ok .next (ε1.set i (.own x))else .no
theorem jR(i:Nat){x:Str}{p:Pos}{dn:aj->R PO}(hN:X.N.Nodup)(he:DN X E e dn)(hp:i∉pin:=by decide)(hi:X.N[i]?=aa x:=by rfl)(hx:Loc X.env.scope x:=by first | exact Or.inl rfl | exact Or.inr rfl)(hs:mB e (aa (.Name x p)) pos.line X.env=pure ao:=by rfl)(hf:X.fn x=ai\/X.env.scope.names.lookup x=aa .local:=by first | exact .inl rfl | exact .inr rfl):DS X E pin (.Assign [.Name x p] e pos) (cQ i dn):=λF S ε σ H D rl h=>by
 refine iZ (IA hN hi hx cx hs hf) (he F S ε σ H _ rl ?_);unfold cQ at h;cases e0:dn ε with
 | no=>rw[e0]at h; exact h.elim
 | er c ε'=>rw[e0]at h; exact λx F' S' H' r' g'=>h x F' S' σ H' r' g' (j6.refl _ _)
 | ok po ε1=>
  rw[e0]at h;simp only[R.bind_ok]at h;intro F1 S1 H1 r1 g1 a Sa ow fr;by_cases hl:i<ε1.length
  ·rw[if_pos hl]at h;refine h F1 _ _ H1 (r1.setOwn hl ow λb z=>(fr b z).2) ⟨g1.fro,g1.keep,g1.there,g1.fnew,λb ⟨j,z⟩=>?_⟩ (j6.set hp);rcases z with z | ⟨_,z⟩
   ·exact g1.onew b ⟨j,z.1⟩
   ·exact .inr (fr b z).1
  ·rw[if_neg hl]at h; exact h.elim
theorem fY{c:aC}{a b:List bf}{t:aj->R Bool}(hc:DT X E c t)(ha:jj X E pin a d1)(hb:jj X E pin b d2):DS X E pin (.If c a b pos) (cV t d1 d2):=λF S ε σ H D rl h=>by
 refine iZ (S5 r8 sC sC) (hc F S ε σ H _ rl (h.bindE.imp λk ε1 F1 S1 H1 r1 g1 h1=>?_));cases k with
 | true=>exact sk (ha F1 S1 ε1 σ H1 D r1 h1)
 | false=>exact rJ (hb F1 S1 ε1 σ H1 D r1 h1)
def Gg:aj->R aH:=λ_=>.no
theorem SW{sts:List bf}:jj X E pin sts Gg:=λ_ _ _ _ _ _ _ h=>h.elim
def cr(r:R aH):R aH:=match r with
 | .er _ _=>.no
 | r=>r
theorem jM(h:DS X.nox E0 pin st d):DS X E pin st (λε=>cr (d ε)):=λF S ε σ H D rl q=>Bx.mk λah s I=>by
 have q:i6 X.K E pin σ F S H (cr (d ε)) D:=q;have q':i6 X.K E0 pin σ F S H (d ε) D:=by
  cases e:d ε with
  | no=>rw[e]at q; exact q
  | er c ε'=>rw[e]at q; exact q.elim
  | ok f ε'=>rw[e]at q; cases f <;> exact q
 exact dW ((h F S ε σ H D rl q').run ah s (I.wish _)) (λ_ _ z=>z.unwish) λ_ _ z=>z.elim
def sO(X:Cx)(tg iter:aC):TI:=λσ H Rr=>Bx (∀ ah s,Inv X ah σ H s->ax (ay X.prog X.w) X.A (bv iter X.env) (λv s1=>ax (ay X.prog X.w) X.A (o5 v) (xl X ah σ tg Rr) X.xe s1) X.xe s)
theorem Cj{tg iter:aC}:PI X tg iter (sO X tg iter):=λah s _ _ _ I h=>h.run ah s I
theorem FA{tg iter:aC}{t:TI}(h:PI X tg iter t){σ:St}{H:Hp}{Rr:It->Hp->Prop}(q:t σ H Rr):sO X tg iter σ H Rr:=⟨λah s I=>h ah s σ H Rr I q⟩
def DI(X:Cx)(E:XK)(tg iter:aC)(d:aj->R (List PV)):Prop:=∀ F S ε σ H Rr,a9 X.K F S ε σ H ->
 Ok X.K E σ F S H (d ε) (λpvs _ F' S' H'=>∀ J vs RR,bo X.K H' F' pvs vs->vs.length<=bp->Walk J vs RR->(∀ S'' F'' H'',bX (U S') (U S'') F' F'' H' H''->RR H'')->Rr J H')->sO X tg iter σ H Rr
def eh(i:Nat)(db:aj->R aH):List PV->aj->R aH
 | [],ε=>.ok .next ε
 | x::xs,ε=>match db (ε.set i (.val x))with
  | .ok .next ε'=>eh i db xs ε'
  | .ok .cont ε'=>eh i db xs ε'
  | .ok .brk ε'=>.ok .next ε'
  | r=>r
def cq(i:Nat)(di:aj->R (List PV))(db:aj->R aH):aj->R aH:=λε=>(di ε).bind λxs ε1=>eh i db xs ε1
theorem iG(i:Nat){x:Str}{p:Pos}{iter:aC}{body:List bf}{di:aj->R (List PV)}{db:aj->R aH}(hpo:Cv (ay X.prog X.w) X.A X.env X.xe)(hc:X.calm=ai)(hN:X.N.Nodup)(hi:DI X E (.Name x p) iter di)(hb:jj X E pin body db)(hp:i∉pin:=by decide) (hx:X.N[i]?=aa x:=by rfl) (hl:Loc X.env.scope x:=by first | exact Or.inl rfl | exact Or.inr rfl) (hs:∀ x,vF iter X.env x=pure x:=by intro _; rfl)(hf:X.fn x=ai\/X.env.scope.names.lookup x=aa .local:=by first | exact .inl rfl | exact .inr rfl):DS X E pin (.For (.Name x p) iter body [] pos) (cq i di db):=λF S ε σ H D rl h=>by
 refine iZ (OM hpo hc Cj (Cp hN hx hl hf) sC hs) (hi F S ε σ H _ rl (h.bindE.imp λxs ε1 F1 S1 H1 r1 g1 h1 J vs RR rs hz hw keep=>?_));refine QN hw (λk σ' H'=>∃ F' S' ε',a9 X.K F' S' ε' σ' H'/\bX (U S1) (U S') F1 F' H1 H'/\i6 X.K E pin σ' F' S' H' (eh i db (xs.drop k) ε') D) ⟨F1,S1,ε1,r1,bX.refl ..,h1⟩ (λk σ' H' _ ⟨F',S',ε',_,g,_⟩=>keep S' F' H' g) ?_ ?_
 ·rintro k v σ' H' hv ⟨F',S',ε',r',g',q⟩;obtain⟨x,hx,rx⟩:=rs.back hv;have hk:k<xs.length:=(eu.mp hx).1;have ed:xs.drop k=x::xs.drop (k+1):=by rw[zC hk];congr 1;exact(eu.mp hx).2
  rw[ed]at q;have rx':=rx.grow g' r1.fit;have r2:=r'.set (i:=i) rx';have gl:bX (U S') (U λj b=>S' j b/\j≠i) F' F' H' H':=bX.less i;show uI X body _ (σ'.set i (aa v)) H';refine hb F' _ _ _ H' _ r2 ?_;unfold eh at q;have q:=q.from gl (j6.set (x:=aa v) hp);cases e:db (ε'.set i (.val x))with
  | no=>rw[e]at q; exact q
  | er c ε3=>rw[e]at q; exact q
  | ok f ε3=>
   rw[e]at q;cases f with
   | next=>exact λF3 S3 σ3 H3 r3 g3 p3=>⟨F3,S3,ε3,r3,(g'.trans gl).trans g3,q.from g3 p3⟩
   | cont=>exact λF3 S3 σ3 H3 r3 g3 p3=>⟨F3,S3,ε3,r3,(g'.trans gl).trans g3,q.from g3 p3⟩
   | brk=>exact q
   | ret s=>exact q
 ·rintro σ' H' ⟨F',S',ε',r',g',q⟩;have hl:vs.length=xs.length:=rs.len;rw[hl,JP]at q;exact q F' S' σ' H' r' (bX.refl ..) (j6.refl _ _)
def eI(t:aj->R Bool)(db:aj->R aH):Nat->aj->R aH
 | 0,_=>.no
 | n+1,ε=>(t ε).bind λk ε1=>match k with
  | false=>.ok .next ε1
  | true=>match db ε1 with
   | .ok .next ε'=>eI t db n ε'
   | .ok .cont ε'=>eI t db n ε'
   | .ok .brk ε'=>.ok .next ε'
   | r=>r
theorem xX{c:aC}{body:List bf}{t:aj->R Bool}{db:aj->R aH}(bx:aj->Nat)(hpo:Cv (ay X.prog X.w) X.A X.env X.xe)(hc:DT X E c t)(hb:jj X E pin body db):DS X E pin (.While c body [] pos) (λε=>eI t db (bx ε) ε):=λF S ε σ H D rl h=>by
 refine iZ (Sj hpo r8 sC) ⟨λm σ' H'=>∃ F' S' ε',a9 X.K F' S' ε' σ' H'/\i6 X.K E pin σ' F' S' H' (eI t db m ε') D,⟨bx ε,F,S,ε,rl,h⟩,?_⟩;rintro m σ1 H1 ⟨F1,S1,ε1,r1,q⟩;cases m with
 | zero=>exact q.elim
 | succ m=>
  refine hc F1 S1 ε1 σ1 H1 _ r1 (q.bindE.imp λk ε2 F2 S2 H2 r2 g2 q2=>?_);cases k with
  | false=>exact rJ (q2 F2 S2 σ1 H2 r2 (bX.refl ..) (j6.refl _ _))
  | true=>
   refine sk ⟨λσ' H'=>∃ F' S' ε',a9 X.K F' S' ε' σ' H'/\i6 X.K E pin σ' F' S' H' (eI t db m ε') D,λσ' H' w=>⟨m,mE m,w⟩,hb F2 S2 ε2 σ1 H2 _ r2 ?_⟩;have q2:i6 X.K E pin σ1 F2 S2 H2 (match db ε2 with
    | .ok .next ε'=>eI t db m ε'
    | .ok .cont ε'=>eI t db m ε'
    | .ok .brk ε'=>.ok .next ε'
    | r=>r) D:=q2
   cases e:db ε2 with
   | no=>rw[e]at q2; exact q2
   | er c ε3=>rw[e]at q2; exact q2
   | ok f ε3=>
    rw[e]at q2;cases f with
    | next=>exact λF3 S3 σ3 H3 r3 g3 p3=>⟨F3,S3,ε3,r3,q2.from g3 p3⟩
    | cont=>exact λF3 S3 σ3 H3 r3 g3 p3=>⟨F3,S3,ε3,r3,q2.from g3 p3⟩
    | brk=>exact q2
    | ret s=>exact q2
end
def yM(K:az)(E:XK)(vs:List V)(F:af->Prop)(S:Nat->af->Prop)(H:Hp)(r:R Slot)(Q:VK):Prop:=match r with
 | .ok s aR=>∀ v F' S' H' Sr,a9 K F' S' aR (vs.map aa) H'->bX (U S) (λb=>U S' b\/Sr b) F F' H H'->yv K H' F' s v Sr->yS F' S' H' Sr->(∀ b,Sr b->H b=ae)->Q v H'
 | .er c aR=>∀ x F' S' H',a9 K F' S' aR (vs.map aa) H'->bX (U S) (U S') F F' H H'->E c x H'
 | .no=>False
def b0(K:az)(g:aj->R Slot):Sp:=λvs H Q E=>∃ F S ss,a9 K F S ss (vs.map aa) H/\yM K E vs F S H (g ss) Q
structure cm(CX:fV)(P:aX)(w:aN)(K:az)(mg:Str->Option ak)(base:aE)(x:Str)(k:Nat)(ps:List Str)(sp:Sp):Prop where
 ex:∃ f fd,mg x=aa (.ref f)/\jn P w K mg base CX k f fd ps sp/\Binds K fd ps []/\sV K (.ref f)=ai
theorem cm.mono{CX:fV}{P:aX}{w:aN}{K:az}{mg:Str->Option ak}{base:aE}{x:Str}{j k:Nat}{ps:List Str}{sp:Sp}(c:cm CX P w K mg base x j ps sp)(h:j<=k):cm CX P w K mg base x k ps sp:=by obtain⟨f,fd,h1,h2,h3,h4⟩:=c.ex;exact⟨f,fd,h1,h2.mono h,h3,h4⟩
def back:aj->aj->Option aj
 | [],_=>aa []
 | .own _::ss,.own po::es=>(back ss es).map (.own po::·)
 | .own _::_,_=>ae
 | s::ss,_::es=>(back ss es).map (s::·)
 | _::_,[]=>ae
theorem xY:∀ {ss es aR:aj},back ss es=aa aR->aR.length=ss.length/\∀ (i:Nat) (s:Slot),aR[i]?=aa s->(∃ po po',ss[i]?=aa (.own po)/\es[i]?=aa (.own po')/\s = .own po')\/(ss[i]?=aa s/\∀ po,s≠.own po)
 | [],_,aR,h=>by cases h; exact⟨rfl,λi s e=>by simp at e⟩
 | .own po::ss,.own po'::es,aR,h=>by
  unfold back at h;cases e:back ss es with
  | none=>rw[e]at h; cases h
  | some r=>
   rw[e]at h; cases h;obtain⟨l,q⟩:=xY e;refine⟨by simp[l],λi s hi=>?_⟩;cases i with
   | zero=>simp at hi; subst hi; exact .inl ⟨po,po',rfl,rfl,rfl⟩
   | succ i=>simpa using q i s (by simpa using hi)
 | .own po::ss,.none::es,aR,h=>by cases h
 | .own po::ss,.val _::es,aR,h=>by cases h
 | .own po::ss,[],aR,h=>by cases h
 | .none::ss,[],aR,h=>by cases h
 | .val _::ss,[],aR,h=>by cases h
 | .none::ss,x::es,aR,h=>by
  have h:(back ss es).map (Slot.none::·)=aa aR:=by unfold back at h; cases x <;> exact h
  cases e:back ss es with
  | none=>rw[e]at h; cases h
  | some r=>
   rw[e]at h; cases h;obtain⟨l,q⟩:=xY e;refine⟨by simp[l],λi s hi=>?_⟩;cases i with
   | zero=>simp at hi; subst hi; exact .inr ⟨rfl,λ_ z=>by cases z⟩
   | succ i=>simpa using q i s (by simpa using hi)
 | .val pv::ss,x::es,aR,h=>by
  have h:(back ss es).map (Slot.val pv::·)=aa aR:=by unfold back at h; cases x <;> exact h
  cases e:back ss es with
  | none=>rw[e]at h; cases h
  | some r=>
   rw[e]at h; cases h;obtain⟨l,q⟩:=xY e;refine⟨by simp[l],λi s hi=>?_⟩;cases i with
   | zero=>simp at hi; subst hi; exact .inr ⟨rfl,λ_ z=>by cases z⟩
   | succ i=>simpa using q i s (by simpa using hi)
def bw(n:Nat)(d:aj->R aH):aj->R Slot:=λss=>match d (ss++bF n .none)with
 | .ok (.ret r) ε'=>(aS (back ss ε') []).bind λaR _=>.ok r aR
 | .ok .next ε'=>(aS (back ss ε') []).bind λaR _=>.ok (.val .non) aR
 | .er c ε'=>(aS (back ss ε') []).bind λaR _=>.er c aR
 | _=>.no
section
variable{K:az}{F F':af->Prop}{S S':Nat->af->Prop}{ss ε' aR:aj}{σ':St}{H H':Hp}{vs:List V}
theorem a9.start(r:a9 K F S ss (vs.map aa) H)(n:Nat):a9 K F S (ss++bF n .none) (vs.map aa++bF n ae) H:=by
 have hl:ss.length=(vs.map aa).length:=r.len;have no:∀ {j:Nat} {s:Slot},(ss++bF n Slot.none)[j]?=aa s->s≠.none->ss[j]?=aa s:=λ{j s} e hs=>by
  by_cases hj:j<ss.length
  ·rw[fJ hj]at e; exact e
  ·rw[jy ∅,List.getElem?_replicate]at e;split at e
   ·exact absurd (eJ e).symm hs
   ·cases e
 have up:∀ {j:Nat} {v:Option V},(vs.map aa)[j]?=aa v->(vs.map aa++bF n ae)[j]?=aa v:=λ{j v} e=>by rw[fJ (eu.mp e).1]; exact e
 refine⟨by simp[hl],r.ex,λj pv e=>?_,λj po e=>?_,λj b h=>?_,r.dist⟩
 ·obtain⟨v,h1,h2⟩:=r.val j pv (no e (by intro z; cases z)); exact⟨v,up h1,h2⟩
 ·obtain⟨v,h1,h2⟩:=r.own j po (no e (by intro z; cases z)); exact⟨v,up h1,h2⟩
 ·obtain⟨⟨po,q⟩,q2⟩:=r.foot j b h;exact⟨⟨po,by rw[fJ (eu.mp q).1]; exact q⟩,q2⟩
theorem FD{po:PO}{a:af}{Sa:af->Prop}(h:gb K H F po a Sa)(hf:jq po=ai):∀ b,Sa b↔b=a:=by
 cases po with
 | lst xs=>exact h.2
 | dK kvs=>exact h.2
 | lls f7=>cases hf
 | ins C fs=>exact h.2
theorem NU{po:PO}{a:af}{Sa:af->Prop}(h:gb K H F po a Sa):Sa a:=by
 cases po with
 | lst xs=>exact(h.2 a).mpr rfl
 | dK kvs=>exact(h.2 a).mpr rfl
 | lls f7=>obtain⟨as,_,_,_,_,w⟩:=h; exact(w a).mpr (.inl rfl)
 | ins C fs=>exact(h.2 a).mpr rfl
theorem a9.back{O':af->Prop}{pin:List Nat}{n:Nat}(r0:a9 K F S ss (vs.map aa) H)(r:a9 K F' S' ε' σ' H')(g:bX (U S) O' F F' H H')(p:j6 pin (vs.map aa++bF n ae) σ')(mM:∀ (i:Nat) (po:PO),ss[i]?=aa (.own po)->i∈pin/\jq po=ai)(hb:back ss ε'=aa aR) : ∃ S'',a9 K F' S'' aR (vs.map aa) H'/\(∀ b,U S'' b->U S' b)/\∀ b,U S b->U S'' b:=by
 obtain⟨hl,hg⟩:=xY hb;have inj:∀ (i:Nat) (po:PO),ss[i]?=aa (.own po)->∃ a,(vs.map aa)[i]?=aa (aa (.ref a))/\σ'[i]?=aa (aa (.ref a))/\gb K H F po a (S i):=λi po e=>by obtain⟨a,h1,h2⟩:=r0.own i po e;refine⟨a,h1,?_,h2⟩;rw[p i (mM i po e).1,fJ (eu.mp h1).1]; exact h1
 have bk:∀ (i:Nat) (po:PO),ss[i]?=aa (.own po)->∃ po',aR[i]?=aa (.own po')/\ε'[i]?=aa (.own po'):=λi po e=>by
  have hi:i<aR.length:=by rw[hl]; exact(eu.mp e).1
  rcases hg i aR[i] (by simp[hi])with⟨p1,p2,q1,q2,q3⟩ | ⟨q1,q2⟩
  ·exact⟨p2,by rw[iN hi,q3],q2⟩
  ·rw[e]at q1; exact absurd (eJ q1).symm (q2 po)
 refine⟨λi b=>S' i b/\∃ po,ss[i]?=aa (.own po),⟨by rw[hl]; exact r0.len,r.ex,λi pv e=>?_,λi po e=>?_,λi b h=>?_,λi j b h1 h2=>r.dist i j b h1.1 h2.1⟩,λb ⟨i,h⟩=>⟨i,h.1⟩,λb ⟨i,h⟩=>?_⟩
 ·rcases hg i _ e with⟨_,_,_,_,z⟩ | ⟨q1,_⟩
  ·cases z
  ·obtain⟨v,h1,h2⟩:=r0.val i pv q1;exact⟨v,h1,h2.grow g r0.fit⟩
 ·rcases hg i _ e with⟨p1,p2,q1,q2,q3⟩ | ⟨_,q2⟩
  ·cases q3;obtain⟨a,h1,h2,h3⟩:=inj i p1 q1;obtain⟨a',h4,h5⟩:=r.own i po q2;rw[h2]at h4;cases h4;refine⟨a,h1,?_⟩;have eS:(λb=>S' i b/\∃ po,ss[i]?=aa (.own po))=S' i:=by funext b; exact propext ⟨λz=>z.1,λz=>⟨z,p1,q1⟩⟩
   rw[eS]; exact h5
  ·exact absurd rfl (q2 po)
 ·obtain⟨po,q⟩:=h.2;obtain⟨po',z1,z2⟩:=bk i po q;exact⟨⟨po',z1⟩,(r.foot i b h.1).2⟩
 ·obtain⟨⟨po,q⟩,_⟩:=r0.foot i b h;obtain⟨a,h1,h2,h3⟩:=inj i po q;obtain⟨po',z1,z2⟩:=bk i po q;obtain⟨a',h4,h5⟩:=r.own i po' z2;rw[h2]at h4;cases h4;have e:b=a:=(FD h3 (mM i po q).2 b).mp h;exact⟨i,e ▸ NU h5,po,q⟩
end
theorem Ep{f:af}{fd:iq}{CX:fV}{P:aX}{w:aN}{K:az}{mg:Str->Option ak}{base:aE}{x qual:Str}{st:bf}{N ps:List Str}{k n:Nat}{g:aj->R Slot}{d:aj->R aH}{pin:List Nat}(Fn:oH K x qual st f fd)(Sc:b8 N ps (aY st))(hn:N.length=ps.length+n)(hb:∀ (kV doc pm:ak) (an:Option af) (aP ct:ak) (us:List ak),us.length=ps.length->gE (kl x qual (kL st) (gS st) (aY st) .none kV doc pm an aP ct) ⟨us,[]⟩=pure (ps.zip us))(bY:∀ ss,g ss≠.no->ss.length=ps.length) (mM:∀ ss,g ss≠.no->∀ (i:Nat) po,ss[i]?=aa (.own po)->i∈pin/\jq po=ai) (hg:∀ ss,g ss≠.no->bw n d ss=g ss)(jD:∀ (A:be) (outer:List Env) (s:aq) (H:Hp) (E:XK),Room k (A.deeper (jV qual (aY st) s.heap.objs.size f fd.code))->jj (iX CX P w K mg base N qual (aY st) f fd.code A outer s H E) E pin (gS st) d) : jn P w K mg base CX (k+1) f fd ps (b0 K g):=by
 obtain⟨oc,od,kV,doc,pm,an,aP,ct,osl,rfl,lk,bM⟩:=Fn.ex;have ne:∀ {E:XK} {vs:List V} {F:af->Prop} {S:Nat->af->Prop} {H:Hp} {ss:aj} {Q:VK},yM K E vs F S H (g ss) Q->g ss≠.no:=λ{E vs F S H ss Q} h z=>by rw[z]at h; exact h
 refine D7 lk bM Sc (λvs H Q E ⟨F,S,ss,rl,ok⟩=>?_) λA outer s H vs Q E hr mQ=>?_
 ·have:=bY ss (ne ok);have h2:=rl.len;rw[cD]at h2;lia
 ·obtain⟨F,S,ss,rl,ok⟩:=mQ;refine⟨_,sC,?_⟩;have hl:=bY ss (ne ok);have h2:=rl.len;rw[cD]at h2;have es:L2.start N vs=vs.map aa++bF n ae:=by unfold L2.start;rw[show N.length-vs.length=n by lia]
  rw[es];refine jD A outer s H E hr F S _ _ H _ (rl.start n) ?_;have Ke:=mM ss (ne ok);have lT:=hg ss (ne ok);rw[← lT]at ok;unfold bw at ok;generalize d (ss++bF n .none)=r at ok ⊢;cases r with
  | no=>exact ok
  | er c ε'=>
   intro x F' S' σ' H' r' g' p';have ok:yM K E vs F S H ((aS (back ss ε') []).bind λaR _=>.er c aR) Q:=ok;cases e:back ss ε' with
   | none=>rw[e]at ok; exact ok.elim
   | some aR=>rw[e]at ok;obtain⟨S'',r'',sub,_⟩:=rl.back r' g' p' Ke e;exact ok x F' S'' H' r'' ⟨g'.fro,g'.keep,g'.there,g'.fnew,λb z=>g'.onew b (sub b z)⟩
  | ok fl ε'=>
   have fin:∀ (rs:Slot),yM K E vs F S H ((aS (back ss ε') []).bind λaR _=>.ok rs aR) Q->∀ (v:V) F' S' σ' H' Sr,a9 K F' S' ε' σ' H'->bX (U S) (λb=>U S' b\/Sr b) F F' H H'->j6 pin (vs.map aa++bF n ae) σ'->yv K H' F' rs v Sr->yS F' S' H' Sr->Q v H':=by
    intro rs ok v F' S' σ' H' Sr r' g' p' hv lo;cases e:back ss ε' with
    | none=>rw[e]at ok; exact ok.elim
    | some aR=>
     rw[e]at ok;obtain⟨S'',r'',sub,up⟩:=rl.back r' g' p' Ke e;refine ok v F' S'' H' Sr r'' ⟨g'.fro,g'.keep,g'.there,g'.fnew,λb z=>g'.onew b (z.imp (sub b) id)⟩ hv (λb z=>⟨(lo b z).1,λw=>(lo b z).2.1 (sub b w),(lo b z).2.2⟩) λb z=>?_;rcases g'.onew b (.inr z)with w | w
     ·exact absurd (sub b (up b w)) (lo b z).2.1
     ·exact w
   cases fl with
   | brk=>exact ok.elim
   | cont=>exact ok.elim
   | ret rs=>exact fin rs ok
   | next=>exact λF' S' σ' H' r' g' p'=>fin (.val .non) ok .non F' S' σ' H' (λ_=>False) r' ⟨g'.fro,g'.keep,g'.there,g'.fnew,λb z=>z.elim (g'.onew b) kj⟩ p' ⟨rfl,λ_ z=>z⟩ λ_ z=>z.elim
theorem GO{f:af}{fd:iq}{CX:fV}{P:aX}{w:aN}{K:az}{mg:Str->Option ak}{base:aE}{x qual:Str}{st:bf}{N ps:List Str}{k n:Nat}{g:aj->R Slot}{d:aj->R aH}{pin:List Nat}(Fn:oH K x qual st f fd)(Sc:b8 N ps (aY st))(hn:N.length=ps.length+n)(hb:∀ (kV doc pm:ak) (an:Option af) (aP ct:ak) (us:List ak),us.length=ps.length->gE (kl x qual (kL st) (gS st) (aY st) .none kV doc pm an aP ct) ⟨us,[]⟩=pure (ps.zip us))(bY:∀ ss,g ss≠.no->ss.length=ps.length) (mM:∀ ss,g ss≠.no->∀ (i:Nat) po,ss[i]?=aa (.own po)->i∈pin/\jq po=ai) (hg:∀ ss,g ss≠.no->bw n d ss=g ss)(jD:∀ (f:af) (aP:ak) (A:be) (outer:List Env) (s:aq) (H:Hp) (E:XK),Room k (A.deeper (jV qual (aY st) s.heap.objs.size f aP))->jj (iX CX P w K mg base N qual (aY st) f aP A outer s H E) E pin (gS st) d) : jn P w K mg base CX (k+1) f fd ps (b0 K g):=Ep Fn Sc hn hb bY mM hg λA outer s H E=>jD f fd.code A outer s H E
theorem TU{CX:fV}{P:aX}{w:aN}{K:az}{mg:Str->Option ak}{base:aE}{x:Str}{st:bf}{N ps:List Str}{k n:Nat}{g:aj->R Slot}{d:aj->R aH}{pin:List Nat}(D:cA K mg x st)(Sc:b8 N ps (aY st))(hn:N.length=ps.length+n)(hb:∀ (kV doc pm:ak) (an:Option af) (aP ct:ak) (us:List ak),us.length=ps.length->gE (kl x x (kL st) (gS st) (aY st) .none kV doc pm an aP ct) ⟨us,[]⟩=pure (ps.zip us))(bY:∀ ss,g ss≠.no->ss.length=ps.length) (mM:∀ ss,g ss≠.no->∀ (i:Nat) po,ss[i]?=aa (.own po)->i∈pin/\jq po=ai) (hg:∀ ss,g ss≠.no->bw n d ss=g ss)(jD:∀ (f:af) (aP:ak) (A:be) (outer:List Env) (s:aq) (H:Hp) (E:XK),Room k (A.deeper (jV x (aY st) s.heap.objs.size f aP))->jj (iX CX P w K mg base N x (aY st) f aP A outer s H E) E pin (gS st) d) : cm CX P w K mg base x (k+1) ps (b0 K g):=by obtain⟨f,fd,hm,Fn⟩:=D.ex;exact⟨f,fd,hm,GO Fn Sc hn hb bY mM hg jD,Fn.binds hb,Fn.kp⟩
abbrev cB:=Sum PV Nat
def j5(K:az)(σ:St)(F:af->Prop)(H:Hp):List cB->List V->Prop
 | [],vs=>vs=[]
 | .inl pv::as,vs=>∃ v r,vs=v::r/\bg K H F pv v/\j5 K σ F H as r
 | .inr i::as,vs=>∃ v r,vs=v::r/\σ[i]?=aa (aa v)/\j5 K σ F H as r
def DG(X:Cx)(E:XK)(es:List aC)(d:aj->R (List cB)):Prop :=
 ∀ F S ε σ H Q,a9 X.K F S ε σ H->Ok X.K E σ F S H (d ε) (λas _ F' _ H'=>∀ vs,j5 X.K σ F' H' as vs->Q vs H')->pG X es σ H Q
section
variable{X:Cx}{E:XK}{e:aC}{es:List aC}{de:aj->R PV}{dg:aj->R (List cB)}{pos:Pos}
def bO:aj->R (List cB):=λε=>.ok [] ε
def gV(d:aj->R PV)(dg:aj->R (List cB)):aj->R (List cB):=λε=>(d ε).bind λx ε1=>(dg ε1).bind λxs ε2=>.ok (.inl x::xs) ε2
def gO(i:Nat)(dg:aj->R (List cB)):aj->R (List cB):=λε=>match ε[i]? with
 | some (.own _)=>(dg ε).bind λxs ε2=>.ok (.inr i::xs) ε2
 | _=>.no
theorem bR:DG X E [] bO:=λF S ε σ H Q rl h=>pO mn (h F S H rl (bX.refl ..) _ rfl)
theorem L9(ha:DE X E e de)(hr:DG X E es dg)(hs:bq (e::es) X.env=(ao,bv e X.env)::bq es X.env:=by rfl):DG X E (e::es) (gV de dg):=λF S ε σ H Q rl h=>by refine pO (kc cx im hs) (ha F S ε σ H _ rl ((Ok.bind h).imp λx ε1 F1 S1 H1 r1 g1 h1 v rv=>?_));refine hr F1 S1 ε1 σ H1 _ r1 ((Ok.bind h1).imp λxs ε2 F2 S2 H2 r2 g2 h2 vs jI=>?_);exact h2 F2 S2 H2 r2 (bX.refl ..) _ ⟨v,vs,rfl,rv.grow g2 r1.fit,jI⟩
theorem j8(i:Nat){x:Str}{p:Pos}(hr:DG X E es dg)(hN:X.N[i]?=aa x:=by rfl)(hv:fW X.env.scope x:=by first | exact Or.inl rfl | exact Or.inr (Or.inl rfl) | exact Or.inr (Or.inr rfl))(hd:(x == ("__debug__" : Str))=ao:=by decide)(bM:(x == ("__classdict__" : Str))=ao:=by decide) (hs:bq (.Name x p::es) X.env=(ao,bv (.Name x p) X.env)::bq es X.env:=by rfl):DG X E (.Name x p::es) (gO i dg):=λF S ε σ H Q rl h=>by
 unfold gO at h;split at h
 ·rename_i po e;obtain⟨a,e1,_⟩:=rl.own i po e;refine pO (kc (gP hN hv hd bM) im hs) ⟨_,e1,hr F S ε σ H _ rl ((Ok.bind h).imp λxs ε2 F2 S2 H2 r2 g2 h2 vs jI=>?_)⟩;exact h2 F2 S2 H2 r2 (bX.refl ..) _ ⟨_,vs,rfl,e1,jI⟩
 ·exact h.elim
end
def dZ(ε:aj):List cB->Option aj
 | []=>aa []
 | .inl pv::as=>(dZ ε as).map (.val pv::·)
 | .inr i::as=>match ε[i]? with
  | some (.own po)=>(dZ ε as).map (.own po::·)
  | _=>ae
def d8:aj->List cB->aj->aj
 | ε,.inl _::as,_::ss=>d8 ε as ss
 | ε,.inr i::as,s::ss=>d8 (ε.set i s) as ss
 | ε,_,_=>ε
def cC:List cB->List Nat
 | []=>[]
 | .inl _::as=>cC as
 | .inr i::as=>i::cC as
theorem Gj:∀ {as:List cB} {i:Nat},i∈cC as↔∃ k:Nat,as[k]?=aa (.inr i)
 | [],i=>by simp[cC]
 | .inl _::as,i=>by
  unfold cC;rw[Gj];constructor
  ·rintro⟨k,h⟩; exact⟨k+1,by simpa using h⟩
  ·rintro⟨k,h⟩;cases k with
   | zero=>simp at h
   | succ k=>exact⟨k,by simpa using h⟩
 | .inr j::as,i=>by
  unfold cC;rw[cb,Gj];constructor
  ·rintro(rfl | ⟨k,h⟩)
   ·exact⟨0,rfl⟩
   ·exact⟨k+1,by simpa using h⟩
  ·rintro⟨k,h⟩;cases k with
   | zero=>simp at h; exact .inl h.symm
   | succ k=>exact .inr ⟨k,by simpa using h⟩
theorem yy{ε:aj}:∀ {as:List cB} {ss:aj},dZ ε as=aa ss->ss.length=as.length/\∀ (k:Nat) (s:Slot),ss[k]?=aa s->(∃ pv,as[k]?=aa (.inl pv)/\s = .val pv)\/∃ i po,as[k]?=aa (.inr i)/\ε[i]?=aa (.own po)/\s = .own po
 | [],ss,h=>by cases h; exact⟨rfl,λk s e=>by simp at e⟩
 | .inl pv::as,ss,h=>by
  unfold dZ at h;cases e:dZ ε as with
  | none=>rw[e]at h; cases h
  | some r=>
   rw[e]at h; cases h;obtain⟨l,q⟩:=yy e;refine⟨by simp[l],λk s hk=>?_⟩;cases k with
   | zero=>simp at hk; exact .inl ⟨pv,rfl,hk.symm⟩
   | succ k=>simpa using q k s (by simpa using hk)
 | .inr i::as,ss,h=>by
  unfold dZ at h;split at h
  ·rename_i po ei;cases e:dZ ε as with
   | none=>rw[e]at h; cases h
   | some r=>
    rw[e]at h; cases h;obtain⟨l,q⟩:=yy e;refine⟨by simp[l],λk s hk=>?_⟩;cases k with
    | zero=>simp at hk; exact .inr ⟨i,po,rfl,ei,hk.symm⟩
    | succ k=>simpa using q k s (by simpa using hk)
  ·cases h
theorem xw:∀ (as:List cB) (ε ss:aj),(d8 ε as ss).length=ε.length
 | [],ε,ss=>by cases ss <;> rfl
 | .inl _::as,ε,[]=>rfl
 | .inr _::as,ε,[]=>rfl
 | .inl _::as,ε,s::ss=>xw as ε ss
 | .inr i::as,ε,s::ss=>by show(d8 (ε.set i s) as ss).length=_; rw[xw,k9]
theorem sI:∀ (as:List cB) (ε ss:aj) (j:Nat),j∉cC as->(d8 ε as ss)[j]?=ε[j]?
 | [],ε,ss,j,_=>by cases ss <;> rfl
 | .inl _::as,ε,[],j,_=>rfl
 | .inr _::as,ε,[],j,_=>rfl
 | .inl _::as,ε,s::ss,j,h=>sI as ε ss j h
 | .inr i::as,ε,s::ss,j,h=>by
  have h1:¬ (j=i\/j∈cC as):=by simpa[cC]using h
  show(d8 (ε.set i s) as ss)[j]?=_;rw[sI as _ ss j λz=>h1 (.inr z),fI λz=>h1 (.inl z.symm)]
theorem ud:∀ (as:List cB) (ε ss:aj) (j k:Nat) (s:Slot),(cC as).Nodup->j<ε.length->as[k]?=aa (.inr j)->ss[k]?=aa s->(d8 ε as ss)[j]?=aa s
 | [],ε,ss,j,k,s,_,_,h,_=>by simp at h
 | _::as,ε,[],j,k,s,_,_,_,h=>by simp at h
 | .inl _::as,ε,t::ss,j,0,s,_,_,h,_=>by simp at h
 | .inl _::as,ε,t::ss,j,k+1,s,nd,hj,h,g=>ud as ε ss j k s nd hj (by simpa using h) (by simpa using g)
 | .inr i::as,ε,t::ss,j,0,s,nd,hj,h,g=>by simp at h g;subst h g;have nd':i∉cC as:=(jx.mp nd).1;show(d8 (ε.set i t) as ss)[i]?=_;rw[sI as _ ss i nd',ip hj]
 | .inr i::as,ε,t::ss,j,k+1,s,nd,hj,h,g=>ud as (ε.set i t) ss j k s (jx.mp nd).2 (by rw[k9]; exact hj) (by simpa using h) (by simpa using g)
theorem j5.len{K:az}{σ:St}{F:af->Prop}{H:Hp}:∀ {as:List cB} {vs:List V},j5 K σ F H as vs->vs.length=as.length
 | [],_,h=>by rw[show _=[] from h]; rfl
 | .inl _::as,_,⟨v,r,e,_,h⟩=>by rw[e,eD,eD,j5.len h]
 | .inr _::as,_,⟨v,r,e,_,h⟩=>by rw[e,eD,eD,j5.len h]
theorem j5.val{K:az}{σ:St}{F:af->Prop}{H:Hp}:∀ {as:List cB} {vs:List V} {k:Nat} {pv:PV},j5 K σ F H as vs->as[k]?=aa (.inl pv)->∃ v,vs[k]?=aa v/\bg K H F pv v
 | [],_,k,_,_,e=>by simp at e
 | .inl x::as,_,0,pv,⟨v,r,e,h,_⟩,q=>by simp at q; subst q e; exact⟨v,rfl,h⟩
 | .inr _::as,_,0,pv,_,q=>by simp at q
 | .inl x::as,_,k+1,pv,⟨v,r,e,_,h⟩,q=>by obtain⟨w,a,b⟩:=j5.val (k:=k) h (by simpa using q); subst e; exact⟨w,by simpa using a,b⟩
 | .inr x::as,_,k+1,pv,⟨v,r,e,_,h⟩,q=>by obtain⟨w,a,b⟩:=j5.val (k:=k) h (by simpa using q); subst e; exact⟨w,by simpa using a,b⟩
theorem j5.own{K:az}{σ:St}{F:af->Prop}{H:Hp}:∀ {as:List cB} {vs:List V} {k i:Nat},j5 K σ F H as vs->as[k]?=aa (.inr i)->∃ v,vs[k]?=aa v/\σ[i]?=aa (aa v)
 | [],_,k,_,_,e=>by simp at e
 | .inr x::as,_,0,pv,⟨v,r,e,h,_⟩,q=>by simp at q; subst q e; exact⟨v,rfl,h⟩
 | .inl _::as,_,0,pv,_,q=>by simp at q
 | .inl x::as,_,k+1,pv,⟨v,r,e,_,h⟩,q=>by obtain⟨w,a,b⟩:=j5.own (k:=k) h (by simpa using q); subst e; exact⟨w,by simpa using a,b⟩
 | .inr x::as,_,k+1,pv,⟨v,r,e,_,h⟩,q=>by obtain⟨w,a,b⟩:=j5.own (k:=k) h (by simpa using q); subst e; exact⟨w,by simpa using a,b⟩
section
variable{K:az}{F F':af->Prop}{S S':Nat->af->Prop}{ε ss aR:aj}{σ:St}{H H':Hp}{as:List cB}{vs:List V}
def ng(as:List cB)(S:Nat->af->Prop)(k:Nat)(b:af):Prop:=∃ i,as[k]?=aa (.inr i)/\S i b
theorem yf(b:af)(h:U (ng as S) b):U S b:=let ⟨_,i,_,h⟩:=h; ⟨i,h⟩
theorem y4:∀ {as:List cB} {i k l:Nat},(cC as).Nodup->as[k]?=aa (.inr i)->as[l]?=aa (.inr i)->k=l
 | [],_,_,_,_,h,_=>by simp at h
 | .inl _::as,i,0,_,_,h,_=>by simp at h
 | .inl _::as,i,_,0,_,_,h=>by simp at h
 | .inl _::as,i,k+1,l+1,nd,h1,h2=>by rw[y4 (as:=as) (i:=i) (k:=k) (l:=l) nd (by simpa using h1) (by simpa using h2)]
 | .inr j::as,i,0,0,_,_,_=>rfl
 | .inr j::as,i,0,l+1,nd,h1,h2=>by simp at h1; subst h1;exact absurd (Gj.mpr ⟨l,by simpa using h2⟩) (jx.mp nd).1
 | .inr j::as,i,k+1,0,nd,h1,h2=>by simp at h2; subst h2;exact absurd (Gj.mpr ⟨k,by simpa using h1⟩) (jx.mp nd).1
 | .inr j::as,i,k+1,l+1,nd,h1,h2=>by rw[y4 (as:=as) (i:=i) (k:=k) (l:=l) (jx.mp nd).2 (by simpa using h1) (by simpa using h2)]
theorem a9.cal(r:a9 K F S ε σ H)(ha:j5 K σ F H as vs)(hs:dZ ε as=aa ss)(nd:(cC as).Nodup):a9 K F (ng as S) ss (vs.map aa) H:=by
 obtain⟨hl,hg⟩:=yy hs;have up:∀ {k:Nat} {v:V},vs[k]?=aa v->(vs.map aa)[k]?=aa (aa v):=λ{k v} e=>by rw[ir,e]; rfl
 refine⟨by rw[hl,cD,ha.len],r.ex,λk pv e=>?_,λk po e=>?_,λk b h=>?_,λk l b h1 h2=>?_⟩
 ·rcases hg k _ e with⟨p,q1,q2⟩ | ⟨_,_,_,_,z⟩
  ·cases q2;obtain⟨v,a1,a2⟩:=ha.val q1;exact⟨v,up a1,a2⟩
  ·cases z
 ·rcases hg k _ e with⟨_,_,z⟩ | ⟨i,p,q1,q2,q3⟩
  ·cases z
  ·cases q3;obtain⟨v,a1,a2⟩:=ha.own q1;obtain⟨a,b1,b2⟩:=r.own i po q2;rw[a2]at b1;cases b1;have eS:ng as S k=S i:=by
    funext b;exact propext ⟨λ⟨j,h1,h2⟩=>by rw[q1]at h1; cases h1; exact h2,λh=>⟨i,q1,h⟩⟩
   exact⟨a,up a1,by rw[eS]; exact b2⟩
 ·obtain⟨i,h1,h2⟩:=h;obtain⟨⟨po,q⟩,q2⟩:=r.foot i b h2;have hk:k<ss.length:=by rw[hl]; exact(eu.mp h1).1
  refine⟨?_,q2⟩;rcases hg k ss[k] (by simp[hk])with⟨_,z,_⟩ | ⟨j,p,z1,z2,z3⟩
  ·rw[h1]at z; cases z
  ·exact⟨p,by rw[iN hk,z3]⟩
 ·obtain⟨i,a1,a2⟩:=h1;obtain⟨j,b1,b2⟩:=h2;have:=r.dist i j b a2 b2;subst this;exact y4 nd a1 b1
theorem a9.called{O':af->Prop}(r:a9 K F S ε σ H)(ha:j5 K σ F H as vs)(hs:dZ ε as=aa ss)(nd:(cC as).Nodup)(r':a9 K F' S' aR (vs.map aa) H')(g:bX (U (ng as S)) O' F F' H H')(hO:∀ b,U S' b->O' b)(hso:∀ (k:Nat) i,as[k]?=aa (.inr i)->∃ po,aR[k]?=aa (.own po)) : ∃ S2,a9 K F' S2 (d8 ε as aR) σ H'/\bX (U S) (U S2) F F' H H'/\∀ b,U S2 b->U S' b\/U S b:=by
 have up:∀ {k:Nat} {v:V},(vs.map aa)[k]?=aa (aa v)->vs[k]?=aa v:=λ{k v} e=>by
  rw[ir]at e;cases q:vs[k]? with
  | none=>rw[q]at e; cases e
  | some x=>rw[q]at e; cases e; rfl
 have fit:oF (U (ng as S)) F H:=λb h=>r.fit b (yf b h);have slen:∀ i po,ε[i]?=aa (.own po)->i<ε.length:=λi po e=>(eu.mp e).1;have lt:∀ (k:Nat) i,as[k]?=aa (.inr i)->i<ε.length:=λk i e=>by
  obtain⟨hl,hg⟩:=yy hs;have hk:k<ss.length:=by rw[hl]; exact(eu.mp e).1
  rcases hg k ss[k] (by simp[hk])with⟨_,z,_⟩ | ⟨j,p,z1,z2,z3⟩
  ·rw[e]at z; cases z
  ·rw[e]at z1; cases z1; exact slen _ _ z2
 refine⟨λj b=>(∃ k:Nat,as[k]?=aa (.inr j)/\S' k b)\/(j∉cC as/\S j b),⟨by rw[xw]; exact r.len,r'.ex,λj pv e=>?_,λj po e=>?_,λj b h=>?_,λi j b h1 h2=>?_⟩,⟨g.fro,λb o e n=>g.keep b o e λz=>n (yf b z),g.there,λa z=>(g.fnew a z).imp id λw=>w.imp id (yf a),λb ⟨j,z⟩=>?_⟩,λb ⟨j,z⟩=>?_⟩
 ·by_cases hj:j∈cC as
  ·obtain⟨k,hk⟩:=Gj.mp hj;obtain⟨po,q⟩:=hso k j hk;rw[ud as ε aR j k _ nd (lt k j hk) hk q]at e;cases e
  ·rw[sI as ε aR j hj]at e;obtain⟨v,h1,h2⟩:=r.val j pv e;exact⟨v,h1,h2.grow g fit⟩
 ·by_cases hj:j∈cC as
  ·obtain⟨k,hk⟩:=Gj.mp hj;obtain⟨po',q⟩:=hso k j hk;rw[ud as ε aR j k _ nd (lt k j hk) hk q]at e;cases e;obtain⟨a,h1,h2⟩:=r'.own k po q;obtain⟨v,a1,a2⟩:=ha.own hk;rw[up h1]at a1;cases a1;have eS:(λb=>(∃ k:Nat,as[k]?=aa (.inr j)/\S' k b)\/(j∉cC as/\S j b))=S' k:=by
    funext b;refine propext ⟨λz=>?_,λz=>.inl ⟨k,hk,z⟩⟩;rcases z with⟨l,z1,z2⟩ | ⟨z,_⟩
    ·rw[y4 nd hk z1]; exact z2
    ·exact absurd hj z
   exact⟨a,a2,by rw[eS]; exact h2⟩
  ·rw[sI as ε aR j hj]at e;obtain⟨a,h1,h2⟩:=r.own j po e;have eS:(λb=>(∃ k:Nat,as[k]?=aa (.inr j)/\S' k b)\/(j∉cC as/\S j b))=S j:=by
    funext b;refine propext ⟨λz=>?_,λz=>.inr ⟨hj,z⟩⟩;rcases z with⟨l,z1,z2⟩ | ⟨_,z⟩
    ·exact absurd (Gj.mpr ⟨l,z1⟩) hj
    ·exact z
   have h3:gb K H' F' po a (S j):=by refine h2.mono (λ_ _ q=>q.grow g fit) (λ_ _ q=>q.grow g fit) λb o z q=>g.keep b o q λ⟨l,i,w1,w2⟩=>?_;have:=r.dist i j b w2 z;subst this;exact hj (Gj.mpr ⟨l,w1⟩)
   exact⟨a,h1,by rw[eS]; exact h3⟩
 ·rcases h with⟨k,h1,h2⟩ | ⟨h1,h2⟩
  ·obtain⟨⟨po,q⟩,q2⟩:=r'.foot k b h2;exact⟨⟨po,ud as ε aR j k _ nd (lt k j h1) h1 q⟩,q2⟩
  ·obtain⟨⟨po,q⟩,q2,o,q3,q4⟩:=r.foot j b h2;have no:¬ U (ng as S) b:=λ⟨l,i,w1,w2⟩=>by have:=r.dist i j b w2 h2;subst this;exact h1 (Gj.mpr ⟨l,w1⟩)
   refine⟨⟨po,by rw[sI as ε aR j h1]; exact q⟩,λz=>?_,o,g.keep b o q3 no,q4⟩;rcases g.fnew b z with w | w | w
   ·exact q2 w
   ·rw[q3]at w; cases w
   ·exact no w
 ·have cross:∀ {i j:Nat} {b:af},(∃ k:Nat,as[k]?=aa (.inr i)/\S' k b)->(j∉cC as/\S j b)->False:=λ{i j b} ⟨k,w1,w2⟩ ⟨w3,w4⟩=>by
   obtain⟨_,_,o,q3,_⟩:=r.foot j b w4;rcases g.onew b (hO b ⟨k,w2⟩)with⟨l,i',z1,z2⟩ | z
   ·have:=r.dist i' j b z2 w4;subst this;exact w3 (Gj.mpr ⟨l,z1⟩)
   ·rw[q3]at z; cases z
  rcases h1 with h1 | h1 <;> rcases h2 with h2 | h2
  ·obtain⟨k,a1,a2⟩:=h1;obtain⟨l,b1,b2⟩:=h2;have:=r'.dist k l b a2 b2;subst this;rw[a1]at b1; cases b1; rfl
  ·exact(cross h1 h2).elim
  ·exact(cross h2 h1).elim
  ·exact r.dist i j b h1.2 h2.2
 ·rcases z with⟨k,_,z⟩ | ⟨_,z⟩
  ·rcases g.onew b (hO b ⟨k,z⟩)with w | w
   ·exact .inl (yf b w)
   ·exact .inr w
  ·exact .inl ⟨j,z⟩
 ·rcases z with⟨k,_,z⟩ | ⟨_,z⟩
  ·exact .inl ⟨k,z⟩
  ·exact .inr ⟨j,z⟩
end
def DR(X:Cx)(E:XK)(e:aC)(d:aj->R Slot):Prop :=
 ∀ F S ε σ H Q,a9 X.K F S ε σ H->Ok X.K E σ F S H (d ε) (λs _ F' S' H'=>∀ v Sr,yv X.K H' F' s v Sr->(∀ b,Sr b->H b=ae/\¬ F' b/\¬ U S' b/\∃ o,H' b=aa o/\gz o)->Q v H')->iV X e σ H Q
def eB:List cB->aj->Bool
 | [],_=>ai
 | .inl _::as,_::ss=>eB as ss
 | .inr _::as,.own _::ss=>eB as ss
 | _,_=>ao
theorem pX:∀ {as:List cB} {ss:aj},eB as ss=ai->∀ (k:Nat) i,as[k]?=aa (.inr i)->∃ po,ss[k]?=aa (.own po)
 | [],_,_,k,i,h=>by simp at h
 | .inl _::as,s::ss,q,0,i,h=>by simp at h
 | .inl _::as,s::ss,q,k+1,i,h=>by simpa using pX (as:=as) (ss:=ss) (by unfold eB at q; exact q) k i (by simpa using h)
 | .inr _::as,.own po::ss,q,0,i,h=>⟨po,rfl⟩
 | .inr _::as,.own po::ss,q,k+1,i,h=>by simpa using pX (as:=as) (ss:=ss) (by unfold eB at q; exact q) k i (by simpa using h)
 | .inr _::as,.val _::ss,q,k,i,h=>by cases q
 | .inr _::as,.none::ss,q,k,i,h=>by cases q
 | .inl _::as,[],q,k,i,h=>by cases q
 | .inr _::as,[],q,k,i,h=>by cases q
def e_{α:Type}(ε:aj)(as:List cB)(r:R α):R α:=match r with
 | .ok s aR=>if eB as aR then .ok s (d8 ε as aR)else .no
 | .er c aR=>if eB as aR then .er c (d8 ε as aR)else .no
 | .no=>.no
def aG(g:aj->R Slot)(dg:aj->R (List cB)):aj->R Slot:=λε=>(dg ε).bind λas ε1=>(aS (if(cC as).Nodup then dZ ε1 as else ae) ε1).bind λss ε1=>e_ ε1 as (g ss)
section
variable{CX:fV}{X:Cx}{E:XK}{pin:List Nat}{e:aC}{es:List aC}{dg:aj->R (List cB)}{pos:Pos}{x:Str}{k:Nat}{ps:List Str}{g:aj->R Slot}{p:Pos}{d:aj->R Slot}
theorem bS(c:cm CX X.prog X.w X.K X.mg X.base x k ps (b0 X.K g))(hr:Room k X.A)(hx:sj CX X E)(ha:DG X E (e::es) dg)(hg:Gl X x:=by rfl)(hd:(x == ("__debug__" : Str))=ao:=by decide) (h1:bq (e::es) X.env=(ao,bv e X.env)::bq es X.env:=by rfl) (h2:(fZ pos (bq es X.env)).any (·.1)=ao:=by rfl) : DR X E (.Call (.Name x p) (e::es) [] pos) (aG g dg):=λF S ε σ H Q rl h=>by
 obtain⟨f,fd,hm,Fn,hb,hk⟩:=c.ex;refine cT (Fi Fn hr hg hm hk hb .nil hx im hd h1 h2) (ha F S ε σ H _ rl ((Ok.bind h).imp λas ε1 F1 S1 H1 r1 g1 q vs av=>?_));have q:=Ok.bind q;by_cases nd:(cC as).Nodup
 ·rw[if_pos nd]at q;cases es:dZ ε1 as with
  | none=>rw[es]at q; exact q.elim
  | some ss=>
   rw[es]at q;have q:=q F1 S1 H1 r1 (bX.refl ..);dsimp only at q;rw[ja];refine⟨F1,ng as S1,ss,r1.cal av es nd,?_⟩;cases eg:g ss with
   | no=>rw[eg]at q; exact q.elim
   | er cv aR=>
    rw[eg]at q;intro y F' S' H' r' g';unfold e_ at q;dsimp only at q;by_cases kp:eB as aR=ai
    ·rw[if_pos kp]at q;obtain⟨S2,r2,g2,_⟩:=r1.called av es nd r' g' (λ_ z=>z) (pX kp);exact q y F' S2 H' r2 g2
    ·rw[if_neg kp]at q; exact q.elim
   | ok s aR=>
    rw[eg]at q;intro v F' S' H' Sr r' g' rv lo fr;unfold e_ at q;dsimp only at q;by_cases kp:eB as aR=ai
    ·rw[if_pos kp]at q;obtain⟨S2,r2,g2,u2⟩:=r1.called av es nd r' g' (λ_ z=>.inl z) (pX kp);refine q F' S2 H' r2 g2 v Sr rv λb z=>⟨oC g1 (fr b z),(lo b z).1,λw=>?_,(lo b z).2.2⟩
     rcases u2 b w with w | ⟨i,w⟩
     ·exact(lo b z).2.1 w
     ·obtain⟨_,_,o,y1,_⟩:=r1.foot i b w;rw[fr b z]at y1; cases y1
    ·rw[if_neg kp]at q; exact q.elim
 ·rw[if_neg nd]at q; exact q.elim
def Ir:Slot->Option PV
 | .val pv=>aa pv
 | .own (.lst xs)=>aa (.lst xs)
 | _=>ae
def aV(d:aj->R Slot):aj->R PV:=λε=>(d ε).bind λs ε1=>aS (Ir s) ε1
def Qo:Slot->Option PO
 | .own po=>aa po
 | _=>ae
def kM(d:aj->R Slot):aj->R PO:=λε=>(d ε).bind λs ε1=>aS (Qo s) ε1
theorem DR.dn(h:DR X E e d):DN X E e (kM d):=λF S ε σ H Q rl q=>by
 unfold kM at q;refine h F S ε σ H Q rl ?_;cases e0:d ε with
 | no=>rw[e0]at q; exact q.elim
 | er c ε'=>rw[e0]at q; exact q
 | ok s ε1=>
  rw[e0]at q;cases s with
  | none=>exact q.elim
  | val pv=>exact q.elim
  | own po=>intro F1 S1 H1 r1 g1 v Sr rv fr;obtain⟨a,rfl,ow⟩:=rv;exact q F1 S1 H1 r1 g1 a Sr ow fr
theorem DR.de(h:DR X E e d):DE X E e (aV d):=λF S ε σ H Q rl q=>by
 unfold aV at q;cases e0:d ε with
 | no=>rw[e0]at q; exact q.elim
 | er c ε'=>refine h F S ε σ H Q rl ?_; rw[e0]at q ⊢; exact q
 | ok s ε1=>
  cases s with
  | none=>rw[e0]at q; exact q.elim
  | val pv=>refine h F S ε σ H Q rl ?_;rw[e0]at q ⊢;exact λF1 S1 H1 r1 g1 v Sr rv fr=>q F1 S1 H1 r1 g1 v rv.1
  | own po=>
   refine h.dn.de F S ε σ H Q rl ?_;unfold dF kM;rw[e0]at q ⊢;cases po with
   | lst xs=>exact q
   | dK kvs=>exact q
   | lls f7=>exact q
   | ins C fs=>exact q
def ro(d:aj->R Slot):aj->R aH:=λε=>(d ε).bind λs ε1=>.ok (.ret s) ε1
theorem w8(he:DR X E e d):DS X E pin (.Return (aa e) pos) (ro d):=λF S ε σ H D rl h=>by
 refine iZ (xy cx) (he F S ε σ H _ rl ?_);unfold ro at h;cases e0:d ε with
 | no=>rw[e0]at h; exact h.elim
 | er c ε'=>rw[e0]at h; exact λx F' S' H' r' g'=>h x F' S' σ H' r' g' (j6.refl _ _)
 | ok s ε1=>rw[e0]at h;intro F1 S1 H1 r1 g1 v Sr rv fr;exact h v F1 S1 σ H1 Sr r1 ⟨g1.fro,g1.keep,g1.there,g1.fnew,λb z=>z.elim (g1.onew b) λw=>.inr (fr b w).1⟩ (j6.refl _ _) rv λb z=>(fr b z).2
def kU(d:aj->R Slot):aj->R aH:=λε=>(d ε).bind λ_ ε1=>.ok .next ε1
theorem q8(he:DR X E e d)(hs:mB e ae pos.line X.env=pure ao:=by rfl):DS X E pin (.Expr e pos) (kU d):=λF S ε σ H D rl h=>iZ (Bc cx hs) (he F S ε σ H _ rl (h.bindE.imp λx ε1 F1 S1 H1 r1 g1 h1 v Sr rv fr=>h1 F1 S1 σ H1 r1 (bX.refl ..) (j6.refl _ _)))
end
end Pu
namespace L2
section
variable{X:Cx}{ah:List (af×Obj)}{σ:St}{H:Hp}{s:aq}{scope:eC}{x:Str}{N':List Str}{cap:List Nat}
theorem S6{elt iter:aC}{y:Str}{px py pos spos:Pos}{i₀:Nat}{ifs:List aC}{wi:TI}{ts:TT}{te:TE}(B:mi X scope x N' cap)(hc:X.calm=ai)(hi:PI X (.Name x px) iter wi)(ht:∀ C s₀ H₀ ex pn,yt (cS X scope N' C s₀ H₀ ex pn) ifs ts) (he:∀ C s₀ H₀ ex pn,PE (cS X scope N' C s₀ H₀ ex pn) elt te) (hN:X.N.Nodup) (hiy:X.N[i₀]?=aa y) (hxy:Loc X.env.scope y) (hsw:mB (.ListComp elt [⟨.Name x px,iter,ifs,0⟩] scope pos) (aa (.Name y py)) spos.line X.env=pure ai) (hf:X.fn y=ai\/X.env.scope.names.lookup y=aa .local) (hs:∀ x,vF iter X.env x=pure x) : PS X (.Assign [.Name y py] (.ListComp elt [⟨.Name x px,iter,ifs,0⟩] scope pos) spos) (λD σ H=>Ch wi ts te cap σ H λv H'=>D.nx (σ.set i₀ (aa v)) H'):=by
 intro ah s σ H D I h;rw[exec_Assign_Name_used _ _ _ _ hsw];refine ar (wpAny_standAt (ar ?_));show ax _ X.A (do let _ ← comprehension (.ListComp elt [⟨.Name x px,iter,ifs,0⟩] scope pos) scope X.env _ (newList []) ao (bv iter X.env) (aa (assign (.Name y py) X.env))) _ _ s;refine ar (dW (?_:ax _ X.A _ (λ_ s'=>SP X ah D .next s') X.xe s) (λ_ s' hq=>aD (aD hq)) λ_ _ e=>e);refine wpAny_comprehension_free (use:=aa (assign (.Name y py) X.env)) rfl hs (IB (I.freeHas B)) B.kind B.names (aU (hi ah s σ H _ I h) λv s1 h1=>aU h1 λitv s2 h2=>?_);obtain⟨it,fp,tn,J,H2,e,I2,T,bd,f2,h2⟩:=h2;subst e;refine mH ?_;have I3:Inv X ah σ (upd H2 s2.heap.objs.size (.lst [])) { s2 with heap:=s2.heap.push { cls:=.type "list",data:=.seq ([]:List ak).toArray },toks:=s2.toks }:=I2.lnew (its:=[]) (t':=s2.toks) .nil (kY _);obtain⟨W,⟨m0,w0⟩,turn⟩:=h2 s2.heap.objs.size I2.fresh;generalize lS:({ s2 with heap:=s2.heap.push { cls:=.type "list",data:=.seq ([]:List ak).toArray },toks:=s2.toks }:aq)=s3 at I3;have hs3':({ s2 with heap:=s2.heap.push { cls:=.type "list",data:=.seq ([]:List ak).toArray } }:aq)=s3:=lS;generalize hH3:upd H2 s2.heap.objs.size (.lst [])=H3 at I3 w0;have nl:∀ b∈fp,b≠s2.heap.objs.size:=λb hb e=>by obtain⟨o,ho,_⟩:=T.obj _ _ bd b hb;exact absurd (bC ho) (by rw[e]; exact fk _)
 have k3:∀ b o,s2.heap.get? b=aa o->s3.heap.get? b=aa o:=λb o e=>by rw[← lS]; exact bK _ e
 have f3:∀ b∈fp,kW X ah H3 b:=λb hb=>⟨by rw[← hH3,cn (nl b hb)]; exact(f2 b hb).1,(f2 b hb).2⟩
 have bL:tn 0 s3.heap:=T.keep _ _ _ bd λb _ o e=>k3 b o e;have fo3:∀ b∈fp,∃ o,s3.heap.get? b=aa o:=λb hb=>(T.obj _ _ bL b hb).imp λo q=>q.1;refine GK ?_;generalize hh:zq (s3.heap.push { cls:=.type "dict",data:=.dict #[] }) scope.names=h₁;have old:∀ b o,s3.heap.get? b=aa o->h₁.get? b=aa o:=λb o e=>hh ▸ CL _ _ b o (bK _ e);have ku:h₁.Ns s3.heap.objs.size (λ_=>ae):=hh ▸ (Heap.Ns.new s3.heap (.type "dict")).keeps (CL _ _);have I4:=Inv.block (t':=s3.toks) hh.symm I3 B f3 fo3 ku old;have bV:tn 0 h₁:=T.keep _ _ _ bL λb _ o e=>old b o e;have statB:∀ {H':Hp},(∀ b∈fp,H' b=ae)->∀ b∈fp,kW (cS X scope N' s3.heap.objs.size s3 H3 fp ah) [] H' b:=λhn b hb=>by
  obtain⟨f0,f1,f2',f3',f4,f5⟩:=f3 b hb;refine⟨hn b hb,λe=>?_,λhf=>?_,.inl hb,λy c h=>?_,λp hp=>f5 p (by simpa[cS]using hp)⟩
  ·obtain⟨o,ho⟩:=fo3 b hb;exact absurd (bC ho) (by rw[show b=s3.heap.objs.size from e]; exact fk _)
  ·rcases cb.mp (I3.stkSub b hf)with z | z
   ·exact f1 z
   ·exact f2' z
  ·rcases I3.cbIn B h with⟨a1,a2⟩ | ⟨a1,a2⟩
   ·rintro rfl;obtain⟨o,ho⟩:=fo3 _ hb;exact vh (Ax a1).2.1 (bC ho)
   ·exact f4 y c a2
 have Ds:Loc (cS X scope N' s3.heap.objs.size s3 H3 fp ah).env.scope x:=B.loc.elim (λh=>.inl (CM h)) (λh=>.inr (xW h));have Dy:(cS X scope N' s3.heap.objs.size s3 H3 fp ah).fn x=ai\/(cS X scope N' s3.heap.objs.size s3 H3 fp ah).env.scope.names.lookup x=aa .local:=B.loc.elim (λh=>.inr (CM h)) (λh=>.inl (by show(scope.names.lookup x == aa .cell)=ai; rw[h]; rfl));have hN0:(cS X scope N' s3.heap.objs.size s3 H3 fp ah).N[0]?=aa x:=by show N'[0]?=aa x;rw[← List.head?_eq_getElem?]; exact B.hd
 have loop:o8 (ay X.prog X.w) X.A (.compLoop (.ListComp elt [⟨.Name x px,iter,ifs,0⟩] scope pos) 0 (.ref it) (.ref s2.heap.objs.size) (compEnvC scope (lf X scope s3.heap.objs.size) s3.heap.objs.size X.env))
   (compPost (ay X.prog X.w) X.A X.xe (aa (assign (.Name y py) X.env)) (λ_ s'=>SP X ah D .next s') (.ref s2.heap.objs.size) s3.heap.objs.size) { s3 with heap:=h₁,toks:=s3.toks }:=by
  refine Fv (λn s'=>∃ i ys σ' H',(∃ v0,σ'=v0::jo σ cap)/\Inv (cS X scope N' s3.heap.objs.size s3 H3 fp ah) [] σ' H' s'/\tn i s'.heap/\(∀ b∈fp,H' b=ae)/\W i n ys H') ?_ m0
   ⟨0,[],_,H3,⟨ae,rfl⟩,I4,bV,λb hb=>(f3 b hb).1,w0⟩
  rintro n s5 ⟨i,ys,σ5,H5,⟨v0,rfl⟩,I5,cg,fr5,w5⟩;rcases turn i n ys H5 w5 with⟨stop,q⟩ | ⟨go,step⟩
  ·refine dW (T.done (cS X scope N' s3.heap.objs.size s3 H3 fp ah) rfl rfl rfl hc i [] s5 _ H5 (λ_ _=>False) I5 (statB fr5) cg stop) (λr s6 ⟨hr,I6⟩=>?_) (λ_ _ f=>f.elim);subst hr;obtain⟨mm,hn6,_⟩:=I6.loc;have J6:Inv X ah σ H5 s6:=I3.unblock f3 I6 (vM _ _);have nlc:s3.heap.objs.size≠X.env.locals:=λe=>absurd I3.lt (by rw[← e]; exact fk _);have nce:∀ z c,X.env.cells.lookup z=aa c->c≠s3.heap.objs.size:=λz c e e2=>by obtain⟨vv,oo,ho,_⟩:=I3.cell z c e;exact absurd (bC ho) (by rw[e2]; exact fk _)
   refine Cu (HE (v:=.ref s2.heap.objs.size) J6 hN hiy hxy rfl (λs7 I7 ⟨a7,sb7,ha7⟩=>?_) hf);have na7:s3.heap.objs.size≠a7:=by
    rcases ha7 with z | z
    ·rw[z]; exact nlc
    ·exact(nce _ _ z).symm
   refine⟨mm,hn6.sameBut sb7 na7,λg_ sb=>⟨_,H5,?_,q⟩⟩;have hC5:H5 s3.heap.objs.size=ae:=I6.free;refine I7.call' (s':={ s7 with heap:=g_ }) (ch:=[s3.heap.objs.size]) rfl ⟨λb o e n hb hx=>?_,λb o e n hb hx=>?_,λb o e n hx=>n,λb o e hx=>?_,λb xs e=>e,λb o u e=>e,λb ps e=>e⟩ ?_ I7.bare λb hb=>?_
   ·exact(sb.2 b (by simpa using hx)).trans e
   ·exact⟨o.slots,(sb.2 b (by simpa using hx)).trans (by simpa using e)⟩
   ·exact⟨o,(sb.2 b (by simpa using hx)).trans e⟩
   ·intro b u e;refine(I7.hok b u e).stay (λc v hc q=>(sb.2 c ?_).trans q) (λ_ q=>q) λ_ _ q=>q;rintro rfl;rcases hc with z | z
    ·rw[← z,hC5]at e; cases e
    ·rw[hC5]at z; cases z
   ·have e:b=s3.heap.objs.size:=by simpa using hb
    subst e;refine⟨.inr I3.sz,nlc,nce,λp hp e2=>?_⟩;obtain⟨e3,_⟩:=I3.pin p hp;exact absurd (bC e3) (by rw[e2]; exact fk _)
  ·refine dW (T.item (cS X scope N' s3.heap.objs.size s3 H3 fp ah) rfl rfl rfl hc i [] s5 _ H5 (λ_ _=>False) I5 (statB fr5) cg go) (λr s6 ⟨u,hr,h6⟩=>?_) (λ_ _ f=>f.elim);subst hr;refine dW h6 (λ_ s7 ⟨v,H7,I7,r7,y7,qK,fr7⟩=>?_) (λ_ _ f=>f.elim);have I7':=I7.pinned (statB fr7) (T.obj _ _ qK);have back:∀ {σ8:St} {H8:Hp} {s8:aq},Inv (cS X scope N' s3.heap.objs.size s3 H3 fp ah) ([]++sF fp s7.heap) σ8 H8 s8->tn (i+1) s8.heap/\(∀ b∈fp,H8 b=ae):=λ{σ8 H8 s8} I8=>⟨T.keep _ _ _ qK λb hb o e=>(I8.pin (b,o) (jT _ (jT _ (sy hb e)))).1,λb hb=>by obtain⟨o,e,d⟩:=T.obj _ _ qK b hb;exact(I8.pin (b,o) (jT _ (jT _ (sy hb e)))).2.1⟩
   refine Cu (yx (v:=v) I7' B.nd hN0 Ds r7 (λs8 I8=>?_) Dy);refine aU (ht _ _ _ _ _ _ s8 _ H7 _ I8 (step v H7 y7)) λb s9 ⟨H9,I9,q9⟩=>?_;cases b with
   | false=>
    obtain⟨m',hm,w9⟩:=(show ∃ m',m'<n/\W (i+1) m' ys H9 from q9)
    exact⟨m',hm,i+1,ys,_,H9,⟨aa v,rfl⟩,I9.unpinned,(back I9).1,(back I9).2,w9⟩
   | true=>refine aU (he _ _ _ _ _ _ s9 _ H9 _ I9 q9) λu10 s10 ⟨y,H10,I10,r10,Dz,DB,m',hm,w10⟩=>?_;refine aU (Ba _ s10 _ H10 (.ref s2.heap.objs.size) [y] _ [u10] (λz H11=>H11=upd H10 s2.heap.objs.size (.lst (ys++[y]))) I10 rfl (.cons r10 .nil) ⟨_,ys,y,rfl,rfl,Dz,DB,rfl⟩) λ_ s11 ⟨_,H11,I11,_,e11⟩=>?_;subst e11;exact⟨m',hm,i+1,ys++[y],_,_,⟨aa v,rfl⟩,I11.unpinned,(back I11).1,(back I11).2,w10⟩
 exact codeAny_compStart_list loop (T.self _ 0 _ _ _ bV loop)
end
end L2
namespace Pu
open L2
def d9(ε:aj):List Nat->Option (List cB)
 | []=>aa []
 | j::cap=>match ε[j]? with
  | some (.val pv)=>(d9 ε cap).map (.inl pv::·)
  | some (.own _)=>(d9 ε cap).map (.inr j::·)
  | _=>ae
def eA{α:Type}(cap:List Nat)(d:aj->R α)(x:PV):aj->R α:=λε=>(aS (d9 ε cap) ε).bind λas _=>(aS (if(cC as).Nodup then dZ ε (.inl x::as)else ae) ε).bind λss _=>e_ ε (.inl x::as) (d ss)
def dw{α:Type}(r:R α):R α:=match r with
 | .er _ _=>.no
 | r=>r
def kQ(cap:List Nat)(dt:aj->R Bool)(de:aj->R PV):List PV->List PV->aj->R (List PV)
 | [],au,ε=>.ok au ε
 | x::xs,au,ε=>(dw (eA cap dt x ε)).bind λk ε1=>match k with
  | true=>(dw (eA cap de x ε1)).bind λy ε2=>kQ cap dt de xs (au++[y]) ε2
  | false=>kQ cap dt de xs au ε1
def dD(cap:List Nat)(di:aj->R (List PV))(dt:aj->R Bool)(de:aj->R PV):aj->R PO:=λε=>(di ε).bind λxs ε1=>(kQ cap dt de xs [] ε1).bind λys ε2=>.ok (.lst ys) ε2
theorem z5{K:az}{F:af->Prop}{S:Nat->af->Prop}{ε:aj}{σ:St}{H:Hp}(r:a9 K F S ε σ H):∀ {cap:List Nat} {as:List cB},d9 ε cap=aa as->∃ vs,j5 K σ F H as vs/\jo σ cap=vs.map aa
 | [],as,h=>by cases h; exact⟨[],rfl,rfl⟩
 | j::cap,as,h=>by
  unfold d9 at h;split at h
  ·rename_i pv e;cases q:d9 ε cap with
   | none=>rw[q]at h; cases h
   | some bs=>
    rw[q]at h; cases h;obtain⟨vs,h1,h2⟩:=z5 r q;obtain⟨v,e1,e2⟩:=r.val j pv e;refine⟨v::vs,⟨v,vs,rfl,e2,h1⟩,?_⟩;show(σ[j]?).join::jo σ cap=_;rw[e1,h2]; rfl
  ·rename_i po e;cases q:d9 ε cap with
   | none=>rw[q]at h; cases h
   | some bs=>
    rw[q]at h; cases h;obtain⟨vs,h1,h2⟩:=z5 r q;obtain⟨a,e1,e2⟩:=r.own j po e;refine⟨.ref a::vs,⟨_,vs,rfl,e1,h1⟩,?_⟩;show(σ[j]?).join::jo σ cap=_;rw[e1,h2]; rfl
  ·cases h
theorem ED{K:az}{E:XK}{F:af->Prop}{S:Nat->af->Prop}{ε:aj}{σ:St}{H:Hp}{α:Type}{cap:List Nat}{d:aj->R α}{x:PV}{v:V}{C:α->aj->(af->Prop)->(Nat->af->Prop)->Hp->Prop}(r:a9 K F S ε σ H) (rx:bg K H F x v) (h:Ok K E σ F S H (dw (eA cap d x ε)) C) : ∃ Sb ss,a9 K F Sb ss (aa v::jo σ cap) H/\Ok K E0 (aa v::jo σ cap) F Sb H (d ss) (λa _ F' _ H'=>∃ ε' S',a9 K F' S' ε' σ H'/\bX (U S) (U S') F F' H H'/\C a ε' F' S' H'):=by
 unfold eA at h;cases ec:d9 ε cap with
 | none=>rw[ec]at h; exact h.elim
 | some as=>
  rw[ec]at h;simp only[dE,R.bind_ok]at h;by_cases nd:(cC as).Nodup
  ·rw[if_pos nd]at h;cases es:dZ ε (.inl x::as)with
   | none=>rw[es]at h; exact h.elim
   | some ss=>
    rw[es]at h;simp only[dE,R.bind_ok]at h;obtain⟨vs,av,ev⟩:=z5 r ec;have av':j5 K σ F H (.inl x::as) (v::vs):=⟨v,vs,rfl,rx,av⟩
    have eσ:aa v::jo σ cap=(v::vs).map aa:=by rw[ev]; rfl
    have nd':(cC (.inl x::as)).Nodup:=nd;refine⟨ng (.inl x::as) S,ss,by rw[eσ]; exact r.cal av' es nd',?_⟩;rw[eσ];cases ed:d ss with
    | no=>rw[ed]at h; exact h.elim
    | er c aR=>
     rw[ed]at h;unfold e_ at h;dsimp only at h;by_cases kp:eB (.inl x::as) aR=ai
     ·rw[if_pos kp]at h; exact h.elim
     ·rw[if_neg kp]at h; exact h.elim
    | ok a aR=>
     rw[ed]at h;intro F' S' H' r' g';unfold e_ at h;dsimp only at h;by_cases kp:eB (.inl x::as) aR=ai
     ·rw[if_pos kp]at h;obtain⟨S2,r2,g2,_⟩:=r.called av' es nd' r' g' (λ_ z=>z) (pX kp);exact⟨_,S2,r2,g2,h F' S2 H' r2 g2⟩
     ·rw[if_neg kp]at h; exact h.elim
  ·rw[if_neg nd]at h; exact h.elim
def yh(X:Cx)(ifs:List aC):TT:=λσ H Q=>Bx (∀ ah s,Inv X ah σ H s->ax (ay X.prog X.w) X.A (forIn ifs ai λc r=>if r=ai then do let ok ← nN c X.env (bv c X.env); pure (ForInStep.yield ok)else pure (ForInStep.yield r)) (TP X ah σ Q) X.xe s)
def DF(X:Cx)(E:XK)(ifs:List aC)(d:aj->R Bool):Prop:=∀ F S ε σ H Q,a9 X.K F S ε σ H->Ok X.K E σ F S H (d ε) (λb _ _ _ H'=>Q b H')->yh X ifs σ H Q
def dU:aj->R Bool:=λε=>.ok ai ε
theorem oz{X:Cx}{E:XK}:DF X E [] dU:=λF S ε σ H Q rl h=>⟨λah s I=>NM ah s σ H Q I (h F S H rl (bX.refl ..))⟩
theorem A9{X:Cx}{E:XK}{c:aC}{d:aj->R Bool}(h:DT X E c d):DF X E [c] d:=λF S ε σ H Q rl q=>⟨λah s I=>TZ r8 ah s σ H Q I (h F S ε σ H Q rl q)⟩
theorem Ok.bindB{K:az}{E:XK}{σ:St}{F F1:af->Prop}{S S1:Nat->af->Prop}{H H1:Hp}{α β:Type}{D:β->aj->(af->Prop)->(Nat->af->Prop)->Hp->Prop}{r:R α}{k:α->aj->R β}(h:Ok K E σ F S H (r.bind k) D)(g:bX (U S) (U S1) F F1 H H1) : Ok K E σ F1 S1 H1 r (λa ε1 _ _ _=>Ok K E σ F S H (k a ε1) D):=by
 cases r with
 | no=>exact h
 | er c ε'=>exact λx F' S' H' r' g'=>h x F' S' H' r' (g.trans g')
 | ok a ε'=>exact λF' S' H' r' g'=>h
section
variable{X:Cx}{E:XK}{scope:eC}{x:Str}{N':List Str}{cap:List Nat}
theorem bX.stay{O O' F F':af->Prop}{H H':Hp}(g:bX O O' F F' H H'){l:af}{o:HO}(e:H l=aa o)(n:¬ O l)(nF:¬ F l):H' l=aa o/\¬ F' l/\¬ O' l :=
 ⟨g.keep l o e n,λz=>(g.fnew l z).elim nF λw=>w.elim (λq=>by rw[e]at q; cases q) n,λz=>(g.onew l z).elim n λq=>by rw[e]at q; cases q⟩
theorem Gx{elt iter:aC}{px:Pos}{ifs:List aC}{di:aj->R (List PV)}{dt:aj->R Bool}{de:aj->R PV}(hi:DI X E (.Name x px) iter di)(ht:∀ C s₀ H₀ ex pn,DF (cS X scope N' C s₀ H₀ ex pn) E0 ifs dt) (he:∀ C s₀ H₀ ex pn,DE (cS X scope N' C s₀ H₀ ex pn) E0 elt de){F:af->Prop} {S:Nat->af->Prop} {ε:aj} {σ:St} {H:Hp} {Q:VK} (rl:a9 X.K F S ε σ H) (h:Ok X.K E σ F S H (dD cap di dt de ε) (λpo _ F' S' H'=>∀ a Sa,gb X.K H' F' po a Sa->(∀ b,Sa b->H b=ae/\¬ F' b/\¬ U S' b/\∃ o,H' b=aa o/\gz o)->Q (.ref a) H')) : Ch (sO X (.Name x px) iter) (λσ H Q=>∀ C s₀ H₀ ex pn,yh (cS X scope N' C s₀ H₀ ex pn) ifs σ H Q) (λσ H Q=>∀ C s₀ H₀ ex pn,iV (cS X scope N' C s₀ H₀ ex pn) elt σ H Q) cap σ H Q:=by
 refine hi F S ε σ H _ rl ((Ok.bind h).imp λxs ε1 F1 S1 H1 r1 g1 h1 J vs RR rs hz hw keep l hl=>?_);have h1:=h1.bind;have hvl:vs.length=xs.length:=rs.len;have a0:Al F1 F1 H1 (upd H1 l (.lst [])):=Al.new0 hl;have nF1:¬ F1 l:=λz=>by obtain⟨o,q⟩:=r1.ex l z; rw[hl]at q; cases q
 have nS1:¬ U S1 l:=λ⟨i,z⟩=>by obtain⟨_,_,o,q,_⟩:=r1.foot i l z; rw[hl]at q; cases q
 have hH:H l=ae:=oC g1 hl;refine⟨λi m ys H'=>m=xs.length-i/\i<=xs.length/\∃ F' S' ε' au,a9 X.K F' S' ε' σ H'/\bX (U S1) (U S') F1 F' H1 H'/\H' l=aa (.lst ys)/\¬ F' l/\¬ U S' l/\bo X.K H' F' au ys/\ys.length<=i /\ Ok X.K E σ F1 S1 H1 (kQ cap dt de (xs.drop i) au ε') (λys' ε2 F2 S2 H2=>Ok X.K E σ F2 S2 H2 (R.ok (PO.lst ys') ε2) (λpo _ F' S' H'=>∀ a Sa,gb X.K H' F' po a Sa->(∀ b,Sa b->H b=ae/\¬ F' b/\¬ U S' b/\∃ o,H' b=aa o/\gz o)->Q (.ref a) H')),⟨_,rfl,kY _,F1,S1,ε1,[],r1.al a0,a0.grow,cz,nF1,nS1,rfl,bi _,h1⟩,?_⟩;rintro i m ys H2 ⟨rfl,hi,F2,S2,ε2,au,r2,g2,el,nF2,nS2,racc,hyl,q2⟩;have RH:=keep S2 F2 H2 g2;by_cases br:i<xs.length
 ·obtain⟨v,hv⟩:∃ v,vs[i]?=aa v:=⟨_,iN ∅⟩
  obtain⟨go,yl⟩:=(hw H2 RH i).1 v hv;refine .inr ⟨go,λv' H' y=>?_⟩;obtain⟨e1,e2⟩:=yl v' H' y;subst e1 e2;obtain⟨px',hx,rx⟩:=rs.back hv;have ed:xs.drop i=px'::xs.drop (i+1):=by rw[zC br];congr 1;exact(eu.mp hx).2
  rw[ed]at q2;have rx2:=rx.grow g2 r1.fit;have q3:=Ok.bindB q2 g2;obtain⟨Sb,ss,rb,okb⟩:=ED r2 rx2 q3;intro C s₀ H₀ ex pn;refine ht C s₀ H₀ ex pn F2 Sb ss _ H' _ rb (okb.imp λb _ F3 _ H3 _ _ ⟨ε3,S3,r3,g3,q4⟩=>?_);obtain⟨el3,nF3,nS3⟩:=g3.stay el nS2 nF2;cases b with
  | false=>exact rJ ⟨_,∅,rfl,br,F3,S3,ε3,au,r3,g2.trans g3,el3,nF3,nS3,racc.grow g3 r2.fit,∅,q4⟩
  | true=>
   refine sk ?_;have q5:Ok X.K E σ F1 S1 H1 ((dw (eA cap de px' ε3)).bind λy ε2=>kQ cap dt de (xs.drop (i+1)) (au++[y]) ε2) _:=q4;obtain⟨Sc,sc,rc,okc⟩:=ED r3 (rx2.grow g3 r2.fit) (Ok.bindB q5 (g2.trans g3));intro C s₀ H₀ ex pn;refine he C s₀ H₀ ex pn F3 Sc sc _ H3 _ rc (okc.imp λy _ F4 _ H4 _ _ ⟨ε4,S4,r4,g4,q6⟩ u ru=>?_);obtain⟨el4,nF4,nS4⟩:=g4.stay el3 nS3 nF3;have racc4:=(racc.grow g3 r2.fit).grow g4 r3.fit;have gl:bX (λb=>U S4 b\/b=l) (U S4) F4 F4 H4 (upd H4 l (.lst (ys++[u]))):=⟨λ_ z=>z,λb o e n=>by rw[cn λz=>n (.inr z)]; exact e,λb o e=>by
    by_cases hb:b=l
    ·subst hb; exact⟨_,cz⟩
    ·exact⟨o,by rw[cn hb]; exact e⟩,λ_ z=>.inl z,λ_ z=>.inl (.inl z)⟩
   have fit4:oF (λb=>U S4 b\/b=l) F4 H4:=λb z=>by
    rcases z with z | rfl
    ·exact r4.fit b z
    ·exact⟨nF4,_,el4,trivial⟩
   have r5:a9 X.K F4 S4 ε4 σ (upd H4 l (.lst (ys++[u]))):=by
    refine⟨r4.len,λb z=>let ⟨o,q⟩:=r4.ex b z; gl.there b o q,λj pv e=>?_,λj po e=>?_,λj b z=>?_,r4.dist⟩
    ·obtain⟨w,x1,x2⟩:=r4.val j pv e; exact⟨w,x1,x2.grow gl fit4⟩
    ·obtain⟨w,x1,x2⟩:=r4.own j po e;refine⟨w,x1,x2.mono (λ_ _ q=>q.grow gl fit4) (λ_ _ q=>q.grow gl fit4) λb o z q=>?_⟩;rw[cn (by rintro rfl; exact nS4 ⟨j,z⟩)]; exact q
    ·obtain⟨x1,x2,o,x3,x4⟩:=r4.foot j b z;exact⟨x1,x2,o,by rw[cn (by rintro rfl; exact nS4 ⟨j,z⟩)]; exact x3,x4⟩
   have g5:bX (U S1) (U S4) F1 F4 H1 (upd H4 l (.lst (ys++[u]))):=by
    have gg:=(g2.trans g3).trans g4;refine⟨gg.fro,λb o e n=>?_,λb o e=>?_,gg.fnew,gg.onew⟩
    ·rw[cn (by rintro rfl; rw[hl]at e; cases e)]; exact gg.keep b o e n
    ·obtain⟨o',q⟩:=gg.there b o e; exact gl.there b o' q
   refine⟨el4,?_,_,∅,rfl,br,F4,S4,ε4,au++[y],r5,g5,cz,nF4,nS4,(racc4.grow gl fit4).app (.one (ru.grow gl fit4)),by simp; lia,q6⟩;lia
 ·have e:i=xs.length:=∅
  subst e;refine .inl ⟨(hw H2 RH _).2 hvl.symm,?_⟩;rw[JP]at q2;exact q2 F2 S2 H2 r2 g2 F2 S2 H2 r2 (bX.refl ..) l (λb=>b=l) ⟨⟨ys,el,racc⟩,λb=>tI⟩ λb z=>by subst z; exact⟨hH,nF2,nS2,_,el,trivial⟩
theorem lZ{elt iter:aC}{px pos:Pos}{ifs:List aC}{di:aj->R (List PV)}{dt:aj->R Bool}{de:aj->R PV}(B:mi X scope x N' cap)(hc:X.calm=ai)(hi:DI X E (.Name x px) iter di)(ht:∀ C s₀ H₀ ex pn,DF (cS X scope N' C s₀ H₀ ex pn) E0 ifs dt) (he:∀ C s₀ H₀ ex pn,DE (cS X scope N' C s₀ H₀ ex pn) E0 elt de) (hs:∀ x,vF iter X.env x=pure x:=by intro _; rfl) : DN X E (.ListComp elt [⟨.Name x px,iter,ifs,0⟩] scope pos) (dD cap di dt de):=λF S ε σ H Q rl h=>cT (Os (wi:=sO X (.Name x px) iter) (ts:=λσ H Q=>∀ C s₀ H₀ ex pn,yh (cS X scope N' C s₀ H₀ ex pn) ifs σ H Q) (te:=λσ H Q=>∀ C s₀ H₀ ex pn,iV (cS X scope N' C s₀ H₀ ex pn) elt σ H Q) (pos:=pos) B hc Cj (λC s₀ H₀ ex pn ah s σ H Q I h=>(h C s₀ H₀ ex pn).run ah s I) (λC s₀ H₀ ex pn ah s σ H Q I h=>(h C s₀ H₀ ex pn).run ah s I) hs) (Gx hi ht he rl h)
end
theorem My(x y:Tx):tS x++tS y=tS (x++y):=by
 show(⟨x.toArray++y.toArray⟩:Str)=⟨(x++y).toArray⟩
 simp
def aL:PV->PV->Option PV
 | .int i,.int j=>aa (.int (i+j))
 | .str x,.str y=>if(x++y).length<=bB then aa (.str (x++y))else ae
 | .tup xs,.tup ys=>if xs≠[]/\ys≠[]/\xs.length+ys.length<=1000 then aa (.tup (xs++ys))else ae
 | .lst xs,.lst ys=>if xs.length+ys.length<=bB then aa (.lst (xs++ys))else ae
 | _,_=>ae
def cX:PV->PV->Option PV
 | .int i,.int j=>aa (.int (i-j))
 | _,_=>ae
def vg(i:Int):Bool:=decide (-(2 ^ 64)<i/\i<2 ^ 64)
def iM:PV->PV->Option PV
 | .int i,.int j=>if vg i || vg j then aa (.int (i * j))else ae
 | .str x,.int j=>if 0<=j/\j<=100/\x.length<=100 then aa (.str (bF j.toNat x).flatten)else ae
 | _,_=>ae
def iF:PV->PV->Option PV
 | .int i,.int j=>if 0<j then aa (.int (i % j))else ae
 | _,_=>ae
def uD:PV->PV->Option PV
 | .int i,.int j=>if 0<=j/\j<=1000000/\i.natAbs<2 ^ 64 then aa (.int (i ^ j.toNat))else ae
 | _,_=>ae
def gd:PV->Option PV
 | .int i=>aa (.int (-i))
 | _=>ae
def GY:R2:=λx y H Q=>∃ l b xs zs,x = .ref l/\y = .ref b/\Rd H l (.lst xs)/\Rd H b (.lst zs)/\xs.length+zs.length<=bp/\∀ p,H p=ae->Q (.ref p) (upd H p (.lst (xs++zs)))
def FW(K:az):R2:=λx y H Q=>((l9 λi j=>V.int (i+j)) x y H Q\/∃ i j,x = .str i/\y = .str j/\i.length+j.length<=bp/\Q (.str (i++j)) H)\/(Fl K x y H Q\/GY x y H Q)
def G6:R2:=λx y H Q=>rI Bn (λi j=>.int (i * j)) x y H Q\/∃ (z:Tx) (n:Nat),x=tV z/\y = .int n/\n<=100/\z.length<=100/\Q (tV (bF n z).flatten) H
section
variable{X:Cx}{K:az}
theorem jK:P2 K (l9 λi j=>.int (i-j)) cX:=λF H x y v u Q pv rx ry e q=>by
 unfold cX at e;split at e
 ·cases e; exact⟨_,_,rx,ry,q _ F H (Al.refl ..) rfl⟩
 ·cases e
theorem vz:P2 K (rI (λ_ j=>0<j) λi j=>.int (i % j)) iF:=λF H x y v u Q pv rx ry e q=>by
 unfold iF at e;split at e
 ·split at e
  ·cases e; exact⟨_,_,rx,ry,by assumption,q _ F H (Al.refl ..) rfl⟩
  ·cases e
 ·cases e
theorem T9:P2 K (rI FN λi j=>.int (i ^ j.toNat)) uD:=λF H x y v u Q pv rx ry e q=>by
 unfold uD at e;split at e
 ·split at e
  ·cases e; exact⟨_,_,rx,ry,by assumption,q _ F H (Al.refl ..) rfl⟩
  ·cases e
 ·cases e
theorem sK:P1 K (rU λi=>.int (-i)) gd:=λF H x v Q pv rx e q=>by
 unfold gd at e;split at e
 ·cases e; exact⟨_,rx,q _ F H (Al.refl ..) rfl⟩
 ·cases e
theorem BH{ah:List (af×Obj)}{σ:St}{H:Hp}{s:aq}{l:af}{xs:List V}(I:Inv X ah σ H s)(h:Rd H l (.lst xs)):∃ (its:List ak) (n:Nat),bI xs its/\s.heap.get? l=aa { cls:=.type "list",data:=.seq its.toArray n }/\xs.length<=bp:=by obtain⟨z,its,n,r,e⟩:=h.ok I.hok;exact⟨its,n,r,e,z⟩
theorem Nm:cu X (jw .Add) GY:=by
 intro ah s σ H x y v u Q I rx ry h;obtain⟨l,b,xs,zs,rfl,rfl,hl,hb,hz,q⟩:=h;cases rx;cases ry;obtain⟨its,n,r,e,_⟩:=BH I hl;obtain⟨its2,n2,r2,e2,_⟩:=BH I hb;have hl:=r.length;have kz:=r2.length;refine PySem.P.add_list e e2 ?_ (by rw[dA,dA]; lia);have ea:its.toArray++its2.toArray=(its++its2).toArray:=by simp
 rw[ea];exact⟨.ref _,_,I.lnew (t':=s.toks) (r.append r2) (by rw[dq]; lia),rfl,q _ I.fresh⟩
theorem c_:cu X (jw .Add) (FW X.K):=(UT.or Nb).or (UN.or Nm)
theorem c8:P2 K (FW K) aL:=λF H x y v u Q pv rx ry e q=>by
 unfold aL at e;split at e
 ·cases e; exact .inl (.inl ⟨_,_,rx,ry,q _ F H (Al.refl ..) rfl⟩)
 ·rename_i x y;split at e
  ·rename_i hl;cases e;refine .inl (.inr ⟨_,_,rx.1,ry.1,?_,?_⟩)
   ·rw[mj,mj]; rw[dq]at hl; exact cI hl m9
   ·exact q _ F H (Al.refl ..) ⟨by rw[My]; rfl,hl⟩
  ·cases e
 ·rename_i xs ys;split at e
  ·rename_i hl;cases e;obtain⟨a,vs,rfl,ha,ra⟩:=rx;obtain⟨b,ws,rfl,hb,rb⟩:=ry;have la:=ra.len;have lb:=rb.len;refine .inr (.inl ⟨a,b,vs,ws,rfl,rfl,dj.of ha,dj.of hb,λz=>hl.1 (by rw[z]at la; exact zv la.symm),by rw[la,lb]; exact AN hl.2.2,λz=>absurd (by rw[z]at lb; exact zv lb.symm) hl.2.1,λ_ p hp=>?_⟩);exact q _ F _ (Al.new0 hp) ⟨p,_,rfl,cz,(Al.new0 hp).reps (ra.app rb)⟩
  ·cases e
 ·rename_i xs ys;split at e
  ·rename_i hl;cases e;obtain⟨a,vs,rfl,ha,fa,ra⟩:=rx;obtain⟨b,ws,rfl,hb,fb,rb⟩:=ry;have la:=ra.len;have lb:=rb.len;refine .inr (.inr ⟨a,b,vs,ws,rfl,rfl,ha,hb,by rw[la,lb]; exact cI hl m9,λp hp=>?_⟩);exact q _ _ _ (Al.new hp) ⟨p,_,rfl,.inl cz,.inr rfl,(Al.new hp).reps (ra.app rb)⟩
  ·cases e
 ·cases e
theorem uK:cu X (jw .Mult) G6:=UE.or P0
theorem uA:P2 K G6 iM:=λF H x y v u Q pv rx ry e q=>by
 unfold iM at e;split at e
 ·rename_i i j;split at e
  ·rename_i h;cases e;refine .inl ⟨_,_,rx,ry,?_,q _ F H (Al.refl ..) rfl⟩;rw[zw]at h;exact h.imp of_decide_eq_true of_decide_eq_true
  ·cases e
 ·rename_i x j;split at e
  ·rename_i h;cases e;refine .inr ⟨x,j.toNat,rx.1,?_,∅,h.2.2,q _ F H (Al.refl ..) ⟨rfl,?_⟩⟩
   ·rw[show u=V.int j from ry]; congr 1; lia
   ·rw[OL];have h1:j.toNat<=100:=∅
    exact cI (CV h1 h.2.2) (by decide)
  ·cases e
 ·cases e
def jl(f:Int->Int->Bool):PV->PV->Option PV
 | .int i,.int j=>aa (.bl (f i j))
 | _,_=>ae
theorem lq{f:Int->Int->Bool}:P2 K (l9 λi j=>.bl (f i j)) (jl f):=λF H x y v u Q pv rx ry e q=>by
 unfold jl at e;split at e
 ·cases e; exact⟨_,_,rx,ry,q _ F H (Al.refl ..) rfl⟩
 ·cases e
def fz:PV->Option V
 | .non=>aa .non
 | .bl b=>aa (.bl b)
 | .int i=>aa (.int i)
 | .str x=>aa (tV x)
 | _=>ae
theorem k_{H:Hp}{F:af->Prop}{x:PV}{v w:V}(r:bg K H F x v)(e:fz x=aa w):v=w:=by
 cases x <;> simp[fz]at e <;> subst e
 ·exact r
 ·exact r
 ·exact r
 ·exact r.1
theorem zV{x:PV}{w:V}(e:fz x=aa w):ke w=ai:=by
 cases x <;> simp[fz]at e <;> subst e <;> rfl
mutual
def cW:PV->PV->Option Bool
 | .tup xs,y=>match y with
  | .tup ys=>ik xs ys
  | _=>ae
 | .lst xs,y=>match y with
  | .lst ys=>ik xs ys
  | _=>ae
 | .non,y=>(fz y).map (jL .non)
 | .bl b,y=>(fz y).map (jL (.bl b))
 | .int i,y=>(fz y).map (jL (.int i))
 | .str x,y=>(fz y).map (jL (tV x))
 | .raw _,_=>ae
 | .exc _,_=>ae
def ik:List PV->List PV->Option Bool
 | [],ys=>aa ys.isEmpty
 | x::xs,ys=>match ys with
  | []=>aa ao
  | y::ys=>(cW x y).bind λa=>(ik xs ys).map λb=>a && b
end
mutual
def i4:PV->Nat
 | .tup xs=>i9 xs+1
 | .lst xs=>i9 xs+1
 | _=>0
def i9:List PV->Nat
 | []=>0
 | x::xs=>max (i4 x) (i9 xs)
end
theorem Jh{H:Hp}{d d':Nat}{x y:V}{k:Bool}(h:iW K H d x y k)(hd:d<=d'):iW K H d' x y k:=λX hK ah σ s u v A I ru rv hu=>h X hK ah σ s u v A I ru rv ∅
theorem yi{H:Hp}{F:af->Prop}{w:V}{y:PV}{u:V}{k:Bool}{d:Nat}(fw:ke w=ai)(e:(fz y).map (jL w)=aa k)(ry:bg K H F y u):iW K H d w u k:=by
 cases q:fz y with
 | none=>rw[q]at e; cases e
 | some z=>
  rw[q]at e;cases e;rw[k_ ry q];exact L1 fw (zV q)
theorem Lo{H:Hp}{a:af}{xs ys:List V}(h:Rd H a (.lst xs))(g:Rd H a (.lst ys)):xs=ys:=by
 rcases h with h | ⟨o,h⟩ <;> rcases g with g | ⟨o',g⟩ <;> rw[h]at g <;> cases g <;> rfl
theorem TB{a:Bool}{e:Nat->Bool}{n m:Nat}:gy (λj=>if j=0 then a else e (j-1)) (n+1) (m+1)=(a && gy e n m):=by
 unfold gy;rw[show min (n+1) (m+1)=min n m+1 by lia,qC,vK,CO,if_pos rfl,Bool.and_assoc];congr 1;congr 1
 ·simp
mutual
theorem AL{H:Hp}{F:af->Prop}:∀ (x y:PV) {v:V} {k:Bool},cW x y=aa k->bg K H F x v->bg K H F y v->k=ai
 | .tup xs,y,v,k,e,rx,ry=>by
  unfold cW at e;split at e
  ·obtain⟨a,vs,rfl,ha,ra⟩:=rx;obtain⟨b,ws,eb,hb,rb⟩:=ry;cases eb;rw[ha]at hb;cases hb;exact Bv xs _ e ra rb
  ·cases e
 | .lst xs,y,v,k,e,rx,ry=>by
  unfold cW at e;split at e
  ·obtain⟨a,vs,rfl,ha,_,ra⟩:=rx;obtain⟨b,ws,eb,hb,_,rb⟩:=ry;cases eb;rw[Lo ha hb]at ra;exact Bv xs _ e ra rb
  ·cases e
 | .non,y,v,k,e,rx,ry=>by
  unfold cW at e;cases q:fz y with
  | none=>rw[q]at e; cases e
  | some z=>rw[q]at e; cases e; rw[← k_ ry q,show v=V.non from rx]; rfl
 | .bl b,y,v,k,e,rx,ry=>by
  unfold cW at e;cases q:fz y with
  | none=>rw[q]at e; cases e
  | some z=>rw[q]at e; cases e; rw[← k_ ry q,show v=V.bl b from rx]; exact beq_self_eq_true b
 | .int b,y,v,k,e,rx,ry=>by
  unfold cW at e;cases q:fz y with
  | none=>rw[q]at e; cases e
  | some z=>rw[q]at e; cases e; rw[← k_ ry q,show v=V.int b from rx]; exact beq_self_eq_true b
 | .str b,y,v,k,e,rx,ry=>by
  unfold cW at e;cases q:fz y with
  | none=>rw[q]at e; cases e
  | some z=>rw[q]at e; cases e; rw[← k_ ry q,show v=tV b from rx.1]; exact beq_self_eq_true (tS b)
 | .raw _,_,_,_,e,_,_=>by unfold cW at e; cases e
 | .exc _,_,_,_,e,_,_=>by unfold cW at e; cases e
theorem Bv{H:Hp}{F:af->Prop}:∀ (xs ys:List PV) {vs:List V} {k:Bool},ik xs ys=aa k->bo K H F xs vs->bo K H F ys vs->k=ai
 | [],ys,vs,k,e,rx,ry=>by
  unfold ik at e;rw[show vs=[] from rx]at ry;have:=ry.len;cases ys with
  | nil=>cases e; rfl
  | cons=>simp at this
 | x::xs,ys,vs,k,e,rx,ry=>by
  unfold ik at e;obtain⟨v,r,rfl,h1,h2⟩:=rx;cases ys with
  | nil=>have:=ry.len; simp at this
  | cons y ys=>
   obtain⟨v',r',ev,g1,g2⟩:=ry;cases ev;simp only at e;cases q1:cW x y with
   | none=>rw[q1]at e; cases e
   | some a=>
    cases q2:ik xs ys with
    | none=>rw[q1,q2]at e; cases e
    | some b=>
     rw[q1,q2]at e;cases e;rw[AL x y q1 h1 g1,Bv xs ys q2 h2 g2]; rfl
end
mutual
theorem Ua{H:Hp}{F:af->Prop}:∀ (x y:PV) {v u:V} {k:Bool},cW x y=aa k->bg K H F x v->bg K H F y u->iW K H (i4 x) v u k
 | .tup xs,y,v,u,k,e,rx,ry=>by
  have e0:=e;unfold cW at e;split at e
  ·rename_i ys;obtain⟨a,vs,rfl,ha,ra⟩:=id rx;obtain⟨b,ws,rfl,hb,rb⟩:=id ry;by_cases og:a=b
   ·subst og;rw[AL _ _ e0 rx ry];exact EB
   ·obtain⟨f,hf,rfl⟩:=uV xs ys e ra rb;unfold i4;exact MT (dj.of ha) (dj.of hb) og hf
  ·cases e
 | .lst xs,y,v,u,k,e,rx,ry=>by
  have e0:=e;unfold cW at e;split at e
  ·rename_i ys;obtain⟨a,vs,rfl,ha,_,ra⟩:=id rx;obtain⟨b,ws,rfl,hb,_,rb⟩:=id ry;by_cases og:a=b
   ·subst og;rw[AL _ _ e0 rx ry];exact EB
   ·obtain⟨f,hf,rfl⟩:=uV xs ys e ra rb;unfold i4;exact KG (.inl ha) (.inl hb) og hf
  ·cases e
 | .non,y,v,u,k,e,rx,ry=>by unfold cW at e; rw[show v=V.non from rx]; exact yi rfl e ry
 | .bl b,y,v,u,k,e,rx,ry=>by unfold cW at e; rw[show v=V.bl b from rx]; exact yi rfl e ry
 | .int b,y,v,u,k,e,rx,ry=>by unfold cW at e; rw[show v=V.int b from rx]; exact yi rfl e ry
 | .str b,y,v,u,k,e,rx,ry=>by unfold cW at e; rw[show v=tV b from rx.1]; exact yi rfl e ry
 | .raw _,_,_,_,_,e,_,_=>by unfold cW at e; cases e
 | .exc _,_,_,_,_,e,_,_=>by unfold cW at e; cases e
theorem uV{H:Hp}{F:af->Prop}:∀ (xs ys:List PV) {vs us:List V} {k:Bool},ik xs ys=aa k->bo K H F xs vs->bo K H F ys us -> ∃ f:Nat->Bool,(∀ (j:Nat) x y,vs[j]?=aa x->us[j]?=aa y->iW K H (i9 xs) x y (f j))/\k=gy f vs.length us.length
 | [],ys,vs,us,k,e,rx,ry=>by
  unfold ik at e;rw[show vs=[] from rx];refine⟨λ_=>ai,λj x y h=>by simp at h,?_⟩;have:=ry.len;cases e;unfold gy;cases ys with
  | nil=>simp at this; simp[this]
  | cons=>rw[this]; simp
 | x::xs,ys,vs,us,k,e,rx,ry=>by
  unfold ik at e;obtain⟨v,r,rfl,h1,h2⟩:=rx;cases ys with
  | nil=>
   cases e;rw[show us=[] from ry];exact⟨λ_=>ai,λj x y _ h=>by simp at h,by simp[gy]⟩
  | cons y ys=>
   obtain⟨u,r',rfl,g1,g2⟩:=ry;simp only at e;cases q1:cW x y with
   | none=>rw[q1]at e; cases e
   | some a=>
    cases q2:ik xs ys with
    | none=>rw[q1,q2]at e; cases e
    | some b=>
     rw[q1,q2]at e;cases e;obtain⟨f,hf,rfl⟩:=uV xs ys q2 h2 g2;refine⟨λj=>if j=0 then a else f (j-1),λj p q hp hq=>?_,by rw[eD,eD,TB]⟩;cases j with
     | zero=>simp at hp hq;subst hp hq;show iW K H _ _ _ (if(0:Nat)=0 then a else f (0-1));rw[if_pos rfl];exact Jh (Ua x y q1 h1 g1) (by unfold i9; exact Nat.le_max_left _ _)
     | succ j=>show iW K H _ _ _ (if j+1=0 then a else f (j+1-1));rw[if_neg ∅];exact Jh (hf j p q (by simpa using hp) (by simpa using hq)) (show i9 xs<=max (i4 x) (i9 xs)from Nat.le_max_right _ _)
end
def eqT(neg:Bool)(x y:PV):Option PV:=match fz x,fz y with
 | some v,aa u=>if p_ v u then aa (.bl (neg ^^ decide (v=u)))else ae
 | none,ae=>if i4 x<=8 then(cW x y).map λk=>.bl (neg ^^ k)else ae
 | _,_=>ae
def Ic(K:az):R2:=λx y H Q=>G0 x y H Q\/ux K ao x y H Q
def Et(K:az):R2:=λx y H Q=>F6 x y H Q\/ux K ai x y H Q
theorem mv(hu:X.A.units+64<cLine):cu X (eY .Eq) (Ic X.K):=UP.or (KZ hu)
theorem mV(hu:X.A.units+64<cLine):cu X (eY .NotEq) (Et X.K):=U2.or (Qz hu)
theorem Ie{H:Hp}{F:af->Prop}{x y:PV}{v u:V}{k:Bool}{Q:VK}{neg:Bool}(hx:fz x=ae)(e:cW x y=aa k)(hd:i4 x<=8)(rx:bg K H F x v)(ry:bg K H F y u)(q:Q (.bl (neg ^^ k)) H):ux K neg v u H Q:=by
 have fin:∀ {k':Bool},k=k'->Q (.bl (if neg=ai then !k' else k')) H:=λ{k'} z=>by subst z; cases neg <;> simpa using q
 cases x with
 | tup xs=>
  unfold cW at e;split at e
  ·rename_i ys;obtain⟨a,vs,rfl,ha,ra⟩:=rx;obtain⟨b,ws,rfl,hb,rb⟩:=ry;obtain⟨f,hf,ek⟩:=uV xs ys e ra rb;unfold i4 at hd;exact⟨a,b,vs,ws,i9 xs,f,rfl,rfl,.inr ⟨dj.of ha,dj.of hb⟩,∅,hf,fin ek⟩
  ·cases e
 | lst xs=>
  unfold cW at e;split at e
  ·rename_i ys;obtain⟨a,vs,rfl,ha,_,ra⟩:=rx;obtain⟨b,ws,rfl,hb,_,rb⟩:=ry;obtain⟨f,hf,ek⟩:=uV xs ys e ra rb;unfold i4 at hd;exact⟨a,b,vs,ws,i9 xs,f,rfl,rfl,.inl ⟨.inl ha,.inl hb⟩,∅,hf,fin ek⟩
  ·cases e
 | raw _=>unfold cW at e; cases e
 | exc _=>unfold cW at e; cases e
 | non=>cases hx
 | bl _=>cases hx
 | int _=>cases hx
 | str _=>cases hx
theorem mh:P2 K (Ic K) (eqT ao):=λF H x y v u Q pv rx ry e q=>by
 unfold eqT at e;split at e
 ·rename_i a b ea eb;split at e
  ·rename_i hs;cases e;rw[k_ rx ea,k_ ry eb];refine .inl ⟨hs,?_⟩;have:=q (.bl (decide (a=b))) F H (Al.refl ..) (by simp[bg]);exact this
  ·cases e
 ·rename_i ea eb;split at e
  ·rename_i hd;cases ek:cW x y with
   | none=>rw[ek]at e; cases e
   | some k=>
    rw[ek]at e;cases e;exact .inr (Ie (neg:=ao) ea ek hd rx ry (q _ F H (Al.refl ..) rfl))
  ·cases e
 ·cases e
theorem nq:P2 K (Et K) (eqT ai):=λF H x y v u Q pv rx ry e q=>by
 unfold eqT at e;split at e
 ·rename_i a b ea eb;split at e
  ·rename_i hs;cases e;rw[k_ rx ea,k_ ry eb];refine .inl ⟨hs,?_⟩;have:=q (.bl (!decide (a=b))) F H (Al.refl ..) (by simp[bg]);exact this
  ·cases e
 ·rename_i ea eb;split at e
  ·rename_i hd;cases ek:cW x y with
   | none=>rw[ek]at e; cases e
   | some k=>
    rw[ek]at e;cases e;exact .inr (Ie (neg:=ai) ea ek hd rx ry (q _ F H (Al.refl ..) rfl))
  ·cases e
 ·cases e
end
end Pu
namespace Pu
open L2
section
variable{X:Cx}{K:az}
def wW(i j:Tx):Bool:=!(Jr (tS j) (tS i) 0 (tS j).length 1).isEmpty
def oR:List PV->Option (List V)
 | []=>aa []
 | x::xs=>(fz x).bind λv=>(oR xs).map λr=>v::r
theorem Ez{H:Hp}{F:af->Prop}:∀ {xs:List PV} {vs ws:List V},bo K H F xs vs->oR xs=aa ws->vs=ws/\ws.all ke=ai
 | [],_,_,r,e=>by cases e; exact⟨r,rfl⟩
 | x::xs,_,ws,⟨v,r,rfl,h1,h2⟩,e=>by
  unfold oR at e;cases q:fz x with
  | none=>rw[q]at e; cases e
  | some w=>
   cases q2:oR xs with
   | none=>rw[q,q2]at e; cases e
   | some wr=>
    rw[q,q2]at e;cases e;obtain⟨e1,e2⟩:=Ez h2 q2;exact⟨by rw[k_ h1 q,e1],by rw[vK,zV q,e2]; rfl⟩
def rq(neg:Bool):PV->PV->Option PV
 | .str x,.str y=>aa (.bl (neg ^^ wW x y))
 | x,.lst ys=>(fz x).bind λv=>(oR ys).map λws=>.bl (neg ^^ uH v ws)
 | x,.tup ys=>(fz x).bind λv=>(oR ys).map λws=>.bl (neg ^^ uH v ws)
 | _,_=>ae
def II(K:az):R2:=λx y H Q=>(∃ i j,x = .str i/\y = .str j/\Q (.bl (!(Jr j i 0 j.length 1).isEmpty)) H)\/AU K ao x y H Q
theorem RO:cu X (eY .In) (II X.K):=UJ.or RZ
theorem Fo{H:Hp}{F:af->Prop}{x:PV}{ys:List PV}{v:V}{p:af}{us:List V}{Q:VK}{neg:Bool}{pv:PV}(rx:bg K H F x v)(hp:ce K H p us\/dj K H p us)(ru:bo K H F ys us)(e:((fz x).bind λv=>(oR ys).map λws=>PV.bl (neg ^^ uH v ws))=aa pv) (q:∀ w,bg K H F pv w->Q w H):AU K neg v (.ref p) H Q:=by
 cases q1:fz x with
 | none=>rw[q1]at e; cases e
 | some w=>
  cases q2:oR ys with
  | none=>rw[q1,q2]at e; cases e
  | some ws=>
   rw[q1,q2]at e;cases e;obtain⟨rfl,hf⟩:=Ez ru q2;rw[k_ rx q1];refine⟨p,us,rfl,hp,zV q1,hf,?_⟩;have:=q _ rfl;cases neg <;> simpa using this
theorem KN:P2 K (II K) (rq ao):=λF H x y v u Q pv rx ry e q=>by
 unfold rq at e;split at e
 ·cases e; exact .inl ⟨_,_,rx.1,ry.1,by have:=q _ F H (Al.refl ..) rfl; simpa[wW]using this⟩
 ·obtain⟨a,us,rfl,ha,_,ra⟩:=ry;exact .inr (Fo (neg:=ao) rx (.inl (.inl ha)) ra e λw rw'=>q w F H (Al.refl ..) rw')
 ·obtain⟨a,us,rfl,ha,ra⟩:=ry;exact .inr (Fo (neg:=ao) rx (.inr (dj.of ha)) ra e λw rw'=>q w F H (Al.refl ..) rw')
 ·cases e
def bz:List PV->Option PV
 | [.str x]=>aa (.int x.length)
 | [.lst xs]=>aa (.int xs.length)
 | [.tup xs]=>aa (.int xs.length)
 | _=>ae
theorem iH{H:Hp}{F:af->Prop}{x:PV}{vs:List V}(r:bo K H F [x] vs):∃ v,vs=[v]/\bg K H F x v:=by obtain⟨v,r',rfl,h1,h2⟩:=r;rw[show r'=[] from h2];exact⟨v,rfl,h1⟩
theorem fH:PL K (λxs H Q=>∃ x n,xs=[x]/\Fa K x H n/\Q (.int n) H) bz:=λF H xs vs Q pv rs e q=>by
 unfold bz at e;split at e
 ·cases e;obtain⟨v,rfl,rv⟩:=iH rs;rw[rv.1];exact⟨_,_,rfl,⟨by rw[mj]; exact cI rv.2 m9,rfl⟩,by rw[mj]; exact q _ F H (Al.refl ..) rfl⟩
 ·cases e;obtain⟨v,rfl,a,us,rfl,ha,_,ra⟩:=iH rs;exact⟨_,_,rfl,.inl ⟨us,.inl ha,rfl⟩,by rw[ra.len]; exact q _ F H (Al.refl ..) rfl⟩
 ·cases e;obtain⟨v,rfl,a,us,rfl,ha,ra⟩:=iH rs;exact⟨_,_,rfl,.inr ⟨us,dj.of ha,rfl⟩,by rw[ra.len]; exact q _ F H (Al.refl ..) rfl⟩
 ·cases e
def ym:List PV->Option PO
 | [.lst xs]=>aa (.lst xs)
 | [.tup xs]=>aa (.lst xs)
 | _=>ae
theorem Pn:pN K (λxs H Q=>∃ p ys,xs=[.ref p]/\(ce K H p ys\/dj K H p ys)/\∀ l,H l=ae->Q (.ref l) (upd H l (.lst ys))) ym:=λF H xs vs Q po hF rs e q=>by
 unfold ym at e;split at e
 ·cases e;obtain⟨v,rfl,a,us,rfl,ha,_,ra⟩:=iH rs;exact⟨a,us,rfl,.inl (.inl ha),λl hl=>q l F _ _ (Al.new0 hl) (xJ hl ra) (x_ hl hF trivial)⟩
 ·cases e;obtain⟨v,rfl,a,us,rfl,ha,ra⟩:=iH rs;exact⟨a,us,rfl,.inr (dj.of ha),λl hl=>q l F _ _ (Al.new0 hl) (xJ hl ra) (x_ hl hF trivial)⟩
 ·cases e
def yb:List PV->Option PV
 | [.lst xs]=>aa (.tup xs)
 | [.tup xs]=>aa (.tup xs)
 | _=>ae
theorem RU:PL K (λxs H Q=>∃ p ys,xs=[.ref p]/\((ce K H p ys/\∀ l,H l=ae->Q (.ref l) (upd H l (.tup ys)))\/(dj K H p ys/\Q (.ref p) H))) yb:=λF H xs vs Q pv rs e q=>by
 unfold yb at e;split at e
 ·cases e;obtain⟨v,rfl,a,us,rfl,ha,_,ra⟩:=iH rs;exact⟨a,us,rfl,.inl ⟨.inl ha,λl hl=>q _ F _ (Al.new0 hl) ⟨l,us,rfl,cz,(Al.new0 hl).reps ra⟩⟩⟩
 ·cases e;obtain⟨v,rfl,a,us,rfl,ha,ra⟩:=iH rs;exact⟨a,us,rfl,.inr ⟨dj.of ha,q _ F H (Al.refl ..) ⟨a,us,rfl,ha,ra⟩⟩⟩
 ·cases e
def gA:List PV->Option (List Tx)
 | []=>aa []
 | .str x::xs=>(gA xs).map (x::·)
 | _=>ae
def am(ls:List Tx):List PV:=ls.map .str
theorem oy(ls:List Tx):gA (am ls)=aa ls:=by
 induction ls with
 | nil=>rfl
 | cons x ls ih=>show(gA (am ls)).map (x::·)=_; rw[ih]; rfl
theorem ui:∀ {xs:List PV} {ls:List Tx},gA xs=aa ls->xs=am ls
 | [],ls,e=>by cases e; rfl
 | .str x::xs,ls,e=>by
  unfold gA at e;cases q:gA xs with
  | none=>rw[q]at e; cases e
  | some r=>rw[q]at e; cases e; rw[ui q]; rfl
 | .non::_,_,e=>by cases e
 | .bl _::_,_,e=>by cases e
 | .int _::_,_,e=>by cases e
 | .tup _::_,_,e=>by cases e
 | .lst _::_,_,e=>by cases e
 | .raw _::_,_,e=>by cases e
 | .exc _::_,_,e=>by cases e
theorem UF{H:Hp}{F:af->Prop}:∀ {ls:List Tx} {vs:List V},bo K H F (am ls) vs↔vs=c0 ls/\∀ x∈ls,x.length<=bB
 | [],vs=>by simp[am,bo,c0]
 | x::ls,vs=>by
  show(∃ v r,vs=v::r/\(v=tV x/\x.length<=bB)/\bo K H F (am ls) r)↔_;constructor
  ·rintro⟨v,r,rfl,⟨rfl,h1⟩,h2⟩;obtain⟨rfl,h3⟩:=UF.mp h2;exact⟨rfl,λy hy=>by
    rcases cb.mp hy with rfl | hy
    ·exact h1
    ·exact h3 y hy⟩
  ·rintro⟨rfl,h⟩;exact⟨tV x,c0 ls,rfl,⟨rfl,h x (by simp)⟩,UF.mpr ⟨rfl,λy hy=>h y (by simp[hy])⟩⟩
def kE:List PV->Option (List Bool)
 | []=>aa []
 | .bl b::xs=>(kE xs).map (b::·)
 | _=>ae
theorem AX{H:Hp}{F:af->Prop}:∀ {xs:List PV} {vs:List V} {bs:List Bool},bo K H F xs vs->kE xs=aa bs->vs=bs.map V.bl
 | [],_,_,r,e=>by cases e; exact r
 | .bl b::xs,_,bs,⟨v,r,rfl,h1,h2⟩,e=>by
  unfold kE at e;cases q:kE xs with
  | none=>rw[q]at e; cases e
  | some r'=>rw[q]at e; cases e; rw[AX h2 q,show v=V.bl b from h1]; rfl
 | .non::_,_,_,_,e=>by cases e
 | .str _::_,_,_,_,e=>by cases e
 | .int _::_,_,_,_,e=>by cases e
 | .tup _::_,_,_,_,e=>by cases e
 | .lst _::_,_,_,_,e=>by cases e
 | .raw _::_,_,_,_,e=>by cases e
 | .exc _::_,_,_,_,e=>by cases e
def uZ:List PV->Option PV
 | [.lst xs]=>(kE xs).map λbs=>.bl (bs.all id)
 | _=>ae
theorem Jm:PL K (λxs H Q=>∃ (p:af) (bs:List Bool),xs=[.ref p]/\ce K H p (bs.map V.bl)/\Q (.bl (bs.all id)) H) uZ:=λF H xs vs Q pv rs e q=>by
 unfold uZ at e;split at e
 ·rename_i ys;cases q1:kE ys with
  | none=>rw[q1]at e; cases e
  | some bs=>
   rw[q1]at e;cases e;obtain⟨v,rfl,a,us,rfl,ha,_,ra⟩:=iH rs;rw[AX ra q1]at ha;exact⟨a,bs,rfl,.inl ha,q _ F H (Al.refl ..) rfl⟩
 ·cases e
def vm:PV->Option String
 | .non=>aa "NoneType"
 | .bl _=>aa "bool"
 | .int _=>aa "int"
 | .str _=>aa "str"
 | .tup _=>aa "tuple"
 | .lst _=>aa "list"
 | _=>ae
def i8:List PV->Option PV
 | [x,.raw (.ty T)]=>(vm x).bind λt=>(jU [] (.type t) (.type T)).map λb=>.bl b
 | _=>ae
theorem rj:gL X (.builtin "isinstance") (λxs H Q=>∃ x t T b,xs=[x,.ty T]/\jv X.K H x (.type t)/\jU X.K (.type t) (.type T)=aa b/\Q (.bl b) H):=by
 intro ah s σ H xs us Q I r h;obtain⟨x,t,T,b,rfl,ty,e,q⟩:=h;cases r with
 | cons r1 r2=>
  cases r2 with
  | cons r3 r4=>
   cases r4;cases r3;exact ND I r1 ty e λtk=>⟨.bl b,H,I.tok _,rfl,q⟩
theorem Of{H:Hp}{F:af->Prop}{x:PV}{v:V}{t:String}(r:bg K H F x v)(e:vm x=aa t):jv K H v (.type t):=by
 cases x with
 | non=>cases e; rw[show v=V.non from r]; exact .non
 | bl b=>cases e; rw[show v=V.bl b from r]; exact .bl b
 | int b=>cases e; rw[show v=V.int b from r]; exact .int b
 | str b=>cases e; rw[show v=tV b from r.1]; exact .str _
 | tup xs=>cases e; obtain⟨a,vs,rfl,ha,_⟩:=r; exact .tup ha
 | lst xs=>
  cases e;obtain⟨a,vs,rfl,ha,_⟩:=r;rcases ha with ha | ⟨o,ha⟩
  ·exact .lst ha
  ·exact .frz ha
 | raw _=>cases e
 | exc _=>cases e
theorem rX:PL K (λxs H Q=>∃ x t T b,xs=[x,.ty T]/\jv K H x (.type t)/\jU K (.type t) (.type T)=aa b/\Q (.bl b) H) i8:=λF H xs vs Q pv rs e q=>by
 unfold i8 at e;split at e
 ·rename_i x T;cases q1:vm x with
  | none=>rw[q1]at e; cases e
  | some t=>
   cases q2:jU [] (.type t) (.type T)with
   | none=>rw[q1,gI,q2]at e; cases e
   | some b=>
    rw[q1,gI,q2]at e;cases e;obtain⟨v,r',rfl,h1,h2⟩:=rs;obtain⟨u,rfl,h3⟩:=iH h2;rw[show u=V.ty T from h3];exact⟨v,t,T,b,rfl,Of h1 q1,q2,q _ F H (Al.refl ..) rfl⟩
 ·cases e
theorem rD{E:XK}{x:Str}{T:String}{pos:Pos}(hm:X.mg x=ae)(hv:fq x=aa (.type T))(hg:Gl X x:=by rfl)(hn:x≠"__name__":=by decide)(hd:(x == ("__debug__" : Str))=ao:=by decide):DE X E (.Name x pos) (dC (.raw (.ty T))):=λF S ε σ H Q r q=>cT (N8 (v:=.ty T) hg hm hv rfl hn hd) (q F S H r (bX.refl ..) _ rfl)
def bA:PV->PV->Option PV
 | .lst xs,.int i=>ff xs i
 | .tup xs,.int i=>ff xs i
 | .str x,.int i=>(ff x i).map λc=>.str [c]
 | _,_=>ae
theorem EJ{H:Hp}{F:af->Prop}{xs:List PV}{vs:List V}{i:Int}{x:PV}(r:bo K H F xs vs)(e:ff xs i=aa x):∃ v,ff vs i=aa v/\bg K H F x v:=by
 unfold ff at e ⊢;rw[r.len];cases q:j_ xs.length i with
 | none=>rw[q]at e; cases e
 | some j=>rw[q]at e; exact r.get e
theorem fi:P2 K (HY K) bA:=λF H x y v u Q pv rx ry e q=>by
 unfold bA at e;split at e
 ·rename_i xs i;obtain⟨a,us,rfl,ha,_,ra⟩:=rx;obtain⟨w,e1,e2⟩:=EJ ra e;exact .inl ⟨a,us,i,w,rfl,ry,.inl ha,e1,q _ F H (Al.refl ..) e2⟩
 ·rename_i xs i;obtain⟨a,us,rfl,ha,ra⟩:=rx;obtain⟨w,e1,e2⟩:=EJ ra e;exact .inr (.inl ⟨a,us,i,w,rfl,ry,dj.of ha,e1,q _ F H (Al.refl ..) e2⟩)
 ·rename_i x i;cases q1:ff x i with
  | none=>rw[q1]at e; cases e
  | some c=>
   rw[q1]at e;cases e;rw[rx.1];exact .inr (.inr ⟨_,i,c,rfl,ry,by rw[mj]; exact cI rx.2 m9,by rw[oU]; exact q1,q _ F H (Al.refl ..) ⟨rfl,by show 1<=bB; decide⟩⟩)
 ·cases e
def dN{α:Type}(xs:List α)(lo hi:Option Int):List α:=(xs.drop (HT.sIx xs.length 0 lo)).take (HT.sIx xs.length xs.length hi-HT.sIx xs.length 0 lo)
theorem Pp{α:Type}(xs:List α)(lo hi:Option Int):(dN xs lo hi).length<=xs.length:=by unfold dN;rw[jW,jX];lia
def a_:PV->Option Int->Option Int->Option PV
 | .str x,lo,hi=>aa (.str (dN x lo hi))
 | .lst xs,lo,hi=>aa (.lst (dN xs lo hi))
 | .tup xs,lo,hi=>if HT.sIx xs.length 0 lo=0/\HT.sIx xs.length xs.length hi=xs.length then ae else aa (.tup (dN xs lo hi))
 | _,_,_=>ae
def Gi(K:az):V->Option Int->Option Int->Hp->VK->Prop:=λx lo hi H Q=>GH x lo hi H Q\/(F9 K x lo hi H Q\/Ht K x lo hi H Q)
theorem eX:m8 X (Gi X.K):=UD.or (UG.or Ny)
theorem E7{H:Hp}{F:af->Prop}{xs:List PV}{vs:List V}(r:bo K H F xs vs)(lo hi:Option Int):bo K H F (dN xs lo hi) (oB vs lo hi):=by unfold dN oB;rw[r.len];exact(r.drop _).take _
theorem eV:GP K (Gi K) a_:=λF H x lo hi v Q pv rx e q=>by
 unfold a_ at e;split at e
 ·cases e;rw[rx.1];refine .inl ⟨_,rfl,by rw[mj]; exact cI rx.2 m9,?_⟩;refine q _ F H (Al.refl ..) ⟨?_,cI (Pp ..) rx.2⟩;unfold mf dN;rw[mj,oU]; rfl
 ·cases e;obtain⟨a,us,rfl,ha,_,ra⟩:=rx;exact .inr (.inl ⟨a,us,rfl,.inl ha,λp hp=>q _ _ _ (Al.new hp) ⟨p,_,rfl,.inl cz,.inr rfl,(Al.new hp).reps (E7 ra lo hi)⟩⟩)
 ·split at e
  ·cases e
  ·rename_i hw;cases e;obtain⟨a,us,rfl,ha,ra⟩:=rx;exact .inr (.inr ⟨a,us,rfl,dj.of ha,by rw[ra.len]; exact hw,λp hp=>q _ _ _ (Al.new0 hp) ⟨p,_,rfl,cz,(Al.new0 hp).reps (E7 ra lo hi)⟩⟩)
 ·cases e
variable{E:XK}{tg l a b:aC}{d:aj->R PV}{ds:aj->R (List PV)}{p pos:Pos}
def nB:PV->Option (List PV)
 | .lst xs=>aa xs
 | .tup xs=>aa xs
 | .str x=>aa (x.map λc=>.str [c])
 | _=>ae
def cG(d:aj->R PV):aj->R (List PV):=λε=>(d ε).bind λx ε1=>aS (nB x) ε1
theorem FM{H:Hp}{F:af->Prop}:∀ (x:Tx),bo K H F (x.map λc=>PV.str [c]) (x.map sg)
 | []=>rfl
 | c::x=>⟨sg c,x.map sg,rfl,⟨rfl,by show 1<=bB; decide⟩,FM x⟩
theorem ju(he:DE X E l d):DI X E tg l (cG d):=λF S ε σ H Rr rl h=>Bx.mk λah s I=>by
 have w:=he F S ε σ H (λv H1=>∃ F1 S1 ε1 x,a9 X.K F1 S1 ε1 σ H1/\bg X.K H1 F1 x v/\Ok X.K E σ F1 S1 H1 (aS (nB x) ε1) (λpvs _ F' S' H'=>∀ J vs RR,bo X.K H' F' pvs vs->vs.length<=bp->Walk J vs RR->(∀ S'' F'' H'',bX (U S') (U S'') F' F'' H' H''->RR H'')->Rr J H')) rl
  ((Ok.bind h).imp λx ε1 F1 S1 H1 r1 g1 h1 v rv=>⟨F1,S1,ε1,x,r1,rv,h1⟩)
 refine aU (w.run ah s I) λv s1 ⟨x,H1,I1,rx,F1,S1,ε1,pv,r1,rv,h1⟩=>?_;cases pv with
 | lst xs=>
  obtain⟨a,us,rfl,ha,hF,ra⟩:=rv;cases rx;obtain⟨its,rr,pp,hz⟩:=I1.list (.inl ha);refine CP pp.isList ?_;refine⟨s1.heap.objs.size,[s1.heap.objs.size],_,_,H1,rfl,I1.kept (t':=s1.toks) λb o e=>bK _ e,O3 a _,⟨_,dz _ rfl,rfl,rfl⟩,λb hb=>?_,h1 F1 S1 H1 r1 (bX.refl ..) (Aj X.K a) us (λH=>ce X.K H a us) ra hz Pk λS2 F2 H2 g2=>.inl (g2.lst r1.fit hF ha)⟩;have e:b=s1.heap.objs.size:=by simpa using hb
  subst e;exact I1.fpOk (bi _) (I1.hok.fresh (bi _))
 | tup xs=>
  obtain⟨a,us,rfl,ha,ra⟩:=rv;cases rx;obtain⟨its,rr,pp,hz⟩:=I1.tuple (dj.of ha);refine wpAny_pyIter_tuple (show s1.heap.IsTuple a its.toArray from pp) ?_;refine⟨s1.heap.objs.size,[s1.heap.objs.size],_,_,H1,rfl,I1.kept (t':=s1.toks) λb o e=>bK _ e,RS a _,⟨_,dz _ rfl,rfl,rfl⟩,λb hb=>?_,h1 F1 S1 H1 r1 (bX.refl ..) (Bq X.K a) us (λH=>dj X.K H a us) ra hz K5 λS2 F2 H2 g2=>dj.of (g2.imm r1.fit ha id)⟩;have e:b=s1.heap.objs.size:=by simpa using hb
  subst e;exact I1.fpOk (bi _) (I1.hok.fresh (bi _))
 | str z=>
  obtain⟨rfl,hz⟩:=rv;obtain⟨t,rfl⟩:=rx;have qq:Rr (vk (tS z)) H1:=h1 F1 S1 H1 r1 (bX.refl ..) (vk (tS z)) (z.map sg) (λ_=>True) (FM z) (by rw[cD]; exact cI hz m9) (by have:=Qd (z:=tS z); rw[oU]at this; exact this) λ_ _ _ _=>trivial;have fin:∀ (n:String) (St':Nat->aE->Prop),(∀ i h,St' i h->∃ o n vs,h.get? s1.heap.objs.size=aa o/\o.cls = .type n/\o.data = .fields vs /\ ["enumerate","zip","dict_itemiterator","dict_reverseitemiterator","odict_iterator","itertools.zip_longest","itertools.pairwise"].contains n=ao) ->
    (∀ (A:be) (i:Nat) (s:aq) (Q:ak->aq->Prop) (E:ak->aq->Prop),St' i s.heap->Q (.ref s1.heap.objs.size) s->ax (ay X.prog X.w) A (o5 (.ref s1.heap.objs.size)) Q E s) ->
    (∀ A:be,A.handled=ae->Walks X.prog X.w A s1.heap.objs.size [s1.heap.objs.size] [s1.heap.objs.size] (tS z).cps.size (SignAt (tS z)) St') ->
    St' 0 (s1.heap.push { cls:=.type n,data:=.fields #[.str (tS z) t,.int 0 0] }) ->
    xl X ah σ tg Rr (.ref s1.heap.objs.size) { s1 with heap:=s1.heap.push { cls:=.type n,data:=.fields #[.str (tS z) t,.int 0 0] } }:=λn St' h1 h2 h3 h4=>by
   refine⟨s1.heap.objs.size,[s1.heap.objs.size],St',vk (tS z),H1,rfl,I1.kept (t':=s1.toks) λb o e=>bK _ e,Rw h1 h2 h3,h4,λb hb=>?_,qq⟩;have e:b=s1.heap.objs.size:=by simpa using hb
   subst e;exact I1.fpOk (bi _) (I1.hok.fresh (bi _))
  cases ha:(tS z).cps.all (· < 128)
  ·refine wpAny_pyIter_wide ha (fin "str_iterator" (λi h=>h.IsStrIter s1.heap.objs.size "str_iterator" (tS z) t i) (λi h ⟨o,e1,e2,e3⟩=>⟨o,_,_,e1,e2,e3,by decide⟩) (λA i s Q E st h=>wpAny_pyIter_striter_wide st h) (λA' hA=>Walks.strWide hA _ (tS z) t) ⟨_,dz _ rfl,rfl,rfl⟩)
  ·refine wpAny_pyIter_ascii ha (fin "str_ascii_iterator" (λi h=>h.IsStrIter s1.heap.objs.size "str_ascii_iterator" (tS z) t i) (λi h ⟨o,e1,e2,e3⟩=>⟨o,_,_,e1,e2,e3,by decide⟩) (λA i s Q E st h=>wpAny_pyIter_striter_ascii st h) (λA' hA=>Walks.strAscii hA _ (tS z) t) ⟨_,dz _ rfl,rfl,rfl⟩)
 | non=>exact(show False from h1).elim
 | bl _=>exact(show False from h1).elim
 | int _=>exact(show False from h1).elim
 | raw _=>exact(show False from h1).elim
 | exc _=>exact(show False from h1).elim
def fU(lo:Int)(n:Nat):List PV:=(bQ n).map λi=>PV.int (lo+(i:Nat))
theorem EQ{H:Hp}{F:af->Prop}(lo:Int)(n:Nat):bo K H F (fU lo n) (rR lo n):=by
 unfold fU rR
 induction (bQ n)with
 | nil=>rfl
 | cons x xs ih=>exact⟨_,_,rfl,rfl,ih⟩
def ij:List PV->Option (List PV)
 | [.int j]=>if j<=1000000/\-1000000<=j then aa (fU 0 j.toNat)else ae
 | _=>ae
def ig:List PV->Option (List PV)
 | [.int i,.int j]=>if j<=1000000/\-1000000<=j/\i<=1000000/\-1000000<=i then aa (fU i (j-i).toNat)else ae
 | _=>ae
theorem pI(hm:X.mg "range" = ae)(ha:DA X E [a] ds)(hg:Gl X "range":=by rfl)(hs:bq [a] X.env=[(ao,bv a X.env)]:=by rfl):DI X E tg (.Call (.Name "range" p) [a] [] pos) (dL ij ds):=λF S ε σ H Rr rl h=>by
 refine FA (Tu hg hm im hs) (ha F S ε σ H _ rl ((Ok.bind h).imp λxs ε1 F1 S1 H1 r1 g1 h1 vs jI=>?_));unfold ij at h1;split at h1
 ·rename_i j;split at h1
  ·rename_i hj;obtain⟨v,rfl,rv⟩:=iH jI;refine⟨j,by rw[show v=V.int j from rv],∅,∅,h1 F1 S1 H1 r1 (bX.refl ..) _ _ _ (EQ 0 j.toNat) (by rw[xD,sU]; lia) FZ λ_ _ _ _=>trivial⟩
  ·exact h1.elim
 ·exact h1.elim
theorem rV(hm:X.mg "range" = ae)(ha:DA X E [a,b] ds)(hg:Gl X "range":=by rfl)(hs:bq [a,b] X.env=[(ao,bv a X.env),(ao,bv b X.env)]:=by rfl)(mP:bq [b] X.env=[(ao,bv b X.env)]:=by rfl) : DI X E tg (.Call (.Name "range" p) [a,b] [] pos) (dL ig ds):=λF S ε σ H Rr rl h=>by
 refine FA (Nw hg hm im hs mP) (ha F S ε σ H _ rl ((Ok.bind h).imp λxs ε1 F1 S1 H1 r1 g1 h1 vs jI=>?_));unfold ig at h1;split at h1
 ·rename_i i j;split at h1
  ·rename_i hj;obtain⟨v,r',rfl,h2,h3⟩:=jI;obtain⟨u,rfl,h4⟩:=iH h3;refine⟨i,j,by rw[show v=V.int i from h2,show u=V.int j from h4],⟨∅,∅,∅,∅⟩,h1 F1 S1 H1 r1 (bX.refl ..) _ _ _ (EQ i (j-i).toNat) (by rw[xD,sU]; lia) FZ λ_ _ _ _=>trivial⟩
  ·exact h1.elim
 ·exact h1.elim
end
section
variable{K:az}{F:af->Prop}{S:Nat->af->Prop}{ε:aj}{σ:St}{H:Hp}{i:Nat}{xs xs':List PV}{vs':List V}{a:af}
theorem a9.lstAt(r:a9 K F S ε σ H)(e:ε[i]?=aa (.own (.lst xs))):∃ a vs,σ[i]?=aa (aa (.ref a))/\H a=aa (.lst vs)/\bo K H F xs vs/\S i a/\∀ b,S i b->b=a:=by obtain⟨a,e1,⟨vs,h1,h2⟩,h3⟩:=r.own i _ e;exact⟨a,vs,e1,h1,h2,(h3 a).mpr rfl,λb h=>(h3 b).mp h⟩
theorem a9.upd(r:a9 K F S ε σ H)(e:ε[i]?=aa (.own (.lst xs)))(ea:σ[i]?=aa (aa (.ref a)))(h:bo K H F xs' vs') : a9 K F S (ε.set i (.own (.lst xs'))) σ (upd H a (.lst vs'))/\bX (U S) (U S) F F H (upd H a (.lst vs')):=by
 obtain⟨a',vs,e1,h1,h2,h3,h4⟩:=r.lstAt e;rw[ea]at e1;cases e1;have hi:i<ε.length:=(eu.mp e).1;have g:bX (U S) (U S) F F H (L2.upd H a (.lst vs')):=⟨λ_ z=>z,λb o q n=>by rw[cn (by rintro rfl; exact n ⟨i,h3⟩)]; exact q,λb o q=>by
  by_cases hb:b=a
  ·subst hb; exact⟨_,cz⟩
  ·exact⟨o,by rw[cn hb]; exact q⟩,λ_ z=>.inl z,λ_ z=>.inl z⟩
 refine⟨⟨by rw[k9]; exact r.len,λb z=>let ⟨o,q⟩:=r.ex b z; g.there b o q,λj pv q=>?_,λj po q=>?_,λj b z=>?_,r.dist⟩,g⟩
 ·have hj:i≠j:=by rintro rfl; rw[ip hi]at q; cases q
  rw[fI hj]at q;obtain⟨v,q1,q2⟩:=r.val j pv q;exact⟨v,q1,q2.grow g r.fit⟩
 ·by_cases hj:i=j
  ·subst hj;rw[ip hi]at q;cases q;exact⟨a,ea,⟨vs',cz,h.grow g r.fit⟩,λb=>⟨h4 b,λz=>by rw[z]; exact h3⟩⟩
  ·rw[fI hj]at q;obtain⟨c,q1,q2⟩:=r.own j po q;refine⟨c,q1,q2.mono (λ_ _ z=>z.grow g r.fit) (λ_ _ z=>z.grow g r.fit) λb o z w=>?_⟩;rw[cn (by rintro rfl; exact hj (r.dist i j b h3 z))]; exact w
 ·obtain⟨⟨po,q1⟩,q2,o,q3,q4⟩:=r.foot j b z;by_cases hj:i=j
  ·subst hj;rw[h4 b z];exact⟨⟨_,ip hi⟩,by rw[← h4 b z]; exact q2,_,cz,trivial⟩
  ·exact⟨⟨po,by rw[fI hj]; exact q1⟩,q2,o,by rw[cn (by rintro rfl; exact hj (r.dist i j b h3 z))]; exact q3,q4⟩
end
section
variable{X:Cx}{E:XK}{pin:List Nat}{e b:aC}{de db:aj->R PV}{pos:Pos}
def f_(ε:aj)(i:Nat):Option (List PV):=match ε[i]? with
 | some (.own (.lst xs))=>aa xs
 | _=>ae
theorem nr{ε:aj}{i:Nat}{xs:List PV}(h:f_ ε i=aa xs):ε[i]?=aa (.own (.lst xs)):=by
 unfold f_ at h;split at h
 ·cases h; assumption
 ·cases h
def jO(i:Nat)(de:aj->R PV):aj->R aH:=λε=>(aS (f_ ε i) ε).bind λ_ ε=>(de ε).bind λy ε1=>(aS (f_ ε1 i) ε1).bind λxs ε1=>if xs.length<bB then .ok .next (ε1.set i (.own (.lst (xs++[y]))))else .no
theorem r9(i:Nat){x:Str}{p apos cpos:Pos}(he:DE X E e de)(hN:X.N[i]?=aa x:=by rfl)(hv:fW X.env.scope x:=by first | exact Or.inl rfl | exact Or.inr (Or.inl rfl) | exact Or.inr (Or.inr rfl))(hd:(x == ("__debug__" : Str))=ao:=by decide)(bM:(x == ("__classdict__" : Str))=ao:=by decide) (h1:s_ (.Name x p) "append" X.env (bv (.Name x p) X.env)=bv (.Name x p) X.env:=by rfl)(h2:((fZ cpos (bq [e] X.env)).all (λx=>!x.1) && (backToKw cpos (CF [] X.env)).all (λx=>x.1.isSome) && decide ([e].length+([]:List qA).length+(if([]:List qA).isEmpty then 0 else 1)<30))=ai:=by rfl)(h3:(apos.endLine == cpos.line)=ai:=by rfl) (h4:bq [e] X.env=(ao,bv e X.env)::bq [] X.env:=by rfl) (h5:(fZ cpos (bq [] X.env)).any (·.1)=ao:=by rfl)(hs:mB (.Call (.Attribute (.Name x p) "append" apos) [e] [] cpos) ae pos.line X.env=pure ao:=by rfl) : DS X E pin (.Expr (.Call (.Attribute (.Name x p) "append" apos) [e] [] cpos) pos) (jO i de):=λF S ε σ H D rl h=>by
 unfold jO at h;cases e0:f_ ε i with
 | none=>rw[e0]at h; exact h.elim
 | some xs0=>
  rw[e0]at h;simp only[dE,R.bind_ok]at h;obtain⟨a,vs0,ea,ha,_,_,_⟩:=rl.lstAt (nr e0);refine iZ (Bc (HZ PySem.F.plainAttrs_list PySem.F.slot_list_append PySem.F.type_list_append Ba (gP hN hv hd bM) (kc cx mn h4) h1 h2 h3 h4 h5) hs) ⟨.ref a,ea,.inl ⟨rfl,_,ce.of ha⟩,?_⟩;refine he F S ε σ H _ rl (h.bindE.imp λy ε1 F1 S1 H1 r1 g1 q v rv=>?_);cases e1:f_ ε1 i with
  | none=>rw[e1]at q; exact q.elim
  | some xs=>
   rw[e1]at q;simp only[dE,R.bind_ok]at q;obtain⟨a',vs,ea',ha',ra,_,_⟩:=r1.lstAt (nr e1);rw[ea]at ea';cases ea';split at q
   ·rename_i hl;obtain⟨r2,g2⟩:=r1.upd (nr e1) ea (ra.app (.one rv));exact⟨a,vs,v,rfl,rfl,ha',by rw[ra.len]; exact fQ hl m9,q F1 S1 σ _ r2 g2 (j6.refl _ _)⟩
   ·exact q.elim
def OY:V->List V->Hp->VK->Prop:=λx vs H Q=>∃ l b xs zs,x = .ref l/\vs=[.ref b]/\H l=aa (.lst xs)/\Rd H b (.lst zs)/\xs.length+zs.length<=bp/\Q .non (L2.upd H l (.lst (xs++zs)))
theorem PH:Ji X "list.extend" OY:=by
 intro ah s σ H x vs v us Q I rx rv h;obtain⟨l,b,xs,zs,rfl,rfl,hH,hB,hz,q⟩:=h;cases rx;obtain⟨u,rfl,ru⟩:=rv.one;cases ru;obtain⟨z,its,n,r,hl,e⟩:=I.lstM hH;obtain⟨its2,n2,r2,e2,_⟩:=BH I hB;have kz:=r2.length;have hsz:its.toArray.size+its2.toArray.size<=bp:=by rw[dA,dA]; lia
 have Uw:¬ (!its.toArray.isEmpty && Jz (its.toArray.size+its2.toArray.size))=ai:=by rw[Ri hsz,CT];exact gn
 refine call_meets F.slot_list_extend ⟨_,e,rfl⟩ F.entry_list_extend (F.args_list_extend_2 _ _)
  (AutoSeq1.list_extend_list_list_0 l its.toArray n b its2.toArray n2 Uw (by rw[dA]; lia) ∅) ⟨e,e2,?_⟩
 refine⟨.non,_,I.lset (its':=its++its2) hH e (by simp) (r.append r2) ?_,rfl,q⟩;rw[dq];lia
def kR(i:Nat)(de:aj->R PV):aj->R aH:=λε=>(aS (f_ ε i) ε).bind λ_ ε=>(de ε).bind λy ε1=>(aS (f_ ε1 i) ε1).bind λxs ε1=>match y with
 | .lst ys=>if xs.length+ys.length<=bB then .ok .next (ε1.set i (.own (.lst (xs++ys))))else .no
 | _=>.no
theorem xR(i:Nat){x:Str}{p apos cpos:Pos}(he:DE X E e de)(hN:X.N[i]?=aa x:=by rfl)(hv:fW X.env.scope x:=by first | exact Or.inl rfl | exact Or.inr (Or.inl rfl) | exact Or.inr (Or.inr rfl))(hd:(x == ("__debug__" : Str))=ao:=by decide)(bM:(x == ("__classdict__" : Str))=ao:=by decide) (h1:s_ (.Name x p) "extend" X.env (bv (.Name x p) X.env)=bv (.Name x p) X.env:=by rfl)(h2:((fZ cpos (bq [e] X.env)).all (λx=>!x.1) && (backToKw cpos (CF [] X.env)).all (λx=>x.1.isSome) && decide ([e].length+([]:List qA).length+(if([]:List qA).isEmpty then 0 else 1)<30))=ai:=by rfl)(h3:(apos.endLine == cpos.line)=ai:=by rfl) (h4:bq [e] X.env=(ao,bv e X.env)::bq [] X.env:=by rfl) (h5:(fZ cpos (bq [] X.env)).any (·.1)=ao:=by rfl)(hs:mB (.Call (.Attribute (.Name x p) "extend" apos) [e] [] cpos) ae pos.line X.env=pure ao:=by rfl) : DS X E pin (.Expr (.Call (.Attribute (.Name x p) "extend" apos) [e] [] cpos) pos) (kR i de):=λF S ε σ H D rl h=>by
 unfold kR at h;cases e0:f_ ε i with
 | none=>rw[e0]at h; exact h.elim
 | some xs0=>
  rw[e0]at h;simp only[dE,R.bind_ok]at h;obtain⟨a,vs0,ea,ha,_,_,_⟩:=rl.lstAt (nr e0);refine iZ (Bc (HZ PySem.F.plainAttrs_list PySem.F.slot_list_extend PySem.F.type_list_extend PH (gP hN hv hd bM) (kc cx mn h4) h1 h2 h3 h4 h5) hs) ⟨.ref a,ea,.inl ⟨rfl,_,ce.of ha⟩,?_⟩;refine he F S ε σ H _ rl (h.bindE.imp λy ε1 F1 S1 H1 r1 g1 q v rv=>?_);cases e1:f_ ε1 i with
  | none=>rw[e1]at q; exact q.elim
  | some xs=>
   rw[e1]at q;simp only[dE,R.bind_ok]at q;obtain⟨a',vs,ea',ha',ra,_,_⟩:=r1.lstAt (nr e1);rw[ea]at ea';cases ea';split at q
   ·rename_i ys;split at q
    ·rename_i hl;obtain⟨c,us,rfl,hc,_,rc⟩:=rv;obtain⟨r2,g2⟩:=r1.upd (nr e1) ea (ra.app rc);exact⟨a,c,vs,us,rfl,rfl,ha',hc,by rw[ra.len,rc.len]; exact cI hl m9,q F1 S1 σ _ r2 g2 (j6.refl _ _)⟩
    ·exact q.elim
   ·exact q.elim
end
mutual
def imm:PV->Bool
 | .lst _=>ao
 | .tup xs=>rP xs
 | _=>ai
def rP:List PV->Bool
 | []=>ai
 | x::xs=>imm x && rP xs
end
mutual
theorem bg.imm{K:az}{H:Hp}{F F':af->Prop}:∀ (x:PV) {v:V},imm x=ai->bg K H F x v->bg K H F' x v
 | .non,_,_,h=>h
 | .bl _,_,_,h=>h
 | .int _,_,_,h=>h
 | .str _,_,_,h=>h
 | .raw _,_,_,h=>h
 | .exc _,_,_,h=>h
 | .lst _,_,e,_=>by simp[Pu.imm]at e
 | .tup xs,_,e,⟨a,vs,e1,h1,h2⟩=>⟨a,vs,e1,h1,bo.imm xs (by simpa[Pu.imm]using e) h2⟩
theorem bo.imm{K:az}{H:Hp}{F F':af->Prop}:∀ (xs:List PV) {vs:List V},rP xs=ai->bo K H F xs vs->bo K H F' xs vs
 | [],_,_,h=>h
 | x::xs,_,e,⟨v,r,e1,h1,h2⟩=>by
  have e':imm x=ai/\rP xs=ai:=by simpa[rP]using e
  exact⟨v,r,e1,bg.imm x e'.1 h1,bo.imm xs e'.2 h2⟩
end
section
variable{K:az}{F:af->Prop}{S:Nat->af->Prop}{ε:aj}{σ:St}{H:Hp}{i:Nat}{xs:List PV}
theorem a9.look(r:a9 K F S ε σ H)(e:ε[i]?=aa (.own (.lst xs))):∃ a,σ[i]?=aa (aa (.ref a))/\¬ F a/\bg K H (λb=>F b\/b=a) (.lst xs) (.ref a)/\(∀ b,F b\/b=a->∃ o,H b=aa o) /\ (∀ {F' H'},Al (λb=>F b\/b=a) F' H H'->Al F (λb=>F' b/\b≠a) H H'):=by
 obtain⟨a,vs,e1,h1,h2,h3,h4⟩:=r.lstAt e;have nF:¬ F a:=(r.foot i a h3).2.1;refine⟨a,e1,nF,⟨a,vs,rfl,.inl h1,.inr rfl,bo.mono (λ_ z=>.inl z) (λ_ _ _ z=>z) (λ_ _ z _=>z) _ _ h2⟩,λb z=>z.elim (r.ex b) λz=>by rw[z]; exact⟨_,h1⟩,λ{F' H'} al=>⟨λb z=>⟨al.fro b (.inl z),by rintro rfl; exact nF z⟩,al.same,λb z=>?_⟩⟩;rcases al.fnew b z.1 with(w | w) | w
 ·exact .inl w
 ·exact absurd w z.2
 ·exact .inr w
end
section
variable{X:Cx}{E:XK}{e b:aC}{de db:aj->R PV}{pos p:Pos}{x y:Str}{id T:String}{r:List V->Hp->VK->Prop}{f:List PV->Option PV}{fn:List PV->Option PO}
def oG(o:Option PV):Option PV:=o.bind λv=>if imm v then aa v else ae
theorem D_{o:Option PV}{v:PV}(h:oG o=aa v):o=aa v/\imm v=ai:=by
 cases o with
 | none=>cases h
 | some w=>
  have h:(if imm w then aa w else ae)=aa v:=h;split at h
  ·cases h; exact⟨rfl,by assumption⟩
  ·cases h
def Rm:PO->Bool
 | .lst xs=>rP xs
 | _=>ao
def yw{α:Type}(f:List PV->Option α)(i:Nat):aj->R α:=λε=>(aS (f_ ε i) ε).bind λxs ε=>aS (f [.lst xs]) ε
theorem Ts{F:af->Prop}{S:Nat->af->Prop}{ε:aj}{σ:St}{H:Hp}{Q:VK}{i:Nat}(hp:PL X.K r f)(rl:a9 X.K F S ε σ H)(h:Ok X.K E σ F S H (yw (λxs=>oG (f xs)) i ε) (λpv _ F' _ H'=>∀ v,bg X.K H' F' pv v->Q v H')) : ∃ a,σ[i]?=aa (aa (.ref a))/\r [.ref a] H Q:=by
 unfold yw at h;cases e0:f_ ε i with
 | none=>rw[e0]at h; exact h.elim
 | some xs=>
  rw[e0]at h;simp only[dE,R.bind_ok]at h;obtain⟨a,ea,nF,ra,pt,j1⟩:=rl.look (nr e0);refine⟨a,ea,?_⟩;cases e1:oG (f [.lst xs])with
  | none=>rw[e1]at h; exact h.elim
  | some pv=>rw[e1]at h;obtain⟨e2,e3⟩:=D_ e1;exact hp _ H [.lst xs] [.ref a] Q pv (.one ra) e2 λw F' H' al rw'=>h _ S H' (rl.al (j1 al)) (j1 al).grow w (bg.imm pv e3 rw')
theorem QI(i:Nat)(hc:gL X (.builtin id) r)(hp:PL X.K r f)(hm:X.mg x=ae)(hv:fq x=aa (.builtin id))(hN:X.N[i]?=aa y:=by rfl)(fS:fW X.env.scope y:=by first | exact Or.inl rfl | exact Or.inr (Or.inl rfl) | exact Or.inr (Or.inr rfl))(hd:(y == ("__debug__" : Str))=ao:=by decide) (bM:(y == ("__classdict__" : Str))=ao:=by decide) (hg:Gl X x:=by rfl) (hn:x≠"__name__":=by decide) (jF:(x == ("__debug__" : Str))=ao:=by decide) {yp:Pos}(he:bq [.Name y yp] X.env=(ao,bv (.Name y yp) X.env)::bq [] X.env:=by rfl) (dI:(fZ pos (bq [] X.env)).any (·.1)=ao:=by rfl):DE X E (.Call (.Name x p) [.Name y yp] [] pos) (yw (λxs=>oG (f xs)) i):=λF S ε σ H Q rl q=>by obtain⟨a,ea,hr⟩:=Ts hp rl q;exact cT (sN hc hg hm hv (kc (gP hN fS hd bM) mn he) hn jF he dI) ⟨_,ea,hr⟩
def UZ(o:Option PO):Option PO:=o.bind λv=>if Rm v then aa v else ae
def pF(f:PV->PV->Option PV)(i:Nat)(db:aj->R PV):aj->R PV:=λε=>(aS (f_ ε i) ε).bind λ_ ε=>(db ε).bind λk ε1=>(aS (f_ ε1 i) ε1).bind λxs ε1=>aS (oG (f (.lst xs) k)) ε1
theorem R7{F:af->Prop}{S:Nat->af->Prop}{ε:aj}{σ:St}{H:Hp}{Q:VK}{i:Nat}{r:R2}{f:PV->PV->Option PV}(hp:P2 X.K r f)(hb:DE X E b db)(rl:a9 X.K F S ε σ H)(h:Ok X.K E σ F S H (pF f i db ε) (λpv _ F' _ H'=>∀ v,bg X.K H' F' pv v->Q v H')) : ∃ a,σ[i]?=aa (aa (.ref a))/\iV X b σ H λu H1=>r (.ref a) u H1 Q:=by
 unfold pF at h;cases e0:f_ ε i with
 | none=>rw[e0]at h; exact h.elim
 | some xs0=>
  rw[e0]at h;simp only[dE,R.bind_ok]at h;obtain⟨a,vs,ea,_⟩:=rl.lstAt (nr e0);refine⟨a,ea,hb F S ε σ H _ rl ((Ok.bind h).imp λk ε1 F1 S1 H1 r1 g1 q u ru=>?_)⟩;cases e1:f_ ε1 i with
  | none=>rw[e1]at q; exact q.elim
  | some xs=>
   rw[e1]at q;simp only[dE,R.bind_ok]at q;obtain⟨a',ea',nF,ra,pt,j1⟩:=r1.look (nr e1);rw[ea]at ea';cases ea';cases e2:oG (f (.lst xs) k)with
   | none=>rw[e2]at q; exact q.elim
   | some pv=>rw[e2]at q;obtain⟨e3,e4⟩:=D_ e2;exact hp _ H1 (.lst xs) k (.ref a) u Q pv ra (bg.mono (λ_ z=>.inl z) (λ_ _ _ z=>z) (λ_ _ z _=>z) _ _ ru) e3 λw F' H' al rw'=>q _ S1 H' (r1.al (j1 al)) (j1 al).grow w (bg.imm pv e4 rw')
theorem Ij(i:Nat){yp:Pos}{r:R2}{f:PV->PV->Option PV}(hr:lX X r)(hp:P2 X.K r f)(hb:DE X E b db)(hN:X.N[i]?=aa y:=by rfl)(fS:fW X.env.scope y:=by first | exact Or.inl rfl | exact Or.inr (Or.inl rfl) | exact Or.inr (Or.inr rfl))(hd:(y == ("__debug__" : Str))=ao:=by decide) (bM:(y == ("__classdict__" : Str))=ao:=by decide) (hs:Bb b:=by exact λ_ _=>rfl):DE X E (.Subscript (.Name y yp) b pos) (pF f i db):=λF S ε σ H Q rl h=>by obtain⟨a,ea,hw⟩:=R7 hp hb rl h;exact cT (Gd hr (gP hN fS hd bM) cx hs) ⟨_,ea,hw⟩
end
end Pu
namespace Pu
open L2
def pZ(h:aE)(e T:af)(c fl:ak):Prop:=∃ oe vs oT ts,h.get? e=aa oe/\oe.cls=c/\(oe.data = .fields vs/\oe.dict=ae)/\vs[1]?=aa (.ref T)/\T≠e/\h.get? T=aa oT/\oT.data = .fields ts/\ts[3]?=aa fl
def Made(h:aE)(e:af)(c:ak):Prop:=∃ oe vs,h.get? e=aa oe/\oe.cls=c/\(oe.data = .fields vs/\oe.dict=ae)/\vs[1]?=aa .none
structure Kp(fs:List af)(X:af->Prop)(h h':aE):Prop where
 keep:∀ b o,h.get? b=aa o->b∉fs->¬ X b->h'.get? b=aa o
 slot:∀ b o,h.get? b=aa o->b∈fs->¬ X b->∃ sl,h'.get? b=aa { o with slots:=sl }
 there:∀ b o,h.get? b=aa o->∃ o',h'.get? b=aa o'
theorem Kp.trans{fs:List af}{X Y:af->Prop}{h h1 h2:aE}(a:Kp fs X h h1)(b:Kp fs Y h1 h2):Kp fs (λc=>X c\/Y c) h h2 where
 keep:=λc o e n x=>b.keep c o (a.keep c o e n λz=>x (.inl z)) n λz=>x (.inr z)
 slot:=λc o e n x=>by obtain⟨sl,e1⟩:=a.slot c o e n λz=>x (.inl z);obtain⟨sl2,e2⟩:=b.slot c _ e1 n λz=>x (.inr z);exact⟨sl2,e2⟩
 there:=λc o e=>let ⟨o',e'⟩:=a.there c o e; b.there c o' e'
theorem Kp.imp{fs fs':List af}{X Y:af->Prop}{h h':aE}(a:Kp fs X h h')(hfs:∀ b,b∈fs->b∈fs')(hX:∀ b o,h.get? b=aa o->X b->Y b):Kp fs' Y h h' where
 keep:=λc o e n x=>a.keep c o e (λz=>n (hfs c z)) λz=>x (hX c o e z)
 slot:=λc o e n x=>by
  by_cases hc:c∈fs
  ·exact a.slot c o e hc λz=>x (hX c o e z)
  ·exact⟨o.slots,a.keep c o e hc λz=>x (hX c o e z)⟩
 there:=a.there
theorem NC(f:Array ak->Array ak)(o:Obj):(qE f o).dict=o.dict:=by
 obtain⟨c,d,dt,sl⟩:=o;cases dt <;> rfl
section
variable{M:Model}{A:be}{E:ak->aq->Prop}{s:aq}
theorem FE{base:aE}{env:Env}{outer:List Env}{L e:af}{oe:Obj}{vs:Array ak}{head:ak}{Up:Bool}{Q:Unit->aq->Prop}(kw:A.frames=aa (env::outer)) (hl:s.heap.FunFrames base (env::outer)) (hf:env.frame=aa L) (he:s.heap.get? e=aa oe) (hd:oe.data = .fields vs) (wF:oe.dict=ae) (hsz:1<vs.size)(h:∀ h' T,Kp (gx (env::outer)) (λb=>b=e) s.heap h'->pZ h' e T oe.cls .none->s.heap.objs.size<=T->Q () { s with heap:=h' }) : ax M A (do let a ← frameOf env; let pl ← entryPlaceOf L Up; let b ← EntryCells.newEntry head a .none (eN L) .none pl; nX (.ref e) 1 b) (λ_ s'=>ax M A (setFlight (.ref e) ae) Q E s') E s:=by
 have hene:e∉(env::outer).filterMap (·.frame):=λhm=>by obtain⟨_,o,ho,wG⟩:=hl.mem hm;rw[he]at ho; injection ho with ho; subst ho; exact wG vs hd
 refine ar (wpAny_frameOf_fun kw hl hf λh₁ hs₁=>?_);refine ar (wpAny_entryPlaceOf λpl dI=>?_);unfold EntryCells.newEntry newFields;refine ar (mH ?_ (dI.sizeOk5 _ _ _ _ _));have he₁:h₁.get? e=aa oe:=(hs₁.2.1 e hene).trans he;have he₂:=bK (h:=h₁) { cls:=.type "traceback",dict:=ae,data:=.fields ([head,.ref L,.none,eN L,.none]++(if pl.isEmpty then bF 6 Value.none else pl)).toArray } he₁;refine vR he₂ hd hsz ?_;have t5:h₁.objs.size≠e:=mC (bC he₁);have hd₃:=C3 hd (·.setIfInBounds 1 (Value.ref h₁.objs.size));have he₃:=tD (qE (·.setIfInBounds 1 (Value.ref h₁.objs.size))) he₂ (JQ hd₃);have hT₃:=(tf (h₁.push { cls:=.type "traceback",dict:=ae,data:=.fields ([head,.ref L,.none,eN L,.none]++(if pl.isEmpty then bF 6 Value.none else pl)).toArray }) (qE (·.setIfInBounds 1 (Value.ref h₁.objs.size))) (gW t5)).trans (dz h₁ rfl);unfold setFlight;refine ar (sY he₃ hd₃ (x:=.ref h₁.objs.size) (by simp[hsz]) ?_);rw[if_pos (show(Value.ref h₁.objs.size != Value.none)=ai from by simp)];refine vR hT₃ rfl (by simp only[dA,dq,eD,tj] <;> lia) (h _ h₁.objs.size ?_ ?_ ?_)
 ·have keep:∀ b o,b≠e->h₁.get? b=aa o ->
    (((h₁.push { cls:=.type "traceback",dict:=ae,data:=.fields ([head,.ref L,.none,eN L,.none]++(if pl.isEmpty then bF 6 Value.none else pl)).toArray }).update e (qE (·.setIfInBounds 1 (Value.ref h₁.objs.size)))).update h₁.objs.size (qE (·.setIfInBounds 3 ((ae:Option af).elim Value.none λf=>eN f)))).get? b=aa o:=λb o lO hb=>by
   have hbT:h₁.objs.size≠b:=mC (bC hb);rw[tf _ _ hbT,tf _ _ (gW lO)];exact bK _ hb
  refine⟨λb o hb hn hx=>keep b o hx ((hs₁.2.1 b hn).trans hb),λb o hb hn hx=>?_,λb o hb=>?_⟩
  ·obtain⟨sl,q⟩:=hs₁.2.2 b o hb;exact⟨sl,keep b _ hx q⟩
  ·by_cases lO:b=e
   ·subst lO;exact⟨_,(tf _ _ t5).trans he₃⟩
   ·obtain⟨sl,q⟩:=hs₁.2.2 b o hb;exact⟨_,keep b _ lO q⟩
 ·refine⟨_,_,_,_,(tf _ _ t5).trans he₃,Obj.cls_mapFields _ _,⟨hd₃,by rw[NC]; exact wF⟩,by simp[hsz],t5,tD _ hT₃ (JQ (C3 rfl _)),C3 rfl _,by first | (simp; done) | (rcases dI with rfl | ⟨_,_,_,_,_,_,_,rfl⟩ <;> simp)⟩
 ·exact mD hs₁.1.symm
theorem Ql{base:aE}{env:Env}{outer:List Env}{L e:af}{c:ak}{Q:Unit->aq->Prop}(kw:A.frames=aa (env::outer))(hl:s.heap.FunFrames base (env::outer))(hf:env.frame=aa L)(hm:Made s.heap e c)(h:∀ h' T,Kp (gx (env::outer)) (λb=>b=e) s.heap h'->pZ h' e T c .none->s.heap.objs.size<=T->Q () { s with heap:=h' }):ax M A (leaving env (.ref e)) Q E s:=by obtain⟨oe,vs,he,hc,⟨hd,wF⟩,h1⟩:=hm;subst hc;unfold leaving noteFrame;simp only[hf];refine ar (ar (sY he hd h1 ?_));rw[if_neg (by decide)];exact FE kw hl hf he hd wF (tu.mp h1).1 h
theorem PP{base:aE}{env:Env}{outer:List Env}{L e T:af}{c:ak}{Q:Unit->aq->Prop}(kw:A.frames=aa (env::outer))(hl:s.heap.FunFrames base (env::outer))(hf:env.frame=aa L)(ht:pZ s.heap e T c .none)(h:∀ h' T',Kp (gx (env::outer)) (λb=>b=e\/b=T) s.heap h'->pZ h' e T' c .none->s.heap.objs.size<=T'->Q () { s with heap:=h' }) : ax M A (noteFrame (.ref e) env) (λ_ s2=>ax M A (setFlight (.ref e) ae) Q E s2) E s:=by
 obtain⟨oe,vs,oT,ts,he,Dw,⟨hd,wF⟩,h1,t5,hT,hdT,h3⟩:=ht;subst Dw;unfold noteFrame;simp only[hf];refine ar (sY he hd h1 ?_);rw[if_pos (show(Value.ref T != Value.none)=ai from by simp)];refine ar (sY hT hdT h3 ?_);rw[if_neg (show ¬ ((Value.none == eN L)=ai)from by simp[eN])];refine ar (vR hT hdT (tu.mp h3).1 ?_);have other:∀ b,b≠T->(s.heap.update T (qE (·.setIfInBounds 3 Value.none))).get? b=s.heap.get? b:=λb hb=>tf _ _ (gW hb);have noRecord:∀ b o,s.heap.get? b=aa o->(∀ vs,o.data≠.fields vs)->b≠T:=λb o hb wG q=>by rw[q,hT]at hb; injection hb with hb; subst hb; exact wG ts hdT
 refine FE kw (hl.of_keeps λb o hb wG=>⟨o,(other b (noRecord b o hb wG)).trans hb,rfl⟩) hf ((other e (gW t5)).trans he) hd wF (tu.mp h1).1 λh' T' k fl hn=>?_;have k0:Kp (gx (env::outer)) (λb=>b=T) s.heap (s.heap.update T (qE (·.setIfInBounds 3 Value.none))):=by
  refine⟨λb o hb _ hx=>(other b hx).trans hb,λb o hb _ hx=>⟨o.slots,(other b hx).trans hb⟩,λb o hb=>?_⟩;by_cases hx:b=T
  ·subst hx;exact⟨_,tD _ hT (JQ (C3 hdT _))⟩
  ·exact⟨o,(other b hx).trans hb⟩
 refine h h' T' ((k0.trans k).imp (λ_ z=>z) λb o _ z=>z.symm) fl ?_;have e2:(s.heap.update T (qE (·.setIfInBounds 3 Value.none))).objs.size<=T':=hn;rwa[JR]at e2
theorem Sg{base:aE}{env:Env}{outer:List Env}{L e T:af}{c:ak}{Q:Unit->aq->Prop}(kw:A.frames=aa (env::outer))(hl:s.heap.FunFrames base (env::outer))(hf:env.frame=aa L)(ht:pZ s.heap e T c .none)(h:∀ h' T',Kp (gx (env::outer)) (λb=>b=e\/b=T) s.heap h'->pZ h' e T' c .none->s.heap.objs.size<=T'->Q () { s with heap:=h' }):ax M A (leaving env (.ref e)) Q E s:=by unfold leaving;exact ar (PP kw hl hf ht h)
end
def b9(P:aX)(w:aN):fV:=λouter H s E e s'=>∃ (a T:af) (c:ak) (H':Hp),e = .ref a/\s'.os=s.os/\nL s'.gens/\Un (gx outer) [] H H' s.heap s'.heap/\d_ P w H' s'.heap/\pZ s'.heap a T c .none /\
 (s.heap.get? a=ae/\s.heap.get? T=ae/\H' a=ae/\H' T=ae)/\E c ae H'
theorem KF{P:aX}{w:aN}{H:Hp}{h:aE}{a:af}{o:HO}(x:dS P w H h a o):∃ u,h.get? a=aa u:=by
 cases o with
 | lst xs=>obtain⟨_,_,_,_,e⟩:=x; exact⟨_,e⟩
 | tup xs=>obtain⟨_,_,_,⟨o,e,_⟩,_⟩:=x; exact⟨_,e⟩
 | dK kvs=>obtain⟨_,_,_,_,o,_,_,e,_⟩:=x; exact⟨_,e⟩
 | dT kvs=>obtain⟨_,_,_,_,o,_,_,e,_⟩:=x; exact⟨_,e⟩
 | set S n=>obtain⟨o,_,_,_,e,_⟩:=x; exact⟨_,e⟩
 | ins C dx fs=>obtain⟨_,_,_,e,_⟩:=x; exact⟨_,e⟩
 | own y=>exact x
 | xd fs=>obtain⟨_,⟨_,_,_,e,_⟩,_⟩:=x; exact⟨_,e⟩
 | rng lo hi=>obtain⟨_,_,_,e⟩:=x; exact⟨_,e⟩
 | frz ob u=>obtain⟨e,_⟩:=x; exact⟨_,e⟩
 | tbl ps=>obtain⟨_,e,_⟩:=x; exact⟨_,e⟩
 | met f y=>exact⟨_,x⟩
 | ext φ=>obtain⟨_,e,_⟩:=x; exact e
theorem M3{P:aX}{w:aN}{H:Hp}{h:aE}{a:af}(x:d_ P w H h)(e:h.get? a=ae):H a=ae:=by
 cases q:H a with
 | none=>rfl
 | some u=>obtain⟨o,z⟩:=KF (x a u q); rw[e]at z; cases z
theorem vf{fs:List af}{H H':Hp}{h h':aE}{a:af}(u:Un fs [] H H' h h')(e:h'.get? a=ae):h.get? a=ae:=by
 cases q:h.get? a with
 | none=>rfl
 | some o=>obtain⟨o',z⟩:=u.there a o q (by simp); rw[e]at z; cases z
theorem HX{fs fs':List af}{H H':Hp}{h h1 h2:aE}{X:af->Prop}(u:Un fs [] H H' h h1)(k:Kp fs' X h1 h2)(hf:∀ b o,h.get? b=aa o->b∈fs'->b∈fs)(hX:∀ b o,h.get? b=aa o->¬ X b):Un fs [] H H' h h2 where
 keep:=λb o e n hb hx=>k.keep b o (u.keep b o e n hb hx) (λz=>hb (hf b o e z)) (hX b o e)
 slot:=λb o e n hb hx=>by
  obtain⟨sl,e1⟩:=u.slot b o e n hb hx;by_cases hb':b∈fs'
  ·obtain⟨sl2,e2⟩:=k.slot b _ e1 hb' (hX b o e);exact⟨sl2,e2⟩
  ·exact⟨sl,k.keep b _ e1 hb' (hX b o e)⟩
 free:=u.free
 there:=λb o e hx=>let ⟨o',e'⟩:=u.there b o e hx; k.there b o' e'
 tups:=u.tups
 frzs:=u.frzs
 tbls:=u.tbls
theorem Gy{P:aX}{w:aN}{fs:List af}{H:Hp}{h h':aE}{X:af->Prop}(x:d_ P w H h)(k:Kp fs X h h')(hf:∀ b∈fs,H b=ae)(hX:∀ b,X b->H b=ae):d_ P w H h':=λb u e=>
 (x b u e).stay (λc v hc q=>k.keep c v q (λz=>by
   have:=hf c z;rcases hc with rfl | hc
   ·rw[e]at this; cases this
   ·rw[hc]at this; cases this) λz=>by
   have:=hX c z;rcases hc with rfl | hc
   ·rw[e]at this; cases this
   ·rw[hc]at this; cases this) (λ_ q=>q) λ_ _ q=>q
section
variable{P:aX}{w:aN}{K:az}{mg:Str->Option ak}{base:aE}{N:List Str}{qual:Str}{scope:eC}{f:af}{cd:ak}{A:be}{outer:List Env}{s₀:aq}{H₀:Hp}{E:XK}
theorem cY:sj (b9 P w) (iX (b9 P w) P w K mg base N qual scope f cd A outer s₀ H₀ E) E:=λah σ H s e s' I h=>by
 obtain⟨a,T,c,H',rfl,ho,hg,un,hok,fl,⟨fa,fT,na,nT⟩,hE⟩:=h;have I':=I.call' (s':=s') (ch:=[]) ho un hok hg (λb z=>absurd z (by simp));refine Sg (L:=s₀.heap.objs.size) I.ok.frames I'.stack rfl fl λg_ T' k fl' fT'=>?_;have pU:(iX (b9 P w) P w K mg base N qual scope f cd A outer s₀ H₀ E).ex=[]:=rfl;have fa0:s₀.heap.get? a=ae:=vf I.base fa;have fT0:s₀.heap.get? T=ae:=vf I.base fT;have fT0':s₀.heap.get? T'=ae:=vf I'.base (Jo fT');have old:∀ b o,s₀.heap.get? b=aa o->b≠a/\b≠T:=λb o e=>⟨(by rintro rfl; rw[fa0]at e; cases e),(by rintro rfl; rw[fT0]at e; cases e)⟩
 refine⟨a,T',c,H',rfl,I'.os,I'.bare,HX I'.base k (λb o e z=>?_) (λb o e z=>z.elim (old b o e).1 (old b o e).2),Gy I'.hok k I'.stkFree (λb z=>by rcases z with rfl | rfl <;> assumption),fl',⟨fa0,fT0',na,I'.hok.fresh fT'⟩,hE⟩;rcases cb.mp (I.stkSub b z)with q | q
 ·exact absurd (bC e) (by rw[q]; exact fk _)
 ·exact q
end
section
variable{X:Cx}{E:XK}{pin:List Nat}{e:aC}{de:aj->R PV}{x:Str}{C:af}{bmB:List ak}{newId initId B:String}{np cpos pos:Pos}
def D1(X:Cx)(E:XK):Prop:=∀ (ah:List (af×Obj)) (σ:St) (H:Hp) (s:aq) (a:af) (c:ak) (h':aE),Inv X ah σ H s->(∀ b o,s.heap.get? b=aa o->h'.get? b=aa o)->Made h' a c->s.heap.get? a=ae->(E c ae H)->X.xe (.ref a) { s with heap:=h' }
def rH(c:ak)(de:aj->R PV):aj->R aH:=λε=>(de ε).bind λ_ ε1=>.er c ε1
theorem Pw{h h':aE}{e:af}{cls:ak}{args:List ak}(m:Heap.MadeExcOf h h' e cls args):Made h' e cls:=by obtain⟨t,he,_,_⟩:=m.there;exact⟨_,_,he,rfl,⟨rfl,rfl⟩,rfl⟩
theorem uU(hx:D1 X E)(hc:X.calm=ai)(O:OwnCls x C bmB newId X.mg X.base)(FB:ExcBaseFacts B newId initId bmB)(he:DE X.nox E0 e de)(hg:Gl X x:=by rfl)(hd:(x == ("__debug__" : Str))=ao:=by decide)(h1:bq [e] X.env=[(ao,bv e X.env)]:=by rfl):DS X E pin (.Raise (aa (.Call (.Name x np) [e] [] cpos)) ae pos) (rH (.ref C) (λε=>dw (de ε))):=λF S ε σ H D rl q=>Bx.mk λah s I=>by
 obtain⟨tl,N,nm,qn,bs,hdct,sn,sub,ab,col,dd,k0,k1,k2,k3,k5,mN,hC,hN,hni,T⟩:=O.obj;refine wpAny_Raise_call_subT (C:=C) (nm:=nm) (q:=qn) (N:=N) (bs:=bs) (bm:=tl) (hdct:=hdct) (sn:=sn) (sub:=sub) (ab:=ab) (col:=col) (dd:=dd) (k0:=k0) (k1:=k1) (k2:=k2) (k3:=k3) (k5:=k5)
  FB (mN:=mN) (T.hasType FB.hasBase) (I.ok.hd hc) (by rw[h1]; rfl) hni (Cf I hg O.bound ⟨rfl,?_⟩ hd)
 have q2:Ok X.K E0 σ F S H (de ε) (λ_ ε1 F1 S1 H1=>i6 X.K E pin σ F1 S1 H1 (.er (.ref C) ε1) D):=by
  have q:i6 X.K E pin σ F S H ((dw (de ε)).bind λ_ ε1=>.er (.ref C) ε1) D:=q;cases e0:de ε with
  | no=>rw[e0]at q; exact q.elim
  | er c ε'=>rw[e0]at q; exact q.elim
  | ok v ε'=>rw[e0]at q; exact λF' S' H' r' g'=>q.from g' (j6.refl _ _)
 rw[h1];refine Jy (dW (Cy (dW ((he F S ε σ H (λv H1=>∃ F1 S1 ε1,a9 X.K F1 S1 ε1 σ H1/\i6 X.K E pin σ F1 S1 H1 (.er (.ref C) ε1) D) rl (q2.imp λv ε1 F1 S1 H1 r1 g1 h v' rv=>⟨F1,S1,ε1,r1,h⟩)).run ah s (I.wish _)) (λu s1 ⟨v,H1,I1,r1,F1,S1,ε1,rl1,ok⟩=>?_) λ_ _ z=>z.elim)) (λ_ _ z=>z) λ_ _ z=>z);have I1:=I1.unwish;refine Jt ⟨rfl,(by show 1<=bp; decide),I1.bk _ _ hC,hN.keeps I1.bk,T.keeps I1.bk,λh' a m=>?_⟩;exact hx ah σ H1 s1 a (.ref C) h' I1 m.keeps (Pw m) m.new (ok ae F1 S1 σ H1 rl1 (bX.refl ..) (j6.refl _ _))
end
section
variable{P:aX}{w:aN}{K:az}{mg:Str->Option ak}{base:aE}{N:List Str}{qual:Str}{scope:eC}{f:af}{cd:ak}{A:be}{outer:List Env}{s₀:aq}{H₀:Hp}{E:XK}
theorem ul:D1 (iX (b9 P w) P w K mg base N qual scope f cd A outer s₀ H₀ E) E:=λah σ H s a c h' I kp md new hE=>by
 have I':Inv _ ah σ H { s with heap:=h' }:=I.kept (t':=s.toks) kp;refine Ql (s:={ s with heap:=h' }) (L:=s₀.heap.objs.size) I.ok.frames I'.stack rfl md λg_ T' k fl' fT'=>?_;have fa0:s₀.heap.get? a=ae:=vf I.base new;have fT0':s₀.heap.get? T'=ae:=vf I'.base (Jo fT');have na:H a=ae:=M3 I.hok new;refine⟨a,T',c,H,rfl,I'.os,I'.bare,HX I'.base k (λb o e z=>?_) (λb o e z=>by rw[show b=a from z,fa0]at e; cases e),Gy I'.hok k I'.stkFree (λb z=>by rw[show b=a from z]; exact na),fl',⟨fa0,fT0',na,I'.hok.fresh fT'⟩,hE⟩;rcases cb.mp (I.stkSub b z)with q | q
 ·exact absurd (bC e) (by rw[q]; exact fk _)
 ·exact q
end
def XP(X:Cx)(ah:List (af×Obj))(σ:St)(XE:ak->Hp->Prop)(e:ak)(s':aq):Prop:=∃ s1 H1,Inv X ah σ H1 s1/\b9 X.prog X.w X.stack H1 s1 (λc _ H'=>XE c H') e s'
def Under(h:aE)(D:af)(c:ak):Prop:=∃ C bm N nm q bs hdct sn sub ab col dd k0 k1 k2 k3 k5 newId,c = .ref C/\h.get? C=aa (excClassObj nm q C N bs bm hdct sn sub ab col dd k0 k1 k2 k3 k5 newId)/\(Value.ref C::bm).contains (.ref D)=ai
def HS(h:aE)(D:af):Prop:=∃ bm N nm q bs hdct sn sub ab col dd k0 k1 k2 k3 k5 newId,h.get? D=aa (excClassObj nm q D N bs bm hdct sn sub ab col dd k0 k1 k2 k3 k5 newId)/\bm.contains (.type "BaseException")=ai
theorem Under.keeps{h h':aE}{D:af}{c:ak}(x:Under h D c)(k:∀ b o,h.get? b=aa o->h'.get? b=aa o):Under h' D c:=by obtain⟨C,bm,N,nm,q,bs,hdct,sn,sub,ab,col,dd,k0,k1,k2,k3,k5,newId,e,h1,h2⟩:=x;exact⟨C,bm,N,nm,q,bs,hdct,sn,sub,ab,col,dd,k0,k1,k2,k3,k5,newId,e,k _ _ h1,h2⟩
theorem HS.keeps{h h':aE}{D:af}(x:HS h D)(k:∀ b o,h.get? b=aa o->h'.get? b=aa o):HS h' D:=by obtain⟨bm,N,nm,q,bs,hdct,sn,sub,ab,col,dd,k0,k1,k2,k3,k5,newId,h1,h2⟩:=x;exact⟨bm,N,nm,q,bs,hdct,sn,sub,ab,col,dd,k0,k1,k2,k3,k5,newId,k _ _ h1,h2⟩
structure rZ(k:Nat)(A:be):Prop where
 dp:A.depth+3 * k+5<vH
 un:A.units+16 * k+200<cLine
theorem Room.u{k:Nat}{A:be}(r:Room k A):rZ k A:=⟨r.dp,r.un⟩
theorem rZ.mono{j k:Nat}{A:be}(r:rZ k A)(h:j<=k):rZ j A:=⟨by have:=r.dp; lia,by have:=r.un; lia⟩
theorem rZ.deeper{k:Nat}{A:be}(r:rZ (k+1) A)(env:Env):rZ k (A.deeper env) :=⟨by have:=r.dp; show A.depth+1+3 * k+5<_; lia,by have:=r.un; show A.units+3+16 * k+200<_; lia⟩
theorem rZ.units{k:Nat}{A:be}(r:rZ k A):A.units+64<cLine:=by have:=r.un; lia
theorem Lz(c:Nat)(x:Tx):wW [c] x=x.contains c:=by unfold wW;have:=StrLaws.found_one (tS x) c;rw[oU]at this;rw[show(tS [c])=⟨#[c]⟩from rfl,this];simp[List.contains_eq_mem]
section
variable{K:az}{F F':af->Prop}{S S':Nat->af->Prop}{ε ε':aj}{σ:St}{H H':Hp}{i:Nat}{po:PO}
variable{a b:af}{f7:List (List PV)}{as:List af}{j:Nat}{xs:List PV}{vs:List V}
theorem kg.len(h:kg K H F f7 as):as.length=f7.length:=by
 unfold kg at h
 induction h with
 | nil=>rfl
 | cons _ _ ih=>simp[ih]
theorem kg.get(h:kg K H F f7 as)(e:f7[j]?=aa xs):∃ b vs,as[j]?=aa b/\H b=aa (.lst vs)/\bo K H F xs vs:=by
 unfold kg at h
 induction h generalizing j with
 | nil=>simp at e
 | cons r _ ih=>
  cases j with
  | zero=>simp at e; subst e; obtain⟨vs,h1,h2⟩:=r; exact⟨_,vs,rfl,h1,h2⟩
  | succ j=>obtain⟨b,vs,q⟩:=ih (j:=j) (by simpa using e); exact⟨b,vs,by simpa using q⟩
theorem kg.set(h:kg K H F f7 as)(nd:as.Nodup)(e:as[j]?=aa b){H':Hp}(qM:∀ x v,bo K H F x v->bo K H' F x v)(ho:∀ c o,c∈as->c≠b->H c=aa o->H' c=aa o)(hb:∃ vs',H' b=aa (.lst vs')/\bo K H' F xs vs'):kg K H' F (f7.set j xs) as:=by
 unfold kg at h ⊢
 induction h generalizing j with
 | nil=>exact .nil
 | cons r hr ih=>
  rename_i x c f7 as;have nd2:=jx.mp nd;cases j with
  | zero=>simp at e; subst e;refine .cons hb ?_;exact kg.mono (K:=K) qM (λd o hd=>ho d o (by simp[hd]) (by rintro rfl; exact nd2.1 hd)) hr
  | succ j=>
   have e2:as[j]?=aa b:=by simpa using e
   have hbm:b∈as:=vI e2;obtain⟨vs,h1,h2⟩:=r;exact .cons ⟨vs,ho c _ (by simp) (by rintro rfl; exact nd2.1 hbm) h1,qM _ _ h2⟩ (ih nd2.2 e2 λd o hd=>ho d o (by simp[hd]))
end
theorem kg.snoc{K:az}{H:Hp}{F:af->Prop}{f7:List (List PV)}{as:List af}{xs:List PV}{b:af}{vs:List V}(h:kg K H F f7 as)(hb:H b=aa (.lst vs))(hr:bo K H F xs vs):kg K H F (f7++[xs]) (as++[b]):=CH h ⟨vs,hb,hr⟩
section
variable{X:Cx}{E:XK}{scope:eC}{x:Str}{N':List Str}{cap:List Nat}
variable{pin:List Nat}
theorem LP{F:af->Prop}{S:Nat->af->Prop}{ε:aj}{σ:St}{H:Hp}{D:ln}{i:Nat}{dn:aj->R PO}(hp:i∉pin)(rl:a9 X.K F S ε σ H)(h:i6 X.K E pin σ F S H (bH i (dF dn) ε) D) : Ok X.K E σ F S H (dn ε) (λpo _ F' S' H'=>∀ a Sa,gb X.K H' F' po a Sa->(∀ b,Sa b->H b=ae/\¬ F' b/\¬ U S' b/\∃ o,H' b=aa o/\gz o)->D.nx (σ.set i (aa (.ref a))) H'):=by
 unfold bH dF at h;cases e0:dn ε with
 | no=>rw[e0]at h; exact h.elim
 | er c ε'=>rw[e0]at h; exact λx F' S' H' r' g'=>h x F' S' σ H' r' g' (j6.refl _ _)
 | ok po ε1=>
  rw[e0]at h;intro F1 S1 H1 r1 g1 a Sa ow fr;cases po with
  | dK kvs=>exact h.elim
  | lls f7=>exact h.elim
  | ins C fs=>exact h.elim
  | lst xs=>
   have hN:∀ b,Sa b->¬ U S1 b/\∃ o,H1 b=aa o:=λb z=>let ⟨_,_,x3,o,x4,_⟩:=fr b z; ⟨x3,o,x4⟩
   obtain⟨⟨vs,ha,hr⟩,hS⟩:=ow;have g2:bX (U S) (U S1) F (λb=>F1 b\/Sa b) H H1:=⟨λb z=>.inl (g1.fro b z),g1.keep,g1.there,λb z=>z.elim (g1.fnew b) λw=>.inr (.inl (fr b w).1),g1.onew⟩
   have rv:bg X.K H1 (λb=>F1 b\/Sa b) (.lst xs) (.ref a):=⟨a,vs,rfl,.inl ha,.inr ((hS a).mpr rfl),bo.mono (λ_ z=>.inl z) (λ_ _ _ z=>z) (λ_ _ z _=>z) _ _ hr⟩
   exact h _ _ _ H1 ((r1.more hN).set rv) (g2.trans (bX.less i)) (j6.set hp)
section
variable{elt iter:aC}{y:Str}{px py pos spos:Pos}{di:aj->R (List PV)}{dt:aj->R Bool}{de:aj->R PV}{dl:aj->R PO}{ifs:List aC}
theorem KU(i:Nat)(hN:X.N.Nodup)(B:mi X scope x N' cap)(hc:X.calm=ai)(hi:DI X E (.Name x px) iter di)(ht:∀ C s₀ H₀ ex pn,DF (cS X scope N' C s₀ H₀ ex pn) E0 ifs dt) (he:∀ C s₀ H₀ ex pn,DE (cS X scope N' C s₀ H₀ ex pn) E0 elt de)(hp:i∉pin:=by decide) (hiy:X.N[i]?=aa y:=by rfl) (hx:Loc X.env.scope y:=by first | exact Or.inl rfl | exact Or.inr rfl) (hsw:mB (.ListComp elt [⟨.Name x px,iter,ifs,0⟩] scope pos) (aa (.Name y py)) spos.line X.env=pure ai:=by rfl)(hf:X.fn y=ai\/X.env.scope.names.lookup y=aa .local:=by first | exact .inl rfl | exact .inr rfl) (hs:∀ x,vF iter X.env x=pure x:=by intro _; rfl) : DS X E pin (.Assign [.Name y py] (.ListComp elt [⟨.Name x px,iter,ifs,0⟩] scope pos) spos) (bH i (dF (dD cap di dt de))):=λF S ε σ H D rl h=>iZ (S6 (wi:=sO X (.Name x px) iter) (ts:=λσ H Q=>∀ C s₀ H₀ ex pn,yh (cS X scope N' C s₀ H₀ ex pn) ifs σ H Q) (te:=λσ H Q=>∀ C s₀ H₀ ex pn,iV (cS X scope N' C s₀ H₀ ex pn) elt σ H Q) B hc Cj (λC s₀ H₀ ex pn ah s σ H Q I h=>(h C s₀ H₀ ex pn).run ah s I) (λC s₀ H₀ ex pn ah s σ H Q I h=>(h C s₀ H₀ ex pn).run ah s I) hN hiy hx hsw hf hs) (Gx hi ht he rl (LP hp rl h))
end
end
def eQ(pin:List Nat):Nat->aj->Bool
 | _,[]=>ai
 | i,.own po::ss=>pin.contains i && jq po && eQ pin (i+1) ss
 | i,_::ss=>eQ pin (i+1) ss
theorem rG{pin:List Nat}:∀ {ss:aj} {k:Nat},eQ pin k ss=ai->∀ (i:Nat) po,ss[i]?=aa (.own po)->k+i∈pin/\jq po=ai
 | [],_,_,i,po,e=>by simp at e
 | .own q::ss,k,h,0,po,e=>by simp only[List.getElem?_cons_zero,Option.some.injEq,Slot.own.injEq]at e;subst e;simp only[eQ,iu]at h;exact⟨by simpa using h.1.1,h.1.2⟩
 | .own q::ss,k,h,i+1,po,e=>by simp only[eQ,iu]at h;have:=rG (k:=k+1) h.2 i po (by simpa using e);rwa[zD,vT]at this
 | .val q::ss,k,h,0,po,e=>by simp at e
 | .none::ss,k,h,0,po,e=>by simp at e
 | .val q::ss,k,h,i+1,po,e=>by have:=rG (k:=k+1) (by simpa[eQ]using h) i po (by simpa using e);rwa[zD,vT]at this
 | .none::ss,k,h,i+1,po,e=>by have:=rG (k:=k+1) (by simpa[eQ]using h) i po (by simpa using e);rwa[zD,vT]at this
def bt(len:Nat)(pin:List Nat)(g:aj->R Slot):aj->R Slot:=λss=>if ss.length=len/\eQ pin 0 ss=ai then g ss else .no
theorem cU{CX:fV}{P:aX}{w:aN}{K:az}{mg:Str->Option ak}{base:aE}{x:Str}{st:bf}{N ps:List Str}{k n:Nat}{d:aj->R aH}{pin:List Nat}(D:cA K mg x st)(Sc:b8 N ps (aY st))(hn:N.length=ps.length+n)(hb:∀ (kV doc pm:ak) (an:Option af) (aP ct:ak) (us:List ak),us.length=ps.length->gE (kl x x (kL st) (gS st) (aY st) .none kV doc pm an aP ct) ⟨us,[]⟩=pure (ps.zip us))(jD:∀ (f:af) (aP:ak) (A:be) (outer:List Env) (s:aq) (H:Hp) (E:XK),Room k (A.deeper (jV x (aY st) s.heap.objs.size f aP))->jj (iX CX P w K mg base N x (aY st) f aP A outer s H E) E pin (gS st) d) : cm CX P w K mg base x (k+1) ps (b0 K (bt ps.length pin (bw n d))):=by
 have no:∀ {ss},bt ps.length pin (bw n d) ss≠.no->ss.length=ps.length/\eQ pin 0 ss=ai:=λ{ss} h=>by
  unfold bt at h;by_cases z:ss.length=ps.length/\eQ pin 0 ss=ai
  ·exact z
  ·rw[if_neg z]at h; exact absurd rfl h
 exact TU D Sc hn hb (λss h=>(no h).1) (λss h i po e=>by have:=rG (no h).2 i po e; rwa[nZ]at this) (λss h=>by unfold bt; rw[if_pos (no h)]) jD
theorem NT{f:af}{fd:iq}{CX:fV}{P:aX}{w:aN}{K:az}{mg:Str->Option ak}{base:aE}{x qual:Str}{st:bf}{N ps:List Str}{k n:Nat}{d:aj->R aH}{pin:List Nat}(Fn:oH K x qual st f fd)(Sc:b8 N ps (aY st))(hn:N.length=ps.length+n)(hb:∀ (kV doc pm:ak) (an:Option af) (aP ct:ak) (us:List ak),us.length=ps.length->gE (kl x qual (kL st) (gS st) (aY st) .none kV doc pm an aP ct) ⟨us,[]⟩=pure (ps.zip us))(jD:∀ (f:af) (aP:ak) (A:be) (outer:List Env) (s:aq) (H:Hp) (E:XK),Room k (A.deeper (jV qual (aY st) s.heap.objs.size f aP))->jj (iX CX P w K mg base N qual (aY st) f aP A outer s H E) E pin (gS st) d) : jn P w K mg base CX (k+1) f fd ps (b0 K (bt ps.length pin (bw n d))):=by
 have no:∀ {ss},bt ps.length pin (bw n d) ss≠.no->ss.length=ps.length/\eQ pin 0 ss=ai:=λ{ss} h=>by
  unfold bt at h;by_cases z:ss.length=ps.length/\eQ pin 0 ss=ai
  ·exact z
  ·rw[if_neg z]at h; exact absurd rfl h
 exact GO Fn Sc hn hb (λss h=>(no h).1) (λss h i po e=>by have:=rG (no h).2 i po e; rwa[nZ]at this) (λss h=>by unfold bt; rw[if_pos (no h)]) jD
theorem Iu{P:List ak->Prop}(h:∀ a,P [a])(us:List ak)(hl:us.length=1):P us:=by
 cases us with
 | nil=>cases hl
 | cons a r=>cases r with
  | nil=>exact h a
  | cons b r=>cases hl
theorem IT{P:List ak->Prop}(h:∀ a b,P [a,b])(us:List ak)(hl:us.length=2):P us:=by
 cases us with
 | nil=>cases hl
 | cons a r=>exact Iu (P:=λr=>P (a::r)) (h a) r (vU hl)
theorem Fk{P:List ak->Prop}(h:∀ a b c,P [a,b,c])(us:List ak)(hl:us.length=3):P us:=by
 cases us with
 | nil=>cases hl
 | cons a r=>exact IT (P:=λr=>P (a::r)) (h a) r (vU hl)
theorem SG{P:List ak->Prop}(h:∀ a b c d,P [a,b,c,d])(us:List ak)(hl:us.length=4):P us:=by
 cases us with
 | nil=>cases hl
 | cons a r=>exact Fk (P:=λr=>P (a::r)) (h a) r (vU hl)
theorem UR{fd:iq}{ps:List Str}(h:∀ a,gE fd ⟨[a],[]⟩=pure (ps.zip [a]))(us:List ak)(hl:us.length=1):gE fd ⟨us,[]⟩=pure (ps.zip us):=Iu (P:=λus=>gE fd ⟨us,[]⟩=pure (ps.zip us)) h us hl
theorem UC{fd:iq}{ps:List Str}(h:∀ a b,gE fd ⟨[a,b],[]⟩=pure (ps.zip [a,b]))(us:List ak)(hl:us.length=2):gE fd ⟨us,[]⟩=pure (ps.zip us):=IT (P:=λus=>gE fd ⟨us,[]⟩=pure (ps.zip us)) h us hl
theorem UO{fd:iq}{ps:List Str}(h:∀ a b c,gE fd ⟨[a,b,c],[]⟩=pure (ps.zip [a,b,c]))(us:List ak)(hl:us.length=3):gE fd ⟨us,[]⟩=pure (ps.zip us):=Fk (P:=λus=>gE fd ⟨us,[]⟩=pure (ps.zip us)) h us hl
theorem U0{fd:iq}{ps:List Str}(h:∀ a b c d,gE fd ⟨[a,b,c,d],[]⟩=pure (ps.zip [a,b,c,d]))(us:List ak)(hl:us.length=4):gE fd ⟨us,[]⟩=pure (ps.zip us):=SG (P:=λus=>gE fd ⟨us,[]⟩=pure (ps.zip us)) h us hl
theorem i7{P:aX}{w:aN}{X:Cx}:sj (b9 P w) X E0:=λ_ _ _ _ _ _ _ h=>by obtain⟨a,T,c,H',_,_,_,_,_,_,_,z⟩:=h;exact z.elim
theorem fE:fq "len" = aa (.builtin "len"):=by decide +kernel
theorem Jc:fq "all" = aa (.builtin "all"):=by decide +kernel
theorem Ha:fq "any" = aa (.builtin "any"):=by decide +kernel
theorem uN:fq "sorted" = aa (.builtin "sorted"):=by decide +kernel
theorem sh:fq "isinstance" = aa (.builtin "isinstance"):=by decide +kernel
theorem P_:fq "int" = aa (.type "int"):=by decide +kernel
theorem PZ:fq "bool" = aa (.type "bool"):=by decide +kernel
theorem Gp:fq "str" = aa (.type "str"):=by decide +kernel
theorem MO:fq "list" = aa (.type "list"):=by decide +kernel
theorem AG:fq "tuple" = aa (.type "tuple"):=by decide +kernel
theorem AQ:fq "set" = aa (.type "set"):=by decide +kernel
def mo:aC->Bool
 | .Starred _ _=>ai
 | _=>ao
theorem jg{e:aC}{es:List aC}{env:Env}(h:mo e=ao):bq (e::es) env=(ao,bv e env)::bq es env:=by
 cases e <;> first | rfl | cases h
section
variable{X:Cx}{E:XK}{e:aC}{es:List aC}{d:aj->R PV}{ds:aj->R (List PV)}{dg:aj->R (List cB)}
theorem aQ(ha:DE X E e d)(hr:DA X E es ds)(h:mo e=ao:=by rfl):DA X E (e::es) (aw d ds):=Oz ha hr (jg h)
theorem aJ(ha:DE X E e d)(hr:DG X E es dg)(h:mo e=ao:=by rfl):DG X E (e::es) (gV d dg):=L9 ha hr (jg h)
end
def yg:List ak:=[.type "ValueError",.type "Exception",.type "BaseException",.type "object"]
theorem So{K:az}{h:aE}{C:af}{B:List ak}{nw:String}(X:K.In h)(q:tJ K C B nw=ai) : ∃ bm N nm qn bs hd sn sub ab col dd k0 k1 k2 k3 k5 mN,h.get? C=aa (excClassObj nm qn C N bs bm hd sn sub ab col dd k0 k1 k2 k3 k5 nw)/\h.Ns N mN/\mN "__init__" = ae/\OwnTail h B bm:=by
 unfold tJ at q;split at q
 case h_2=>cases q
 case h_1 d0 cdata slots look=>
  split at q
  case h_2=>cases q
  case h_1 C2 tl s0 s1 s2 s3 nn s5 em es=>
   rw[iu,iu,iu,iu,iu]at q;obtain⟨⟨⟨⟨⟨q1,q2⟩,q3⟩,q4⟩,q5⟩,q6⟩:=q;have r1:=beq_iff_eq.mp q1;have r2:=beq_iff_eq.mp q2;have r6:=beq_iff_eq.mp q6;subst r1 r2;cases cdata;dsimp only at em q3 q5 r6;subst em;have r3:=JS _ |>.mp q3
   subst r3;have r7:slots = #[s0,s1,s2,s3,aa (.builtin nn),s5]:=by cases slots; exact congrArg Array.mk es
   subst r7;exact⟨tl,_,_,_,_,_,_,_,_,_,d0,s0,s1,s2,s3,s5,_,X _ _ look,Heap.Ns.of_isNs (PySem.W.isNs_of_in X q5),PySem.W.nsMap_none_of_in X q5 r6,PySem.W.tail_of_in X q4⟩
theorem xu{K:az}{h:aE}{mg:Str->Option ak}{x:Str}{C:af}{B:List ak}{nw:String}(X:K.In h)(e:mg x=aa (.ref C))(q:tJ K C B nw=ai):OwnCls x C B nw mg h:=⟨e,So X q⟩
def subB(K:az)(D C:af):Bool:=match K.lookup C with
 | some ⟨_,_,.cls cd,_⟩=>cd.mro.contains (.ref D)
 | _=>ao
def GR(K:az)(C:af):Bool :=
 zg K (.ref C) "__getattribute__" == aa (aa (.builtin "BaseException.__getattribute__")) && zg K (.ref C) "__getattr__" == aa ae && zg K (.ref C) "__class__" == aa (aa (.builtin "object.__class__")) &&
 PySem.W.specialIn K (.builtin "object.__class__") "__get__" == aa (aa (.builtin "getset_descriptor.__get__")) && PySem.W.takesIn K (.builtin "object.__class__") == aa ai && PySem.W.mroIn K C (.type "object") == aa ai && PySem.W.mroIn K C (.type "BaseException") == aa ai && (PySem.W.clsIn K C).isSome
def zT(K:az):Bool:=K.all λp=>match p.2.cls with
 | .type t=>t != "list"
 | _=>ai
theorem HU{a:af}{o:Obj}:∀ {K:az},K.lookup a=aa o->(a,o)∈K
 | [],e=>by cases e
 | (b,u)::K,e=>by
  rw[kZ]at e;cases q:a == b with
  | true=>rw[q]at e; cases e; rw[beq_iff_eq.mp q]; exact my ..
  | false=>rw[q]at e; exact kX _ (HU e)
theorem GE{K:az}{H:Hp}{F:af->Prop}:∀ ns:List Int,bo K H F (ns.map .int) (ns.map V.int)
 | []=>rfl
 | x::ns=>⟨.int x,ns.map V.int,rfl,rfl,GE ns⟩
theorem Rx{K:az}{H:Hp}{a:af}{xs:List V}(h:zT K=ai)(s:ce K H a xs):Rd H a (.lst xs):=by
 rcases s with s | ⟨o,its,n,lk,hc,_⟩
 ·exact s
 ·have:=vS.mp h _ (HU lk);rw[hc]at this;simp at this
theorem SA{K:az}{g:aj->R Slot}{H:Hp}{a:af}{ns:List Int}{E:XK}(hr:Rd H a (.lst (ns.map V.int)))(h:g [.val (.lst (ns.map .int))] = .ok (.val (.bl ai)) [.val (.lst (ns.map .int))]):b0 K g [.ref a] H (λv _=>v = .bl ai) E:=by
 refine⟨λb=>b=a,λ_ _=>False,[.val (.lst (ns.map .int))],⟨rfl,λb e=>?_,λi pv e=>?_,λi po e=>?_,λi b z=>z.elim,λi j b z=>z.elim⟩,?_⟩
 ·subst e;rcases hr with hr | ⟨o,hr⟩ <;> exact⟨_,hr⟩
 ·cases i with
  | zero=>cases e; exact⟨_,rfl,a,_,rfl,hr,rfl,GE ns⟩
  | succ i=>simp at e
 ·cases i with
  | zero=>cases e
  | succ i=>simp at e
 ·rw[h];exact λv F' S' H' Sr _ _ rv _ _=>rv.1
theorem UX{K:az}{x:Str}{i:Int}{t:Tok}(e:eK K cE x=aa (aa (.int i t))):∃ t,eK K cE x=aa (aa (.int i t)):=⟨t,e⟩
theorem US{K:az}{x:Str}{l:Tx}{t:Tok}(e:eK K cE x=aa (aa (.str (tS l) t))):∃ t,eK K cE x=aa (aa (.str (tS l) t)):=⟨t,e⟩
def cH(K:az)(x:Str)(st:bf):Prop:=∃ f oc od kV dc pm an cd ct sl,eK K cE x=aa (aa (.ref f))/\K.lookup f=aa ⟨oc,od,.func (kl x x (kL st) (gS st) (aY st) .none kV dc pm an cd ct),sl⟩/\zj K cd x=ai/\sV K (.ref f)=ai
theorem UB{K:az}{x:Str}{st:bf}{f:af}{oc kV dc pm cd ct:ak}{od an:Option af}{sl:Array (Option ak)}(a:eK K cE x=aa (aa (.ref f)))(l:K.lookup f=aa ⟨oc,od,.func (kl x x (kL st) (gS st) (aY st) .none kV dc pm an cd ct),sl⟩)(c:zj K cd x=ai) (k:sV K (.ref f)=ai):cH K x st:=⟨f,oc,od,kV,dc,pm,an,cd,ct,sl,a,l,c,k⟩
theorem cH.at{K:az}{h:aE}{mg:Str->Option ak}{x:Str}{st:bf}(d:cH K x st)(X:K.In h)(G:h.Ns cE mg):cA K mg x st:=by obtain⟨f,oc,od,kV,dc,pm,an,cd,ct,sl,a,l,c,k⟩:=d;exact⟨f,_,jB X G a,HG l c k⟩
def kH(kvs:List (aI×PV))(k:aI):Option PV:=(kvs.find? λkv=>decide (kv.1=k)).map (·.2)
def rE(kvs:List (aI×PV))(k:aI)(v:PV):List (aI×PV):=if(kvs.any λkv=>decide (kv.1=k))=ai then kvs.map (λkv=>if kv.1=k then(kv.1,v)else kv)else kvs++[(k,v)]
def j9:PV->Option aI
 | .int i=>aa (.inl i)
 | .str x=>aa (.inr (tS x))
 | _=>ae
section
variable{K:az}{F:af->Prop}{S:Nat->af->Prop}{ε:aj}{σ:St}{H:Hp}{i:Nat}{kvs:List (aI×PV)}{ws:List (aI×V)}{a:af}
theorem yN{x:PV}{v:V}{k:aI}(r:bg K H F x v)(e:j9 x=aa k):v=kV k:=by
 cases x <;> simp[j9]at e
 ·subst e; exact r
 ·subst e; exact r.1
theorem fP.len(h:fP K H F kvs ws):ws.length=kvs.length:=by
 unfold fP at h
 induction h with
 | nil=>rfl
 | cons _ _ ih=>simp[ih]
theorem fP.val(h:fP K H F kvs ws)(k:aI):(∃ x v,kH kvs k=aa x/\iJ ws k=aa v/\bg K H F x v)\/(kH kvs k=ae/\iJ ws k=ae):=by
 unfold fP at h
 induction h with
 | nil=>exact .inr ⟨rfl,rfl⟩
 | @cons p q ps qs r _ ih=>
  by_cases e:p.1=k
  ·refine .inl ⟨p.2,q.2,by simp[kH,f6,e],?_,r.2⟩;rw[u7 (by rw[← r.1]; exact e)]
  ·have e2:¬ q.1=k:=by rw[← r.1]; exact e
   rw[uG e2];have:kH (p::ps) k=kH ps k:=by simp[kH,f6,e]
   rw[this]; exact ih
theorem fP.any(h:fP K H F kvs ws)(k:aI):(kvs.any λkv=>decide (kv.1=k))=ws.any λkv=>decide (kv.1=k):=by
 unfold fP at h
 induction h with
 | nil=>rfl
 | cons r _ ih=>rw[nR,nR,ih,r.1]
theorem fP.put(h:fP K H F kvs ws)(k:aI){x:PV}{v:V}(r:bg K H F x v):fP K H F (rE kvs k x) (gR ws k v):=by
 unfold rE gR;rw[h.any k];split
 ·rename_i hA;clear hA;unfold fP at h ⊢
  induction h with
  | nil=>exact .nil
  | @cons p q ps qs r1 _ ih=>
   refine .cons ?_ ih;dsimp only;by_cases e:p.1=k
   ·rw[if_pos e,if_pos (by rw[← r1.1]; exact e)]; exact⟨r1.1,r⟩
   ·rw[if_neg e,if_neg (by rw[← r1.1]; exact e)]; exact r1
 ·exact CH h ⟨rfl,r⟩
theorem a9.dkAt(r:a9 K F S ε σ H)(e:ε[i]?=aa (.own (.dK kvs))):∃ a ws,σ[i]?=aa (aa (.ref a))/\H a=aa (.dK ws)/\fP K H F kvs ws/\S i a/\∀ b,S i b->b=a:=by obtain⟨a,e1,⟨vs,h1,h2⟩,h3⟩:=r.own i _ e;exact⟨a,vs,e1,h1,h2,(h3 a).mpr rfl,λb h=>(h3 b).mp h⟩
theorem a9.updO{po po':PO}{o':HO}(r:a9 K F S ε σ H)(e:ε[i]?=aa (.own po))(hf:jq po=ai)(ea:σ[i]?=aa (aa (.ref a)))(hn:gz o')(h:∀ H',(∀ x v,bg K H F x v->bg K H' F x v)->(∀ x v,bo K H F x v->bo K H' F x v)->H' a=aa o'->∀ Sa:af->Prop,(∀ b,Sa b↔b=a)->gb K H' F po' a Sa) : a9 K F S (ε.set i (.own po')) σ (L2.upd H a o')/\bX (U S) (U S) F F H (L2.upd H a o'):=by
 obtain⟨a',e1,ow⟩:=r.own i po e;rw[ea]at e1;cases e1;have h34:=FD ow hf;have h3:S i a:=(h34 a).mpr rfl;have h4:∀ b,S i b->b=a:=λb z=>(h34 b).mp z;have hi:i<ε.length:=(eu.mp e).1;have g:bX (U S) (U S) F F H (L2.upd H a o'):=⟨λ_ z=>z,λb o q n=>by rw[cn (by rintro rfl; exact n ⟨i,h3⟩)]; exact q,λb o q=>by
  by_cases hb:b=a
  ·subst hb; exact⟨_,cz⟩
  ·exact⟨o,by rw[cn hb]; exact q⟩,λ_ z=>.inl z,λ_ z=>.inl z⟩
 refine⟨⟨by rw[k9]; exact r.len,λb z=>let ⟨o,q⟩:=r.ex b z; g.there b o q,λj pv q=>?_,λj po q=>?_,λj b z=>?_,r.dist⟩,g⟩
 ·have hj:i≠j:=by rintro rfl; rw[ip hi]at q; cases q
  rw[fI hj]at q;obtain⟨v,q1,q2⟩:=r.val j pv q;exact⟨v,q1,q2.grow g r.fit⟩
 ·by_cases hj:i=j
  ·subst hj;rw[ip hi]at q;cases q;exact⟨a,ea,h _ (λ_ _ z=>z.grow g r.fit) (λ_ _ z=>z.grow g r.fit) cz _ h34⟩
  ·rw[fI hj]at q;obtain⟨c,q1,q2⟩:=r.own j po q;refine⟨c,q1,q2.mono (λ_ _ z=>z.grow g r.fit) (λ_ _ z=>z.grow g r.fit) λb o z w=>?_⟩;rw[cn (by rintro rfl; exact hj (r.dist i j b h3 z))]; exact w
 ·obtain⟨⟨po,q1⟩,q2,o,q3,q4⟩:=r.foot j b z;by_cases hj:i=j
  ·subst hj;rw[h4 b z];exact⟨⟨_,ip hi⟩,by rw[← h4 b z]; exact q2,_,cz,hn⟩
  ·exact⟨⟨po,by rw[fI hj]; exact q1⟩,q2,o,by rw[cn (by rintro rfl; exact hj (r.dist i j b h3 z))]; exact q3,q4⟩
end
def dP(ε:aj)(i:Nat):Option (List (aI×PV)):=match ε[i]? with
 | some (.own (.dK kvs))=>aa kvs
 | _=>ae
theorem lu{ε:aj}{i:Nat}{kvs:List (aI×PV)}(h:dP ε i=aa kvs):ε[i]?=aa (.own (.dK kvs)):=by
 unfold dP at h;split at h
 ·cases h; assumption
 ·cases h
section
variable{X:Cx}{E:XK}{pin:List Nat}{e b c:aC}{de db dc:aj->R PV}{pos:Pos}
def AM:aj->R PO:=λε=>.ok (.dK []) ε
theorem Me:DN X E (.Dict [] [] pos) AM:=λF S ε σ H Q rl h=>cT M_ λp hp=>by
 have al:Al F F H (upd H p (.dK [])):=Al.new0 hp;refine h F S _ (rl.al al) al.grow p (λb=>b=p) ⟨⟨[],cz,.nil⟩,λb=>tI⟩ λb z=>?_;subst z;refine⟨hp,λz=>?_,λ⟨j,z⟩=>?_,_,cz,trivial⟩
 ·obtain⟨o,q⟩:=rl.ex b z; rw[hp]at q; cases q
 ·obtain⟨_,_,o,q,_⟩:=rl.foot j b z; rw[hp]at q; cases q
def js(i:Nat)(db:aj->R PV):aj->R PV:=λε=>(aS (dP ε i) ε).bind λ_ ε=>(db ε).bind λk ε1=>(aS (dP ε1 i) ε1).bind λkvs ε1=>aS ((j9 k).bind λk=>kH kvs k) ε1
theorem uE(i:Nat){y:Str}{yp:Pos}(hu:X.A.units+64<cLine)(hb:DE X E b db)(hN:X.N[i]?=aa y:=by rfl)(fS:fW X.env.scope y:=by first | exact Or.inl rfl | exact Or.inr (Or.inl rfl) | exact Or.inr (Or.inr rfl))(hd:(y == ("__debug__" : Str))=ao:=by decide) (bM:(y == ("__classdict__" : Str))=ao:=by decide) (hs:A5 b:=by exact λ_ _=>rfl):DE X E (.Subscript (.Name y yp) b pos) (js i db):=λF S ε σ H Q rl h=>by
 unfold js at h;cases e0:dP ε i with
 | none=>rw[e0]at h; exact h.elim
 | some kvs0=>
  rw[e0]at h;simp only[dE,R.bind_ok]at h;obtain⟨a,ws0,ea,_⟩:=rl.dkAt (lu e0);refine cT (Kx ∅ (gP hN fS hd bM) cx hs) ⟨.ref a,ea,hb F S ε σ H _ rl ((Ok.bind h).imp λk ε1 F1 S1 H1 r1 g1 q u ru=>?_)⟩;cases e1:dP ε1 i with
  | none=>rw[e1]at q; exact q.elim
  | some kvs=>
   rw[e1]at q;simp only[dE,R.bind_ok]at q;obtain⟨a',ws,ea',ha,hk,_⟩:=r1.dkAt (lu e1);rw[ea]at ea';cases ea';cases e2:j9 k with
   | none=>rw[e2]at q; exact q.elim
   | some ky=>
    rw[e2,gI]at q;rw[yN ru e2];rcases hk.val ky with⟨x,v,h1,h2,h3⟩ | ⟨h1,h2⟩
    ·rw[h1]at q;exact⟨a,v,rfl,by rw[← h2]; exact kJ.k ha,q F1 S1 H1 r1 (bX.refl ..) v h3⟩
    ·rw[h1]at q; exact q.elim
def nz(i:Nat)(db dc:aj->R PV):aj->R PV:=λε=>(aS (dP ε i) ε).bind λ_ ε=>(db ε).bind λk ε1=>(dc ε1).bind λz ε2=>(aS (dP ε2 i) ε2).bind λkvs ε2=>aS ((j9 k).map λk=>(kH kvs k).getD z) ε2
theorem HB(i:Nat){y:Str}{yp apos:Pos}(hu:X.A.units+64<cLine)(hb:DE X E b db)(hc:DE X E c dc)(hN:X.N[i]?=aa y:=by rfl)(fS:fW X.env.scope y:=by first | exact Or.inl rfl | exact Or.inr (Or.inl rfl) | exact Or.inr (Or.inr rfl))(hd:(y == ("__debug__" : Str))=ao:=by decide) (bM:(y == ("__classdict__" : Str))=ao:=by decide)(h1:s_ (.Name y yp) "get" X.env (bv (.Name y yp) X.env)=bv (.Name y yp) X.env:=by rfl) (h3:(apos.endLine == pos.line)=ai:=by rfl) (s1:mo b=ao:=by rfl) (s2:mo c=ao:=by rfl) : DE X E (.Call (.Attribute (.Name y yp) "get" apos) [b,c] [] pos) (nz i db dc):=λF S ε σ H Q rl h=>by
 have st:bq [b,c] X.env=[(ao,bv b X.env),(ao,bv c X.env)]:=by rw[jg s1,jg s2]; rfl
 have m:M2 X (.Name y yp) "get" apos b c pos:=⟨h1,by rw[st]; rfl,h3,by rw[st]; rfl⟩
 unfold nz at h;cases e0:dP ε i with
 | none=>rw[e0]at h; exact h.elim
 | some kvs0=>
  rw[e0]at h;simp only[dE,R.bind_ok]at h;obtain⟨a,ws0,ea,ha0,_⟩:=rl.dkAt (lu e0);refine cT (Nf ∅ (gP hN fS hd bM) cx cx m) ⟨.ref a,ea,a,rfl,.inl ⟨_,.inl ha0⟩,hb F S ε σ H _ rl ((Ok.bind h).imp λk ε1 F1 S1 H1 r1 g1 q u ru=>?_)⟩;refine hc F1 S1 ε1 σ H1 _ r1 ((Ok.bind q).imp λz ε2 F2 S2 H2 r2 g2 q w rw'=>?_);cases e1:dP ε2 i with
  | none=>rw[e1]at q; exact q.elim
  | some kvs=>
   rw[e1]at q;simp only[dE,R.bind_ok]at q;obtain⟨a',ws,ea',ha,hk,_⟩:=r2.dkAt (lu e1);rw[ea]at ea';cases ea';cases e2:j9 k with
   | none=>rw[e2]at q; exact q.elim
   | some ky=>
    rw[e2,lH]at q;rw[yN ru e2];rcases hk.val ky with⟨x,v,h1,h2,h3⟩ | ⟨h1,h2⟩
    ·rw[h1]at q;exact⟨aa v,by rw[← h2]; exact kJ.k ha,q F2 S2 H2 r2 (bX.refl ..) v h3⟩
    ·rw[h1]at q;exact⟨ae,by rw[← h2]; exact kJ.k ha,q F2 S2 H2 r2 (bX.refl ..) w rw'⟩
def jh(i:Nat)(db de:aj->R PV):aj->R aH:=λε=>(de ε).bind λy ε1=>(aS (dP ε1 i) ε1).bind λ_ ε1=>(db ε1).bind λk ε2=>(aS (dP ε2 i) ε2).bind λkvs ε2=>(aS (j9 k) ε2).bind λk ε2=>if kvs.length<bB then .ok .next (ε2.set i (.own (.dK (rE kvs k y))))else .no
theorem vo(i:Nat){y:Str}{yp tpos:Pos}(hu:X.A.units+64<cLine)(hb:DE X E b db)(he:DE X E e de)(hN:X.N[i]?=aa y:=by rfl)(fS:fW X.env.scope y:=by first | exact Or.inl rfl | exact Or.inr (Or.inl rfl) | exact Or.inr (Or.inr rfl))(hd:(y == ("__debug__" : Str))=ao:=by decide) (bM:(y == ("__classdict__" : Str))=ao:=by decide) (hs:mB e (aa (.Subscript (.Name y yp) b tpos)) pos.line X.env=pure ao:=by rfl) : DS X E pin (.Assign [.Subscript (.Name y yp) b tpos] e pos) (jh i db de):=λF S ε σ H D rl h=>by
 refine iZ (L5 ∅ (gP hN fS hd bM) cx cx hs) (he F S ε σ H _ rl (h.bindE.imp λy ε1 F1 S1 H1 r1 g1 q v rv=>?_));cases e0:dP ε1 i with
 | none=>rw[e0]at q; exact q.elim
 | some kvs0=>
  rw[e0]at q;simp only[dE,R.bind_ok]at q;obtain⟨a,ws0,ea,ha0,_⟩:=r1.dkAt (lu e0);refine⟨.ref a,ea,hb F1 S1 ε1 σ H1 _ r1 (q.bindE.imp λk ε2 F2 S2 H2 r2 g2 q2 u ru=>?_)⟩;cases e1:dP ε2 i with
  | none=>rw[e1]at q2; exact q2.elim
  | some kvs=>
   rw[e1]at q2;simp only[dE,R.bind_ok]at q2;obtain⟨a',ws,ea',ha,hk,_⟩:=r2.dkAt (lu e1);rw[ea]at ea';cases ea';cases e2:j9 k with
   | none=>rw[e2]at q2; exact q2.elim
   | some ky=>
    rw[e2]at q2;simp only[dE,R.bind_ok]at q2;split at q2
    ·rename_i hl;rw[yN ru e2];have ez:=hk.put ky (rv.grow g2 r1.fit);obtain⟨r3,g3⟩:=r2.updO (po':=.dK (rE kvs ky y)) (o':=.dK (gR ws ky v)) (lu e1) rfl ea trivial λH' m1 m2 hH' Sa hSa=>⟨⟨_,hH',ez.mono m1⟩,hSa⟩
     exact⟨a,_,rfl,zc.k ha (by rw[hk.len]; exact fQ hl m9),q2 F2 S2 σ _ r3 g3 (j6.refl _ _)⟩
    ·exact q2.elim
end
section
variable{X:Cx}
def uY(a d:af):HO:=.ext λh=>h.IsValuesView a d
theorem O5:Co X "dict.values" (λx xs H Q=>∃ d kvs,x = .ref d/\xs=[]/\H d=aa (.dK kvs)/\∀ a,H a=ae->Q (.ref a) (upd H a (uY a d))):=by
 intro ah s σ H x xs v us Q I rx rs h;obtain⟨d,kvs,rfl,rfl,hd,q⟩:=h;cases rx;cases rs.zero;obtain⟨z,hs,vs,rel,dd⟩:=u0 I.hok hd;refine call_meetsIn PySem.F.slot_dict_values dd.typeIs PySem.F.entry_dict_values (PySem.F.args_dict_values_1 _) (meets_dict_values (gf X.prog X.w) d hs) ⟨⟨vs,dd⟩,?_⟩;refine⟨.ref s.heap.objs.size,_,I.laid (a:=s.heap.objs.size) (o:=uY s.heap.objs.size d) (t':=s.toks) (λ_ _ q=>bK _ q) (bi _) ?_,rfl,q _ I.fresh⟩;exact⟨⟨_,dz _ rfl,rfl,rfl⟩,⟨_,dz _ rfl⟩,λh1 h2 ⟨o,q1,q2⟩ k=>⟨o,k o q1,q2⟩⟩
theorem KV.at{kvs:List (aI×V)}{vs:List (aI×ak)}(r:KV kvs vs){i:Nat}{k:aI}{u:ak}(h:vs[i]?=aa (k,u)):∃ v,kvs[i]?=aa (k,v)/\RelV v u:=by
 unfold KV at r
 induction r generalizing i with
 | nil=>simp at h
 | @cons p q ps qs r1 _ ih=>
  cases i with
  | zero=>simp at h;subst h;exact⟨p.2,by simp[show k=p.1 from r1.1.symm],r1.2⟩
  | succ i=>exact ih (by simpa using h)
def kS(kvs:List (aI×V)):Option Bool:=match kvs with
 | []=>aa ao
 | (_,.int i)::r=>(kS r).map λb=>(decide (i≠0)) || b
 | _=>ae
theorem Gn:∀ {kvs:List (aI×V)} {b:Bool},kS kvs=aa b->(∀ (i:Nat) k v,kvs[i]?=aa (k,v)->∃ n,v = .int n)/\b=(bQ kvs.length).any λi=>match kvs[i]? with | aa (_,.int n)=>decide (n≠0) | _=>ao
 | [],b,h=>by simp[kS]at h; subst h; exact⟨by simp,rfl⟩
 | (k,.int n)::r,b,h=>by
  simp only[kS,qB]at h;obtain⟨b',h1,h2⟩:=h;obtain⟨i1,i2⟩:=Gn h1;refine⟨λi k' v e=>?_,?_⟩
  ·cases i with
   | zero=>simp at e; exact⟨n,e.2.symm⟩
   | succ i=>exact i1 i k' v (by simpa using e)
  ·rw[eD,qC,nR,C4,← h2,i2];rfl
 | (_,.non)::_,_,h=>by simp[kS]at h
 | (_,.bl _)::_,_,h=>by simp[kS]at h
 | (_,.str _)::_,_,h=>by simp[kS]at h
 | (_,.ref _)::_,_,h=>by simp[kS]at h
 | (_,.ty _)::_,_,h=>by simp[kS]at h
theorem Md(hc:X.calm=ai):gL X (.builtin "any") (λxs H Q=>∃ (p d:af) (kvs:List (aI×V)) (b:Bool),xs=[.ref p]/\H p=aa (uY p d)/\H d=aa (.dK kvs)/\kS kvs=aa b/\Q (.bl b) H):=by
 intro ah s σ H xs us Q I r h;obtain⟨p,d,kvs,b,rfl,hp,hd,ha,q⟩:=h;obtain⟨u,rfl,ru⟩:=vals1 r;cases ru;obtain⟨hv,_,_⟩:=(show dS X.prog X.w H s.heap p (uY p d)from I.hok p _ hp)
 obtain⟨z,hs,vs,rel,dd⟩:=u0 I.hok hd;obtain⟨ep,t6⟩:=dd.dictAt;obtain⟨i1,i2⟩:=Gn ha;refine call_any_walk (wpAny_pyIter_values hv t6 ?_);refine⟨s.heap.objs.size,_,_,_,_,_,λi=>match kvs[i]? with | aa (_,.int n)=>decide (n≠0) | _=>ao,rfl,Walks.dictValues (wX (I.ok.hd hc)) _ d (c7 t6.lt_size) vs ep,⟨⟨_,dz _ rfl,rfl,rfl⟩,t6.push _⟩,λi v s' Q' E' hv hQ=>?_,λh' tk k=>?_⟩
 ·obtain⟨ky,hx⟩:=hv;obtain⟨w,e1,e2⟩:=KV.at rel hx;obtain⟨n,rfl⟩:=i1 i ky w e1;obtain⟨t,rfl⟩:=e2;dsimp only at hQ;rw[e1]at hQ;exact PyProof.Rows.truthy_int (by rw[show(n != 0)=decide (n≠0) by by_cases z:n=0 <;> simp[z]]; exact hQ)
 ·have I1:Inv X ah σ H { s with heap:=s.heap.push { cls:=.type "dict_valueiterator",data:=.fields #[.ref d,.int 0 0,.int vs.length 0,.int ep 0] },toks:=s.toks }:=I.kept (t':=s.toks) λb o e=>bK _ e;have e5:(bQ vs.length).any (λi=>match kvs[i]? with | aa (_,.int n)=>decide (n≠0) | _=>ao)=b:=by rw[← rel.length]; exact i2.symm
  rw[e5];exact⟨.bl _,H,Inv.turned (t':=tk) I1 (it:=s.heap.objs.size) (λb o hb e=>k b o (by simpa using hb) e) I.fresh (mC I.lt) (.inr I.sz) (λx c e z=>by obtain⟨v,qq⟩:=I.cell x c e;exact absurd qq.lt (by rw[z]; exact fk _)) (λpp hp z=>absurd (bC (I.pin pp hp).1) (by rw[z]; exact fk _)),rfl,q⟩
end
section
variable{X:Cx}{E:XK}{pin:List Nat}{e b c:aC}{de db dc:aj->R PV}{pos:Pos}
def qe:List (aI×PV)->Option Bool
 | []=>aa ao
 | (_,.int i)::r=>(qe r).map λb=>(decide (i≠0)) || b
 | _=>ae
theorem Qp{K:az}{H:Hp}{F:af->Prop}{kvs:List (aI×PV)}{ws:List (aI×V)}{k:Bool}(h:fP K H F kvs ws)(e:qe kvs=aa k):kS ws=aa k:=by
 unfold fP at h
 induction h generalizing k with
 | nil=>exact e
 | @cons p q ps qs r _ ih=>
  obtain⟨pk,pv⟩:=p;obtain⟨qk,qv⟩:=q;cases pv <;> simp only[qe,qB]at e <;> try cases e
  obtain⟨r1,r2⟩:=r;obtain rfl:qv=V.int _:=r2;rename_i h;simp only[kS,ih h.1,lH];rw[← h.2]
def uJ(i:Nat):aj->R PV:=λε=>(aS (dP ε i) ε).bind λkvs ε=>aS ((qe kvs).map .bl) ε
theorem Pf(i:Nat){y:Str}{yp p apos cpos:Pos}(hc:X.calm=ai)(hm:X.mg "any" = ae)(hN:X.N[i]?=aa y:=by rfl)(fS:fW X.env.scope y:=by first | exact Or.inl rfl | exact Or.inr (Or.inl rfl) | exact Or.inr (Or.inr rfl))(hd:(y == ("__debug__" : Str))=ao:=by decide) (bM:(y == ("__classdict__" : Str))=ao:=by decide) (hg:Gl X "any":=by rfl)(wb:s_ (.Name y yp) "values" X.env (bv (.Name y yp) X.env)=bv (.Name y yp) X.env:=by rfl) (wc:(apos.endLine == cpos.line)=ai:=by rfl)(he:bq [.Call (.Attribute (.Name y yp) "values" apos) [] [] cpos] X.env=(ao,bv (.Call (.Attribute (.Name y yp) "values" apos) [] [] cpos) X.env)::bq [] X.env:=by rfl) (dI:(fZ pos (bq [] X.env)).any (·.1)=ao:=by rfl) : DE X E (.Call (.Name "any" p) [.Call (.Attribute (.Name y yp) "values" apos) [] [] cpos] [] pos) (uJ i):=λF S ε σ H Q rl h=>by
 unfold uJ at h;cases e0:dP ε i with
 | none=>rw[e0]at h; exact h.elim
 | some kvs=>
  rw[e0]at h;simp only[dE,R.bind_ok]at h;obtain⟨a,ws,ea,ha,hk,ia,_⟩:=rl.dkAt (lu e0);cases e1:qe kvs with
  | none=>rw[e1]at h; exact h.elim
  | some k=>
   rw[e1,lH]at h;refine cT (sN (Md hc) hg hm Ha (kc (MP PySem.F.plainAttrs_dict PySem.F.slot_dict_values PySem.F.type_dict_values O5 (gP hN fS hd bM) wb wc) mn he) (by decide) (by decide) he dI) ⟨.ref a,ea,.inr (.inr (.inl ⟨rfl,.inl ⟨_,ha⟩⟩)),a,ws,rfl,rfl,ha,λq hq=>?_⟩;have al:Al F F H (L2.upd H q (uY q a)):=Al.new0 hq;have cP:a≠q:=by rintro rfl; rw[ha]at hq; cases hq
   exact⟨q,a,ws,k,rfl,cz,by rw[cn cP]; exact ha,Qp hk e1,h F S _ (rl.al al) al.grow _ rfl⟩
def xM(X:Cx)(E:XK)(es:List aC)(d:aj->R (PO×List cB)):Prop :=
 ∀ F S ε σ H Q,a9 X.K F S ε σ H->Ok X.K E σ F S H (d ε) (λp _ F' S' H'=>∀ a Sa vs,gb X.K H' F' p.1 a Sa->(∀ b,Sa b->H b=ae/\¬ F' b/\¬ U S' b/\∃ o,H' b=aa o/\gz o)->j5 X.K (σ++[aa (.ref a)]) F' H' p.2 vs->Q vs H')->pG X es σ H Q
theorem j5.app{K:az}{σ:St}{F:af->Prop}{H:Hp}(τ:St):∀ {as:List cB} {vs:List V},j5 K σ F H as vs->j5 K (σ++τ) F H as vs
 | [],_,h=>h
 | .inl _::_,_,⟨v,r,e,h1,h2⟩=>⟨v,r,e,h1,h2.app τ⟩
 | .inr i::_,_,⟨v,r,e,h1,h2⟩=>⟨v,r,e,by rw[fJ (eu.mp h1).1]; exact h1,h2.app τ⟩
theorem gb.stay{K:az}{O O' F F':af->Prop}{H H':Hp}{po:PO}{a:af}{Sa:af->Prop}(ow:gb K H F po a Sa)(g:bX O O' F F' H H')(fit:oF O F H)(lo:∀ b,Sa b->¬ F b/\¬ O b/\∃ o,H b=aa o/\gz o) : gb K H' F' po a Sa/\∀ b,Sa b->¬ F' b/\¬ O' b/\∃ o,H' b=aa o/\gz o:=by refine⟨ow.mono (λ_ _ z=>z.grow g fit) (λ_ _ z=>z.grow g fit) λb o z w=>(g.stay w (lo b z).2.1 (lo b z).1).1,λb z=>?_⟩;obtain⟨l1,l2,o,l3,l4⟩:=lo b z;obtain⟨s1,s2,s3⟩:=g.stay l3 l2 l1;exact⟨s2,s3,o,s1,l4⟩
variable{es:List aC}{dn:aj->R PO}{dg:aj->R (List cB)}{dh:aj->R (PO×List cB)}
def gN(dn:aj->R PO)(dg:aj->R (List cB)):aj->R (PO×List cB):=λε=>(dn ε).bind λpo ε1=>(dg ε1).bind λas ε2=>.ok (po,.inr ε2.length::as) ε2
theorem Nc(ha:DN X E e dn)(hr:DG X E es dg)(hs:mo e=ao:=by rfl):xM X E (e::es) (gN dn dg):=λF S ε σ H Q rl h=>by refine pO (kc cx im (jg hs)) (ha F S ε σ H _ rl ((Ok.bind h).imp λpo ε1 F1 S1 H1 r1 g1 h1 a Sa ow lo=>?_));refine hr F1 S1 ε1 σ H1 _ r1 ((Ok.bind h1).imp λas ε2 F2 S2 H2 r2 g2 h2 vs av=>?_);obtain⟨ow2,lo2⟩:=ow.stay g2 r1.fit λb z=>(lo b z).2;refine h2 F2 S2 H2 r2 (bX.refl ..) a Sa (.ref a::vs) ow2 (λb z=>⟨(lo b z).1,lo2 b z⟩) ⟨.ref a,vs,rfl,?_,av.app _⟩;rw[r2.len,jy (bi _),Nat.sub_self];rfl
def rY(d:aj->R PV)(dh:aj->R (PO×List cB)):aj->R (PO×List cB):=λε=>(d ε).bind λx ε1=>(dh ε1).bind λp ε2=>.ok (p.1,.inl x::p.2) ε2
theorem Es(ha:DE X E e de)(hr:xM X E es dh)(hs:mo e=ao:=by rfl):xM X E (e::es) (rY de dh):=λF S ε σ H Q rl h=>by refine pO (kc cx im (jg hs)) (ha F S ε σ H _ rl ((Ok.bind h).imp λx ε1 F1 S1 H1 r1 g1 h1 v rv=>?_));refine hr F1 S1 ε1 σ H1 _ r1 ((Ok.bind h1).imp λp ε2 F2 S2 H2 r2 g2 h2 a Sa vs ow lo av=>?_);exact h2 F2 S2 H2 r2 (bX.refl ..) a Sa _ ow (λb z=>⟨oC g1 (lo b z).1,(lo b z).2⟩) ⟨v,vs,rfl,rv.grow g2 r1.fit,av⟩
theorem a9.push{K:az}{F:af->Prop}{S:Nat->af->Prop}{ε:aj}{σ:St}{H:Hp}{po:PO}{a:af}{Sa:af->Prop}(r:a9 K F S ε σ H)(ow:gb K H F po a Sa)(lo:∀ b,Sa b->¬ F b/\¬ U S b/\∃ o,H b=aa o/\gz o) : a9 K F (λj b=>S j b\/(j=ε.length/\Sa b)) (ε++[.own po]) (σ++[aa (.ref a)]) H:=by
 have lt:∀ j b,S j b->j<ε.length:=λj b z=>by obtain⟨⟨p,q⟩,_⟩:=r.foot j b z; exact(eu.mp q).1
 refine⟨by simp[r.len],r.ex,λj pv q=>?_,λj p q=>?_,λj b z=>?_,λj k b z1 z2=>?_⟩
 ·by_cases hj:j<ε.length
  ·rw[fJ hj]at q;obtain⟨v,q1,q2⟩:=r.val j pv q;exact⟨v,by rw[fJ (by rw[← r.len]; exact hj)]; exact q1,q2⟩
  ·rw[jy ∅]at q;cases hk:j-ε.length with
   | zero=>rw[hk]at q; simp at q
   | succ n=>rw[hk]at q; simp at q
 ·by_cases hj:j<ε.length
  ·rw[fJ hj]at q;obtain⟨v,q1,q2⟩:=r.own j p q;refine⟨v,by rw[fJ (by rw[← r.len]; exact hj)]; exact q1,?_⟩;have:(λb=>S j b\/(j=ε.length/\Sa b))=S j:=by funext b;exact propext ⟨λz=>z.elim id λz=>absurd z.1 (c7 hj),.inl⟩
   rw[this]; exact q2
  ·rw[jy ∅]at q;cases hk:j-ε.length with
   | zero=>
    rw[hk]at q;simp at q;subst q;have ej:j=ε.length:=∅
    subst ej;refine⟨a,by rw[r.len,jy (bi _),Nat.sub_self]; rfl,?_⟩;have:(λb=>S ε.length b\/(ε.length=ε.length/\Sa b))=Sa:=by funext b;exact propext ⟨λz=>z.elim (λz=>absurd (lt _ _ z) (fk _)) (·.2),λz=>.inr ⟨rfl,z⟩⟩
    rw[this]; exact ow
   | succ n=>rw[hk]at q; simp at q
 ·rcases z with z | ⟨rfl,z⟩
  ·obtain⟨⟨p,q⟩,q2⟩:=r.foot j b z;exact⟨⟨p,by rw[fJ (lt j b z)]; exact q⟩,q2⟩
  ·obtain⟨l1,l2,l3⟩:=lo b z;exact⟨⟨po,by rw[jy (bi _),Nat.sub_self]; rfl⟩,l1,l3⟩
 ·rcases z1 with z1 | ⟨rfl,z1⟩ <;> rcases z2 with z2 | ⟨rfl,z2⟩
  ·exact r.dist j k b z1 z2
  ·exact absurd ⟨j,z1⟩ (lo b z2).2.1
  ·exact absurd ⟨k,z2⟩ (lo b z1).2.1
  ·rfl
theorem a9.pop{K:az}{F:af->Prop}{S:Nat->af->Prop}{ε:aj}{sl:Slot}{σ:St}{u:Option V}{H:Hp}(r:a9 K F S (ε++[sl]) (σ++[u]) H):a9 K F (λj b=>S j b/\j<ε.length) ε σ H:=by
 have len:ε.length=σ.length:=by have:=r.len; simpa using this
 refine⟨len,r.ex,λj pv q=>?_,λj p q=>?_,λj b z=>?_,λj k b z1 z2=>r.dist j k b z1.1 z2.1⟩
 ·have hj:=(eu.mp q).1;obtain⟨v,q1,q2⟩:=r.val j pv (by rw[fJ hj]; exact q);exact⟨v,by rw[fJ (by rw[← len]; exact hj)]at q1; exact q1,q2⟩
 ·have hj:=(eu.mp q).1;obtain⟨v,q1,q2⟩:=r.own j p (by rw[fJ hj]; exact q);refine⟨v,by rw[fJ (by rw[← len]; exact hj)]at q1; exact q1,?_⟩;have:(λb=>S j b/\j<ε.length)=S j:=by funext b; simp[hj]
  rw[this]; exact q2
 ·obtain⟨⟨p,q⟩,q2⟩:=r.foot j b z.1;exact⟨⟨p,by rw[fJ z.2]at q; exact q⟩,q2⟩
def Gb{α:Type}:R α->R α
 | .ok s ε=>.ok s ε.dropLast
 | .er c ε=>.er c ε.dropLast
 | .no=>.no
def ug(g:aj->R Slot)(dh:aj->R (PO×List cB)):aj->R Slot:=λε=>(dh ε).bind λp ε1=>(aS (if(cC p.2).Nodup then dZ (ε1++[.own p.1]) p.2 else ae) ε1).bind λss ε1=>Gb (e_ (ε1++[.own p.1]) p.2 (g ss))
theorem Eh{ε:aj}{n:Nat}(h:ε.length=n+1):∃ l x,ε=l++[x]/\l.length=n:=by
 refine⟨ε.dropLast,ε.getLast (by intro z; rw[z]at h; cases h),(List.dropLast_concat_getLast _).symm,by rw[C5,h]; rfl⟩
theorem bX.pushed{K:az}{F F':af->Prop}{S S2:Nat->af->Prop}{H0 H H':Hp}{n:Nat}{Sa:af->Prop}(g:bX (U λj b=>S j b\/(j=n/\Sa b)) (U S2) F F' H H'){F0:af->Prop}{S0:Nat->af->Prop}(g0:bX (U S0) (U S) F0 F H0 H)(fr:∀ b,Sa b->H0 b=ae) : bX (U S0) (U λj b=>S2 j b/\j<n) F0 F' H0 H' where
 fro:=λb z=>g.fro b (g0.fro b z)
 keep:=λb o q no=>g.keep b o (g0.keep b o q no) λ⟨j,z⟩=>by
  rcases z with z | ⟨_,z⟩
  ·rcases g0.onew b ⟨j,z⟩with w | w
   ·exact no w
   ·rw[w]at q; cases q
  ·rw[fr b z]at q; cases q
 there:=λb o q=>let ⟨o',q'⟩:=g0.there b o q; g.there b o' q'
 fnew:=λb z=>by
  rcases g.fnew b z with w | w | ⟨j,w | ⟨_,w⟩⟩
  ·exact g0.fnew b w
  ·exact .inr (.inl (oC g0 w))
  ·exact .inr ((g0.onew b ⟨j,w⟩).symm)
  ·exact .inr (.inl (fr b w))
 onew:=λb ⟨j,z,_⟩=>by
  rcases g.onew b ⟨j,z⟩with⟨k,w | ⟨_,w⟩⟩ | w
  ·exact g0.onew b ⟨k,w⟩
  ·exact .inr (fr b w)
  ·exact .inr (oC g0 w)
variable{CX:fV}{x:Str}{k:Nat}{ps:List Str}{g:aj->R Slot}{p:Pos}
theorem Ro(c:cm CX X.prog X.w X.K X.mg X.base x k ps (b0 X.K g))(hr:Room k X.A)(hx:sj CX X E)(ha:xM X E (e::es) dh)(hg:Gl X x:=by rfl)(hd:(x == ("__debug__" : Str))=ao:=by decide) (h1:bq (e::es) X.env=(ao,bv e X.env)::bq es X.env:=by rfl) (h2:(fZ pos (bq es X.env)).any (·.1)=ao:=by rfl) : DR X E (.Call (.Name x p) (e::es) [] pos) (ug g dh):=λF S ε σ H Q rl h=>by
 obtain⟨f,fd,hm,Fn,hb,hk⟩:=c.ex;refine cT (Fi Fn hr hg hm hk hb .nil hx im hd h1 h2) (ha F S ε σ H _ rl ?_);unfold ug at h;cases ed:dh ε with
 | no=>rw[ed]at h; exact h.elim
 | er cv ε1=>rw[ed]at h; exact h
 | ok pa ε1=>
  obtain⟨po,as⟩:=pa;rw[ed]at h;simp only[R.bind_ok]at h;intro F1 S1 H1 r1 g1 a Sa vs ow lo av;dsimp only at h av ow;have rp:=r1.push ow λb z=>(lo b z).2;by_cases nd:(cC as).Nodup
  ·rw[if_pos nd]at h;cases es:dZ (ε1++[.own po]) as with
   | none=>rw[es]at h; exact h.elim
   | some ss=>
    rw[es]at h;simp only[dE,R.bind_ok]at h;rw[ja];refine⟨F1,ng as _,ss,rp.cal av es nd,?_⟩;have len:∀ aR,(d8 (ε1++[.own po]) as aR).length=ε1.length+1:=λaR=>by rw[xw]; simp
    cases eg:g ss with
    | no=>rw[eg]at h; exact h.elim
    | er cv aR=>
     rw[eg]at h;intro y F' S' H' r' g';unfold e_ at h;dsimp only at h;by_cases kp:eB as aR=ai
     ·rw[if_pos kp]at h;obtain⟨S2,r2,g2,_⟩:=rp.called av es nd r' g' (λ_ z=>z) (pX kp);obtain⟨l,sl,el,ll⟩:=Eh (len aR);rw[el]at r2;have h:Ok X.K E σ F S H (R.er cv (d8 (ε1++[.own po]) as aR).dropLast:R Slot) _:=h;rw[el,List.dropLast_concat]at h;have gp:=bX.pushed (K:=X.K) g2 g1 λb z=>(lo b z).1;rw[← ll]at gp;exact h y F' _ H' r2.pop gp
     ·rw[if_neg kp]at h; exact h.elim
    | ok s aR=>
     rw[eg]at h;intro v F' S' H' Sr r' g' rv lo' fr;unfold e_ at h;dsimp only at h;by_cases kp:eB as aR=ai
     ·rw[if_pos kp]at h;obtain⟨S2,r2,g2,u2⟩:=rp.called av es nd r' g' (λ_ z=>.inl z) (pX kp);obtain⟨l,sl,el,ll⟩:=Eh (len aR);rw[el]at r2;have h:Ok X.K E σ F S H (R.ok s (d8 (ε1++[.own po]) as aR).dropLast:R Slot) _:=h;rw[el,List.dropLast_concat]at h;have gp:=bX.pushed (K:=X.K) g2 g1 λb z=>(lo b z).1;rw[← ll]at gp;refine h F' _ H' r2.pop gp v Sr rv λb z=>⟨oC g1 (fr b z),(lo' b z).1,λ⟨j,w,_⟩=>?_,(lo' b z).2.2⟩
      rcases u2 b ⟨j,w⟩with w | ⟨i,w⟩
      ·exact(lo' b z).2.1 w
      ·obtain⟨_,_,o,y1,_⟩:=rp.foot i b w;rw[fr b z]at y1; cases y1
     ·rw[if_neg kp]at h; exact h.elim
  ·rw[if_neg nd]at h; exact h.elim
end
section
variable{X:Cx}{E:XK}{pin:List Nat}{e b c o:aC}{de db dc d:aj->R PV}{ds:aj->R (List PV)}{pos p q pos':Pos}
def Qw(X:Cx)(r:List V->Hp->VK->Prop):List V->Hp->VK->Prop:=λxs H Q=>∃ (p:af) (ls:List Tx),xs=[.ref p]/\ce X.K H p (c0 ls)/\(ca ls).length<4000/\∀ a,H a=ae->r [.ref a] (upd H a (iD X a (ca ls))) Q
def yn(i j:Nat)(d:aj->R PV):aj->R aH:=λε=>(d ε).bind λx ε1=>match x with
 | .tup [a,b]=>.ok .next ((ε1.set i (.val a)).set j (.val b))
 | _=>.no
theorem Ti(i j:Nat){x y:Str}{k:Nat}{tp px py:Pos}(hc:X.calm=ai)(hN:X.N.Nodup)(he:DE X E e de)(hp:i∉pin:=by decide)(fu:j∉pin:=by decide)(hi:X.N[i]?=aa x:=by rfl)(hj:X.N[j]?=aa y:=by rfl)(hx:Loc X.env.scope x:=by first | exact Or.inl rfl | exact Or.inr rfl) (hy:Loc X.env.scope y:=by first | exact Or.inl rfl | exact Or.inr rfl)(hf:X.fn x=ai\/X.env.scope.names.lookup x=aa .local:=by first | exact .inl rfl | exact .inr rfl) (qL:X.fn y=ai\/X.env.scope.names.lookup y=aa .local:=by first | exact .inl rfl | exact .inr rfl)(hs:swapsWithSole [.Tuple [.Name x px,.Name y py] k tp] e pos.line X.env=pure ao:=by rfl) (hw:swappedStores [.Tuple [.Name x px,.Name y py] k tp] e X.env=pure ae:=by rfl) : DS X E pin (.Assign [.Tuple [.Name x px,.Name y py] k tp] e pos) (yn i j de):=λF S ε σ H D rl h=>by
 refine iZ (N9 cx (QZ hc (IX (Cp hN hi hx hf) (IX (Cp hN hj hy qL) QS))) hs hw rfl) (he F S ε σ H _ rl (h.bindE.imp λz ε1 F1 S1 H1 r1 g1 h1 v rv=>?_));split at h1
 ·rename_i a b;obtain⟨p,us,rfl,iP,ru⟩:=rv;obtain⟨va,ra,rfl,r2,vb,rb,rfl,r3,rfl⟩:=ru;refine⟨p,_,rfl,dj.of iP,rfl,va,_,rfl,vb,_,rfl,rfl,?_⟩;exact h1 F1 _ _ H1 ((r1.set r2).set r3) ((bX.less i).trans (bX.less j)) ((j6.set hp).trans (j6.set fu))
 ·exact h1.elim
end
section
variable{X:Cx}
theorem FL:∀ (vs:List ak) (ss:List Str),vs.length=ss.length->(∀ (i:Nat) v x,vs[i]?=aa v->ss[i]?=aa x->∃ t,v = .str x t)->d7 vs ss
 | [],[],_,_=>.nil
 | v::vs,x::ss,hl,h=>by obtain⟨t,rfl⟩:=h 0 v x rfl rfl;exact .cons x t (FL vs ss (vU hl) λi v x h1 h2=>h (i+1) v x (by simpa using h1) (by simpa using h2))
 | [],_::_,hl,_=>by cases hl
 | _::_,[],hl,_=>by cases hl
def qd:List (aI×PV)->Option (List Tx)
 | []=>aa []
 | (.inr k,_)::r=>(qd r).map (k.cps.toList::·)
 | _=>ae
theorem Hq:∀ {kvs:List (aI×PV)} {ls:List Tx},qd kvs=aa ls->kvs.map (·.1)=ls.map (λx=>Sum.inr (tS x))
 | [],ls,h=>by cases h; rfl
 | (.inr k,_)::r,ls,h=>by simp only[qd,qB]at h;obtain⟨l,h1,rfl⟩:=h;rw[d4,d4,Hq h1,ya]
 | (.inl _,_)::_,_,h=>by cases h
theorem fP.keys{K:az}{H:Hp}{F:af->Prop}{kvs:List (aI×PV)}{ws:List (aI×V)}(h:fP K H F kvs ws):ws.map (·.1)=kvs.map (·.1):=by
 unfold fP at h
 induction h with
 | nil=>rfl
 | cons r _ ih=>rw[d4,d4,ih,r.1]
end
end Pu
namespace L2
def ye:Bool->Keyed->Array Keyed->Nat->Nat->Nat->StateT bU Sem (Option Nat):=sortPriv% PySem.Builtin.gallop
def Hu:Array Keyed->Array Keyed->StateT bU Sem (Array Keyed):=sortPriv% PySem.Builtin.mergeLo
def Hw:Array Keyed->Array Keyed->StateT bU Sem (Array Keyed):=sortPriv% PySem.Builtin.mergeHi
def kO(κ:KeyKind)(p:Keyed):κ.α:=(κ.keyOf p.1).getD κ.dflt
def ic(κ:KeyKind)(p:Keyed):Prop:=∃ a,κ.keyOf p.1=aa a
theorem ic.k{κ:KeyKind}{p:Keyed}(h:ic κ p):κ.keyOf p.1=aa (kO κ p):=by obtain⟨a,e⟩:=h; unfold kO; rw[e]; rfl
structure SB(st:bU):Prop where
 kind:kindOf st=oneType'
 failed:failedOf st=ae
section
variable{prog:aX}{w:aN}{A:be}{E:ak->aq->Prop}{s:aq}{κ:KeyKind}
theorem vt(hO:κ.OneLt){st:bU}{x y:Keyed}{Q:Option Bool->bU->Prop}(hk:SB st)(hx:ic κ x)(hy:ic κ y)(h:Q (aa (κ.blt (kO κ x) (kO κ y))) st):wpS (ay prog w) A E s (lt' x y) Q st:=by rw[lt'_eq];refine aK (lI ?_);rw[hk.kind,keyLt'_oneType];exact aK (tK (wpAny_attempt (hO prog w A _ s x.1 y.1 _ _ hx.k hy.k ⟨rfl,aT h⟩)))
theorem fM{st:bU}{arr:Array Keyed}{i:Nat}(hi:i<arr.size){Q:Keyed->bU->Prop}(h:Q arr[i] st):wpS (ay prog w) A E s (elem' arr i) Q st:=by rw[elem'_eq,getElem?_pos arr i hi]; exact aT h
def Ea(left:Bool)(key:Keyed)(arr:Array Keyed)(base i:Nat):StateT bU Sem (Option Bool) :=elem' arr (base+i) >>= λx=>if left=ai then lt' x key else lt' key x >>= λb=>pure (b.map (!·))
def me(κ:KeyKind)(left:Bool)(key x:Keyed):Bool:=if left=ai then κ.blt (kO κ x) (kO κ key)else !κ.blt (kO κ key) (kO κ x)
theorem NQ(hO:κ.OneLt){st:bU}{left:Bool}{key:Keyed}{arr:Array Keyed}{base i:Nat}{Q:Option Bool->bU->Prop}(hk:SB st)(hx:ic κ key)(hi:base+i<arr.size)(hy:ic κ arr[base+i])(h:Q (aa (me κ left key arr[base+i])) st):wpS (ay prog w) A E s (Ea left key arr base i) Q st:=by
 refine aK (fM hi ?_);cases left
 ·rw[if_neg (by simp)];exact aK (vt hO hk hx hy (aT h))
 ·rw[if_pos rfl];exact vt hO hk hy hx h
theorem HF(hO:κ.OneLt){st:bU}(hk:SB st){left:Bool}{key:Keyed}{arr:Array Keyed}{base n hint:Nat}{Q:Option Nat->bU->Prop}(jc:ic κ key)(hn:base+n<=arr.size)(hA:∀ i (hi:i<arr.size),ic κ arr[i]) (B:Nat->Bool) (hB:∀ i (hi:i<n),B i=me κ left key (arr[base+i]'∅))(mono:∀ i j,i<=j->j<n->B j=ai->B i=ai) (hh:hint<n)(h:∀ r,r<=n->(∀ i,i<r->B i=ai)->(∀ i,r<=i->i<n->B i=ao)->Q (aa r) st) : wpS (ay prog w) A E s (ye left key arr base n hint) Q st:=by
 have hb:∀ {i:Nat} {Q:Option Bool->bU->Prop},i<n->Q (aa (B i)) st->wpS (ay prog w) A E s (Ea left key arr base i) Q st:=λ{i Q} hi q=>NQ hO hk jc ∅ (hA _ _) (by rw[← hB i hi]; exact q);have dn:∀ {i j:Nat},i<=j->j<n->B i=ao->B j=ao:=λ{i j} bZ hj hf=>by
  cases e:B j with
  | false=>rfl
  | true=>rw[mono i j bZ hj e]at hf; cases hf
 unfold ye;refine aK (hb hh ?_);cases hr:B hint with
 | true=>
  dsimp only;rw[if_pos rfl];refine aK (g7 (g8 (I:=λx c aA=>aA=st/\∃ l o,c=(ae,l,o)/\l<o/\x<o/\l<n-hint/\B (hint+l)=ai) (Q:=λc aA=>aA=st/\∃ l o,c=(ae,l,o)/\l<o/\l<n-hint/\B (hint+l)=ai/\(n-hint<=o\/(o<n-hint/\B (hint+o)=ao))) ?_ ?_ ?_) ?_)
  ·rintro x c aA _ hx ⟨rfl,l,o,rfl,h1,h2,h3,h4⟩;dsimp only;by_cases eZ:o ≥ n-hint
   ·rw[if_pos eZ]; exact aT ⟨rfl,l,o,rfl,h1,h3,h4,.inl eZ⟩
   ·rw[if_neg eZ];refine aK (hb ∅ ?_);cases e:B (hint+o)with
    | true=>exact aT ⟨rfl,o,2 * o+1,rfl,∅,∅,∅,e⟩
    | false=>exact aT ⟨rfl,l,o,rfl,h1,h3,h4,.inr ⟨∅,e⟩⟩
  ·rintro c aA ⟨rfl,l,o,rfl,h1,h2,h3,h4⟩;exact⟨rfl,l,o,rfl,h1,h3,h4,.inl ∅⟩
  ·exact⟨rfl,0,1,rfl,∅,∅,∅,hr⟩
  rintro c aA ⟨rfl,l,o,rfl,h1,h3,h4,h5⟩;dsimp only;have g1:hint+l+1<=hint+min o (n-hint):=∅
  have g2:hint+min o (n-hint)<=n:=∅
  have g3:∀ i,i<hint+l+1->B i=ai:=λi hi=>mono i (hint+l) ∅ ∅ h4;have g4:∀ i,hint+min o (n-hint)<=i->i<n->B i=ao:=by
   intro i hi eO;rcases h5 with h5 | ⟨h5,h6⟩
   ·lia
   ·exact dn (i:=hint+o) ∅ eO h6
  clear h5;generalize hint+l+1=lo at *;generalize hint+min o (n-hint)=hi at *;refine aK (g7 (g8 (I:=λx c cJ=>cJ=aA/\∃ l r,c=(ae,l,r)/\l<=r/\r<=n/\r-l<=n-x/\(∀ i,i<l->B i=ai)/\(∀ i,r<=i->i<n->B i=ao)) (Q:=λc cJ=>cJ=aA/\∃ l r,c=(ae,l,r)/\r<=n/\(∀ i,i<r->B i=ai)/\(∀ i,r<=i->i<n->B i=ao)) ?_ ?_ ?_) ?_)
  ·rintro x c cJ _ hx ⟨rfl,l,r,rfl,a1,a2,a3,a4,a5⟩;dsimp only;by_cases eZ:l ≥ r
   ·rw[if_pos eZ];have:l=r:=∅
    subst this;exact aT ⟨rfl,l,l,rfl,a2,a4,a5⟩
   ·rw[if_neg eZ];refine aK (hb ∅ ?_);cases e:B (l+(r-l) / 2)with
    | true=>exact aT ⟨rfl,_,r,rfl,∅,a2,∅,λi hi=>mono _ _ ∅ ∅ e,a5⟩
    | false=>exact aT ⟨rfl,l,_,rfl,∅,∅,∅,a4,λi hi eO=>dn (i:=l+(r-l) / 2) hi eO e⟩
  ·rintro c cJ ⟨rfl,l,r,rfl,a1,a2,a3,a4,a5⟩;have:l=r:=∅
   subst this;exact⟨rfl,l,l,rfl,a2,a4,a5⟩
  ·exact⟨rfl,lo,hi,rfl,g1,g2,∅,g3,g4⟩
  ·rintro c cJ ⟨rfl,l,r,rfl,a2,a4,a5⟩;exact aT (h r a2 a4 a5)
 | false=>
  dsimp only;rw[if_neg (by simp)];refine aK (g7 (g8 (I:=λx c aA=>aA=st/\∃ l o,c=(ae,l,o)/\l<o/\x<o/\l<=hint/\B (hint-l)=ao) (Q:=λc aA=>aA=st/\∃ l o,c=(ae,l,o)/\l<o/\l<=hint/\B (hint-l)=ao/\(hint+1<=o\/(o<=hint/\B (hint-o)=ai))) ?_ ?_ ?_) ?_)
  ·rintro x c aA _ hx ⟨rfl,l,o,rfl,h1,h2,h3,h4⟩;dsimp only;by_cases eZ:o ≥ hint+1
   ·rw[if_pos eZ]; exact aT ⟨rfl,l,o,rfl,h1,h3,h4,.inl eZ⟩
   ·rw[if_neg eZ];refine aK (hb ∅ ?_);cases e:B (hint-o)with
    | false=>exact aT ⟨rfl,o,2 * o+1,rfl,∅,∅,∅,e⟩
    | true=>exact aT ⟨rfl,l,o,rfl,h1,h3,h4,.inr ⟨∅,e⟩⟩
  ·rintro c aA ⟨rfl,l,o,rfl,h1,h2,h3,h4⟩;exact⟨rfl,l,o,rfl,h1,h3,h4,.inl ∅⟩
  ·exact⟨rfl,0,1,rfl,∅,∅,∅,hr⟩
  rintro c aA ⟨rfl,l,o,rfl,h1,h3,h4,h5⟩;dsimp only;have g1:hint+1-min o (hint+1)<=hint-l:=∅
  have g2:hint-l<=n:=∅
  have g3:∀ i,i<hint+1-min o (hint+1)->B i=ai:=by
   intro i hi;rcases h5 with h5 | ⟨h5,h6⟩
   ·lia
   ·exact mono i (hint-o) ∅ ∅ h6
  have g4:∀ i,hint-l<=i->i<n->B i=ao:=λi hi eO=>dn (i:=hint-l) ∅ eO h4;clear h5 h4;generalize hint+1-min o (hint+1)=lo at *;generalize hint-l=hi at *;refine aK (g7 (g8 (I:=λx c cJ=>cJ=aA/\∃ l r,c=(ae,l,r)/\l<=r/\r<=n/\r-l<=n-x/\(∀ i,i<l->B i=ai)/\(∀ i,r<=i->i<n->B i=ao)) (Q:=λc cJ=>cJ=aA/\∃ l r,c=(ae,l,r)/\r<=n/\(∀ i,i<r->B i=ai)/\(∀ i,r<=i->i<n->B i=ao)) ?_ ?_ ?_) ?_)
  ·rintro x c cJ _ hx ⟨rfl,l,r,rfl,a1,a2,a3,a4,a5⟩;dsimp only;by_cases eZ:l ≥ r
   ·rw[if_pos eZ];have:l=r:=∅
    subst this;exact aT ⟨rfl,l,l,rfl,a2,a4,a5⟩
   ·rw[if_neg eZ];refine aK (hb ∅ ?_);cases e:B (l+(r-l) / 2)with
    | true=>exact aT ⟨rfl,_,r,rfl,∅,a2,∅,λi hi=>mono _ _ ∅ ∅ e,a5⟩
    | false=>exact aT ⟨rfl,l,_,rfl,∅,∅,∅,a4,λi hi eO=>dn (i:=l+(r-l) / 2) hi eO e⟩
  ·rintro c cJ ⟨rfl,l,r,rfl,a1,a2,a3,a4,a5⟩;have:l=r:=∅
   subst this;exact⟨rfl,l,l,rfl,a2,a4,a5⟩
  ·exact⟨rfl,lo,hi,rfl,g1,g2,∅,g3,g4⟩
  ·rintro c cJ ⟨rfl,l,r,rfl,a2,a4,a5⟩;exact aT (h r a2 a4 a5)
end
section
variable{κ:KeyKind}
def bT(κ:KeyKind)(x y:Keyed):Prop:=κ.kle (kO κ x) (kO κ y)
theorem bT.trans{x y z:Keyed}(h1:bT κ x y)(h2:bT κ y z):bT κ x z:=vV h1 h2
structure MS(κ:KeyKind)(T o ra rb:List Keyed):Prop where
 perm:(o++(ra++rb)).Perm T
 so:o.Pairwise (bT κ)
 sa:ra.Pairwise (bT κ)
 sb:rb.Pairwise (bT κ)
 oa:∀ x∈o,∀ y∈ra,bT κ x y
 ob:∀ x∈o,∀ y∈rb,bT κ x y
theorem MS.stepA{T o x ra rb:List Keyed}(h:MS κ T o (x++ra) rb)(hx:∀ u∈x,∀ v∈rb,bT κ u v):MS κ T (o++x) ra rb:=by
 obtain⟨h1,h2,h3,h4,h5,h6⟩:=h;rw[JT]at h3;refine⟨by simpa[gH]using h1,?_,h3.2.1,h4,?_,?_⟩
 ·rw[JT];exact⟨h2,h3.1,λu hu v hv=>h5 u hu v (ze _ hv)⟩
 ·intro u hu v hv;rcases eM.mp hu with hu | hu
  ·exact h5 u hu v (jT _ hv)
  ·exact h3.2.2 u hu v hv
 ·intro u hu v hv;rcases eM.mp hu with hu | hu
  ·exact h6 u hu v hv
  ·exact hx u hu v hv
theorem MS.swap{T o ra rb:List Keyed}(h:MS κ T o ra rb):MS κ T o rb ra :=⟨(JM _ List.perm_append_comm).trans h.perm,h.so,h.sb,h.sa,h.ob,h.oa⟩
theorem MS.stepB{T o x ra rb:List Keyed}(h:MS κ T o ra (x++rb))(hx:∀ u∈x,∀ v∈ra,bT κ u v):MS κ T (o++x) ra rb :=(h.swap.stepA hx).swap
def gU(κ:KeyKind)(T:List Keyed)(r:Array Keyed):Prop:=r.toList.Perm T/\r.toList.Pairwise (bT κ)
theorem MS.endA{T o ra:List Keyed}{r:Array Keyed}(h:MS κ T o ra [])(e:r.toList=o++ra):gU κ T r:=by obtain⟨h1,h2,h3,h4,h5,h6⟩:=h;refine⟨by rw[e]; simpa using h1,?_⟩;rw[e,JT]; exact⟨h2,h3,h5⟩
theorem MS.last{T o ra rb:List Keyed}{r:Array Keyed}(h:MS κ T o ra rb)(hx:∀ u∈rb,∀ v∈ra,bT κ u v)(e:r.toList=o++(rb++ra)):gU κ T r:=by
 have h':MS κ T o ra (rb++[]):=by simpa using h
 exact(h'.stepB hx).endA (by rw[e]; simp)
theorem lw(a:Array Keyed)(i j:Nat):(a.extract i j).toList=(a.toList.drop i).take (j-i):=by simp[JU,List.extract_eq_take_drop]
theorem se(a:Array Keyed)(i:Nat):(a.extract i a.size).toList=a.toList.drop i:=by rw[lw,km]; simp
theorem Gu{a:Array Keyed}{i:Nat}(h:i<a.size):a.toList.drop i=a[i]::a.toList.drop (i+1):=by rw[zC (by simpa using h)]; simp
theorem I_(a:Array Keyed)(i k:Nat):a.toList.drop i=(a.extract i (i+k)).toList++a.toList.drop (i+k):=by rw[lw,show i+k-i=k by lia,← List.drop_drop,mK]
theorem q0{a:Array Keyed}{i:Nat}{x:Keyed}(h:x∈a.toList.drop i):∃ j,∃ hj:j<a.size,i<=j/\a[j]=x:=by
 obtain⟨k,hk,e⟩:=zE h;rw[JV]at e;have wD:i+k<a.size:=by simp at hk; lia
 exact⟨i+k,wD,∅,by simpa using e⟩
theorem Go{a:Array Keyed}{i k:Nat}{x:Keyed}(h:x∈(a.extract i (i+k)).toList):∃ j,∃ hj:j<a.size,i<=j/\j<i+k/\a[j]=x:=by
 rw[lw]at h;obtain⟨m,hm,e⟩:=zE h;rw[JW,JV]at e;refine⟨i+m,?_,∅,?_,by simpa using e⟩
 all_goals simp at hm; lia
def uO(κ:KeyKind)(a:Array Keyed):Prop:=∀ i j (hj:j<a.size) (bZ:i<=j),bT κ (a[i]'∅) a[j]
theorem uO.pw{a:Array Keyed}(h:uO κ a):a.toList.Pairwise (bT κ):=by rw[List.pairwise_iff_getElem];intro i j hi hj bZ;have:=h i j (by simpa using hj) ∅;simpa using this
structure ga(κ:KeyKind)(a b out:Array Keyed)(ia ib:Nat):Prop where
 ms:MS κ (a.toList++b.toList) out.toList (a.toList.drop ia) (b.toList.drop ib)
 la:ia<=a.size
 lb:ib<=b.size
variable{a b out:Array Keyed}{ia ib:Nat}
theorem ga.pushA(h:ga κ a b out ia ib)(hi:ia<a.size)(hx:∀ j (hj:j<b.size),ib<=j->bT κ a[ia] b[j]):ga κ a b (out.push a[ia]) (ia+1) ib:=by refine⟨?_,hi,h.lb⟩;rw[vN];refine MS.stepA (by rw[C6,← Gu hi]; exact h.ms) λu hu v hv=>?_;obtain⟨j,hj,f8,rfl⟩:=q0 hv;rw[gZ.mp hu]; exact hx j hj f8
theorem ga.pushB(h:ga κ a b out ia ib)(hi:ib<b.size)(hx:∀ j (hj:j<a.size),ia<=j->bT κ b[ib] a[j]):ga κ a b (out.push b[ib]) ia (ib+1):=by refine⟨?_,h.la,hi⟩;rw[vN];refine MS.stepB (by rw[C6,← Gu hi]; exact h.ms) λu hu v hv=>?_;obtain⟨j,hj,f8,rfl⟩:=q0 hv;rw[gZ.mp hu]; exact hx j hj f8
theorem ga.extA{k:Nat}(h:ga κ a b out ia ib)(hk:ia+k<=a.size)(hx:∀ i (hi:i<a.size),ia<=i->i<ia+k->∀ j (hj:j<b.size),ib<=j->bT κ a[i] b[j]):ga κ a b (out++a.extract ia (ia+k)) (ia+k) ib:=by refine⟨?_,hk,h.lb⟩;rw[ix];refine MS.stepA (by rw[← I_]; exact h.ms) λu hu v hv=>?_;obtain⟨j,hj,f8,rfl⟩:=q0 hv;obtain⟨i,hi,h1,h2,rfl⟩:=Go hu;exact hx i hi h1 h2 j hj f8
theorem ga.extB{k:Nat}(h:ga κ a b out ia ib)(hk:ib+k<=b.size)(hx:∀ i (hi:i<b.size),ib<=i->i<ib+k->∀ j (hj:j<a.size),ia<=j->bT κ b[i] a[j]):ga κ a b (out++b.extract ib (ib+k)) ia (ib+k):=by refine⟨?_,h.la,hk⟩;rw[ix];refine MS.stepB (by rw[← I_]; exact h.ms) λu hu v hv=>?_;obtain⟨j,hj,f8,rfl⟩:=q0 hv;obtain⟨i,hi,h1,h2,rfl⟩:=Go hu;exact hx i hi h1 h2 j hj f8
theorem ga.doneA(h:ga κ a b out ia ib)(e:ib=b.size):gU κ (a.toList++b.toList) (out++a.extract ia a.size++b.extract ib b.size):=by have:=h.ms;rw[show b.toList.drop ib=[] by rw[C7]; simp[e]]at this;refine this.endA ?_;rw[ix,ix,se,se,show b.toList.drop ib=[] by rw[C7]; simp[e],ja]
theorem ga.doneB(h:ga κ a b out ia ib)(e:ia=a.size):gU κ (a.toList++b.toList) (out++a.extract ia a.size++b.extract ib b.size):=by have:=h.ms;rw[show a.toList.drop ia=[] by rw[C7]; simp[e]]at this;refine this.swap.endA ?_;rw[ix,ix,se,se,show a.toList.drop ia=[] by rw[C7]; simp[e],ja]
theorem ga.last(h:ga κ a b out ia ib)(e:ia+1=a.size)(hl:∀ j (hj:j<b.size),bT κ b[j] (a[ia]'∅)):gU κ (a.toList++b.toList) (out++b.extract ib b.size++a.extract ia a.size):=by
 refine h.ms.last (λu hu v hv=>?_) (by rw[ix,ix,se,se,gH]);obtain⟨j,hj,h1,rfl⟩:=q0 hu;obtain⟨i,hi,h2,rfl⟩:=q0 hv;have:i=ia:=∅
 subst this; exact hl j hj
end
section
variable{prog:aX}{w:aN}{A:be}{E:ak->aq->Prop}{s:aq}{κ:KeyKind}
theorem BC(hO:κ.OneLt){st:bU}(hk:SB st){key:Keyed}{arr:Array Keyed}{base n hint:Nat}{Q:Option Nat->bU->Prop}(jc:ic κ key)(hn:base+n<=arr.size)(hA:∀ i (hi:i<arr.size),ic κ arr[i]) (hs:∀ i j (bZ:i<=j) (hj:j<base+n),base<=i->bT κ (arr[i]'∅) (arr[j]'∅)) (hh:hint<n)(h:∀ r,r<=n->(∀ i (hi:i<arr.size),base<=i->i<base+r->bT κ arr[i] key)->(∀ i (hi:i<arr.size),base+r<=i->i<base+n->κ.klt (kO κ key) (kO κ arr[i]))->Q (aa r) st) : wpS (ay prog w) A E s (ye ao key arr base n hint) Q st:=by
 refine HF hO hk jc hn hA (λi=>if hi:i<n then me κ ao key (arr[base+i]'∅)else ao) (λi hi=>by rw[dif_pos hi]) ?_ hh ?_
 ·intro i j bZ hj e;rw[dif_pos hj]at e; rw[dif_pos ∅];simp only[me,pe,if_false,JS]at e ⊢;exact vV (hs (base+i) (base+j) ∅ ∅ ∅) e
 ·intro r hr h1 h2;refine h r hr (λi hi hb br=>?_) (λi hi hb br=>?_)
  ·have:=h1 (i-base) ∅;rw[dif_pos ∅]at this;simp only[me,pe,if_false,JS,show base+(i-base)=i by lia]at this;exact this
  ·have:=h2 (i-base) ∅ ∅;rw[dif_pos ∅]at this;simp only[me,pe,if_false,Bool.not_eq_false',show base+(i-base)=i by lia]at this;exact this
theorem A7(hO:κ.OneLt){st:bU}(hk:SB st){key:Keyed}{arr:Array Keyed}{base n hint:Nat}{Q:Option Nat->bU->Prop}(jc:ic κ key)(hn:base+n<=arr.size)(hA:∀ i (hi:i<arr.size),ic κ arr[i]) (hs:∀ i j (bZ:i<=j) (hj:j<base+n),base<=i->bT κ (arr[i]'∅) (arr[j]'∅)) (hh:hint<n)(h:∀ r,r<=n->(∀ i (hi:i<arr.size),base<=i->i<base+r->κ.klt (kO κ arr[i]) (kO κ key))->(∀ i (hi:i<arr.size),base+r<=i->i<base+n->bT κ key arr[i])->Q (aa r) st) : wpS (ay prog w) A E s (ye ai key arr base n hint) Q st:=by
 refine HF hO hk jc hn hA (λi=>if hi:i<n then me κ ai key (arr[base+i]'∅)else ao) (λi hi=>by rw[dif_pos hi]) ?_ hh ?_
 ·intro i j bZ hj e;rw[dif_pos hj]at e; rw[dif_pos ∅];simp only[me,if_true]at e ⊢;exact KeyOrd.klt_of_kle_of_klt (hs (base+i) (base+j) ∅ ∅ ∅) e
 ·intro r hr h1 h2;refine h r hr (λi hi hb br=>?_) (λi hi hb br=>?_)
  ·have:=h1 (i-base) ∅;rw[dif_pos ∅]at this;simp only[me,if_true,show base+(i-base)=i by lia]at this;exact this
  ·have:=h2 (i-base) ∅ ∅;rw[dif_pos ∅]at this;simp only[me,if_true,show base+(i-base)=i by lia]at this;exact this
end
structure gT(st aA:bU):Prop where
 kind:kindOf aA=kindOf st
 arr:arrOf aA=arrOf st
 pend:bD aA=bD st
 failed:failedOf aA=failedOf st
theorem gT.rfl{st:bU}:gT st st:=⟨_root_.rfl,_root_.rfl,_root_.rfl,_root_.rfl⟩
theorem gT.sb{st aA:bU}(h:gT st aA)(k:SB st):SB aA:=⟨h.kind.trans k.kind,h.failed.trans k.failed⟩
section
variable{prog:aX}{w:aN}{A:be}{E:ak->aq->Prop}{s:aq}{κ:KeyKind}
theorem cZ{σ α:Type}{M:Model}{c:Prop}[Decidable c]{t e:StateT σ Sem α}{Q:α->σ->Prop}{st:σ}(h1:c->wpS M A E s t Q st)(h2:¬ c->wpS M A E s e Q st):wpS M A E s (if c then t else e) Q st:=by
 split
 ·exact h1 ‹_›
 ·exact h2 ‹_›
def Pr:Nat->StateT bU Sem Unit:=sortPriv% PySem.Builtin.setMinGallop
theorem gT.trans{a b c:bU}(h1:gT a b)(h2:gT b c):gT a c:=⟨h2.kind.trans h1.kind,h2.arr.trans h1.arr,h2.pend.trans h1.pend,h2.failed.trans h1.failed⟩
theorem AH{st j2:bU}{g:Nat}{Q:Unit->bU->Prop}(hS:gT j2 st)(h:∀ aA,gT j2 aA->Q () aA):wpS (ay prog w) A E s (Pr g) Q st :=n4 (h _ (hS.trans ⟨rfl,rfl,rfl,rfl⟩))
theorem QT(hO:κ.OneLt){st:bU}(hk:SB st){a b:Array Keyed}{Q:Array Keyed->bU->Prop}(ha:0<a.size)(hb:0<b.size)(hA:∀ i (hi:i<a.size),ic κ a[i]) (hB:∀ i (hi:i<b.size),ic κ b[i]) (sa:uO κ a) (sb:uO κ b)(h0:bT κ b[0] a[0]) (hl:∀ j (hj:j<b.size),bT κ b[j] a[a.size-1])(h:∀ r aA,gT st aA->gU κ (a.toList++b.toList) r->Q r aA) : wpS (ay prog w) A E s (Hu a b) Q st:=by
 have kA:∀ {i:Nat} (hi:i<a.size),i+1=a.size->∀ j (hj:j<b.size),bT κ b[j] a[i]:=λ{i} hi e j hj=>by
  have:i=a.size-1:=∅
  subst this; exact hl j hj
 have I0:ga κ a b #[b[0]] 0 1:=by
  have h1:ga κ a b #[] 0 0:=⟨⟨by simp,by simp,by simpa using sa.pw,by simpa using sb.pw,by simp,by simp⟩,∅,∅⟩
  exact h1.pushB hb λj hj _=>h0.trans (sa 0 j hj ∅)
 unfold Hu;refine aK (tK (k6 ⟨rfl,?_⟩));refine aK (fM hb ?_);by_cases e1:1=b.size
 ·rw[if_pos (by simp[← e1])];exact aT (h _ _ .rfl (I0.doneA e1))
 rw[if_neg (by simpa using e1)];by_cases e2:0+1=a.size
 ·rw[if_pos (by simp[← e2])];exact aT (h _ _ .rfl (I0.last e2 (kA ∅ ∅)))
 rw[if_neg (by simpa using e2)];refine aK (lI ?_);refine aK (g7 (g8 (I:=λx c aA=>gT st aA/\∃ out ia ib mg,c=(ae,out,ia,ib,mg)/\ga κ a b out ia ib/\ia+1<a.size/\ib<b.size/\x+1<=ia+ib) (Q:=λc aA=>gT st aA/\∃ r,c.1=aa r/\gU κ (a.toList++b.toList) r) ?_ ?_ ?_) ?_);rotate_left
 ·rintro c aA ⟨_,out,ia,ib,mg,rfl,hI,h1,h2,h3⟩;lia
 ·exact⟨.rfl,_,0,1,_,rfl,I0,∅,∅,∅⟩
 ·rintro⟨c1,c⟩ aA ⟨hS,r,rfl,hD⟩;exact aT (h r aA hS hD)
 rintro x c aA _ hx ⟨hS,out,ia,ib,mg,rfl,hI,h1,h2,h3⟩;refine aK (g7 (g8 (I:=λy c cJ=>cJ=aA/\∃ out ia ib ac bc,c=(ae,out,ia,ib,ac,bc)/\ga κ a b out ia ib/\ia+1<a.size/\ib<b.size/\x+1+y<=ia+ib) (Q:=λc cJ=>cJ=aA/\((∃ r c',c=(aa r,c')/\gU κ (a.toList++b.toList) r)\/∃ out ia ib ac bc,c=(ae,out,ia,ib,ac,bc)/\ga κ a b out ia ib/\ia+1<a.size/\ib<b.size/\x+1+1<=ia+ib)) ?_ ?_ ?_) ?_)
 ·rintro y c cJ _ hy ⟨rfl,out,ia,ib,ac,bc,rfl,hI,h1,h2,h3⟩;dsimp only;refine aK (fM h2 (aK (fM ∅ (aK (vt hO (hS.sb hk) (hB ib h2) (hA ia ∅) ?_)))));cases e:κ.blt (kO κ b[ib]) (kO κ (a[ia]'∅))with
  | true=>
   dsimp only;rw[if_pos rfl];refine aK (fM h2 ?_);have lU:=hI.pushB h2 λj hj f8=>bT.trans (lJ e) (sa ia j hj f8);by_cases e3:ib+1=b.size
   ·rw[if_pos (by simp[e3])];exact aT ⟨rfl,.inl ⟨_,_,rfl,lU.doneA e3⟩⟩
   rw[if_neg (by simpa using e3)];split
   ·exact aT ⟨rfl,.inr ⟨_,_,_,_,_,rfl,lU,∅,∅,∅⟩⟩
   ·exact aT ⟨rfl,_,_,_,_,_,rfl,lU,∅,∅,∅⟩
  | false=>
   dsimp only;rw[if_neg (by simp)];refine aK (fM ∅ ?_);have lU:=hI.pushA ∅ λj hj f8=>bT.trans (show bT κ (a[ia]'∅) b[ib] from e) (sb ib j hj f8);by_cases e3:ia+1+1=a.size
   ·rw[if_pos (by simp[e3])];exact aT ⟨rfl,.inl ⟨_,_,rfl,lU.last e3 (kA ∅ ∅)⟩⟩
   rw[if_neg (by simpa using e3)];split
   ·exact aT ⟨rfl,.inr ⟨_,_,_,_,_,rfl,lU,∅,∅,∅⟩⟩
   ·exact aT ⟨rfl,_,_,_,_,_,rfl,lU,∅,∅,∅⟩
 ·rintro c cJ ⟨rfl,out,ia,ib,ac,bc,rfl,hI,h1,h2,h3⟩;lia
 ·exact⟨rfl,_,_,_,_,_,rfl,hI,h1,h2,∅⟩
 rintro c cJ ⟨rfl,⟨r,c',rfl,hD⟩ | ⟨out,ia,ib,ac,bc,rfl,hI,h1,h2,h3⟩⟩
 ·exact aT ⟨hS,r,rfl,hD⟩
 refine aK (tK (k6 ⟨rfl,?_⟩));refine aK (g7 (g8 (I:=λy c cJ=>gT st cJ/\∃ out ia ib mg ac bc,c=(ae,out,ia,ib,mg,ac,bc)/\ga κ a b out ia ib/\ia+1<a.size/\ib<b.size/\x+2+y<=ia+ib) (Q:=λc cJ=>gT st cJ/\((∃ r c',c=(aa r,c')/\gU κ (a.toList++b.toList) r)\/∃ out ia ib mg ac bc,c=(ae,out,ia,ib,mg,ac,bc)/\ga κ a b out ia ib/\ia+1<a.size/\ib<b.size/\x+1+1<=ia+ib)) ?_ ?_ ?_) ?_);rotate_left
 ·rintro c cJ ⟨_,out,ia,ib,mg,ac,bc,rfl,hI,h1,h2,h3⟩;lia
 ·exact⟨hS,_,_,_,_,_,_,rfl,hI,h1,h2,∅⟩
 ·rintro c cJ ⟨hS,⟨r,c',rfl,hD⟩ | ⟨out,ia,ib,mg,ac,bc,rfl,hI,h1,h2,h3⟩⟩
  ·exact aT ⟨hS,r,rfl,hD⟩
  ·dsimp only;refine aK (n4 (aT ⟨⟨hS.kind,hS.arr,hS.pend,hS.failed⟩,_,_,_,_,rfl,hI,h1,h2,∅⟩))
 clear h1 h2 h3 hI hS I0 e1 e2;rintro y c cJ _ hy ⟨hS,out,ia,ib,mg,ac,bc,rfl,hI,h1,h2,h3⟩;clear hx hy;have je:∀ {i j:Nat} (bZ:i<=j) (hj:j<b.size),bT κ (b[i]'∅) b[j]:=λ{i j} bZ hj=>sb i j hj bZ;have qN:∀ {i j:Nat} (bZ:i<=j) (hj:j<a.size),bT κ (a[i]'∅) a[j]:=λ{i j} bZ hj=>sa i j hj bZ;refine(?_:wpS (ay prog w) A E s _ ?Q _);extract_lets -merge x1 x2 x3 x4 x5 x6 x7 x8 x9 xa xb xc jp;have hj:∀ g bL,gT st bL->wpS (ay prog w) A E s (jp () g) ?Q bL:=by
  intro g bL gv;dsimp -zeta only[jp,x1,x2,x3,x4,x5,x6,x7,x8,x9,xa,xb,xc];refine aK (AH gv λbL gv=>?_);refine aK (fM h2 ?_);refine aK (BC hO (gv.sb hk) (base:=ia) (n:=a.size-ia) (hint:=0) (hB ib h2) ∅ hA (λi j bZ hj _=>qN bZ ∅) ∅ λk oh ez gw=>?_);dsimp -zeta only;extract_lets -merge y1 jp2;have wH:∀ o n,ga κ a b o n ib->ia+k<=n->n+1<a.size->wpS (ay prog w) A E s (jp2 () o n) ?Q bL:=by
   intro o n wI pA e4;dsimp -zeta only[jp2,y1];refine aK (fM h2 ?_);have hI3:=wI.pushB h2 λj hj g=>lJ (gw j hj ∅ ∅);refine cZ (λe5=>?_) λe5=>?_
   ·exact aT ⟨gv,.inl ⟨_,_,rfl,hI3.doneA (by simpa using e5)⟩⟩
   have e5':ib+1≠b.size:=by simpa using e5
   refine aK (fM ∅ ?_);refine aK (A7 hO (gv.sb hk) (base:=ib+1) (n:=b.size-(ib+1)) (hint:=0) (hA _ _) ∅ hB (λi j bZ hj _=>je bZ ∅) ∅ λk' m1 m2 m3=>?_);dsimp -zeta only;extract_lets -merge z1 z2 jp3;have wJ:∀ o m,ga κ a b o n m->ib+1+k'<=m->m<b.size->wpS (ay prog w) A E s (jp3 () o m) ?Q bL:=by
    intro o m wK e6 e7;dsimp -zeta only[jp3,z1,z2];refine aK (fM ∅ ?_);have wL:=wK.pushA ∅ (λj hj g=>m3 j hj ∅ ∅);refine cZ (λe7=>?_) λe7=>?_
    ·have e7':n+1+1=a.size:=by simpa using e7
     exact aT ⟨gv,.inl ⟨_,_,rfl,wL.last e7' (kA ∅ e7')⟩⟩
    have e7':n+1+1≠a.size:=by simpa using e7
    refine cZ (λe8=>?_) λe8=>?_
    ·exact aT ⟨gv,.inr ⟨_,_,_,_,_,_,rfl,wL,∅,∅,∅⟩⟩
    ·exact aT ⟨gv,_,_,_,_,_,_,rfl,wL,∅,∅,∅⟩
   clear_value jp3;refine cZ (λDH=>?_) (λDH=>?_)
   ·have wK:=hI3.extB (k:=k') ∅ (λi hi g1 g2 j hj g3=>bT.trans (lJ (m2 i hi g1 g2)) (qN g3 hj));refine cZ (λe6=>?_) λe6=>?_
    ·exact aT ⟨gv,.inl ⟨_,_,rfl,wK.doneA (by simpa using e6)⟩⟩
    have e6':ib+1+k'≠b.size:=by simpa using e6
    exact wJ _ _ wK ∅ ∅
   ·exact wJ _ _ hI3 ∅ ∅
  clear_value jp2;refine cZ (λhk0=>?_) (λhk0=>?_)
  ·have wI:ga κ a b (out++a.extract ia (ia+k)) (ia+k) ib:=hI.extA ∅ λi hi g1 g2 j hj g3=>(ez i hi g1 g2).trans (je g3 hj);refine cZ (λe3=>?_) λe3=>?_
   ·have pA:ia+k+1=a.size:=by simpa using e3
    exact aT ⟨gv,.inl ⟨_,_,rfl,wI.last pA (kA ∅ pA)⟩⟩
   have pA:ia+k+1≠a.size:=by simpa using e3
   refine cZ (λe4=>?_) λe4=>?_
   ·exact aT ⟨gv,.inl ⟨_,_,rfl,wI.doneB (by simpa using e4)⟩⟩
   have e4':ia+k≠a.size:=by simpa using e4
   exact wH _ _ wI ∅ ∅
  ·exact wH _ _ hI ∅ ∅
 exact cZ (λ_=>hj _ _ hS) λ_=>hj _ _ hS
end
def By(κ:KeyKind):KeyKind where
 α:=κ.α
 blt:=λa b=>κ.blt b a
 irrefl:=κ.irrefl
 trans:=λa b c h1 h2=>κ.trans c b a h2 h1
 negTrans:=λa b c h=>(κ.negTrans c b a h).symm
 total:=λa b h1 h2=>κ.total a b h2 h1
 keyOf:=κ.keyOf
 dflt:=κ.dflt
section
variable{κ:KeyKind}
theorem uh{x y:Keyed}(h:bT κ y x):bT (By κ) x y:=h
theorem Eb{a:Array Keyed}{n:Nat}(h:0<n)(hn:n<=a.size):(a.toList.take n).reverse=(a[n-1]'∅)::(a.toList.take (n-1)).reverse:=by
 obtain⟨m,rfl⟩:∃ m,n=m+1:=⟨n-1,∅⟩
 rw[List.take_succ_eq_append_getElem (by simp; lia),JX];simp
theorem H_(a:Array Keyed)(p n:Nat)(hp:p<=n):a.toList.take n=a.toList.take p++(a.extract p n).toList:=by
 rw[lw]
 conv=>lhs; rw[show n=p+(n-p) by lia]
 rw[List.take_add]
theorem rL{a:Array Keyed}{n:Nat}(hn:n<=a.size){x:Keyed}(h:x∈a.toList.take n):∃ j,∃ hj:j<a.size,j<n/\a[j]=x:=by
 obtain⟨m,hm,e⟩:=zE h;rw[JW]at e;have h1:m<n:=by simp at hm; lia
 exact⟨m,∅,h1,by simpa using e⟩
theorem A_{a:Array Keyed}{p n:Nat}(hn:n<=a.size){x:Keyed}(h:x∈(a.extract p n).toList):∃ j,∃ hj:j<a.size,p<=j/\j<n/\a[j]=x:=by
 rw[lw]at h;obtain⟨m,hm,e⟩:=zE h;rw[JW,JV]at e;have h1:p+m<n:=by simp at hm; lia
 exact⟨p+m,∅,∅,h1,by simpa using e⟩
theorem pU(a:Array Keyed)(n:Nat):(a.extract 0 n).toList=a.toList.take n:=by rw[lw]; simp
structure gh(κ:KeyKind)(a b out:Array Keyed)(na nb:Nat):Prop where
 ms:MS (By κ) (a.toList++b.toList) out.toList (a.toList.take na).reverse (b.toList.take nb).reverse
 la:na<=a.size
 lb:nb<=b.size
variable{a b out:Array Keyed}{na nb:Nat}
theorem gh.pushA(h:gh κ a b out na nb)(hn:0<na)(hla:na-1<a.size)(hx:∀ j (hj:j<b.size),j<nb->bT κ b[j] a[na-1]):gh κ a b (out.push a[na-1]) (na-1) nb:=by refine⟨?_,∅,h.lb⟩;rw[vN];refine MS.stepA (by rw[C6,← Eb hn h.la]; exact h.ms) λu hu v hv=>?_;obtain⟨j,hj,f8,rfl⟩:=rL h.lb (qF.mp hv);rw[gZ.mp hu]; exact uh (hx j hj f8)
theorem gh.pushB(h:gh κ a b out na nb)(hn:0<nb)(hlb:nb-1<b.size)(hx:∀ j (hj:j<a.size),j<na->bT κ a[j] b[nb-1]):gh κ a b (out.push b[nb-1]) na (nb-1):=by refine⟨?_,h.la,∅⟩;rw[vN];refine MS.stepB (by rw[C6,← Eb hn h.lb]; exact h.ms) λu hu v hv=>?_;obtain⟨j,hj,f8,rfl⟩:=rL h.la (qF.mp hv);rw[gZ.mp hu]; exact uh (hx j hj f8)
theorem gh.extA{p:Nat}(h:gh κ a b out na nb)(hp:p<=na)(hx:∀ i (hi:i<a.size),p<=i->i<na->∀ j (hj:j<b.size),j<nb->bT κ b[j] a[i]):gh κ a b (out++(a.extract p na).reverse) p nb:=by refine⟨?_,cI hp h.la,h.lb⟩;rw[ix,Array.toList_reverse];refine MS.stepA (by rw[← JX,← H_ _ _ _ hp]; exact h.ms) λu hu v hv=>?_;obtain⟨j,hj,f8,rfl⟩:=rL h.lb (qF.mp hv);obtain⟨i,hi,h1,h2,rfl⟩:=A_ h.la (qF.mp hu);exact uh (hx i hi h1 h2 j hj f8)
theorem gh.extB{p:Nat}(h:gh κ a b out na nb)(hp:p<=nb)(hx:∀ i (hi:i<b.size),p<=i->i<nb->∀ j (hj:j<a.size),j<na->bT κ a[j] b[i]):gh κ a b (out++(b.extract p nb).reverse) na p:=by refine⟨?_,h.la,cI hp h.lb⟩;rw[ix,Array.toList_reverse];refine MS.stepB (by rw[← JX,← H_ _ _ _ hp]; exact h.ms) λu hu v hv=>?_;obtain⟨j,hj,f8,rfl⟩:=rL h.la (qF.mp hv);obtain⟨i,hi,h1,h2,rfl⟩:=A_ h.lb (qF.mp hu);exact uh (hx i hi h1 h2 j hj f8)
theorem z9{T:List Keyed}{r q:Array Keyed}(h:gU (By κ) T q)(e:r.toList=q.toList.reverse):gU κ T r:=by refine⟨by rw[e]; exact(JY _).trans h.1,?_⟩;rw[e,JZ];exact h.2
theorem gh.doneA(h:gh κ a b out na nb)(e:na=0):gU κ (a.toList++b.toList) (a.extract 0 na++b.extract 0 nb++out.reverse):=by have:=h.ms;rw[e,C1,List.reverse_nil]at this;refine z9 (q:=(out.toList++(b.toList.take nb).reverse).toArray) (this.swap.endA (by simp)) ?_;rw[ix,ix,pU,pU,e]; simp
theorem gh.doneB(h:gh κ a b out na nb)(e:nb=0):gU κ (a.toList++b.toList) (a.extract 0 na++b.extract 0 nb++out.reverse):=by have:=h.ms;rw[e,C1,List.reverse_nil]at this;refine z9 (q:=(out.toList++(a.toList.take na).reverse).toArray) (this.endA (by simp)) ?_;rw[ix,ix,pU,pU,e]; simp
theorem gh.first(h:gh κ a b out na nb)(e:nb=1)(hf:∀ j (hj:j<a.size),bT κ (b[0]'(by have:=h.lb; lia)) a[j]):gU κ (a.toList++b.toList) (b.extract 0 nb++a.extract 0 na++out.reverse):=by
 refine z9 (q:=(out.toList++((a.toList.take na).reverse++(b.toList.take nb).reverse)).toArray) (h.ms.swap.last (λu hu v hv=>?_) (by simp)) ?_
 ·obtain⟨i,hi,h1,rfl⟩:=rL h.la (qF.mp hu);obtain⟨j,hj,h2,rfl⟩:=rL h.lb (qF.mp hv);have:j=0:=∅
  subst this; exact uh (hf i hi)
 ·rw[ix,ix,pU,pU]; simp
end
section
variable{prog:aX}{w:aN}{A:be}{E:ak->aq->Prop}{s:aq}{κ:KeyKind}
theorem Np(hO:κ.OneLt){st:bU}(hk:SB st){a b:Array Keyed}{Q:Array Keyed->bU->Prop}(ha:0<a.size)(hb:0<b.size)(hA:∀ i (hi:i<a.size),ic κ a[i]) (hB:∀ i (hi:i<b.size),ic κ b[i]) (sa:uO κ a) (sb:uO κ b)(h0:bT κ b[0] a[0]) (hl:∀ j (hj:j<b.size),bT κ b[j] a[a.size-1])(h:∀ r aA,gT st aA->gU κ (a.toList++b.toList) r->Q r aA) : wpS (ay prog w) A E s (Hw a b) Q st:=by
 have je:∀ {i j:Nat} (bZ:i<=j) (hj:j<b.size),bT κ (b[i]'∅) b[j]:=λ{i j} bZ hj=>sb i j hj bZ;have qN:∀ {i j:Nat} (bZ:i<=j) (hj:j<a.size),bT κ (a[i]'∅) a[j]:=λ{i j} bZ hj=>sa i j hj bZ;have hf:∀ j (hj:j<a.size),bT κ b[0] a[j]:=λj hj=>h0.trans (qN ∅ hj);have I0:gh κ a b #[a[a.size-1]] (a.size-1) b.size:=by
  have h1:gh κ a b #[] a.size b.size:=by
   refine⟨⟨?_,by simp,?_,?_,by simp,by simp⟩,∅,∅⟩
   ·simp only[← gX,C8,ft];exact List.Perm.append (JY _) (JY _)
   ·simp only[← gX,C8,JZ];exact sa.pw
   ·simp only[← gX,C8,JZ];exact sb.pw
  exact h1.pushA ha ∅ λj hj _=>hl j hj
 unfold Hw;refine aK (tK (k6 ⟨rfl,?_⟩));refine aK (fM ∅ ?_);refine cZ (λe1=>aT (h _ _ .rfl (I0.doneA (by simpa using e1)))) λe1=>?_;have f9:a.size-1≠0:=by simpa using e1
 refine cZ (λe2=>?_) λe2=>?_
 ·have lR:b.size=1:=by simpa using e2
  exact aT (h _ _ .rfl (I0.first lR hf))
 have lR:b.size≠1:=by simpa using e2
 refine aK (lI ?_);refine aK (g7 (g8 (I:=λx c aA=>gT st aA/\∃ out na nb mg,c=(ae,na,nb,out,mg)/\gh κ a b out na nb/\0<na/\na<=a.size/\1<nb/\nb<=b.size/\x+1+na+nb<=a.size+b.size) (Q:=λc aA=>gT st aA/\∃ r,c.1=aa r/\gU κ (a.toList++b.toList) r) ?_ ?_ ?_) ?_);rotate_left
 ·rintro c aA ⟨_,out,na,nb,mg,rfl,hI,h1,iQ,h2,iR,h3⟩;lia
 ·exact⟨.rfl,_,_,_,_,rfl,I0,∅,∅,∅,∅,∅⟩
 ·rintro⟨c1,c⟩ aA ⟨hS,r,rfl,hD⟩;exact aT (h r aA hS hD)
 rintro x c aA _ hx ⟨hS,out,na,nb,mg,rfl,hI,h1,iQ,h2,iR,h3⟩;refine aK (g7 (g8 (I:=λy c cJ=>cJ=aA/\∃ out na nb ac bc,c=(ae,na,nb,out,ac,bc)/\gh κ a b out na nb/\0<na/\na<=a.size/\1<nb/\nb<=b.size/\x+1+y+na+nb<=a.size+b.size) (Q:=λc cJ=>cJ=aA/\((∃ r c',c=(aa r,c')/\gU κ (a.toList++b.toList) r)\/∃ out na nb ac bc,c=(ae,na,nb,out,ac,bc)/\gh κ a b out na nb/\0<na/\na<=a.size/\1<nb/\nb<=b.size/\x+1+1+na+nb<=a.size+b.size)) ?_ ?_ ?_) ?_)
 ·rintro y c cJ _ hy ⟨rfl,out,na,nb,ac,bc,rfl,hI,h1,iQ,h2,iR,h3⟩;dsimp only;refine aK (fM ∅ (aK (fM ∅ (aK (vt hO (hS.sb hk) (hB (nb-1) ∅) (hA (na-1) ∅) ?_)))));cases e:κ.blt (kO κ (b[nb-1]'∅)) (kO κ (a[na-1]'∅))with
  | true=>
   dsimp only;rw[if_pos rfl];refine aK (fM ∅ ?_);have lU:=hI.pushA h1 ∅ λj hj f8=>bT.trans (je (show j<=nb-1 by lia) ∅) (lJ e);refine cZ (λe3=>?_) λe3=>?_
   ·exact aT ⟨rfl,.inl ⟨_,_,rfl,lU.doneA (by simpa using e3)⟩⟩
   have pA:na-1≠0:=by simpa using e3
   refine cZ (λe4=>?_) λe4=>?_
   ·exact aT ⟨rfl,.inr ⟨_,_,_,_,_,rfl,lU,∅,∅,∅,∅,∅⟩⟩
   ·exact aT ⟨rfl,_,_,_,_,_,rfl,lU,∅,∅,∅,∅,∅⟩
  | false=>
   dsimp only;rw[if_neg (by simp)];refine aK (fM ∅ ?_);have lU:=hI.pushB ∅ ∅ λj hj f8=>bT.trans (qN (show j<=na-1 by lia) ∅) (show bT κ (a[na-1]'∅) (b[nb-1]'∅)from e);refine cZ (λe3=>?_) λe3=>?_
   ·exact aT ⟨rfl,.inl ⟨_,_,rfl,lU.first (by simpa using e3) hf⟩⟩
   have pA:nb-1≠1:=by simpa using e3
   refine cZ (λe4=>?_) λe4=>?_
   ·exact aT ⟨rfl,.inr ⟨_,_,_,_,_,rfl,lU,∅,∅,∅,∅,∅⟩⟩
   ·exact aT ⟨rfl,_,_,_,_,_,rfl,lU,∅,∅,∅,∅,∅⟩
 ·rintro c cJ ⟨rfl,out,na,nb,ac,bc,rfl,hI,h1,iQ,h2,iR,h3⟩;lia
 ·exact⟨rfl,_,_,_,_,_,rfl,hI,h1,iQ,h2,iR,∅⟩
 rintro c cJ ⟨rfl,⟨r,c',rfl,hD⟩ | ⟨out,na,nb,ac,bc,rfl,hI,h1,iQ,h2,iR,h3⟩⟩
 ·exact aT ⟨hS,r,rfl,hD⟩
 refine aK (tK (k6 ⟨rfl,?_⟩));refine aK (g7 (g8 (I:=λy c cJ=>gT st cJ/\∃ out na nb mg ac bc,c=(ae,na,nb,out,mg,ac,bc)/\gh κ a b out na nb/\0<na/\na<=a.size/\1<nb/\nb<=b.size/\x+2+y+na+nb<=a.size+b.size) (Q:=λc cJ=>gT st cJ/\((∃ r c',c=(aa r,c')/\gU κ (a.toList++b.toList) r)\/∃ out na nb mg ac bc,c=(ae,na,nb,out,mg,ac,bc)/\gh κ a b out na nb/\0<na/\na<=a.size/\1<nb/\nb<=b.size/\x+1+1+na+nb<=a.size+b.size)) ?_ ?_ ?_) ?_);rotate_left
 ·rintro c cJ ⟨_,out,na,nb,mg,ac,bc,rfl,hI,h1,iQ,h2,iR,h3⟩;lia
 ·exact⟨hS,_,_,_,_,_,_,rfl,hI,h1,iQ,h2,iR,∅⟩
 ·rintro c cJ ⟨hS,⟨r,c',rfl,hD⟩ | ⟨out,na,nb,mg,ac,bc,rfl,hI,h1,iQ,h2,iR,h3⟩⟩
  ·exact aT ⟨hS,r,rfl,hD⟩
  ·dsimp only;exact aK (AH hS λbL gv=>aT ⟨gv,_,_,_,_,rfl,hI,h1,iQ,h2,iR,∅⟩)
 clear h1 iQ h2 iR h3 hI hS I0 e1 e2;rintro y c cJ _ hy ⟨hS,out,na,nb,mg,ac,bc,rfl,hI,h1,iQ,h2,iR,h3⟩;clear hx hy;refine(?_:wpS (ay prog w) A E s _ ?Q _);extract_lets -merge x1 x2 x3 x4 x5 x6 x7 x8 x9 xa xb xc jp;have hj:∀ g bL,gT st bL->wpS (ay prog w) A E s (jp () g) ?Q bL:=by
  intro g bL gv;dsimp -zeta only[jp,x1,x2,x3,x4,x5,x6,x7,x8,x9,xa,xb,xc];refine aK (AH gv λbL gv=>?_);refine aK (fM ∅ ?_);refine aK (BC hO (gv.sb hk) (base:=0) (n:=na) (hint:=na-1) (hB (nb-1) ∅) ∅ hA (λi j bZ hj _=>qN bZ ∅) ∅ λp oh ez gw=>?_);dsimp -zeta only;extract_lets -merge y1 y2 jp2;have wH:∀ n o,gh κ a b o n nb->0<n->n<=p->wpS (ay prog w) A E s (jp2 () n o) ?Q bL:=by
   intro n o wI pA e4;dsimp -zeta only[jp2,y1,y2];refine aK (fM ∅ ?_);have hI3:=wI.pushB ∅ ∅ λj hj g=>ez j hj ∅ ∅;refine cZ (λe5=>?_) λe5=>?_
   ·exact aT ⟨gv,.inl ⟨_,_,rfl,hI3.first (by simpa using e5) hf⟩⟩
   have e5':nb-1≠1:=by simpa using e5
   refine aK (fM ∅ ?_);refine aK (A7 hO (gv.sb hk) (base:=0) (n:=nb-1) (hint:=nb-1-1) (hA _ _) ∅ hB (λi j bZ hj _=>je bZ ∅) ∅ λp' m1 m2 m3=>?_);dsimp -zeta only;extract_lets -merge z1 z2 z3 jp3;have wJ:∀ m o,gh κ a b o n m->1<m->m<=p'->wpS (ay prog w) A E s (jp3 () m o) ?Q bL:=by
    intro m o wK e6 e7;dsimp -zeta only[jp3,z1,z2,z3];refine aK (fM ∅ ?_);have wL:=wK.pushA ∅ ∅ (λj hj g=>lJ (m2 j hj ∅ ∅));refine cZ (λe7=>?_) λe7=>?_
    ·exact aT ⟨gv,.inl ⟨_,_,rfl,wL.doneA (by simpa using e7)⟩⟩
    have e7':n-1≠0:=by simpa using e7
    refine cZ (λe8=>?_) λe8=>?_
    ·exact aT ⟨gv,.inr ⟨_,_,_,_,_,_,rfl,wL,∅,∅,∅,∅,∅⟩⟩
    ·exact aT ⟨gv,_,_,_,_,_,_,rfl,wL,∅,∅,∅,∅,∅⟩
   clear_value jp3;refine cZ (λDH=>?_) (λDH=>?_)
   ·have wK:=hI3.extB (p:=p') ∅ (λi hi g1 g2 j hj g3=>bT.trans (qN (show j<=n-1 by lia) ∅) (m3 i hi ∅ ∅));refine cZ (λe6=>?_) λe6=>?_
    ·exact aT ⟨gv,.inl ⟨_,_,rfl,wK.first (by simpa using e6) hf⟩⟩
    refine cZ (λe9=>?_) λe9=>?_
    ·exact aT ⟨gv,.inl ⟨_,_,rfl,wK.doneB (by simpa using e9)⟩⟩
    have e6':p'≠1:=by simpa using e6
    have e9':p'≠0:=by simpa using e9
    exact wJ _ _ wK ∅ ∅
   ·exact wJ _ _ hI3 ∅ ∅
  clear_value jp2;refine cZ (λhk0=>?_) (λhk0=>?_)
  ·have wI:gh κ a b (out++(a.extract p na).reverse) p nb:=hI.extA ∅ λi hi g1 g2 j hj g3=>bT.trans (je (show j<=nb-1 by lia) ∅) (lJ (gw i hi ∅ ∅));refine cZ (λe3=>?_) λe3=>?_
   ·exact aT ⟨gv,.inl ⟨_,_,rfl,wI.doneA (by simpa using e3)⟩⟩
   have pA:p≠0:=by simpa using e3
   exact wH _ _ wI ∅ ∅
  ·exact wH _ _ hI ∅ ∅
 exact cZ (λ_=>hj _ _ hS) λ_=>hj _ _ hS
end
def putL(a:Array Keyed)(lo:Nat)(l:List Keyed):Array Keyed:=l.zipIdx.foldl (λa (pj:Keyed×Nat)=>a.setIfInBounds (lo+pj.2) pj.1) a
theorem An:∀ (l:List Keyed) (n lo:Nat) (a:Array Keyed),lo+n+l.length<=a.size -> ((l.zipIdx n).foldl (λa (pj:Keyed×Nat)=>a.setIfInBounds (lo+pj.2) pj.1) a).size=a.size /\ ∀ k,((l.zipIdx n).foldl (λa (pj:Keyed×Nat)=>a.setIfInBounds (lo+pj.2) pj.1) a)[k]?=if lo+n<=k/\k<lo+n+l.length then l[k-(lo+n)]? else a[k]?
 | [],n,lo,a,_=>⟨rfl,λk=>by rw[if_neg (by simp)]; rfl⟩
 | x::l,n,lo,a,h=>by
  have h':lo+(n+1)+l.length<=(a.setIfInBounds (lo+n) x).size:=by simp at h ⊢; lia
  obtain⟨e1,e2⟩:=An l (n+1) lo (a.setIfInBounds (lo+n) x) h';rw[List.zipIdx_cons,jz];refine⟨by rw[e1]; simp,λk=>?_⟩;rw[e2];by_cases h1:lo+n=k
  ·subst h1;rw[if_neg ∅,if_pos (by simp)];rw[Array.getElem?_setIfInBounds_self_of_lt (by simp at h; lia)];simp
  ·by_cases h2:lo+(n+1)<=k/\k<lo+(n+1)+l.length
   ·rw[if_pos h2,if_pos (by simp; lia)];rw[show k-(lo+n)=k-(lo+(n+1))+1 by lia,List.getElem?_cons_succ]
   ·rw[if_neg h2,if_neg (by simp; lia),Array.getElem?_setIfInBounds_ne h1]
theorem Mn{a:Array Keyed}{lo:Nat}{l:List Keyed}(h:lo+l.length<=a.size):(putL a lo l).size=a.size:=(An l 0 lo a ∅).1
theorem Bg{a:Array Keyed}{lo:Nat}{l:List Keyed}(h:lo+l.length<=a.size)(k:Nat):(putL a lo l)[k]?=if lo<=k/\k<lo+l.length then l[k-lo]? else a[k]? :=(An l 0 lo a ∅).2 k
theorem QU{a:Array Keyed}{lo n:Nat}{l:List Keyed}(h:lo+n<=a.size)(hp:l.Perm ((a.toList.drop lo).take n)):(putL a lo l).toList.Perm a.toList:=by
 have hl:l.length=n:=by rw[hp.length_eq,jW,jX]; simp; lia
 have e:(putL a lo l).toList=a.toList.take lo++(l++a.toList.drop (lo+n)):=by
  apply ko;intro k;rw[zA,Bg ∅,List.getElem?_append,List.getElem?_append,jW,jb,kq,hl];simp only[gX,zA];rw[show min lo a.size=lo by lia];by_cases h1:k<lo
  ·rw[if_neg ∅,if_pos h1,if_pos h1]
  ·rw[if_neg h1];by_cases h2:k<lo+n
   ·rw[if_pos ∅,if_pos ∅]
   ·rw[if_neg ∅,if_neg ∅]; congr 1; lia
 rw[e];have e2:a.toList=a.toList.take lo++((a.toList.drop lo).take n++a.toList.drop (lo+n)):=by rw[← List.drop_drop,mK,mK]
 conv=>rhs; rw[e2]
 exact JM _ (List.Perm.append_right _ hp)
section
variable{κ:KeyKind}
def Run(κ:KeyKind)(a:Array Keyed)(lo n:Nat):Prop:=∀ i j x y,lo<=i->i<=j->j<lo+n->a[i]?=aa x->a[j]?=aa y->bT κ x y
theorem bT.refl(x:Keyed):bT κ x x:=n5 _
structure Wr(a a':Array Keyed)(lo n:Nat):Prop where
 perm:a'.toList.Perm a.toList
 size:a'.size=a.size
 out:∀ k,k<lo\/lo+n<=k->a'[k]?=a[k]?
theorem Run.keep{a a':Array Keyed}{lo n lo' n':Nat}(h:Run κ a lo n)(w:Wr a a' lo' n')(d:lo+n<=lo'\/lo'+n'<=lo):Run κ a' lo n:=by intro i j x y h1 h2 h3 hx hy;rw[w.out i ∅]at hx;rw[w.out j ∅]at hy;exact h i j x y h1 h2 h3 hx hy
end
section
variable{prog:aX}{w:aN}{A:be}{E:ak->aq->Prop}{s:aq}{κ:KeyKind}
theorem RP{σ:Type}{M:Model}{Q:PUnit->σ->Prop}{st aA:σ}(h:Q ⟨⟩ aA):wpS M A E s (set aA:StateT σ Sem PUnit) Q st:=by unfold wpS; rw[StateT.run_set]; exact aD ⟨rfl,h⟩
theorem Uj(a:Array Keyed){p q t:Nat}(h1:p<=q)(h2:q<=t):(a.extract p q).toList++(a.extract q t).toList=(a.extract p t).toList:=by rw[lw,lw,lw,show t-p=(q-p)+(t-q) by lia,List.take_add,List.drop_drop,show p+(q-p)=q by lia]
theorem S_{arr:Array Keyed}{sa na nb k nb':Nat}(hsz:sa+na+nb<=arr.size)(hk:k<na)(h0:0<nb')(hnb:nb'<=nb)(r1:Run κ arr sa na)(r2:Run κ arr (sa+na) nb)(a1:∀ i (hi:i<arr.size),sa<=i->i<sa+k->bT κ arr[i] (arr[sa+na]'∅)) (b2:∀ i (hi:i<arr.size),sa+na+nb'<=i->i<sa+na+nb->bT κ (arr[sa+na-1]'∅) arr[i]){r:Array Keyed} (hD:gU κ ((arr.extract (sa+k) (sa+na)).toList++(arr.extract (sa+na) (sa+na+nb')).toList) r) : Wr arr (putL arr (sa+k) r.toList) sa (na+nb)/\Run κ (putL arr (sa+k) r.toList) sa (na+nb):=by
 rw[Uj _ ∅ ∅]at hD;have bY:r.toList.length=na-k+nb':=by rw[hD.1.length_eq,lw,jW,jX,gX]; lia
 have hb:sa+k+r.toList.length<=arr.size:=∅
 have hm:∀ m∈r.toList,∃ t,∃ ht:t<arr.size,sa+k<=t/\t<sa+na+nb'/\arr[t]=m:=λm hm=>A_ ∅ (hD.1.mem_iff.mp hm);have g1:∀ {i j:Nat} (bZ:i<=j) (hj:j<sa+na),sa<=i->bT κ (arr[i]'∅) (arr[j]'∅):=λ{i j} bZ hj hi=>r1 i j _ _ hi bZ hj (getElem?_pos _ _ _) (getElem?_pos _ _ _);have g2:∀ {i j:Nat} (bZ:i<=j) (hj:j<sa+na+nb),sa+na<=i->bT κ (arr[i]'∅) (arr[j]'∅):=λ{i j} bZ hj hi=>r2 i j _ _ hi bZ hj (getElem?_pos _ _ _) (getElem?_pos _ _ _);have pS:∀ i (hi:i<arr.size) j (hj:j<arr.size),sa<=i->i<sa+k->sa+na<=j->j<sa+na+nb->bT κ arr[i] arr[j]:=λi hi j hj c1 c2 c3 c4=>(a1 i hi c1 c2).trans (g2 c3 c4 (bi _));refine⟨⟨?_,Mn hb,λq hq=>?_⟩,?_⟩
 ·refine QU (n:=na-k+nb') ∅ ?_;have:=hD.1;rwa[lw,show sa+na+nb'-(sa+k)=na-k+nb' by lia]at this
 ·rw[Bg hb,if_neg ∅]
 ·intro i j x y h1 h2 h3 hx hy;rw[Bg hb]at hx hy;by_cases ci:sa+k<=i/\i<sa+k+r.toList.length
  ·rw[if_pos ci]at hx;obtain⟨t,ht,t1,t2,rfl⟩:=hm x (vI hx);by_cases cj:sa+k<=j/\j<sa+k+r.toList.length
   ·rw[if_pos cj]at hy;by_cases eij:i=j
    ·subst eij; rw[hx]at hy; cases hy; exact bT.refl _
    ·obtain⟨u1,u2⟩:=eu.mp hx;obtain⟨v1,v2⟩:=eu.mp hy;have:=List.pairwise_iff_getElem.mp hD.2 (i-(sa+k)) (j-(sa+k)) u1 v1 ∅;rw[u2,v2]at this;exact this
   ·rw[if_neg cj]at hy;obtain⟨hj,rfl⟩:=tu.mp hy;by_cases ct:t<sa+na
    ·exact(g1 (show t<=sa+na-1 by lia) ∅ ∅).trans (b2 j hj ∅ ∅)
    ·exact g2 ∅ ∅ ∅
  ·rw[if_neg ci]at hx;obtain⟨hi,rfl⟩:=tu.mp hx;by_cases cj:sa+k<=j/\j<sa+k+r.toList.length
   ·rw[if_pos cj]at hy;obtain⟨t,ht,t1,t2,rfl⟩:=hm y (vI hy);by_cases ct:t<sa+na
    ·exact g1 ∅ ct ∅
    ·exact pS i hi t ht ∅ ∅ ∅ ∅
   ·rw[if_neg cj]at hy;obtain⟨hj,rfl⟩:=tu.mp hy;by_cases c2:i<sa+k
    ·by_cases c3:j<sa+k
     ·exact g1 h2 ∅ h1
     ·exact pS i hi j hj ∅ c2 ∅ ∅
    ·exact g2 h2 ∅ ∅
theorem Eo{arr:Array Keyed}{sa na nb:Nat}(hsz:sa+na+nb<=arr.size)(hna:0<na)(hnb:0<nb)(r1:Run κ arr sa na)(r2:Run κ arr (sa+na) nb)(hj:bT κ (arr[sa+na-1]'∅) (arr[sa+na]'∅)):Run κ arr sa (na+nb):=by
 intro i j x y h1 h2 h3 hx hy;by_cases c1:j<sa+na
 ·exact r1 i j x y h1 h2 c1 hx hy
 ·by_cases c2:i<sa+na
  ·exact((r1 i (sa+na-1) x _ h1 ∅ ∅ hx (getElem?_pos _ _ _)).trans hj).trans (r2 (sa+na) j _ y ∅ ∅ ∅ (getElem?_pos _ _ _) hy)
  ·exact r2 i j x y ∅ h2 ∅ hx hy
theorem Wr.same{a:Array Keyed}{lo n:Nat}:Wr a a lo n:=⟨mI _,rfl,λ_ _=>rfl⟩
theorem QO(hO:κ.OneLt){st:bU}(hk:SB st)(hA:∀ i (hi:i<(arrOf st).size),ic κ (arrOf st)[i]){i sa na pw nb pw':Nat}(p1:(bD st)[i]?=aa (sa,na,pw)) (p2:(bD st)[i+1]?=aa (sa+na,nb,pw')) (hna:0<na) (hnb:0<nb) (hsz:sa+na+nb<=(arrOf st).size)(r1:Run κ (arrOf st) sa na) (r2:Run κ (arrOf st) (sa+na) nb) {Q:Bool->bU->Prop}(h:∀ aA,SB aA->bD aA=((bD st).setIfInBounds i (sa,na+nb,pw)).eraseIdxIfInBounds (i+1)->Wr (arrOf st) (arrOf aA) sa (na+nb)->Run κ (arrOf aA) sa (na+nb)->Q ai aA) : wpS (ay prog w) A E s (mergeAt' i) Q st:=by
 obtain⟨kd,arr,pd,mg,fl⟩:=st;have hkd:kd=oneType':=hk.kind;have hfl:fl=ae:=hk.failed;subst hkd hfl;replace hA:∀ i (hi:i<arr.size),ic κ arr[i]:=hA;replace hsz:sa+na+nb<=arr.size:=hsz;replace r1:Run κ arr sa na:=r1;replace r2:Run κ arr (sa+na) nb:=r2;replace p1:pd[i]?=aa (sa,na,pw):=p1;replace p2:pd[i+1]?=aa (sa+na,nb,pw'):=p2;replace h:∀ aA,SB aA->bD aA=(pd.setIfInBounds i (sa,na+nb,pw)).eraseIdxIfInBounds (i+1)->Wr arr (arrOf aA) sa (na+nb)->Run κ (arrOf aA) sa (na+nb)->Q ai aA:=h;have g1:∀ {i j:Nat} (bZ:i<=j) (hj:j<sa+na),sa<=i->bT κ (arr[i]'∅) (arr[j]'∅):=λ{i j} bZ hj hi=>r1 i j _ _ hi bZ hj (getElem?_pos _ _ _) (getElem?_pos _ _ _);have g2:∀ {i j:Nat} (bZ:i<=j) (hj:j<sa+na+nb),sa+na<=i->bT κ (arr[i]'∅) (arr[j]'∅):=λ{i j} bZ hj hi=>r2 i j _ _ hi bZ hj (getElem?_pos _ _ _) (getElem?_pos _ _ _);unfold mergeAt';refine aK (lI ?_);dsimp only;rw[p1,p2];dsimp only;refine aK (RP ?_);generalize (pd.setIfInBounds i (sa,na+nb,pw)).eraseIdxIfInBounds (i+1)=pend at *;refine aK (fM ∅ ?_);refine aK (BC hO ⟨rfl,rfl⟩ (base:=sa) (n:=na) (hint:=0) (hA _ _) ∅ hA (λi j bZ hj hi=>g1 bZ hj hi) hna λk m1 m2 m3=>?_);dsimp only;refine cZ (λe1=>?_) λe1=>?_
 ·have f9:na<=k:=by have:na-k=0:=(by simpa using e1); lia
  refine aT (h _ ⟨rfl,rfl⟩ rfl Wr.same (Eo hsz hna hnb r1 r2 (m2 _ _ ∅ ∅)))
 have f9:k<na:=by have:na-k≠0:=(by simpa using e1); lia
 refine aK (fM ∅ ?_);refine aK (A7 hO ⟨rfl,rfl⟩ (base:=sa+na) (n:=nb) (hint:=nb-1) (hA _ _) ∅ hA (λi j bZ hj hi=>g2 bZ hj hi) ∅ λnb' n1 n2 n3=>?_);dsimp only;have hidx:sa+k+(na-k)-1=sa+na-1:=∅
 simp only[hidx]at n2 n3;refine cZ (λe2=>?_) λe2=>?_
 ·have lR:nb'=0:=by simpa using e2
  refine aT (h _ ⟨rfl,rfl⟩ rfl Wr.same (Eo hsz hna hnb r1 r2 (n3 _ _ ∅ ∅)))
 have lR:nb'≠0:=by simpa using e2
 have xs:(arr.extract (sa+k) (sa+na)).size=na-k:=by simp; lia
 have ys:(arr.extract (sa+na) (sa+na+nb')).size=nb':=by simp; lia
 refine cZ (λ_=>?_) λ_=>?_
 all_goals
  first
   | refine aK (QT hO ⟨rfl,rfl⟩ ∅ ∅ ?_ ?_ ?_ ?_ ?_ ?_ ?_)
   | refine aK (Np hO ⟨rfl,rfl⟩ ∅ ∅ ?_ ?_ ?_ ?_ ?_ ?_ ?_)
  ·intro j hj; rw[n6]; exact hA _ _
  ·intro j hj; rw[n6]; exact hA _ _
  ·intro i j hj bZ;rw[n6,n6];exact g1 ∅ ∅ ∅
  ·intro i j hj bZ;rw[n6,n6];exact g2 ∅ ∅ ∅
  ·rw[n6,n6];exact lJ (m3 _ _ ∅ ∅)
  ·intro j hj;rw[n6,n6];have:=n2 (sa+na+j) ∅ ∅ ∅;have e:sa+k+((arr.extract (sa+k) (sa+na)).size-1)=sa+na-1:=∅
   simp only[e];exact lJ this
  ·rintro r ⟨kd',arr',pd',mg',fl'⟩ ⟨c1,c2,c3,c4⟩ hD;change kd'=oneType' at c1;change arr'=arr at c2;change pd'=pend at c3;change fl'=ae at c4;subst c1 c2 c3 c4;refine aK (n4 ?_);refine aK (lI ?_);obtain⟨w1,w2⟩:=S_ hsz f9 ∅ n1 r1 r2 (λi hi c1 c2=>m2 i hi c1 c2) (λi hi c1 c2=>n3 i hi c1 c2) hD;exact aT (h _ ⟨rfl,rfl⟩ rfl w1 w2)
end
section
variable{κ:KeyKind}
theorem AA{a:Array Keyed}{i:Nat}{x:Keyed}(h:a[i]?=aa x):KK κ a i=kO κ x:=by unfold KK kO; rw[h]
theorem yD{a:Array Keyed}{i:Nat}(h:i<a.size):KK κ a i=kO κ a[i]:=AA (getElem?_pos _ _ _)
def iC(κ:KeyKind)(a:Array Keyed)(lo n:Nat):Prop:=∀ i j,lo<=i->i<=j->j<lo+n->κ.kle (KK κ a i) (KK κ a j)
def ot(κ:KeyKind)(a:Array Keyed)(lo n:Nat):Prop:=∀ i j,lo<=i->i<=j->j<lo+n->κ.kle (KK κ a j) (KK κ a i)
theorem iC.run{a:Array Keyed}{lo n:Nat}(h:iC κ a lo n):Run κ a lo n:=by intro i j x y h1 h2 h3 hx hy;have:=h i j h1 h2 h3;rw[AA hx,AA hy]at this;exact this
theorem Wr.trans{a b c:Array Keyed}{lo n:Nat}(h1:Wr a b lo n)(h2:Wr b c lo n):Wr a c lo n :=⟨h2.perm.trans h1.perm,h2.size.trans h1.size,λk hk=>(h2.out k hk).trans (h1.out k hk)⟩
theorem Wr.mono{a b:Array Keyed}{lo n lo' n':Nat}(h:Wr a b lo n)(h1:lo'<=lo)(h2:lo+n<=lo'+n'):Wr a b lo' n' :=⟨h.perm,h.size,λk hk=>h.out k ∅⟩
theorem KC{a:Array Keyed}{i j:Nat}(hj:j<=a.size)(bZ:i<=j):Wr a (mirror a i j ((j-i) / 2)) i (j-i) :=⟨J0.mp (mirror_perm _ _ _ _),mirror_size _ _ _ _,λk hk=>by rw[getElem?_mirror_all hj,if_neg ∅]⟩
theorem OE{a:Array Keyed}{src d:Nat}(hs:src<a.size)(hd:d<=src):Wr a (bubble a src d) (src-d) (d+1) :=⟨J0.mp (bubble_perm _ _ _),bubble_size _ _ _,λk hk=>by rw[getElem?_bubble hs d hd,if_neg ∅,if_neg ∅]⟩
def AllK(κ:KeyKind)(a:Array Keyed):Prop:=∀ i (hi:i<a.size),ic κ a[i]
theorem AllK.of{a b:Array Keyed}(h:AllK κ a)(p:b.toList.Perm a.toList):AllK κ b:=by intro i hi;have hm:b[i]∈a.toList:=p.mem_iff.mp (by simp);obtain⟨j,hj,e⟩:=zE hm;rw[← e];simpa using h j (by simpa using hj)
end
section
variable{prog:aX}{w:aN}{A:be}{E:ak->aq->Prop}{s:aq}{κ:KeyKind}
theorem pL(hO:κ.OneLt){st:bU}(hk:SB st)(hA:AllK κ (arrOf st)){i j:Nat}{Q:Option Bool->bU->Prop}(hi:i<(arrOf st).size)(hj:j<(arrOf st).size)(h:Q (aa (κ.blt (KK κ (arrOf st) i) (KK κ (arrOf st) j))) st):wpS (ay prog w) A E s (ltAt' i j) Q st:=by rw[yD hi,yD hj]at h;rw[ltAt'_eq];refine aK (lI ?_);exact aK (fM hi (aK (fM hj (vt hO hk (hA i hi) (hA j hj) h))))
theorem uR{j2 st:bU}{lo n i j:Nat}{Q:Unit->bU->Prop}(hk:SB st)(hp:bD st=bD j2)(hw:Wr (arrOf j2) (arrOf st) lo n)(bZ:i<=j)(hj:j<=(arrOf j2).size)(c1:lo<=i)(c2:j<=lo+n)(h:∀ bd,SB bd->bD bd=bD j2->Wr (arrOf j2) (arrOf bd) lo n->(∀ k,KK κ (arrOf bd) k=if i<=k/\k<j then KK κ (arrOf st) (i+j-1-k)else KK κ (arrOf st) k)->Q () bd) : wpS (ay prog w) A E s (reverseSlice' i j) Q st:=by
 have lV:j<=(arrOf st).size:=by rw[hw.size]; exact hj
 exact wpS_reverse (h _ ⟨hk.kind,hk.failed⟩ hp (hw.trans ((KC lV bZ).mono c1 ∅)) λk=>KK_mirror lV k)
theorem T7{α:Type}{c:Prop}[Decidable c]{p1 p2:StateT bU Sem α}{Q:α->bU->Prop}{st:bU}{J:bU->Prop}(h2:¬ c->J st)(key:∀ bd,J bd->wpS (ay prog w) A E s p2 Q bd)(h1:c->(∀ bd,J bd->wpS (ay prog w) A E s p2 Q bd)->wpS (ay prog w) A E s p1 Q st):wpS (ay prog w) A E s (if c then p1 else p2) Q st :=cZ (λe=>h1 e key) λe=>key st (h2 e)
theorem A8{a:Array Keyed}{lo x:Nat}(hr:iC κ a lo x)(h:1<=x)(e:κ.kle (KK κ a (lo+x-1)) (KK κ a (lo+x))):iC κ a lo (x+1):=λi j a1 a2 a3=>by
 by_cases hj:j<lo+x
 ·exact hr i j a1 a2 hj
 ·have lV:j=lo+x:=∅
  subst lV;by_cases hi:i=lo+x
  ·subst hi; exact n5 _
  ·exact vV (hr i (lo+x-1) a1 ∅ ∅) e
theorem Eg{a:Array Keyed}{lo x:Nat}(hr:ot κ a lo x)(h:1<=x)(e:κ.kle (KK κ a (lo+x)) (KK κ a (lo+x-1))):ot κ a lo (x+1):=λi j a1 a2 a3=>by
 by_cases hj:j<lo+x
 ·exact hr i j a1 a2 hj
 ·have lV:j=lo+x:=∅
  subst lV;by_cases hi:i=lo+x
  ·subst hi; exact n5 _
  ·exact vV e (hr i (lo+x-1) a1 ∅ ∅)
theorem NV{a:Array Keyed}{lo x neq:Nat}(he:∀ i,lo+x-(neq+1)<=i->i<lo+x->KK κ a i=KK κ a (lo+x-1))(ex:KK κ a (lo+x)=KK κ a (lo+x-1)):∀ i,lo+(x+1)-(neq+1+1)<=i->i<lo+(x+1)->KK κ a i=KK κ a (lo+(x+1)-1):=λi a1 a2=>by
 rw[show lo+(x+1)-1=lo+x by lia];by_cases hi:i=lo+x
 ·rw[hi]
 ·rw[he i ∅ ∅,ex]
theorem E1{a b:Array Keyed}{i j n:Nat}(mS:∀ k,KK κ b k=if i<=k/\k<j then KK κ a (i+j-1-k)else KK κ a k)(he:∀ k,i<=k->k<j->KK κ a k=KK κ a n):∀ k,KK κ b k=KK κ a k:=λk=>by
 rw[mS];split
 ·rw[he _ ∅ ∅,he k ∅ ∅]
 ·rfl
theorem LG(hO:κ.OneLt){st:bU}(hk:SB st)(hA:AllK κ (arrOf st)){lo dH:Nat}(h1:1<=dH)(hsz:lo+dH<=(arrOf st).size){Q:Option Nat->bU->Prop}(h:∀ n aA,SB aA->bD aA=bD st->Wr (arrOf st) (arrOf aA) lo dH->1<=n->n<=dH->iC κ (arrOf aA) lo n->Q (aa n) aA) : wpS (ay prog w) A E s (countRun' lo dH) Q st:=by
 have one:iC κ (arrOf st) lo 1:=λi j a1 a2 a3=>by
  have:i=j:=∅
  subst this; exact n5 _
 have go:∀ {cg:bU},Wr (arrOf st) (arrOf cg) lo dH->(arrOf cg).size=(arrOf st).size:=λw=>w.size;unfold countRun';refine aK (g7 (g8 (I:=λx c eP=>eP=st/\c=(ae,x)/\iC κ (arrOf st) lo x) (Q:=λc eP=>eP=st/\∃ n,c=(ae,n)/\1<=n/\n<=dH/\iC κ (arrOf st) lo n/\(n=dH\/κ.klt (KK κ (arrOf st) (lo+n)) (KK κ (arrOf st) (lo+n-1)))) ?_ ?_ ?_) ?_)
 ·rintro x c eP t7 pB ⟨rfl,rfl,hr⟩;dsimp only;refine aK (pL hO hk hA ∅ ∅ ?_);cases e:κ.blt (KK κ (arrOf eP) (lo+x)) (KK κ (arrOf eP) (lo+x-1))with
  | true=>exact aT ⟨rfl,x,rfl,∅,∅,hr,.inr e⟩
  | false=>exact aT ⟨rfl,rfl,A8 hr ∅ e⟩
 ·rintro c eP ⟨rfl,rfl,hr⟩;rw[show max 1 dH=dH by lia]at hr ⊢;exact⟨rfl,dH,rfl,∅,∅,hr,.inl rfl⟩
 ·exact⟨rfl,rfl,one⟩
 rintro c aA ⟨rfl,n,rfl,n1,n2,hr,hn⟩;dsimp only;refine cZ (λe1=>aT (h n aA hk rfl Wr.same n1 n2 hr)) λe1=>?_;have f9:n≠dH:=by simpa using e1
 replace hn:κ.klt (KK κ (arrOf aA) (lo+n)) (KK κ (arrOf aA) (lo+n-1)):=hn.resolve_left f9;refine T7 (J:=λbd=>SB bd/\bD bd=bD aA/\Wr (arrOf aA) (arrOf bd) lo dH/\ot κ (arrOf bd) lo (n+1)) (λen=>⟨hk,rfl,Wr.same,λi j a1 a2 a3=>?_⟩) (λbd ⟨ez,fu,pC,hD⟩=>?_) λen key=>?_
 ·have en':n=1:=∅
  by_cases hi:i=j
  ·subst hi; exact n5 _
  ·have e1:i=lo+n-1:=∅
   have e2:j=lo+n:=∅
   rw[e1,e2]; exact lJ hn
 ·refine aK (tK (k6 ⟨rfl,?_⟩));refine aK (g7 (g8 (I:=λx c bL=>∃ neq,c=(ae,x,neq)/\SB bL/\bD bL=bD aA/\Wr (arrOf aA) (arrOf bL) lo dH/\ot κ (arrOf bL) lo x/\neq+1<=x/\(∀ i,lo+x-(neq+1)<=i->i<lo+x->KK κ (arrOf bL) i=KK κ (arrOf bL) (lo+x-1))) (Q:=λc bL=>∃ m neq,c=(ae,m,neq)/\SB bL/\bD bL=bD aA/\Wr (arrOf aA) (arrOf bL) lo dH/\1<=m/\m<=dH/\ot κ (arrOf bL) lo m/\neq+1<=m/\(∀ i,lo+m-(neq+1)<=i->i<lo+m->KK κ (arrOf bL) i=KK κ (arrOf bL) (lo+m-1))) ?_ ?_ ?_) ?_)
  ·rintro x c bL t7 pB ⟨neq,rfl,gw,gu,jf,hd,hq,he⟩;have sz3:=jf.size;dsimp only;refine aK (pL hO gw (hA.of jf.perm) ∅ ∅ ?_);cases e3:κ.blt (KK κ (arrOf bL) (lo+x)) (KK κ (arrOf bL) (lo+x-1))with
   | true=>
    have hd':ot κ (arrOf bL) lo (x+1):=Eg hd ∅ (lJ e3);dsimp only;rw[if_pos rfl];refine cZ (λDJ=>?_) λDJ=>?_
    ·refine aK (uR (κ:=κ) (lo:=lo) (n:=dH) gw gu jf ∅ ∅ ∅ ∅ λbV kB iT t8 DK=>?_);have wl:=E1 DK he;exact aT ⟨0,rfl,kB,iT,t8,λi j a1 a2 a3=>by rw[wl,wl]; exact hd' i j a1 a2 a3,∅,λi a1 a2=>by congr 1; lia⟩
    ·exact aT ⟨0,rfl,gw,gu,jf,hd',∅,λi a1 a2=>by congr 1; lia⟩
   | false=>
    dsimp only;rw[if_neg (by simp)];refine aK (pL hO gw (hA.of jf.perm) ∅ ∅ ?_);cases e4:κ.blt (KK κ (arrOf bL) (lo+x-1)) (KK κ (arrOf bL) (lo+x))with
    | true=>exact aT ⟨x,neq,rfl,gw,gu,jf,∅,∅,hd,hq,he⟩
    | false=>have ex:KK κ (arrOf bL) (lo+x)=KK κ (arrOf bL) (lo+x-1):=KeyOrd.kle_antisymm e4 e3;exact aT ⟨neq+1,rfl,gw,gu,jf,Eg hd ∅ (by rw[ex]; exact n5 _),∅,NV he ex⟩
  ·rintro c bL ⟨neq,rfl,gw,gu,jf,hd,hq,he⟩;rw[show max (n+1) dH=dH by lia]at hd hq he ⊢;exact⟨dH,neq,rfl,gw,gu,jf,∅,∅,hd,hq,he⟩
  ·exact⟨0,rfl,ez,fu,pC,hD,∅,λi a1 a2=>by congr 1; lia⟩
  rintro c bL ⟨m,neq,rfl,gw,gu,jf,m1,m2,hd,hq,he⟩;dsimp only;refine cZ (λDJ=>?_) λDJ=>?_
  ·refine aK (uR (κ:=κ) (lo:=lo) (n:=dH) gw gu jf ∅ ∅ ∅ ∅ λbV kB iT t8 DK=>?_);have wl:=E1 DK he;have hd4:ot κ (arrOf bV) lo m:=λi j a1 a2 a3=>by rw[wl,wl]; exact hd i j a1 a2 a3
   refine aK (uR (κ:=κ) (lo:=lo) (n:=dH) kB iT t8 ∅ ∅ ∅ ∅ λcg oi hp5 qO wm=>?_);have hr5:iC κ (arrOf cg) lo m:=λi j a1 a2 a3=>by rw[wm,wm,if_pos ⟨a1,∅⟩,if_pos ⟨∅,a3⟩];exact hd4 _ _ ∅ ∅ ∅
   have sz5:=qO.size;refine aK (g7 (g8 (I:=λx c eP=>eP=cg/\c=(ae,x)/\iC κ (arrOf cg) lo x) (Q:=λc eP=>eP=cg/\∃ n,c=(ae,n)/\1<=n/\n<=dH/\iC κ (arrOf cg) lo n/\(n=dH\/κ.klt (KK κ (arrOf cg) (lo+n)) (KK κ (arrOf cg) (lo+n-1)))) ?_ ?_ ?_) ?_)
   ·rintro x c eP t7 pB ⟨rfl,rfl,hr⟩;dsimp only;refine aK (pL hO oi (hA.of qO.perm) ∅ ∅ ?_);cases e:κ.blt (KK κ (arrOf eP) (lo+x)) (KK κ (arrOf eP) (lo+x-1))with
    | true=>exact aT ⟨rfl,x,rfl,∅,∅,hr,.inr e⟩
    | false=>exact aT ⟨rfl,rfl,A8 hr ∅ e⟩
   ·rintro c eP ⟨rfl,rfl,hr⟩;rw[show max m dH=dH by lia]at hr ⊢;exact⟨rfl,dH,rfl,∅,∅,hr,.inl rfl⟩
   ·exact⟨rfl,rfl,hr5⟩
   rintro c eP ⟨rfl,q,rfl,q1,q2,hrq,_⟩;exact aT (h q eP oi hp5 qO q1 q2 hrq)
  ·have kB:=gw;have iT:=gu;have t8:=jf;have hd4:=hd;refine aK (uR (κ:=κ) (lo:=lo) (n:=dH) kB iT t8 ∅ ∅ ∅ ∅ λcg oi hp5 qO wm=>?_);have hr5:iC κ (arrOf cg) lo m:=λi j a1 a2 a3=>by rw[wm,wm,if_pos ⟨a1,∅⟩,if_pos ⟨∅,a3⟩];exact hd4 _ _ ∅ ∅ ∅
   have sz5:=qO.size;refine aK (g7 (g8 (I:=λx c eP=>eP=cg/\c=(ae,x)/\iC κ (arrOf cg) lo x) (Q:=λc eP=>eP=cg/\∃ n,c=(ae,n)/\1<=n/\n<=dH/\iC κ (arrOf cg) lo n/\(n=dH\/κ.klt (KK κ (arrOf cg) (lo+n)) (KK κ (arrOf cg) (lo+n-1)))) ?_ ?_ ?_) ?_)
   ·rintro x c eP t7 pB ⟨rfl,rfl,hr⟩;dsimp only;refine aK (pL hO oi (hA.of qO.perm) ∅ ∅ ?_);cases e:κ.blt (KK κ (arrOf eP) (lo+x)) (KK κ (arrOf eP) (lo+x-1))with
    | true=>exact aT ⟨rfl,x,rfl,∅,∅,hr,.inr e⟩
    | false=>exact aT ⟨rfl,rfl,A8 hr ∅ e⟩
   ·rintro c eP ⟨rfl,rfl,hr⟩;rw[show max m dH=dH by lia]at hr ⊢;exact⟨rfl,dH,rfl,∅,∅,hr,.inl rfl⟩
   ·exact⟨rfl,rfl,hr5⟩
   rintro c eP ⟨rfl,q,rfl,q1,q2,hrq,_⟩;exact aT (h q eP oi hp5 qO q1 q2 hrq)
 ·refine aK (pL hO hk hA ∅ ∅ ?_);cases e2:κ.blt (KK κ (arrOf aA) lo) (KK κ (arrOf aA) (lo+n-1))with
  | true=>exact aT (h n aA hk rfl Wr.same n1 n2 hr)
  | false=>
   dsimp only;rw[if_neg (by simp)];have tT:∀ i,lo<=i->i<lo+n->KK κ (arrOf aA) i=KK κ (arrOf aA) lo:=λi a1 a2=>KeyOrd.kle_antisymm (vV (hr i (lo+n-1) a1 ∅ ∅) e2) (hr lo i (bi _) a1 a2);refine aK (uR (κ:=κ) (lo:=lo) (n:=dH) hk rfl Wr.same ∅ ∅ ∅ ∅ λbd ez fu pC mS=>?_);have hD:ot κ (arrOf bd) lo (n+1):=by
    have hv:∀ i,lo<=i->i<lo+n->KK κ (arrOf bd) i=KK κ (arrOf aA) lo:=λi a1 a2=>by rw[mS,if_pos ⟨a1,a2⟩]; exact tT _ ∅ ∅
    have hl:κ.klt (KK κ (arrOf bd) (lo+n)) (KK κ (arrOf aA) lo):=by rw[mS,if_neg ∅,← tT (lo+n-1) ∅ ∅]; exact hn
    intro i j a1 a2 a3;by_cases hj:j<lo+n
    ·rw[hv i a1 ∅,hv j ∅ hj]; exact n5 _
    ·have lV:j=lo+n:=∅
     subst lV;by_cases hi:i=lo+n
     ·subst hi; exact n5 _
     ·rw[hv i a1 ∅]; exact lJ hl
   exact key bd ⟨ez,fu,pC,hD⟩
theorem Qb{j2 st:bU}{lo n src dst:Nat}{Q:Unit->bU->Prop}(hk:SB st)(hp:bD st=bD j2)(hw:Wr (arrOf j2) (arrOf st) lo n)(bZ:dst<=src)(hj:src<(arrOf j2).size)(c1:lo<=dst)(c2:src<lo+n)(h:∀ bd,SB bd->bD bd=bD j2->Wr (arrOf j2) (arrOf bd) lo n->(∀ k,KK κ (arrOf bd) k=if k=dst then KK κ (arrOf st) src else if dst<k/\k<=src then KK κ (arrOf st) (k-1)else KK κ (arrOf st) k)->Q () bd) : wpS (ay prog w) A E s (moveDown' src dst) Q st:=by
 have lV:src<(arrOf st).size:=by rw[hw.size]; exact hj
 rw[moveDown'_eq];refine n4 (h _ ⟨hk.kind,hk.failed⟩ hp (hw.trans ((OE lV (show src-dst<=src by lia)).mono ∅ ∅)) λk=>?_);have:=KK_bubble (κ:=κ) lV (show src-dst<=src by lia) k;rw[show src-(src-dst)=dst by lia]at this;exact this
theorem KQ(hO:κ.OneLt){st:bU}(hk:SB st)(hA:AllK κ (arrOf st)){lo n ok:Nat}(hok:ok<=n)(hsz:lo+n<=(arrOf st).size)(hr:iC κ (arrOf st) lo ok){Q:Bool->bU->Prop}(h:∀ aA,SB aA->bD aA=bD st->Wr (arrOf st) (arrOf aA) lo n->iC κ (arrOf aA) lo n->Q ai aA) : wpS (ay prog w) A E s (binarySort' lo n ok) Q st:=by
 unfold binarySort';refine aK (g7 (g8 (I:=λk c cF=>c=(ae,())/\SB cF/\bD cF=bD st/\Wr (arrOf st) (arrOf cF) lo n/\iC κ (arrOf cF) lo (min k n)) (Q:=λc cF=>c=(ae,())/\SB cF/\bD cF=bD st/\Wr (arrOf st) (arrOf cF) lo n/\iC κ (arrOf cF) lo n) ?_ ?_ ?_) ?_)
 ·rintro k c cF oh ez ⟨rfl,t9,hZ,qP,kC⟩;have sz:=qP.size;rw[show min k n=k by lia]at kC;refine aK (g7 (g8 (I:=λx c bd=>bd=cF/\∃ l r,c=(ae,l,r)/\l<=r/\r<=k/\r-l<=k-x /\ (∀ i,i<l->κ.kle (KK κ (arrOf cF) (lo+i)) (KK κ (arrOf cF) (lo+k)))/\(∀ i,r<=i->i<k->κ.klt (KK κ (arrOf cF) (lo+k)) (KK κ (arrOf cF) (lo+i)))) (Q:=λc bd=>bd=cF/\∃ l r,c=(ae,l,r)/\l<=k /\ (∀ i,i<l->κ.kle (KK κ (arrOf cF) (lo+i)) (KK κ (arrOf cF) (lo+k)))/\(∀ i,l<=i->i<k->κ.klt (KK κ (arrOf cF) (lo+k)) (KK κ (arrOf cF) (lo+i)))) ?_ ?_ ?_) ?_)
  ·rintro x c bd _ hx ⟨rfl,l,r,rfl,a1,a2,a3,a4,a5⟩;dsimp only;refine cZ (λeZ=>?_) λeZ=>?_
   ·have:l=r:=∅
    subst this;exact aT ⟨rfl,l,l,rfl,a2,a4,a5⟩
   ·refine aK (pL hO t9 (hA.of qP.perm) ∅ ∅ ?_);cases e:κ.blt (KK κ (arrOf bd) (lo+k)) (KK κ (arrOf bd) (lo+(l+r) / 2))with
    | true=>exact aT ⟨rfl,l,(l+r) / 2,rfl,∅,∅,∅,a4,λi h1 h2=>KeyOrd.klt_of_klt_of_kle e (kC _ _ ∅ ∅ ∅)⟩
    | false=>exact aT ⟨rfl,(l+r) / 2+1,r,rfl,∅,∅,∅,λi h1=>vV (kC (lo+i) (lo+(l+r) / 2) ∅ ∅ ∅) e,a5⟩
  ·rintro c bd ⟨rfl,l,r,rfl,a1,a2,a3,a4,a5⟩;have:l=r:=∅
   subst this;exact⟨rfl,l,l,rfl,a2,a4,a5⟩
  ·exact⟨rfl,0,k,rfl,∅,∅,∅,λi hi=>∅,λi h1 h2=>∅⟩
  ·rintro c bd ⟨rfl,l,r,rfl,a2,a4,a5⟩;dsimp only;refine aK (Qb (κ:=κ) (lo:=lo) (n:=n) t9 hZ qP ∅ ∅ ∅ ∅ λbL hb3 gu jf mS=>aT ⟨rfl,hb3,gu,jf,?_⟩);rw[show min (k+1) n=k+1 by lia];intro i j c1 c2 c3;rw[mS,mS]
   repeat' split
   all_goals first
    | (exfalso; lia)
    | exact n5 _
    | (have:=a4 (i-lo) ∅; rw[show lo+(i-lo)=i by lia]at this; exact this)
    | (have:=a5 (j-1-lo) ∅ ∅; rw[show lo+(j-1-lo)=j-1 by lia]at this; exact lJ this)
    | exact kC _ _ ∅ ∅ ∅
 ·rintro c cF ⟨rfl,t9,hZ,qP,kC⟩;rw[show min (max (max ok 1) n) n=n by lia]at kC;exact⟨rfl,t9,hZ,qP,kC⟩
 ·refine⟨rfl,hk,rfl,Wr.same,λi j c1 c2 c3=>?_⟩;by_cases h1:ok=0
  ·have:i=j:=∅
   subst this; exact n5 _
  ·exact hr i j c1 c2 ∅
 ·rintro c cF ⟨rfl,t9,hZ,qP,kC⟩;exact aT (h cF t9 hZ qP kC)
end
theorem P7{c:Prop}[Decidable c]{a b n:Nat}(h1:a+1<n)(h2:b+1<n):(if c then a else b)+1<n:=by split <;> assumption
def kT:Nat->List (Nat×Nat)->Nat->Prop
 | f,[],t=>f=t
 | f,(a,n)::l,t=>a=f/\0<n/\kT (f+n) l t
theorem kT.app:∀ {l1:List (Nat×Nat)} {f t:Nat} {l2:List (Nat×Nat)},kT f (l1++l2) t↔∃ m,kT f l1 m/\kT m l2 t
 | [],f,t,l2=>by simp[kT]
 | (a,n)::l1,f,t,l2=>by
  simp only[C9,kT,kT.app (l1:=l1)];constructor
  ·rintro⟨h1,h2,m,h3,h4⟩; exact⟨m,⟨h1,h2,h3⟩,h4⟩
  ·rintro⟨m,⟨h1,h2,h3⟩,h4⟩; exact⟨h1,h2,m,h3,h4⟩
theorem kT.le:∀ {l:List (Nat×Nat)} {f t:Nat},kT f l t->f+l.length<=t/\∀ e∈l,f<=e.1/\e.1+e.2<=t
 | [],f,t,h=>⟨by cases h; simp,by simp⟩
 | (a,n)::l,f,t,⟨h1,h2,h3⟩=>by
  obtain⟨i1,i2⟩:=kT.le h3;refine⟨by simp; lia,λe he=>?_⟩;rcases cb.mp he with rfl | he
  ·subst h1; exact⟨bi _,by simp; lia⟩
  ·have:=i2 e he; exact⟨∅,this.2⟩
def PL(pd:Array (Nat×Nat×Nat)):List (Nat×Nat):=pd.toList.map λe=>(e.1,e.2.1)
structure i5(κ:KeyKind)(arr:Array Keyed)(pd:Array (Nat×Nat×Nat))(lo:Nat):Prop where
 ch:kT 0 (PL pd) lo
 run:∀ e∈PL pd,Run κ arr e.1 e.2
theorem yu(pd:Array (Nat×Nat×Nat)):(PL pd).length=pd.size:=by simp[PL]
theorem ox(pd:Array (Nat×Nat×Nat))(e:Nat×Nat×Nat):PL (pd.push e)=PL pd++[(e.1,e.2.1)]:=by simp[PL]
theorem xS(pd:Array (Nat×Nat×Nat))(k pw:Nat):PL (pd.modify k λx=>(x.1,x.2.1,pw))=PL pd:=by
 apply ko;intro i;simp only[PL,ir,zA,Array.getElem?_modify];split
 ·cases pd[i]? <;> rfl
 ·rfl
theorem OK{pd:Array (Nat×Nat×Nat)}{i:Nat}(h:i+1<pd.size):∃ l1 l2 sa na pa sb nb pb,pd[i]?=aa (sa,na,pa)/\pd[i+1]?=aa (sb,nb,pb)/\PL pd=l1++(sa,na)::(sb,nb)::l2 /\ PL ((pd.setIfInBounds i (sa,na+nb,pa)).eraseIdxIfInBounds (i+1))=l1++(sa,na+nb)::l2:=by
 obtain⟨l⟩:=pd;simp only[dA]at h;have e:l=l.take i++l[i]::l[i+1]::l.drop (i+2):=by rw[← zC,← zC,mK]
 obtain⟨l1,x,y,l2,hl,e2⟩:∃ l1 x y l2,l1.length=i/\l=l1++x::y::l2:=⟨l.take i,l[i],l[i+1],l.drop (i+2),by simp; lia,e⟩
 subst hl e2;obtain⟨sa,na,pa⟩:=x;obtain⟨sb,nb,pb⟩:=y;refine⟨l1.map λe=>(e.1,e.2.1),l2.map λe=>(e.1,e.2.1),sa,na,pa,sb,nb,pb,by simp,by simp[jy],by simp[PL],?_⟩;have e3:((l1++(sa,na,pa)::(sb,nb,pb)::l2).toArray.setIfInBounds l1.length (sa,na+nb,pa)).eraseIdxIfInBounds (l1.length+1)=(l1++(sa,na+nb,pa)::l2).toArray:=by rw[List.setIfInBounds_toArray,List.set_append_right _ _ (bi _),List.eraseIdxIfInBounds_toArray];congr 1;rw[List.eraseIdx_append_of_length_le ∅];simp
 rw[e3];simp[PL]
section
variable{prog:aX}{w:aN}{A:be}{E:ak->aq->Prop}{s:aq}{κ:KeyKind}
theorem i5.keep{a a':Array Keyed}{pd:Array (Nat×Nat×Nat)}{lo n:Nat}(h:i5 κ a pd lo)(w:Wr a a' lo n):i5 κ a' pd lo :=⟨h.ch,λe he=>(h.run e he).keep w (.inl (h.ch.le.2 e he).2)⟩
theorem Bk(hO:κ.OneLt){st:bU}(hk:SB st)(hA:AllK κ (arrOf st)){i lo:Nat}(hP:i5 κ (arrOf st) (bD st) lo)(hlo:lo<=(arrOf st).size)(hi:i+1<(bD st).size){Q:Bool->bU->Prop}(h:∀ aA,SB aA->Wr (arrOf st) (arrOf aA) 0 lo->i5 κ (arrOf aA) (bD aA) lo->(bD aA).size+1=(bD st).size->Q ai aA) : wpS (ay prog w) A E s (mergeAt' i) Q st:=by
 obtain⟨l1,l2,sa,na,pa,sb,nb,pb,e1,e2,e3,e4⟩:=OK hi;have hc:=hP.ch;rw[e3]at hc;obtain⟨m,c1,c2,c3,c4,c5,c6⟩:=kT.app.mp hc;subst c2 c4;have b1:=c1.le;have b2:=c6.le;have r1:Run κ (arrOf st) sa na:=hP.run (sa,na) (by rw[e3]; simp);have r2:Run κ (arrOf st) (sa+na) nb:=hP.run (sa+na,nb) (by rw[e3]; simp);refine QO hO hk hA e1 e2 c3 c5 ∅ r1 r2 λaA wD iP hw hr=>h aA wD (hw.mono ∅ ∅) ⟨?_,?_⟩ ?_
 ·rw[iP,e4];exact kT.app.mpr ⟨sa,c1,rfl,∅,by rw[← vT]; exact c6⟩
 ·rw[iP,e4];intro e he;rcases eM.mp he with he | he
  ·exact(hP.run e (by rw[e3]; exact ze _ he)).keep hw (.inl (b1.2 e he).2)
  ·rcases cb.mp he with rfl | he
   ·exact hr
   ·exact(hP.run e (by rw[e3]; simp[he])).keep hw (.inr (by have:=(b2.2 e he).1; lia))
 ·have q1:=yu (bD aA);have q2:=yu (bD st);rw[iP,e4]at q1;rw[e3]at q2;rw[iP,← q1,← q2]; simp; lia
theorem L0(hO:κ.OneLt){st:bU}(hk:SB st)(hA:AllK κ (arrOf st))(hp:bD st = #[]){Q:Unit->bU->Prop}(h:∀ aA,SB aA->(arrOf aA).toList.Perm (arrOf st).toList->Run κ (arrOf aA) 0 (arrOf st).size->Q () aA) : wpS (ay prog w) A E s sortRuns' Q st:=by
 unfold sortRuns';refine aK (lI ?_);dsimp only;obtain⟨size,Ux⟩:∃ size,size=(arrOf st).size:=⟨_,rfl⟩
 have Uq:((sortPriv% PySem.Builtin.SortState.a) st).size=size:=Ux.symm;simp only[Uq];refine aK (g7 (g8 (I:=λx c cF=>∃ lo,c=(ae,lo)/\x<=lo/\lo<=size/\SB cF/\(arrOf cF).toList.Perm (arrOf st).toList/\(arrOf cF).size=size/\i5 κ (arrOf cF) (bD cF) lo) (Q:=λc cF=>c=(ae,size)/\SB cF/\(arrOf cF).toList.Perm (arrOf st).toList/\(arrOf cF).size=size/\i5 κ (arrOf cF) (bD cF) size) ?_ ?_ ?_) ?_);rotate_left
 ·rintro c cF ⟨lo,rfl,b1,b2,oh,hZ,qQ,hP⟩;have:lo=size:=∅
  subst this;exact⟨rfl,oh,hZ,qQ,hP⟩
 ·exact⟨0,rfl,∅,∅,hk,mI _,Ux.symm,by rw[hp]; exact⟨rfl,by simp[PL]⟩⟩
 ·rintro c cF ⟨rfl,oh,hZ,qQ,hP⟩;dsimp only;refine aK (g7 (g8 (I:=λx c bd=>c=(ae,())/\SB bd/\(arrOf bd).toList.Perm (arrOf st).toList/\(arrOf bd).size=size/\i5 κ (arrOf bd) (bD bd) size/\(bD bd).size+x<=size+1) (Q:=λc bd=>c=(ae,())/\SB bd/\(arrOf bd).toList.Perm (arrOf st).toList/\(arrOf bd).size=size/\i5 κ (arrOf bd) (bD bd) size/\(bD bd).size<=1) ?_ ?_ ?_) ?_)
  ·rintro x c bd _ hx ⟨rfl,ez,fu,mP,wM,hb⟩;refine aK (lI ?_);refine cZ (λe1=>aT ⟨rfl,ez,fu,mP,wM,e1⟩) λe1=>?_;have f9:1<(bD bd).size:=Nat.lt_of_not_le e1;refine aK (Bk hO ez (hA.of fu) wM ∅ ?_ λbL gw jf wN hq=>?_)
   ·exact P7 (show(bD bd).size-2-1+1<(bD bd).size by lia) (show(bD bd).size-2+1<(bD bd).size by lia)
   ·exact aT ⟨rfl,gw,jf.perm.trans fu,jf.size.trans mP,wN,∅⟩
  ·rintro c bd ⟨rfl,ez,fu,mP,wM,hb⟩;exact⟨rfl,ez,fu,mP,wM,∅⟩
  ·have:=hP.ch.le.1;rw[yu]at this;exact⟨rfl,oh,hZ,qQ,hP,∅⟩
  ·rintro c bd ⟨rfl,ez,fu,mP,wM,hb⟩;refine aT (h bd ez fu ?_);rw[← Ux];have hc:=wM.ch;have hr:=wM.run;have hl:=yu (bD bd)
   match hq:PL (bD bd),hc,hr,hl with
   | [],hc,hr,hl=>
    cases hc;intro i j x y a1 a2 a3; lia
   | [(a,n)],hc,hr,hl=>
    obtain⟨d1,d2,d3⟩:=hc;cases d1;have d3':0+n=size:=d3;have:=hr (0,n) (by simp);rw[show size=n by lia]; exact this
   | _::_::_,hc,hr,hl=>simp at hl; lia
 rintro x c cF _ hx ⟨lo,rfl,b1,b2,oh,hZ,qQ,hP⟩;dsimp only;refine cZ (λe1=>?_) λe1=>?_
 ·have:lo=size:=∅
  subst this;exact aT ⟨rfl,oh,hZ,qQ,hP⟩
 refine aK (LG hO oh (hA.of hZ) ∅ ∅ λdR bd ez wO pC f1 f2 mR=>?_);dsimp only;refine cZ (λe2=>?_) λe2=>?_
 ·refine aK (tK (k6 ⟨rfl,?_⟩));refine aK (KQ hO ez ((hA.of hZ).of pC.perm) ∅ (by rw[pC.size]; lia) mR λbL gw hq3 jf hr3=>?_);rw[if_neg (by simp)];have hw:Wr (arrOf cF) (arrOf bL) lo (size-lo):=pC.trans (jf.mono ∅ ∅);have wP:bD bL=bD cF:=hq3.trans wO;generalize hn:min (size-lo) _=n at *;have n1:0<n:=∅
  have n2:lo+n<=size:=∅
  clear ez pC mR wO jf hq3;have wN:i5 κ (arrOf bL) (bD bL) lo:=by rw[wP]; exact hP.keep hw
  have gu:(arrOf bL).toList.Perm (arrOf st).toList:=hw.perm.trans hZ;have lS:(arrOf bL).size=size:=hw.size.trans qQ;have hR:Run κ (arrOf bL) lo n:=hr3.run;clear hw wP;refine aK (lI ?_);obtain⟨kd,arr,pd,mg,fl⟩:=bL;dsimp only;cases hbk:pd.back? with
  | none=>
   dsimp only;refine aK (n4 (aT ⟨lo+n,rfl,∅,n2,⟨gw.kind,gw.failed⟩,gu,lS,?_⟩));refine⟨?_,?_⟩
   ·show kT 0 (PL (pd.push (lo,n,0))) _;rw[ox]; exact kT.app.mpr ⟨lo,wN.ch,rfl,n1,rfl⟩
   ·show ∀ e∈PL (pd.push (lo,n,0)),_;rw[ox];intro e he;rcases eM.mp he with he | he
    ·exact wN.run e he
    ·rw[gZ.mp he]; exact hR
  | some bk=>
   obtain⟨s1,m1,q1⟩:=bk;dsimp only;refine aK (g7 (g8 (I:=λx c bV=>c=(ae,())/\SB bV/\(arrOf bV).toList.Perm (arrOf st).toList/\(arrOf bV).size=size/\i5 κ (arrOf bV) (bD bV) lo/\Run κ (arrOf bV) lo n) (Q:=λc bV=>c=(ae,())/\SB bV/\(arrOf bV).toList.Perm (arrOf st).toList/\(arrOf bV).size=size/\i5 κ (arrOf bV) (bD bV) lo/\Run κ (arrOf bV) lo n) ?_ (λ_ _ hh=>hh) ?_) ?_)
   ·rintro y c bV _ hy ⟨rfl,kB,iT,oj,qR,qS⟩;refine aK (lI ?_);have we:∀ {cg:bU},cg=bV->((ae,()):Option Unit×Unit)=(ae,())/\SB cg/\(arrOf cg).toList.Perm (arrOf st).toList/\(arrOf cg).size=size/\i5 κ (arrOf cg) (bD cg) lo/\Run κ (arrOf cg) lo n:=λe=>by subst e; exact⟨rfl,kB,iT,oj,qR,qS⟩
    by_cases hg:1<(bD bV).size
    ·obtain⟨kd4,arr4,pd4,mg4,fl4⟩:=bV;have lT:pd4.size > 1:=hg;dsimp only;rw[if_pos lT,getElem?_pos pd4 (pd4.size-2) ∅];obtain⟨u1,u2,u3⟩:=pd4[pd4.size-2];dsimp only;refine cZ (λ_=>aT (we rfl)) λ_=>?_;refine aK (Bk hO kB (hA.of iT) qR ∅ (show pd4.size-2+1<pd4.size by lia) λcg oi qO hP5 _=>?_);exact aT ⟨rfl,oi,qO.perm.trans iT,qO.size.trans oj,hP5,qS.keep qO (.inr ∅)⟩
    ·obtain⟨kd4,arr4,pd4,mg4,fl4⟩:=bV;have lT:¬ pd4.size > 1:=hg;dsimp only;rw[if_neg lT];exact aT (we rfl)
   ·exact⟨rfl,gw,gu,lS,wN,hR⟩
   rintro c bV ⟨rfl,kB,iT,oj,qR,qS⟩;obtain⟨kd4,arr4,pd4,mg4,fl4⟩:=bV;dsimp only;refine aK (n4 (aK (n4 (aT ⟨lo+n,rfl,∅,n2,⟨kB.kind,kB.failed⟩,iT,oj,?_⟩))));refine⟨?_,?_⟩
   ·show kT 0 (PL ((pd4.modify (pd4.size-1) λx=>(x.1,x.2.1,_)).push (lo,n,0))) _;rw[ox,xS]; exact kT.app.mpr ⟨lo,qR.ch,rfl,n1,rfl⟩
   ·show ∀ e∈PL ((pd4.modify (pd4.size-1) λx=>(x.1,x.2.1,_)).push (lo,n,0)),_;rw[ox,xS];intro e he;rcases eM.mp he with he | he
    ·exact qR.run e he
    ·rw[gZ.mp he]; exact qS
 ·have gw:=ez;have hr3:=mR;have hw:Wr (arrOf cF) (arrOf bd) lo (size-lo):=pC;have wP:bD bd=bD cF:=wO;have n1:0<dR:=∅
  have n2:lo+dR<=size:=∅
  have wN:i5 κ (arrOf bd) (bD bd) lo:=by rw[wP]; exact hP.keep hw
  have gu:(arrOf bd).toList.Perm (arrOf st).toList:=hw.perm.trans hZ;have lS:(arrOf bd).size=size:=hw.size.trans qQ;have hR:Run κ (arrOf bd) lo dR:=hr3.run;clear hw wP;refine aK (lI ?_);obtain⟨kd,arr,pd,mg,fl⟩:=bd;dsimp only;cases hbk:pd.back? with
  | none=>
   dsimp only;refine aK (n4 (aT ⟨lo+dR,rfl,∅,n2,⟨gw.kind,gw.failed⟩,gu,lS,?_⟩));refine⟨?_,?_⟩
   ·show kT 0 (PL (pd.push (lo,dR,0))) _;rw[ox]; exact kT.app.mpr ⟨lo,wN.ch,rfl,n1,rfl⟩
   ·show ∀ e∈PL (pd.push (lo,dR,0)),_;rw[ox];intro e he;rcases eM.mp he with he | he
    ·exact wN.run e he
    ·rw[gZ.mp he]; exact hR
  | some bk=>
   obtain⟨s1,m1,q1⟩:=bk;dsimp only;refine aK (g7 (g8 (I:=λx c bV=>c=(ae,())/\SB bV/\(arrOf bV).toList.Perm (arrOf st).toList/\(arrOf bV).size=size/\i5 κ (arrOf bV) (bD bV) lo/\Run κ (arrOf bV) lo dR) (Q:=λc bV=>c=(ae,())/\SB bV/\(arrOf bV).toList.Perm (arrOf st).toList/\(arrOf bV).size=size/\i5 κ (arrOf bV) (bD bV) lo/\Run κ (arrOf bV) lo dR) ?_ (λ_ _ hh=>hh) ?_) ?_)
   ·rintro y c bV _ hy ⟨rfl,kB,iT,oj,qR,qS⟩;refine aK (lI ?_);have we:∀ {cg:bU},cg=bV->((ae,()):Option Unit×Unit)=(ae,())/\SB cg/\(arrOf cg).toList.Perm (arrOf st).toList/\(arrOf cg).size=size/\i5 κ (arrOf cg) (bD cg) lo/\Run κ (arrOf cg) lo dR:=λe=>by subst e; exact⟨rfl,kB,iT,oj,qR,qS⟩
    by_cases hg:1<(bD bV).size
    ·obtain⟨kd4,arr4,pd4,mg4,fl4⟩:=bV;have lT:pd4.size > 1:=hg;dsimp only;rw[if_pos lT,getElem?_pos pd4 (pd4.size-2) ∅];obtain⟨u1,u2,u3⟩:=pd4[pd4.size-2];dsimp only;refine cZ (λ_=>aT (we rfl)) λ_=>?_;refine aK (Bk hO kB (hA.of iT) qR ∅ (show pd4.size-2+1<pd4.size by lia) λcg oi qO hP5 _=>?_);exact aT ⟨rfl,oi,qO.perm.trans iT,qO.size.trans oj,hP5,qS.keep qO (.inr ∅)⟩
    ·obtain⟨kd4,arr4,pd4,mg4,fl4⟩:=bV;have lT:¬ pd4.size > 1:=hg;dsimp only;rw[if_neg lT];exact aT (we rfl)
   ·exact⟨rfl,gw,gu,lS,wN,hR⟩
   rintro c bV ⟨rfl,kB,iT,oj,qR,qS⟩;obtain⟨kd4,arr4,pd4,mg4,fl4⟩:=bV;dsimp only;refine aK (n4 (aK (n4 (aT ⟨lo+dR,rfl,∅,n2,⟨kB.kind,kB.failed⟩,iT,oj,?_⟩))));refine⟨?_,?_⟩
   ·show kT 0 (PL ((pd4.modify (pd4.size-1) λx=>(x.1,x.2.1,_)).push (lo,dR,0))) _;rw[ox,xS]; exact kT.app.mpr ⟨lo,qR.ch,rfl,n1,rfl⟩
   ·show ∀ e∈PL ((pd4.modify (pd4.size-1) λx=>(x.1,x.2.1,_)).push (lo,dR,0)),_;rw[ox,xS];intro e he;rcases eM.mp he with he | he
    ·exact qR.run e he
    ·rw[gZ.mp he]; exact qS
end
theorem xV{n:Nat}(h:n<=1000000):n<bp:=tt h (by decide)
theorem Run.sortedTo{κ:KeyKind}{a:Array Keyed}{n:Nat}(h:Run κ a 0 n)(hn:n<=a.size):SortedToK κ a n:=by intro i j bZ hj;have:=h i j _ _ (kY _) bZ ∅ (getElem?_pos a i ∅) (getElem?_pos a j ∅);rw[yD (show i<a.size by lia),yD (show j<a.size by lia)];exact this
theorem KeysOf.all{κ:KeyKind}{a:Array Keyed}(h:KeysOf κ a):AllK κ a:=λi hi=>h _ (by simp)
section
variable{P:aX}{w:aN}{A:be}{E:ak->aq->Prop}{s:aq}
theorem Ss{κ:KeyKind}(hO:κ.OneLt){a:af}{vs:List ak}{n:Nat}{F:Fin->aq->Prop}(ho:s.heap.get? a=aa (lG "list" vs.toArray n))(h0:KeysOf κ (pairsOf vs)) (mS:∀ v₁ v₂ rest,vs=v₁::v₂::rest->keyKind' (v₁::v₂::rest).toArray=pure oneType') (hz:vs.length<=1000000)(h:∀ aA:bU,(arrOf aA).Perm (pairsOf vs)->SortedToK κ (arrOf aA) (pairsOf vs).size->F (.done (.ret .none)) { s with heap:=sortedHeap s.heap a vs ((arrOf aA).map (·.2)) }) : ax (ay P w) A (Builtin.«list.sort» ⟨[.ref a],[]⟩) F E s:=by
 by_cases iS:vs.length<64
 ·exact list_sort_treeK hO ho h0 mS iS h
 obtain⟨v₁,v₂,rest,rfl⟩:∃ v₁ v₂ rest,vs=v₁::v₂::rest:=by
  match vs,iS with
  | [],iS=>simp at iS
  | [_],iS=>simp at iS
  | v₁::v₂::rest,_=>exact⟨v₁,v₂,rest,rfl⟩
 rw[list_sort_plain];have ha:a<s.heap.objs.size:=bC ho;have hl:(v₁::v₂::rest).length<=bp:=lA (xV hz);refine ar (listItems_at ho rfl ?_);refine ar (C_ ho rfl ?_);obtain⟨e1,mT⟩:∃ e1,(s.heap.update a (o9 λ_=>#[])).get? a=aa (lG "list" #[] e1):=⟨_,get?_update_seq ho (λ_=>#[])⟩
 refine ar (seqEpoch_at mT rfl ?_);refine ar (wpAny_newTuple ?_ (hsz:=by rw[J1]; exact hl));refine ar (wpAny_newList ?_);refine lF ?_;have ho6:(((s.heap.update a (o9 λ_=>#[])).push (lG "tuple" (v₁::v₂::rest).toArray 0)).push (lG "list" #[] 0)).get? a=aa (lG "list" #[] e1):=by rw[Heap.get?_push_ne _ _ _ (by rw[jY,JR]; exact c7 (mJ ha)),Heap.get?_push_ne _ _ _ (by rw[JR]; exact c7 ha)];exact mT
 show ax (ay P w) A _ F E { s with heap:=((s.heap.update a (o9 λ_=>#[])).push (lG "tuple" (v₁::v₂::rest).toArray 0)).push (lG "list" #[] 0) };dsimp only;have h2:¬ (v₁::v₂::rest).toArray.size<2:=by simp
 rw[if_neg h2,if_neg h2,mS _ _ _ rfl];refine ar (aD ?_);refine ar (dW (L0 (κ:=κ) hO (st:=SortSt.mk' oneType' ((v₁::v₂::rest).toArray.zip (v₁::v₂::rest).toArray) #[] 7 ae) (Q:=λ_ aA=>SB aA/\(arrOf aA).toList.Perm (pairsOf (v₁::v₂::rest)).toList/\Run κ (arrOf aA) 0 (pairsOf (v₁::v₂::rest)).size) ⟨rfl,rfl⟩ (KeysOf.all h0) rfl λaA a1 a2 a3=>⟨a1,a2,a3⟩) ?_ λ_ _ e=>e);rintro⟨⟨⟩,aA⟩ s' ⟨rfl,hb,hp,hs⟩;have iP:(arrOf aA).Perm (pairsOf (v₁::v₂::rest)):=J0.mpr hp;dsimp only;refine ar (seqEpoch_at ho6 rfl ?_);refine ar (C_ ho6 rfl ?_ (hsz2:=by refine cI (mD ((Array.size_map ..).trans (iP.size_eq.trans (pairsOf_size _)))) (Nat.le_succ_of_le hl)));rw[show failedOf aA=ae from hb.failed];simp only[bne_self_eq_false,pe,if_false];exact aD (h aA iP (hs.sortedTo (by rw[iP.size_eq]; exact bi _)))
theorem Gw{v:ak}{Q:ak->aq->Prop}(hc:ax (ay P w) A.in1 (collect v) (λvs s1=>∃ ss:List Str,d7 vs ss/\vs.length<=1000000/\∀ (h':aE) (out:Array ak) (aR:List Str) (e:Nat),(∀ b o,s1.heap.get? b=aa o->h'.get? b=aa o) -> h'.get? s1.heap.objs.size=aa (lG "list" out e)->d7 out.toList aR->aR.Perm ss->sortedS aR=ai->Q (.ref s1.heap.objs.size) { s1 with heap:=h' }) E s) : ax (ay P w) A (call (.builtin "sorted") [v]) Q E s:=by refine Calls.call_function_entry kind_sorted plain_sorted entry_sorted (args_sorted1 _) ?_;unfold Builtin.«sorted»;refine ar (m:=checkCount "sorted" 1 1 _) (aD ?_);refine ar (aU hc λvs s1 ⟨ss,hS,iS,fin⟩=>?_);refine ar (wpAny_newList ?_);have wp:(s1.heap.push (lG "list" vs.toArray 0)).get? s1.heap.objs.size=aa (lG "list" vs.toArray 0):=dz _ rfl;refine ar (lF (vJ slot_list_sort ⟨_,wp,rfl⟩ entry_list_sort (Ss strKind_oneLt wp hS.keysOf (λa b c e=>keyKind_strs (by rw[← e]; exact hS)) iS λaA hp hs=>⟨_,rfl,?_⟩) (args_list_sort _)));obtain⟨aR,a1,a2,a3⟩:=sorted_out_str hS hp hs;obtain⟨e,he⟩:=sortedHeap_at (out:=(arrOf aA).map (·.2)) wp;refine aD ⟨_,rfl,fin _ _ aR e (λb o hb=>?_) he a1 a2 a3⟩;have br:b<s1.heap.objs.size:=bC hb;rw[sortedHeap_old (c7 br) (by rw[jY]; exact mJ br)];exact bK _ hb
end
section
variable{X:Cx}
theorem Inv.sorted2{ah:List (af×Obj)}{σ:St}{H:Hp}{s1:aq}{ls:List Tx}{ss aR:List Str}{h':aE}{out:Array ak}{e:Nat}(I:Inv X ah σ H s1)(hl:ss=ls.map tS)(iS:ls.length<=1000000)(k:∀ b o,s1.heap.get? b=aa o->h'.get? b=aa o) (ho:h'.get? s1.heap.objs.size=aa (lG "list" out e)) (a1:d7 out.toList aR) (a2:aR.Perm ss) (a3:sortedS aR=ai) : Inv X ah σ (upd H s1.heap.objs.size (.lst (c0 (bu ls)))) { s1 with heap:=h' }:=by
 have e1:aR.map (λz=>z.cps.toList)=bu ls:=by
  refine oV ?_ (IL a3);have:=a2.map λz=>z.cps.toList;rw[hl,eE]at this;have e2:(ls.map ((λz:Str=>z.cps.toList) ∘ tS))=ls:=by simp[JD,oU]
  rw[e2]at this;exact this
 have hv:bI (c0 (bu ls)) out.toList:=by rw[← e1]; exact uW a1
 refine I.laid (t':=s1.toks) k (bi _) ⟨?_,out.toList,e,hv,?_⟩
 ·rw[yK,BB];exact lA (xV ∅)
 ·rw[JE]; exact ho
theorem Ah:gL X (.builtin "sorted") (λxs H Q=>∃ (p:af) (ls:List Tx),xs=[.ref p]/\(ce X.K H p (c0 ls)\/dj X.K H p (c0 ls))/\ls.length<=1000000/\∀ l,H l=ae->Q (.ref l) (upd H l (.lst (c0 (bu ls))))):=by
 intro ah s σ H xs us Q I r h;obtain⟨p,ls,rfl,hq,iS,q⟩:=h;obtain⟨u,rfl,ru⟩:=vals1 r;cases ru;have core:∀ (T:String) (o:Obj) (its:List ak) (n:Nat),(T = "list"\/T = "tuple")->s.heap.get? p=aa o->o.cls = .type T->o.data = .seq its.toArray n->bI (c0 ls) its ->
   ax (ay X.prog X.w) X.A (call (.builtin "sorted") [Value.ref p]) (EP X ah σ Q) X.xe s:=λT o its n hT ho hc hd rv=>by
  have hl:=rv.length;rw[yK]at hl;have h1000:=xV (n:=its.length) ∅;refine Gw (wpAny_collect_seq p hT ho hc hd (λh1 k1=>?_) (by rw[dA]; lia));have I1:=I.kept (t':=s.toks) k1;refine⟨_,zX rv,by rw[J1]; lia,λh' out aR e k ho a1 a2 a3=>?_⟩;exact⟨.ref _,_,Inv.sorted2 I1 rfl iS k ho a1 a2 a3,rfl,q _ I1.fresh⟩
 rcases hq with hq | hq
 ·obtain⟨its,rv,pl,hz⟩:=I.list hq;obtain⟨o,e,hc,n,hd⟩:=pl.isList;exact core "list" o its n (.inl rfl) e hc hd rv
 ·obtain⟨its,rv,⟨o,e,hc,n,hd⟩,hz⟩:=I.tuple hq;exact core "tuple" o its n (.inr rfl) e hc hd rv
end
end L2
namespace Pu
open L2
section
variable{X:Cx}{K:az}
def lp:List PV->Option PO
 | [.lst xs]=>(gA xs).bind λls=>if ls.length<=1000000 then aa (.lst (am (bu ls)))else ae
 | [.tup xs]=>(gA xs).bind λls=>if ls.length<=1000000 then aa (.lst (am (bu ls)))else ae
 | _=>ae
theorem B5:pN K (λxs H Q=>∃ (p:af) (ls:List Tx),xs=[.ref p]/\(ce K H p (c0 ls)\/dj K H p (c0 ls))/\ls.length<=1000000/\∀ l,H l=ae->Q (.ref l) (upd H l (.lst (c0 (bu ls))))) lp:=λF H xs vs Q po hF rs e q=>by
 have fin:∀ {ys:List PV} {us:List V} {a:af},((gA ys).bind λls=>if ls.length<=1000000 then aa (PO.lst (am (bu ls)))else ae)=aa po->bo K H F ys us->(ce K H a us\/dj K H a us) ->
   ∃ (p:af) (ls:List Tx),[V.ref a]=[.ref p]/\(ce K H p (c0 ls)\/dj K H p (c0 ls))/\ls.length<=1000000/\∀ l,H l=ae->Q (.ref l) (upd H l (.lst (c0 (bu ls)))):=λ{ys us a} e ra hs=>by
  cases q1:gA ys with
  | none=>rw[q1]at e; cases e
  | some ls=>
   rw[q1]at e;simp only[gI]at e;split at e
   ·rename_i iS;cases e;rw[ui q1]at ra;obtain⟨rfl,hm⟩:=UF.mp ra;refine⟨a,ls,rfl,hs,iS,λl hl=>q l F _ _ (Al.new0 hl) (xJ hl (UF.mpr ⟨rfl,λx hx=>hm x ((iU ls).mem_iff.mp hx)⟩)) (x_ hl hF trivial)⟩
   ·cases e
 unfold lp at e;split at e
 ·obtain⟨v,rfl,a,us,rfl,ha,_,ra⟩:=iH rs;exact fin e ra (.inl (.inl ha))
 ·obtain⟨v,rfl,a,us,rfl,ha,ra⟩:=iH rs;exact fin e ra (.inr (dj.of ha))
 ·cases e
end
theorem MD(H:Hp)(p:af)(a b:HO):L2.upd (L2.upd H p a) p b=L2.upd H p b:=by
 funext q;by_cases h:q=p
 ·subst h; rw[cz,cz]
 ·rw[cn h,cn h,cn h]
end Pu
namespace L2
section
variable{P:aX}{w:aN}{A:be}{E:ak->aq->Prop}{s:aq}
theorem Mg{I a:af}{es:Array (Int×ak)}{ep:Nat}{t:gG}(cP:a≠I)(hf:t.fits es.size=ai)(hb:df w=ao)(h1:es.size=0)(hh:A.handled=ae) : Walks P w A I [I,a] [I] 0 (λi v=>(es.toList.map (·.2))[i]?=aa v) (λi h=>h.get? I=aa (jm (eN 0) 0 a es.size ep)/\h.get? a=aa (qc es ep t)):=by
 have he:es = #[]:=Array.eq_empty_of_size_eq_zero h1;have body:∀ (s:aq) (slot:Nat) (i:Nat) (Q:Option (ak×Nat)->aq->Prop) (E:ak->aq->Prop),s.heap.get? a=aa (qc es ep t) ->
   Q ae s->ax (ay P w) A.in1 (nW a slot i ep) Q E s:=λs slot i Q E ha hq=>by
  unfold nW;refine ar (iw ha rfl hf ?_);unfold nY;refine ar (ar (k8 (aD ?_)));show ax _ _ (if df w=ai then _ else _) _ _ s;rw[if_neg (by rw[hb]; decide)];refine gs (λhc=>absurd (show(!t.plain && decide (es.size > 1))=ai from hc) (by rw[h1]; simp)) (λ_=>?_);refine ar ?_;refine dW (Q:=λ_ s'=>s'=s) (E:=E) ?_ (λ_ s' wC=>?_) (λ_ _ x=>x)
  ·refine gs (λhc=>absurd (show(!t.led && !es.isEmpty)=ai from hc) (by rw[he]; simp)) (λ_=>aD rfl)
  ·subst wC;rw[he];have e2:∀ k:Nat,(#[]:Array (Int×ak))[k]?=ae:=λk=>by simp
   dsimp only;rw[e2];exact aD hq
 refine⟨λb hb=>by simp at hb; simp[hb],λi h h' st k=>⟨k I (by simp) _ st.1,k a (by simp) _ st.2⟩,λi s Q E hi st hQ=>absurd hi (zn i),λs Q E st hQ=>?_,λi s Q E st hQ=>wU st.1 hQ⟩;refine pR st.2 hf st.1 ?_;show ax _ _ (nW a (0:Int).toNat ((0:Nat):Int).toNat (ep:Int).toNat >>= _) _ _ s;simp only[mG,Int.toNat_zero];refine ar (body s 0 0 _ _ st.2 ?_);dsimp only;refine ar (xQ st.1 λh1 jH _=>?_);exact xg (s:={ s with heap:=h1 }) hh λh2 k2=>hQ h2 s.toks λb o hb e=>k2 b o ((jH.2 b (by simpa using hb)).trans e)
theorem S9{a:af}{ks:List Str}{Q:ak->aq->Prop}(S:b7 P w s.heap a ks)(h:∀ s' I fp n Pv St,G5 P w s s' a I ks fp n Pv St->Q (.ref I) s'):ax (ay P w) A (o5 (.ref a)) Q E s:=by
 obtain⟨es,ep,t,ss,ho,hS,hp,fR,hsz,hf,g9,dI⟩:=S.ex;have hT:s.TypeIs (.ref a) "set":=⟨_,ho,rfl⟩
 have ge:=bC ho;have ordP:∀ l:List (Int×ak),l.Perm es.toList->∃ aR,d7 (l.map (·.2)) aR/\aR.Perm ks:=λl pl=>by obtain⟨aR,q1,q2⟩:=uz (pl.map (λe:Int×ak=>e.2)) hS;exact⟨aR,q1,q2.trans hp⟩
 refine wpAny_pyIter_slot hT F.slot_set_iter (vJ F.slot_set_iter hT KI ?_ (F.args_set_iter_1 _));unfold Builtin.«frozenset.__iter__» Builtin.Frozenset.slot0 slotArgs Builtin.Frozenset.addrOf J2;refine ar (aD ?_);refine ar (ar (CZ ho rfl hf (aD ?_)));unfold setDrawn;refine ar (ar (iw ho rfl hf ?_));unfold nY;refine ar (ar (k8 (aD ?_)));refine aD ?_;have fin:∀ (first:ak) (s1:aq) (fp:List af) (n:Nat) (Pv:Nat->ak->Prop) (St:Nat->aE->Prop),s1.heap.get? a=aa { cls:=.type "set",dict:=ae,data:=.set es ep t } ->
   G5 P w s { s1 with heap:=s1.heap.push (jm first 0 a es.size ep) } a s1.heap.objs.size ks fp n Pv St ->
   ax (ay P w) A.in1 (do
    let e ← setEpoch a
    let f ← newFields "set_iterator" [first,eN 0,Value.ref a,eN (es.size:Nat),eN (e:Nat)]
    ret f) (λfin s'=>∃ v,fin=Fin.done (Flow.ret v)/\∃ T' r,s'.TypeIs v T'/\typeLookup (Value.type T') (CB "__next__")=pure (aa r)/\Q v s') E s1:=λfirst s1 fp n Pv St ha W=>by
  refine ar (zF ha rfl hf ?_);refine ar (mH ?_);exact aD ⟨_,rfl,"set_iterator",_,⟨_,dz _ rfl,rfl⟩,Fp.lookup,h _ _ fp n Pv St W⟩
 refine gs (λhc=>?_) (λhc=>?_)
 ·have iz:(!df w && (!t.plain && decide (es.size > 1)))=ai:=hc;refine ar (FK es.size (bQ es.size) s _ (by simp) λys d hy=>?_);refine ar (wpAny_newTuple ?_ (hsz:=by rw[cD,hy.length_eq,List.length_range]; exact lA (Ip ∅)));refine fin _ _ _ _ _ _ (bK _ ho) ⟨λA' hA=>TY (T:=s.heap.objs.size) (c7 (by rw[jY]; exact mJ ge)) (c7 (by rw[jY]; exact mE _)) hf hy hA,⟨dz _ rfl,?_,?_⟩,?_,?_,?_,rfl,?_,hsz,?_⟩
  ·exact bK _ (bK _ ho)
  ·exact bK _ (dz _ rfl)
  ·exact λb o e=>bK _ (bK _ e)
  ·rw[jY]; exact zt _
  ·intro b hb;simp only[cb,kn,or_false]at hb;rw[jY,jY];rcases hb with rfl | rfl | rfl
   ·rw[jY]; exact mE _
   ·exact mJ (mJ ge)
   ·exact mJ (mE _)
  ·intro au lM;have e0:(ys.filterMap λj=>(es[j]?).map (·.2))=(ys.filterMap λj=>es[j]?).map (·.2):=by rw[List.map_filterMap]
   have pl:(ys.filterMap λj=>es[j]?).Perm es.toList:=by have:=hy.filterMap λj=>es[j]?;rwa[filterMap_getElem?_range]at this
   rw[e0]at lM;rw[yj (by rw[cD,pl.length_eq]; simp) lM];exact ordP _ pl
  ·intro b hb;simp only[cb,kn,or_false]at hb;rcases hb with rfl | rfl | rfl
   ·rw[jY]; exact .inr (zt _)
   ·exact .inl rfl
   ·exact .inr (bi _)
 ·have iz:¬ (!df w && (!t.plain && decide (es.size > 1)))=ai:=hc;refine ar (aD ?_);cases hb:df w with
  | true=>
   refine fin _ _ _ _ _ _ ho ⟨λA' hA=>P6 (c7 ge) hf hb hA,⟨dz _ rfl,bK _ ho⟩,λb o e=>bK _ e,bi _,?_,rfl,?_,hsz,λb hb=>?_⟩
   ·intro b hb;simp only[cb,kn,or_false]at hb;rw[jY];rcases hb with rfl | rfl
    ·exact mE _
    ·exact mJ ge
   ·intro au lM;have pl:=AD (w.params.setOrder a ep) es;rw[yj (by rw[cD,pl.length_eq]; simp) lM];exact ordP _ pl
   ·simp only[cb,kn,or_false]at hb;exact hb.elim (λz=>.inr (mD z.symm)) .inl
  | false=>
   have h01:es.size=1\/es.size=0:=by
    by_cases hk:ks=[]
    ·right;have e1:=hp.length_eq;have e2:ss.length=es.size:=by rw[← hS.strs]; simp
     rw[hk,tj]at e1;lia
    ·rw[hb,dI hk]at iz;simp at iz;lia
   rcases h01 with h1 | h1
   ·refine fin _ _ _ _ _ _ ho ⟨λA' hA=>LW (c7 ge) hf hb (by rw[g9,hb]; rfl) h1 hA,⟨dz _ rfl,bK _ ho⟩,λb o e=>bK _ e,bi _,?_,rfl,?_,by decide,λb hb=>?_⟩
    ·intro b hb;simp only[cb,kn,or_false]at hb;rw[jY];rcases hb with rfl | rfl
     ·exact mE _
     ·exact mJ ge
    ·intro au lM;rw[yj (by simp[h1]) lM];exact ordP _ (mI _)
    ·simp only[cb,kn,or_false]at hb;exact hb.elim (λz=>.inr (mD z.symm)) .inl
   ·refine fin _ _ _ _ _ _ ho ⟨λA' hA=>Mg (c7 ge) hf hb h1 hA,⟨dz _ rfl,bK _ ho⟩,λb o e=>bK _ e,bi _,?_,rfl,?_,by decide,λb hb=>?_⟩
    ·intro b hb;simp only[cb,kn,or_false]at hb;rw[jY];rcases hb with rfl | rfl
     ·exact mE _
     ·exact mJ ge
    ·intro au lM;rw[yj (by simp[h1]) lM];exact ordP _ (mI _)
    ·simp only[cb,kn,or_false]at hb;exact hb.elim (λz=>.inr (mD z.symm)) .inl
theorem OB{a:af}{ks:List Str}{Q:List ak->aq->Prop}(hh:A.handled=ae)(S:b7 P w s.heap a ks)(h:∀ (s':aq) (vs:List ak) (ss:List Str),d7 vs ss->ss.Perm ks->vs.length<4090->(∀ b o,s.heap.get? b=aa o->s'.heap.get? b=aa o)->s'.gens=s.gens->s'.os=s.os->Q vs s'):ax (ay P w) A (collect (.ref a)) Q E s:=by
 obtain⟨es,ep,t,_,ho,_⟩:=S.ex;have ge:=bC ho;unfold collect;refine ar (wpAny_runValue (vP F.entry_proto_collect ?_));rw[zx F.plain_proto_collect _];show ax _ A.in1 (newList [] >>= λl=>again (.builtin "list.__iadd__" ⟨[l,.ref a],[]⟩)) _ _ s;refine ar (mH ?_);refine aD ⟨CW F.plain_list_iadd _,vP F.entry_list_iadd ?_⟩;rw[zx F.plain_list_iadd _];show ax _ A.in1 (Builtin.List.listExtendWith (.ref s.heap.objs.size) (.ref a) (.ref s.heap.objs.size)) _ _ _;unfold Builtin.List.listExtendWith;have hT:∀ s1:aq,s1.heap.get? a=aa { cls:=.type "set",dict:=ae,data:=.set es ep t }->s1.TypeIs (.ref a) "set":=λs1 e=>⟨_,e,rfl⟩
 have mT:(s.heap.push { cls:=.type "list",data:=.seq ([]:List ak).toArray }).get? a=aa { cls:=.type "set",dict:=ae,data:=.set es ep t }:=bK _ ho;refine ar (wpAny_typeOf (hT _ mT) ?_);have h1:Builtin.List.listSameRef (.ref s.heap.objs.size) (.ref a)=ao:=by have:¬ (s.heap.objs.size=a):=mC ge;simp[Builtin.List.listSameRef,this]
 rw[if_neg (by rw[h1]; decide)];refine ar (S9 (S.at λo e=>bK _ e) λs2 I fp n Pv St W=>?_);have pq:=W.old a _ mT;refine ar (lF ?_);unfold Builtin.List.listLengthHint;refine ar (wpAny_specialOf (hT _ pq) QY ?_)
 wp_delta
 refine ar (zy (T:="set") (b:=ai) (hT _ pq) (by rw[isSubtype_type]; kernel_rfl) ?_);show ax _ A.in1 (typeOf (Value.ref a) >>= _) _ _ _;refine ar (wpAny_typeOf (T:="set") (hT _ pq) ?_);refine aD ?_;rw[if_pos (by decide)];refine ar (k6 ?_);have hL:(s.heap.push { cls:=.type "list",data:=.seq ([]:List ak).toArray }).get? s.heap.objs.size=aa { cls:=.type "list",data:=.seq ([]:List ak).toArray }:=dz _ rfl;have hL2:=W.old _ _ hL;unfold Builtin.List.listTouch;refine ar (ar (C_ hL2 rfl ?_ (by decide) (by show 1<=bp+1; decide)));have hL3:=get?_update_seq hL2 (λa:Array ak=>a.push Value.none);refine C_ hL3 rfl ?_ (by show 1<=bp; decide) (by show 0<=bp+1; decide);have hL4:=get?_update_seq hL3 (λa:Array ak=>a.pop);have Ki:s.heap.objs.size∉fp:=λz=>by
  rcases W.fps _ z with q | q
  ·exact absurd ge (by rw[← q]; exact fk _)
  ·rw[jY]at q;exact absurd (mE _) (tL.mpr q)
 have k4:∀ b o,b≠s.heap.objs.size->s2.heap.get? b=aa o->(((s2.heap.update s.heap.objs.size (o9 λa=>a.push Value.none)).update s.heap.objs.size (o9 λa=>a.pop))).get? b=aa o:=λb o hb e=>by rw[Heap.get?_update_ne _ _ _ _ hb,Heap.get?_update_ne _ _ _ _ hb]; exact e
 have bV:St 0 (((s2.heap.update s.heap.objs.size (o9 λa=>a.push Value.none)).update s.heap.objs.size (o9 λa=>a.pop))):=(W.wk A.in1 hh).frame 0 _ _ W.st λb hb o e=>k4 b o (λz=>Ki (z ▸ hb)) e;refine aD ⟨CW F.plain_extend_loop _,codeAny_extend_loopS (W.wk A.in1 hh).toS (lA (Ip (by have:=W.len; lia))) _ Ki _ n 0 _ _ _ rfl (kY _) bV hL4 (ItemsOf.nil _) λs' acc' c' hm wB lM=>?_⟩;show ax _ A (load s.heap.objs.size >>= _) _ _ s';refine ar (wpAny_load wB ?_);obtain⟨ss,q1,q2⟩:=W.ord acc' lM;refine aD (h s' acc'.toList ss q1 q2 (by rw[gX,lM.1]; exact W.len) (λb o e=>?_) ?_ ?_)
 ·have br:=bC e;refine hm.heap b o (λhb=>?_) (k4 b o (c7 br) (W.old b o (bK _ e)));rcases cb.mp hb with z | z
  ·exact absurd br (by rw[z]; exact fk _)
  ·rw[gZ.mp z]at br;have:=W.new;rw[jY]at this;exact absurd br (tL.mpr (Nat.le_of_succ_le this))
 ·rw[hm.gens,W.rest]
 ·rw[hm.os,W.rest]
end
section
variable{X:Cx}
theorem Gz(hc:X.calm=ai):gL X (.builtin "sorted") (λxs H Q=>∃ (p:af) (ls:List Tx),xs=[.ref p]/\H p=aa (iD X p ls)/\ls.length<4000/\∀ l,H l=ae->Q (.ref l) (upd H l (.lst (c0 (bu ls))))):=by
 intro ah s σ H xs us Q I r h;obtain⟨p,ls,rfl,hq,iS,q⟩:=h;obtain⟨u,rfl,ru⟩:=vals1 r;cases ru;obtain⟨S,_,_⟩:=(show dS X.prog X.w H s.heap p (iD X p ls)from I.hok p _ hq)
 refine Gw (OB (wX (I.ok.hd hc)) S λs' vs ss a1 a2 a3 k eg eo=>?_);obtain⟨h',g',d',t',o'⟩:=s';obtain rfl:g'=s.gens:=eg;obtain rfl:o'=s.os:=eo;have I1:Inv X ah σ H { s with heap:=h',drawn:=d',toks:=t' }:=by have:=Inv.call (ch:=[]) I (g':=s.gens) (d':=d') (t':=t') (Un.kept (fs:=gx X.stack) (ex:=[]) k) (I.hok.kept k) I.bare (λb hb=>absurd hb (by simp));exact this
 refine⟨ss,a1,∅,λh2 out aR e k2 ho b1 b2 b3=>?_⟩;exact⟨.ref _,_,Inv.sorted2 (s1:={ s with heap:=h',drawn:=d',toks:=t' }) (ss:=ls.map tS) I1 rfl ∅ k2 ho b1 (b2.trans a2) b3,rfl,q _ I1.fresh⟩
end
theorem b7.perm{P:aX}{w:aN}{h:aE}{a:af}{ks ls:List Str}(S:b7 P w h a ks)(p:ks.Perm ls):b7 P w h a ls:=by obtain⟨es,ep,t,ss,e,h1,h2,h3,h4,h5,h6,h7⟩:=S.ex;exact⟨es,ep,t,ss,e,h1,h2.trans p,h3,h4,h5,h6,λz=>h7 λq=>z (by subst q; exact p.symm.eq_nil)⟩
section
variable{P:aX}{w:aN}{A:be}{E:ak->aq->Prop}{s:aq}
theorem qo(x y:Str)(t':Tok):(dQ P w).is x (.str y t')=decide (y=x):=by
 show qw x (.str y t')=_;rw[o6];simp[qw]
 try exact eq_comm
theorem Lk{a:af}{ks:List Str}{x:Str}{tk:Tok}{Q:Option Nat->aq->Prop}(S:b7 P w s.heap a ks)(h:∀ r:Option Nat,r.isSome=decide (x∈ks)->Q r s) : ax (ay P w) A (setFind a (.str x tk) ((dQ P w).hash x)) Q E s:=by
 obtain⟨es,ep,t,ss,ho,hS,hp,fR,hsz,hf,g9,dI⟩:=S.ex;have jc:(dQ P w).is x (.str x tk)=ai:=by rw[qo]; simp
 have hb:es.size<scanBound:=nS hsz (by decide);have memx:x∈ks↔∃ e∈es.toList,(dQ P w).is x e.2=ai:=by
  rw[← hp.mem_iff,yB hS x];constructor
  ·rintro⟨t',q⟩;obtain⟨e,he,ee⟩:=cO.mp q;exact⟨e,he,by rw[ee,qo]; simp⟩
  ·rintro⟨e,he,q⟩;obtain⟨y,t',ey⟩:=hS.all e.2 (cO.mpr ⟨e,he,rfl⟩);rw[ey,qo]at q;have:y=x:=of_decide_eq_true q;subst this;exact⟨t',cO.mpr ⟨e,he,ey⟩⟩
 unfold setFind setFindIn;refine ar (iw ho rfl hf ?_);dsimp only;rw[byScan_of (knd:=dQ P w) (x:=.str x tk) rfl hb fR];simp only[if_true];refine ar (k6 (ar (JH jc ho rfl hf fR ?_)));cases hr:List.findIdx? (λe=>(dQ P w).is x e.2) es.toList with
 | some j=>obtain⟨hj,wA,_⟩:=JI.mp hr;exact aD (h _ (by rw[decide_eq_true (memx.mpr ⟨_,JJ hj,wA⟩)]; rfl))
 | none=>refine aD (h _ ?_);rw[decide_eq_false λhm=>by obtain⟨e,he,q⟩:=memx.mp hm;have:=JK.mp hr e he;rw[q]at this;exact Bool.noConfusion this];rfl
structure qX(P:aX)(w:aN)(ks:List Str)(arr:Array (Int×ak)):Prop where
 ex:∃ ss:List Str,arr.toList.map (λe=>e.1)=ss.map (dQ P w).hash/\d7 (arr.toList.map (·.2)) ss/\ss.Perm ks
theorem EY:∀ {l:List (Int×ak)} {ss:List Str},ElemsOf (dQ P w) l->d7 (l.map (·.2)) ss->l.map (λe=>e.1)=ss.map (dQ P w).hash
 | [],[],_,_=>rfl
 | [],_::_,_,h=>by cases h
 | e::l,[],_,h=>absurd h.length (by simp)
 | e::l,x::ss,he,h=>by
  obtain⟨h1,v⟩:=e;cases h with
  | cons _ t hr=>obtain⟨⟨k,q1,q2⟩,_⟩:=he.head;rw[qo]at q1;have:x=k:=of_decide_eq_true q1;subst this;rw[d4,d4,EY he.tail hr,q2]
theorem qX.of{es arr:Array (Int×ak)}{ss ks:List Str}(hS:d7 (es.toList.map (·.2)) ss)(hp:ss.Perm ks)(fR:ElemsOf (dQ P w) es.toList)(p:arr.toList.Perm es.toList):qX P w ks arr:=by obtain⟨aR,q1,q2⟩:=uz (p.map (λe:Int×ak=>e.2)) hS;exact⟨aR,EY (fR.perm p) q1,q1,q2.trans hp⟩
theorem Ib{a:af}{ks:List Str}{Q:Array (Int×ak)->aq->Prop}(S:b7 P w s.heap a ks)(hq:df w=ai\/(∃ es ep t,s.heap.get? a=aa { cls:=.type "set",dict:=ae,data:=.set es ep t }/\(t.plain=ai\/es.size<=1)))(h:∀ arr,qX P w ks arr->Q arr s):ax (ay P w) A (setWalk a) Q E s:=by
 obtain⟨es,ep,t,ss,ho,hS,hp,fR,hsz,hf,g9,dI⟩:=S.ex;unfold setWalk;refine ar (iw ho rfl hf ?_);unfold nY;dsimp only;refine ar (ar (k8 (aD ?_)));show ax _ _ (if df w=ai then _ else _) _ _ s;cases hb:df w with
 | true=>rw[if_pos rfl];refine ar (k8 (aD ?_));exact h _ (qX.of hS hp fR (AD _ _))
 | false=>
  rw[if_neg (by decide)];have hq':t.plain=ai\/es.size<=1:=by
   rcases hq with hq | ⟨es',ep',t',e',q⟩
   ·rw[hb]at hq; cases hq
   ·rw[ho]at e'; cases e'; exact q
  refine gs (λhc=>absurd (show(!t.plain && decide (es.size > 1))=ai from hc) ?_) (λ_=>?_)
  ·rcases hq' with q | q
   ·rw[q]; simp
   ·rw[decide_eq_false ∅]; simp
  refine ar ?_;refine dW (Q:=λ_ s'=>s'=s) (E:=E) ?_ (λ_ s' wC=>?_) (λ_ _ x=>x)
  ·refine gs (λhc=>absurd (show(!t.led && decide (es.size > 1))=ai from hc) (by rw[g9,hb]; simp)) (λ_=>aD rfl)
  ·subst wC;exact aD (h _ (qX.of hS hp fR (mI _)))
theorem RT:∀ (sets:List af),(∀ b∈sets,∃ ls,b7 P w s.heap b ls)->∀ {Q:Bool->aq->Prop},Q ai s->ax (ay P w) A (setsQuiet sets) Q E s:=by
 intro sets hs Q hq;unfold setsQuiet;refine ar (dW (wpAny_forIn_list _ (λrest (c:Option Bool×Unit) s'=>s'=s/\c=(ae,())/\∀ b∈rest,b∈sets) (λc s'=>s'=s/\c=(ae,())) ?_ (λc s' h=>⟨h.1,h.2.1⟩) sets _ ⟨rfl,rfl,λb hb=>hb⟩) (λc s' hc=>?_) (λ_ _ x=>x))
 ·rintro b rest c s' ⟨rfl,rfl,hm⟩;obtain⟨ls,S⟩:=hs b (hm b (by simp));obtain⟨es,ep,t,ss,ho,hS,hp,fR,hsz,hf,g9,dI⟩:=S.ex;refine ar (CZ ho rfl hf ?_);refine ar (dW (wpAny_forIn_array' _ (λrest (c:Option Bool×Unit) s''=>s''=s'/\c=(ae,())/\∀ e∈rest,e∈es.toList) (λc s''=>s''=s'/\c=(ae,())) ?_ (λc s'' h=>⟨h.1,h.2.1⟩) es _ ⟨rfl,rfl,λe he=>he⟩) (λc s'' hc=>?_) (λ_ _ x=>x))
  ·rintro e r2 c2 s2 ⟨rfl,rfl,lW⟩;obtain⟨y,t',ey⟩:=hS.all e.2 (cO.mpr ⟨e,lW e (by simp),rfl⟩);obtain⟨h1,v⟩:=e;obtain rfl:v = .str y t':=ey;exact aD ⟨rfl,rfl,λe he=>lW e (by simp[he])⟩
  ·obtain⟨rfl,rfl⟩:=hc;exact aD ⟨rfl,rfl,λb hb=>hm b (by simp[hb])⟩
 ·obtain⟨rfl,rfl⟩:=hc;exact aD hq
theorem MN{a r:af}{ks:List Str}{others:List af}{Q:Array (Int×ak)->aq->Prop}(S:b7 P w s.heap a ks)(R:b7 P w s.heap r [])(oth:∀ b∈others,∃ ls,b7 P w s.heap b ls)(h:∀ h' arr,i_ r s.heap h'->b7 P w h' r []->qX P w ks arr->Q arr { s with heap:=h' }):ax (ay P w) A (Da a others (aa r)) Q E s:=by
 obtain⟨es,ep,t,ss,ho,hS,hp,fR,hsz,hf,g9,dI⟩:=id S.ex;obtain⟨er,epr,tr,sr,hor,hSr,hpr,helr,Kj,kw,Kf,hplr⟩:=id R.ex;unfold Da;refine ar (iw ho rfl hf ?_);unfold nY;dsimp only;refine ar (ar (k8 (aD ?_)));have same:∀ arr,qX P w ks arr->Q arr s:=λarr wk=>h s.heap arr (vM r s.heap) R wk;refine gs (λhc=>?_) (λhc=>?_)
 ·have iz:(df w || (t.led && t.plain) || decide (es.size<=1))=ai:=hc;refine Ib S ?_ same;simp only[zw,iu,decide_eq_true_eq]at iz;rcases iz with(z | z) | z
  ·exact .inl z
  ·exact .inr ⟨es,ep,t,ho,.inl z.2⟩
  ·exact .inr ⟨es,ep,t,ho,.inr z⟩
 ·refine ar (RT (a::others) (λb hb=>?_) ?_)
  ·rcases cb.mp hb with rfl | hb
   ·exact⟨_,S⟩
   ·exact oth b hb
  refine gs (λhc=>absurd hc (by decide)) (λ_=>?_);refine ar (k6 ?_);refine ar (iw hor rfl kw ?_);dsimp only;refine gs (λhc=>?_) (λhc=>?_)
  ·have hl:(tr.led && t.led)=tr.led:=by rw[Kf,g9]; cases df w <;> rfl
   have qL:({ tr with led:=tr.led && t.led,plain:=tr.plain && t.plain }:gG).fits er.size=ai:=kw;refine ar (tF hor rfl ?_ (vO (nS Kj (by decide))));refine aD (h _ _ (nV ..) ⟨er,epr+1,_,sr,b7.put hor,hSr,hpr,helr,Kj,qL,?_,λz=>absurd rfl z⟩ (qX.of hS hp fR (mI _)));show(tr.led && t.led)=_;rw[hl,Kf]
  ·refine aD ?_;exact same _ (qX.of hS hp fR (mI _))
theorem b7.ty{a:af}{ks:List Str}(S:b7 P w s.heap a ks):s.TypeIs (.ref a) "set":=by obtain⟨es,ep,t,ss,ho,_⟩:=S.ex;exact⟨_,ho,rfl⟩
theorem xk{a:af}{ks:List Str}{Q:Bool->aq->Prop}(S:b7 P w s.heap a ks)(h:Q ai s):ax (ay P w) A (Builtin.Frozenset.isAnySet (.ref a)) Q E s:=by unfold Builtin.Frozenset.isAnySet;refine ar (zy S.ty CY ?_);exact aD h
theorem xH{a:af}{ks:List Str}{Q:Nat->aq->Prop}(S:b7 P w s.heap a ks)(h:Q ks.length s):ax (ay P w) A (J2 a) Q E s:=by
 obtain⟨es,ep,t,ss,ho,hS,hp,fR,hsz,hf,g9,dI⟩:=S.ex;have klen:ks.length=es.size:=by
  have e1:=hp.length_eq;have e2:ss.length=es.size:=by rw[← hS.strs]; simp
  lia
 unfold J2;refine ar (CZ ho rfl hf (aD ?_));rw[← klen]; exact h
theorem MZ{Q:ak->aq->Prop}(h:∀ h',b7 P w h' s.heap.objs.size []->(∀ b o,s.heap.get? b=aa o->h'.get? b=aa o)->h'.objs.size=s.heap.objs.size+1->Q (.ref s.heap.objs.size) { s with heap:=h' }) : ax (ay P w) A (newSet (.type "set")) Q E s:=by unfold newSet nY;refine ar (ar (k8 (aD ?_)));dsimp only;simp only[newObj];refine ar (CK (aD (h _ ⟨#[],0,_,[],dz _ rfl,.nil,mI _,λe he=>by simp at he,by decide,rfl,rfl,λh=>absurd rfl h⟩ (λb o e=>bK _ e) (jY ..))))
end
section
variable{X:Cx}
theorem RV{ls:List Tx}(h:ls.Nodup):(ls.map tS).Nodup:=by rw[List.Nodup,CU];exact h.imp λne e=>ne (pQ e)
end
end L2
namespace Pu
open L2
section
variable{X:Cx}{E:XK}{pin:List Nat}{e e2:aC}{ds ds2:aj->R (List PV)}{pos p q pos' p4 q2 pos2:Pos}
theorem QB(l:List Tx):(ca l).Nodup:=by
 unfold ca;have:∀ (l au:List Tx),au.Nodup->(l.foldl (λks x=>if x∈ks then ks else ks++[x]) au).Nodup:=by
  intro l
  induction l with
  | nil=>exact λau h=>h
  | cons x l ih=>
   intro au h;rw[jz];refine ih _ ?_;split
   ·exact h
   ·rename_i hx;rw[zB];exact⟨h,by simp,λy hy z hz e=>by simp at hz; subst hz; subst e; exact hx hy⟩
 exact this l [] List.nodup_nil
def lr:List PV->Option PO
 | [.lst xs]=>(gA xs).bind λls=>if(ca ls).length<4000 then aa (.lst (am (bu (ca ls))))else ae
 | _=>ae
def Mc(X:Cx):List V->Hp->VK->Prop:=λxs H Q=>∃ (p:af) (ls:List Tx),xs=[.ref p]/\H p=aa (iD X p ls)/\ls.length<4000/\∀ l,H l=ae->Q (.ref l) (upd H l (.lst (c0 (bu ls))))
theorem L8:pN X.K (Qw X (Mc X)) lr:=λF H xs vs Q po hF rs e q=>by
 unfold lr at e;split at e
 ·obtain⟨v,rfl,a,us,rfl,ha,_,ru⟩:=iH rs;obtain⟨ls,e1,e2⟩:=Option.bind_eq_some_iff.mp e;rw[ui e1]at ru;obtain⟨rfl,hl⟩:=UF.mp ru;split at e2
  ·rename_i hh;cases e2;refine⟨a,ls,rfl,.inl ha,hh,λb hb=>⟨b,ca ls,rfl,cz,hh,λl kA=>?_⟩⟩;have hlb:l≠b:=by rintro rfl; rw[cz]at kA; cases kA
   have t_:H l=ae:=by rw[cn hlb]at kA; exact kA
   have al:Al F F H (upd (upd H b (iD X b (ca ls))) l (.lst (c0 (bu (ca ls))))):=(Al.new0 hb).trans (Al.new0 kA);refine q l F _ (λc=>c=l) al ⟨⟨_,cz,UF.mpr ⟨rfl,λx hx=>hl x ((ml _ _).mp ((iU _).mem_iff.mp hx))⟩⟩,λc=>tI⟩ λc z=>?_;subst z;exact⟨t_,λz=>Exists.elim (hF _ z) (λo w=>by rw[t_]at w; cases w),_,cz,trivial⟩
  ·cases e2
 ·cases e
theorem Ay(hc:X.calm=ai)(ha:DA X E [e] ds)(hm:X.mg "sorted" = ae)(lW:X.mg "set" = ae)(hg:Gl X "sorted":=by rfl)(hg2:Gl X "set":=by rfl)(h:mo e=ao:=by rfl) : DN X E (.Call (.Name "sorted" p) [.Call (.Name "set" q) [e] [] pos'] [] pos) (dL lr ds):=λF S ε σ H Q rl h'=>cT (sN (Gz hc) hg hm uN (kc (sB (AI hc) hg2 lW AQ im (by decide) (by decide) (jg h) rfl) mn (jg rfl)) (by decide) (by decide) (jg rfl) rfl) (yd L8 ha rl h')
def sx:List PV->Option (List Tx)
 | [.lst xs]=>(gA xs).bind λls=>if(ca ls).length<4000 then aa (ca ls)else ae
 | _=>ae
theorem Fd{H:Hp}{F:af->Prop}{xs:List PV}{vs:List V}{ls:List Tx}(rs:bo X.K H F xs vs)(e:sx xs=aa ls) : ∃ (p:af) (zs:List Tx),vs=[.ref p]/\ce X.K H p (c0 zs)/\(ca zs).length<4000/\ls=ca zs/\∀ x∈zs,x.length<=bB:=by
 unfold sx at e;split at e
 ·obtain⟨v,rfl,a,us,rfl,ha,_,ru⟩:=iH rs;obtain⟨zs,e1,e2⟩:=Option.bind_eq_some_iff.mp e;rw[ui e1]at ru;obtain⟨rfl,hl⟩:=UF.mp ru;split at e2
  ·cases e2; exact⟨a,zs,rfl,.inl ha,by assumption,rfl,hl⟩
  ·cases e2
 ·cases e
end
theorem NO:fq "max" = aa (.builtin "max"):=by decide +kernel
section
variable{K:az}{H:Hp}{F:af->Prop}
theorem rS.len{fs:List (Str×PV)}{ws:List (Str×V)}(h:rS K H F fs ws):ws.length=fs.length:=by
 unfold rS at h
 induction h with
 | nil=>rfl
 | cons _ _ ih=>simp[ih]
end
end Pu
namespace Mx
theorem Lx(p:Nat):∃ o,5 ^ (2 ^ p)=1+2 ^ (p+2) * (2 * o+1):=by
 induction p with
 | zero=>exact⟨0,by decide⟩
 | succ p ih=>
  obtain⟨o,h⟩:=ih;refine⟨o+2 ^ p * (2 * o+1) * (2 * o+1),?_⟩;rw[show 2 ^ (p+1)=2 ^ p * 2 from qG ..,Nat.pow_mul,h];rw[show(2:Nat) ^ (p+1+2)=8 * 2 ^ p from by rw[Nat.pow_add,qG]; lia,show(2:Nat) ^ (p+2)=4 * 2 ^ p from by rw[Nat.pow_add]; lia];generalize 2 ^ p=q
  grind
def F5:Nat->Nat->Nat
 | 0,x=>x
 | n+1,x=>F5 n (5 * x+1)
theorem Ld(m n x:Nat):F5 (m+n) x=F5 n (F5 m x):=by
 induction m generalizing x with
 | zero=>simp[F5]
 | succ m ih=>rw[zD]; exact ih _
theorem Ly(n x:Nat):4 * F5 n x+1=5 ^ n * (4 * x+1):=by
 induction n generalizing x with
 | zero=>simp[F5]
 | succ n ih=>show 4 * F5 n (5 * x+1)+1=_; rw[ih,qG]; grind
theorem Sz(p x:Nat):∃ o,F5 (2 ^ p) x=x+2 ^ p * (2 * o+1):=by
 obtain⟨o,h⟩:=Lx p;have c:=Ly (2 ^ p) x;rw[h,show(2:Nat) ^ (p+2)=4 * 2 ^ p from by rw[Nat.pow_add]; lia]at c;refine⟨o * (4 * x+1)+2 * x,?_⟩;generalize 2 ^ p=q at c;generalize F5 q x=y at c
 grind
theorem SD(p:Nat):∀ x y,y<2 ^ p->∃ n,n<2 ^ p/\F5 n x % 2 ^ p=y:=by
 induction p with
 | zero=>intro x y h; exact⟨0,by decide,by simp at h; subst h; simp[Nat.mod_one]⟩
 | succ p ih=>
  intro x y hy;obtain⟨n,hn,e⟩:=ih x (y % 2 ^ p) (qD _ (Nat.two_pow_pos p));have hp:(2:Nat) ^ (p+1)=2 * 2 ^ p:=by rw[qG]; lia
  obtain⟨o,j⟩:=Sz p (F5 n x);have pos:=Nat.two_pow_pos p;by_cases q:F5 n x % 2 ^ (p+1)=y
  ·exact⟨n,∅,q⟩
  ·refine⟨n+2 ^ p,∅,?_⟩;rw[Ld,j];rw[hp]at q hy ⊢;generalize 2 ^ p=N at *;generalize F5 n x=z at *;have h1:z % (2 * N) % N=z % N:=Nat.mod_mod_of_dvd _ ⟨2,∅⟩;have h2:(z+N * (2 * o+1)) % (2 * N)=(z+N) % (2 * N):=by rw[show z+N * (2 * o+1)=(z+N)+(2 * N) * o by grind,Nat.add_mul_mod_self_left]
   rw[h2];have hz:=qD z (show 2 * N > 0 by lia);have h3:(z+N) % (2 * N)=(z % (2 * N)+N) % (2 * N):=by rw[tN]; simp[tN,pf (show N<2 * N by lia)]
   rw[h3];generalize z % (2 * N)=u at *;rw[← h1]at e;have a1:=Nat.div_add_mod u N;have a2:=Nat.div_add_mod y N;have b1:u / N<2:=Nat.div_lt_of_lt_mul (by rw[zG]; exact hz);have b2:y / N<2:=Nat.div_lt_of_lt_mul (by rw[zG]; exact hy);rw[e]at a1;generalize u / N=uq at a1 b1;generalize y / N=yq at a2 b2;have m1:=qD y pos;rcases(show uq=0\/uq=1 by lia)with c1 | c1 <;> rcases(show yq=0\/yq=1 by lia)with c2 | c2 <;> subst c1 <;> subst c2 <;> simp only[Nat.mul_zero,Nat.mul_one,nZ]at a1 a2
   ·exact absurd (a1.symm.trans a2) q
   ·rw[pf ∅]; lia
   ·rw[show u+N=y+2 * N by lia,Nat.add_mod_right,pf ∅]
   ·exact absurd (a1.symm.trans a2) q
end Mx
namespace L2
open Mx
def iL(mask:Nat):Nat->Nat->Nat->Nat×Nat
 | 0,i,p=>(i,p)
 | n+1,i,p=>iL mask n (SetTable.leap mask i p).1 (SetTable.leap mask i p).2
theorem Fc(mask:Nat):∀ (m n i p:Nat),iL mask (m+n) i p=iL mask n (iL mask m i p).1 (iL mask m i p).2
 | 0,n,i,p=>by rw[nZ]; rfl
 | m+1,n,i,p=>by rw[zD]; exact Fc mask m n _ _
theorem Hf(mask:Nat):∀ (m i p:Nat),(iL mask m i p).2=p / 32 ^ m
 | 0,i,p=>by simp[iL]
 | m+1,i,p=>by show(iL mask m _ _).2=_;rw[Hf mask m];show p / 32 / 32 ^ m=_;rw[Nat.div_div_eq_div_mul,qG,zG]
theorem G8(mask:Nat):∀ (n i:Nat),(iL mask n i 0).1 % (mask+1)=F5 n i % (mask+1)
 | 0,i=>rfl
 | n+1,i=>by show(iL mask n ((i * 5+1+0 / 32) % (mask+1)) (0 / 32)).1 % _=F5 n (5 * i+1) % _;rw[show 0 / 32=0 from rfl,G8 mask n,Nat.add_zero,zG i 5];exact F5_mod n (mask+1) (5 * i+1)
where
 F5_mod:∀ (n N x:Nat),F5 n (x % N) % N=F5 n x % N
  | 0,N,x=>by simp[F5]
  | n+1,N,x=>by show F5 n (5 * (x % N)+1) % N=F5 n (5 * x+1) % N;rw[← F5_mod n N (5 * (x % N)+1),← F5_mod n N (5 * x+1)];congr 2;rw[tN,Nat.mul_mod,Nat.mod_mod,← Nat.mul_mod,← tN]
theorem Iv(mask:Nat):∀ (n i p:Nat),(iL mask (n+1) i p).1<mask+1
 | 0,i,p=>qD _ (Nat.succ_pos _)
 | n+1,i,p=>Iv mask n _ _
theorem ES{mask:Nat}{owner:Array (Option Nat)}:∀ (bx i p:Nat),(∃ t,t<bx/\(owner.getD (iL mask t i p).1 (aa 0)).isNone=ai)->∃ j,vW mask owner bx i p=aa j/\(owner.getD j (aa 0)).isNone=ai
 | 0,i,p,⟨t,h,_⟩=>absurd h (zn _)
 | bx+1,i,p,⟨t,h,e⟩=>by
  unfold vW;cases q:(bQ (SetTable.runEnd mask i+1-i)).find? (λk=>(owner.getD (i+k) (aa 0)).isNone)with
  | some k=>exact⟨i+k,rfl,by have:=List.find?_some q; exact this⟩
  | none=>
   cases t with
   | zero=>have:=zH.mp q 0 (by rw[nK]; unfold SetTable.runEnd; split <;> lia);exact absurd (show(owner.getD (i+0) (aa 0)).isNone=ai from e) this
   | succ t=>exact ES bx _ _ ⟨t,∅,e⟩
theorem Li{mask q:Nat}{owner:Array (Option Nat)}(hm:mask+1=2 ^ q)(hs:owner.size=mask+1){y:Nat}(hy:y<owner.size)(he:owner[y]?=aa ae)(i p:Nat)(hp:p<2 ^ 64) : ∃ j,vW mask owner (vX mask) i p=aa j/\owner[j]?=aa ae:=by
 obtain⟨n,hn,e⟩:=SD q (iL mask 13 i p).1 y (by rw[← hm,← hs]; exact hy);have h0:(iL mask 13 i p).2=0:=by rw[Hf];exact Nat.div_eq_of_lt (fQ hp (by decide))
 have br:(iL mask (13+n) i p).1<mask+1:=by rw[show 13+n=(12+n)+1 by lia]; exact Iv mask _ _ _
 have e1:(iL mask (13+n) i p).1=y:=by
  have e2:(iL mask (13+n) i p).1 % (mask+1)=y:=by rw[Fc,h0,G8,hm]; exact e
  rwa[pf br]at e2
 obtain⟨j,f1,f2⟩:=ES (mask:=mask) (owner:=owner) (vX mask) i p ⟨13+n,by unfold vX; lia,by rw[e1,J3,he]; rfl⟩;refine⟨j,f1,?_⟩;rw[J3]at f2;cases hj:owner[j]? with
 | none=>rw[hj]at f2; cases f2
 | some o=>
  rw[hj]at f2;cases o with
  | none=>rfl
  | some v=>cases f2
theorem Iy:∀ (l:List (Option Nat)) (j k:Nat),l[j]?=aa ae->((l.set j (aa k)).filterMap id).Perm (k::l.filterMap id)
 | [],j,k,h=>by simp at h
 | x::l,0,k,h=>by simp at h;subst h;simp
 | x::l,j+1,k,h=>by
  have ih:=Iy l j k (by simpa using h);cases x with
  | none=>simpa using ih
  | some v=>simp only[List.set_cons_succ,nM,id];exact(ih.cons v).trans (List.Perm.swap ..)
theorem Hg:∀ (l:List (Option Nat)),(∀ y,y<l.length->l[y]?≠aa ae)->(l.filterMap id).length=l.length
 | [],_=>rfl
 | x::l,h=>by
  have ih:=Hg l λy hy e=>h (y+1) (by simp; lia) (by simpa using e);cases x with
  | none=>exact absurd rfl (h 0 (by simp))
  | some v=>simp[ih]
def Laid(mask:Nat)(owner:Array (Option Nat))(k:Nat):Prop:=owner.size=mask+1/\(owner.toList.filterMap id).Perm (bQ k)
theorem Td{mask q k:Nat}{owner:Array (Option Nat)}(hm:mask+1=2 ^ q)(L:Laid mask owner k)(hk:k<mask+1)(h:Int) : ∃ j,vW mask owner (vX mask) (ph h % (mask+1)) (ph h)=aa j/\Laid mask (owner.setIfInBounds j (aa k)) (k+1):=by
 obtain⟨hs,hp⟩:=L;have:∃ y,y<owner.toList.length/\owner.toList[y]?=aa ae:=by
  by_cases z:∃ y,y<owner.toList.length/\owner.toList[y]?=aa ae
  ·exact z
  ·have:=Hg owner.toList λy hy e=>z ⟨y,hy,e⟩;have:=hp.length_eq;simp at this;simp at *;lia
 obtain⟨y,hy,he⟩:=this;have hb:ph h<2 ^ 64:=by unfold ph;have:=Db h (show(0:Int)<2 ^ 64 by decide);have:=Dc h (show(2 ^ 64:Int)≠0 by decide);lia
 obtain⟨j,f1,f2⟩:=Li hm hs (by simpa using hy) (by simpa using he) (ph h % (mask+1)) _ hb;refine⟨j,f1,by simpa using hs,?_⟩;rw[Array.toList_setIfInBounds,tw];exact(Iy owner.toList j k (by simpa using f2)).trans ((hp.cons k).trans (List.perm_append_singleton ..).symm)
theorem S7{mask q:Nat}(hm:mask+1=2 ^ q)(Ur:Array Int)(hn:Ur.size<=mask):∃ owner,JG mask Ur=aa owner/\Laid mask owner Ur.size:=by
 unfold JG;have gen:∀ (l:List Int) (owner:Array (Option Nat)) (k:Nat),Laid mask owner k->k+l.length<=mask+1->∃ owner',l.foldl (λau h=>do
   let (owner,k) ← au
   let j ← vW mask owner (vX mask) (ph h % (mask+1)) (ph h)
   pure (owner.setIfInBounds j (aa k),k+1)) (aa (owner,k))=aa (owner',k+l.length)/\Laid mask owner' (k+l.length):=by
  intro l
  induction l with
  | nil=>intro owner k L _; exact⟨owner,rfl,L⟩
  | cons h l ih=>intro owner k L hk;simp only[eD]at hk;obtain⟨j,f1,L2⟩:=Td hm L ∅ h;obtain⟨owner',e,L3⟩:=ih _ _ L2 ∅;refine⟨owner',?_,by rw[eD,show k+(l.length+1)=k+1+l.length by lia]; exact L3⟩;rw[jz];show l.foldl _ ((vW mask owner (vX mask) (ph h % (mask+1)) (ph h)).bind λj=>aa (owner.setIfInBounds j (aa k),k+1))=_;rw[f1,eD,show k+(l.length+1)=k+1+l.length by lia];exact e
 obtain⟨owner',e,L⟩:=gen Ur.toList (Array.replicate (mask+1) ae) 0 ⟨by simp,by simp⟩ (by simp; lia);refine⟨owner',?_,by simpa using L⟩;rw[← Array.foldl_toList];have e':=congrArg (Option.map (·.1)) e;exact e'
theorem R0(n:Nat)(hn:n<2 ^ 60):∃ q,nU n=2 ^ q/\n<nU n/\(nU n<=2 * n\/nU n=8)/\8<=nU n:=by
 have gen:∀ (bx size:Nat),(∃ q,size=2 ^ q)->(size<=2 * n\/size=8)->8<=size->n<size * 2 ^ bx->∃ q,vY n bx size=2 ^ q/\n<vY n bx size/\(vY n bx size<=2 * n\/vY n bx size=8)/\8<=vY n bx size:=by
  intro bx
  induction bx with
  | zero=>intro size ⟨q,hq⟩ h1 h8 h2; exact⟨q,hq,by show n<size; simpa using h2,h1,h8⟩
  | succ bx ih=>
   intro size ⟨q,hq⟩ h1 h8 h2;unfold vY;split
   ·refine ih (size * 2) ⟨q+1,by rw[hq,qG]⟩ (.inl ∅) ∅ ?_;rw[qG]at h2;rw[Nat.mul_assoc,zG 2]; exact h2
   ·rename_i h;exact⟨q,hq,∅,h1,h8⟩
 exact gen 64 8 ⟨3,rfl⟩ (.inr rfl) (bi _) (fQ hn (by decide))
theorem FH{mask q finger moves:Nat}{led plain:Bool}(hm:mask+1=2 ^ q)(es:Array (Int×ak))(hn:es.size<=mask) : ∃ (t:gG) (order:Array Nat),SetTable.laid mask finger moves led plain (es.map (·.1))=aa (t,order)/\order.toList.Perm (bQ es.size)/\t.fits es.size=ai/\t.led=led/\t.plain=plain/\t.dummies = #[]/\t.mask=mask/\t.place.size=es.size:=by
 obtain⟨owner,e,hs,hp⟩:=S7 hm (es.map (·.1)) (by simpa using hn);simp only[Array.size_map]at hp;have e2:((bQ (mask+1)).filterMap λj=>(owner.getD j ae).map (j,·)).map (·.2)=owner.toList.filterMap id:=by
  rw[List.map_filterMap];have:(λx=>Option.map (λx:Nat×Nat=>x.2) (Option.map (λx_1=>(x,x_1)) (owner.getD x ae)))=λj=>owner.getD j ae:=by
   funext j; cases owner.getD j ae <;> rfl
  rw[this,← hs];have gen:∀ (l:List (Option Nat)),(bQ l.length).filterMap (λj=>l.getD j ae)=l.filterMap id:=by
   intro l
   induction l with
   | nil=>rfl
   | cons x l ih=>
    rw[eD,qC,nM,Jv,nM];have e3:((λj=>(x::l).getD j ae) ∘ Nat.succ)=λj=>l.getD j ae:=by funext j; simp
    rw[e3,ih];cases x <;> rfl
  have:=gen owner.toList;rw[gX]at this;rw[← this];congr 1;funext j;simp[J3,J4]
 have bY:((bQ (mask+1)).filterMap λj=>(owner.getD j ae).map (j,·)).length=es.size:=by rw[← cD (f:=λx:Nat×Nat=>x.2),e2];have:=hp.length_eq;simpa using this
 refine⟨_,_,by unfold SetTable.laid; rw[e]; rfl,?_,?_,rfl,rfl,rfl,rfl,?_⟩
 ·show(((bQ (mask+1)).filterMap λj=>(owner.getD j ae).map (j,·)).map (·.2)).toArray.toList.Perm _;rw[J1,e2]; exact hp
 ·unfold tG tO;simp only[dA,cD,bY];simp[hn]
 ·show(((bQ (mask+1)).filterMap λj=>(owner.getD j ae).map (j,·)).map (·.1)).toArray.size=_;rw[dA,cD,bY]
theorem Q_{es:Array (Int×ak)}{order:Array Nat}(h:order.toList.Perm (bQ es.size)):(order.filterMap (es[·]?)).toList.Perm es.toList:=by
 rw[Array.toList_filterMap];refine(h.filterMap _).trans ?_;have:(bQ es.size).filterMap (λx=>es[x]?)=es.toList:=by
  have gen:∀ l:List (Int×ak),(bQ l.length).filterMap (λx=>l[x]?)=l:=by
   intro l
   induction l with
   | nil=>rfl
   | cons x l ih=>
    rw[eD,qC,nM,Jv];have e3:((λj=>(x::l)[j]?) ∘ Nat.succ)=λj=>l[j]?:=by funext j; simp
    rw[e3,ih]; rfl
  have:=gen es.toList;rw[gX]at this;simpa using this
 rw[this]
section
variable{P:aX}{w:aN}{A:be}{E:ak->aq->Prop}{s:aq}
structure Bd(P:aX)(w:aN)(h:aE)(a:af)(ks:List Str)(es:Array (Int×ak))(ep:Nat)(t:gG)(ss:List Str):Prop where
 at_:h.get? a=aa { cls:=.type "set",dict:=ae,data:=.set es ep t }
 texts:d7 (es.toList.map (·.2)) ss
 perm:ss.Perm ks
 el:ElemsOf (dQ P w) es.toList
 sz:es.size<4090
 fits:t.fits es.size=ai
 led:t.led=(!df w)
 plain:t.plain=ao
 dum:t.dummies = #[]
 mask:7<=t.mask
theorem Bd.toS{h:aE}{a:af}{ks:List Str}{es:Array (Int×ak)}{ep:Nat}{t:gG}{ss:List Str}(x:Bd P w h a ks es ep t ss):b7 P w h a ks :=⟨es,ep,t,ss,x.at_,x.texts,x.perm,x.el,x.sz,x.fits,x.led,λ_=>x.plain⟩
theorem b7.len{h:aE}{a:af}{ks:List Str}{es:Array (Int×ak)}{ss:List Str}(hS:d7 (es.toList.map (·.2)) ss)(hp:ss.Perm ks):ks.length=es.size:=by
 have e1:=hp.length_eq;have e2:ss.length=es.size:=by rw[← hS.strs]; simp
 lia
theorem Te{a:af}{ks:List Str}{Q:ak->aq->Prop}(S:b7 P w s.heap a ks)(h8:8<=ks.length)(hk:ks.length<4000)(h:∀ h' es ep t ss,Bd P w h' s.heap.objs.size ks es ep t ss->(∀ b o,s.heap.get? b=aa o->h'.get? b=aa o)->Q (.ref s.heap.objs.size) { s with heap:=h' }) : ax (ay P w) A (Builtin.Frozenset.copyOf a) Q E s:=by
 obtain⟨es,ep,t,ss,ho,hS,hp,fR,hsz,hf,g9,dI⟩:=id S.ex;have klen:=b7.len (h:=s.heap) (a:=a) hS hp;have cP:a≠s.heap.objs.size:=c7 (bC ho);have zM:t.plain=ao:=dI λz=>by rw[z]at h8; simp at h8
 unfold Builtin.Frozenset.copyOf Builtin.Frozenset.baseOf;refine ar (ar (zy S.ty CY (aD ?_)));rw[if_pos rfl];unfold newSet nY;refine ar (ar (ar (k8 (aD ?_))));dsimp only;simp only[newObj];refine ar (CK (aD ?_));refine ar (aD ?_);generalize hT0:(SetTable.fresh 0 0 _:gG)=t0;have t0m:t0.mask=7:=by rw[← hT0]; rfl
 have t0p:t0.place = #[]:=by rw[← hT0]; rfl
 have t0d:t0.dummies = #[]:=by rw[← hT0]; rfl
 have t0l:t0.led=(!df w):=by rw[← hT0]; rfl
 have old:∀ b o,s.heap.get? b=aa o->(s.heap.push { cls:=.type "set",data:=.set #[] 0 t0 }).get? b=aa o:=λb o e=>bK _ e;have hr:(s.heap.push { cls:=.type "set",data:=.set #[] 0 t0 }).get? s.heap.objs.size=aa { cls:=.type "set",dict:=ae,data:=.set #[] 0 t0 }:=dz _ rfl;have mT:=old a _ ho;generalize s.heap.push { cls:=.type "set",data:=.set #[] 0 t0 }=h1 at old hr mT;unfold setMerge;refine ar ?_;refine gs (λhc=>absurd (show(s.heap.objs.size == a)=ai from hc) (by simp; exact λz=>cP z.symm)) (λ_=>?_);refine ar (iw (s:={ s with heap:=h1 }) mT rfl hf ?_);dsimp only;refine gs (λhc=>by
  have hc:es.isEmpty=ai:=hc;rw[Array.isEmpty_iff]at hc;have:es.size=0:=by rw[hc]; rfl
  lia) (λ_=>?_)
 obtain⟨q,hq,br,f8,eZ⟩:=R0 (es.size * 2) ∅;have relay:∀ {QQ:Unit->aq->Prop},(∀ h2 (t2:gG),h2.get? s.heap.objs.size=aa { cls:=.type "set",dict:=ae,data:=.set #[] 1 t2 }->t2.mask=nU (es.size * 2)-1->t2.place = #[]->t2.dummies = #[]->t2.led=(!df w)->i_ s.heap.objs.size h1 h2->QQ () { s with heap:=h2 }) ->
   ax (ay P w) A (setRoomFor s.heap.objs.size es.size) QQ E { s with heap:=h1 }:=λ{QQ} wQ=>by
  have hf0:t0.fits (#[]:Array (Int×ak)).size=ai:=by unfold tG tO; rw[t0p,t0d,t0m]; rfl
  unfold setRoomFor;refine ar (iw (s:={ s with heap:=h1 }) hr rfl hf0 ?_);have wd:t0.roomFor es.size=aa (es.size * 2):=by unfold SetTable.roomFor tO;rw[t0p,t0d,t0m];rw[if_pos (by simp; lia)];simp
  dsimp only;rw[wd];show ax _ _ (setRelay s.heap.objs.size (es.size * 2)) _ _ _;unfold setRelay;refine ar (iw (s:={ s with heap:=h1 }) hr rfl hf0 ?_);dsimp only;refine gs (λhc=>absurd (show nU (es.size * 2) > bp from hc) (tL.mpr (lA (xV ∅)))) (λ_=>?_);obtain⟨t2,order,l1,l2,l3,l4,l5,l6,l7,l8⟩:=FH (mask:=nU (es.size * 2)-1) (q:=q) (finger:=t0.finger) (moves:=t0.movedTo (nU (es.size * 2)-1)) (led:=t0.led) (plain:=t0.plain) ∅ #[] (kY _);have l1':t0.relaid ((#[]:Array (Int×ak)).map (·.1)) (es.size * 2)=aa (t2,order):=l1;rw[l1'];have ho0:order = #[]:=by have:=l2.length_eq;simp at this;exact this
  subst ho0;refine ar (dW (Q:=λr s'=>r=((#[]:Array (Int×ak)),t2)/\s'={ s with heap:=h1 }) (E:=E) ?_ (λr s' gK=>?_) (λ_ _ x=>x))
  ·exact aD ⟨rfl,rfl⟩
  ·obtain⟨rfl,rfl⟩:=gK;refine tF (s:={ s with heap:=h1 }) hr rfl ?_ (kY _);refine wQ _ t2 (b7.put hr) l7 (by have:=l8; simpa using this) l6 (l4.trans t0l) (nV ..)
 refine ar (relay λh2 t2 g1 g2 g3 g4 g5 g6=>?_);have qL:t2.fits (#[]:Array (Int×ak)).size=ai:=by unfold tG tO; rw[g3,g4]; simp
 refine ar (iw (s:={ s with heap:=h2 }) g1 rfl qL ?_);dsimp only;have Dt:15<=t2.mask:=by rw[g2]; lia
 have wf:t2.road t = .slotForSlot/\t2.mask=t.mask/\t.dummies = #[]\/t2.road t = .clean:=by
  unfold SetTable.road tO;rw[g3,g4];by_cases hc:(t2.mask == t.mask && t.dummies.isEmpty)=ai
  ·refine .inl ⟨?_,?_⟩
   ·simp[hc]
   ·rw[iu]at hc;exact⟨by simpa using hc.1,by simpa using hc.2⟩
  ·refine .inr ?_;simp[hc]
 have oldF:∀ {h3:aE},i_ s.heap.objs.size h2 h3->∀ b o,s.heap.get? b=aa o->h3.get? b=aa o:=λ{h3} sb b o e=>by have hb:b≠s.heap.objs.size:=c7 (bC e);exact(sb.2 b hb).trans ((g6.2 b hb).trans (old b o e))
 rcases wf with⟨wf,hm1,lW⟩ | wf
 ·rw[wf];dsimp only;refine tF (s:={ s with heap:=h2 }) g1 rfl ?_ (vO (nS hsz (by decide)));refine aD (h _ es 2 _ ss ⟨b7.put g1,hS,hp,fR,hsz,hf,?_,?_,lW,?_⟩ (oldF (nV ..)))
  ·show(t2.led && t.led)=_;rw[g5,g9]; cases df w <;> rfl
  ·show(t2.plain && t.plain)=_;rw[zM,CT]
  ·show 7<=t.mask;rw[← hm1]; lia
 ·rw[wf];dsimp only;obtain⟨t3,order,l1,l2,l3,l4,l5,l6,l7,l8⟩:=FH (mask:=t2.mask) (q:=q) (finger:=t2.finger) (moves:=t2.moves) (led:=t2.led && t.led) (plain:=t2.plain && t.plain) (by rw[g2,← hq]; lia) es (by rw[g2]; lia);rw[l1];have op:=Q_ l2;have osz:(order.filterMap (es[·]?)).size=es.size:=by have:=op.length_eq; rw[gX,gX]at this; exact this
  refine ar (dW (Q:=λr s'=>r=(order.filterMap (es[·]?),t3)/\s'={ s with heap:=h2 }) (E:=E) ?_ (λr s' gK=>?_) (λ_ _ x=>x))
  ·refine gs (λhc=>absurd (show((order.filterMap (es[·]?)).size != es.size)=ai from hc) (by rw[osz]; simp)) (λ_=>aD ⟨rfl,rfl⟩)
  ·obtain⟨rfl,rfl⟩:=gK;refine tF (s:={ s with heap:=h2 }) g1 rfl ?_ (vO (nS (by rw[osz]; exact hsz) (by decide)));obtain⟨aR,u1,u2⟩:=uz (op.map (λe:Int×ak=>e.2)) hS;refine aD (h _ _ 2 t3 aR ⟨b7.put g1,u1,u2.trans hp,fR.perm op,by rw[osz]; exact hsz,by rw[osz]; exact l3,?_,?_,l6,?_⟩ (oldF (nV ..)))
   ·rw[l4,g5,g9]; cases df w <;> rfl
   ·rw[l5,zM,CT]
   ·rw[l7]; lia
end
theorem Mw:entryFor table "set.__sub__" = aa Builtin.«frozenset.__sub__»:=entryFor_alias (id':="frozenset.__sub__") (by kernel_rfl) rfl (by decide +kernel) (by kernel_rfl)
section
variable{P:aX}{w:aN}{A:be}{E:ak->aq->Prop}{s:aq}
theorem Tn{asked walked r:af}{ks ls:List Str}{arr:Array (Int×ak)}{id:String}{was:Nat}{Q:PUnit->aq->Prop}(Sk:b7 P w s.heap walked ks) (Sl:b7 P w s.heap asked ls) (R:b7 P w s.heap r []) (h1:walked≠r) (h2:asked≠r) (nk:ks.Nodup) (hk:ks.length<4000) (wk:qX P w ks arr)(hw:∃ es t,s.heap.get? walked=aa { cls:=.type "set",dict:=ae,data:=.set es was t }/\t.fits es.size=ai)(h:∀ h',i_ r s.heap h'->b7 P w h' r (ks.filter (·∉ls))->Q ⟨⟩ { s with heap:=h' }) : ax (ay P w) A (forIn arr PUnit.unit λx __s=>do
    holding [x.snd] (do
     let f ← setFind asked x.snd x.fst
     let there ← pure f.isSome
     if(!there)=ai then do
      let _ ← setAddHashed r x.snd x.fst
      pure ()
     else pure ())
    Dd id walked was
    pure (ForInStep.yield PUnit.unit)) Q E s:=by
 obtain⟨ss,e1,e2,e3⟩:=wk.ex;have ns:ss.Nodup:=e3.nodup_iff.mpr nk;have fin:∀ {zs:List Str},zs=ss->(zs.filter (·∉ls)).Perm (ks.filter (·∉ls)):=λ{zs} e=>by subst e; exact e3.filter _
 refine wpAny_forIn_array' _ (λrest _ s'=>∃ h' jd j0,s'={ s with heap:=h' }/\ss=jd++j0/\rest.map (λe=>e.1)=j0.map (dQ P w).hash/\d7 (rest.map (·.2)) j0/\i_ r s.heap h'/\b7 P w h' r (jd.filter (·∉ls))) Q ?_ ?_ arr _ ⟨s.heap,[],ss,rfl,rfl,e1,e2,vM r s.heap,R⟩
 ·rintro⟨hx,x⟩ rest _ s' ⟨h',jd,j0,rfl,om,f1,f2,je,R'⟩;cases j0 with
  | nil=>exact absurd f2.length (by simp)
  | cons y j0=>
   rw[d4,d4,vZ]at f1;obtain⟨f0,f1⟩:=f1;obtain rfl:hx=(dQ P w).hash y:=f0;cases f2 with
   | cons _ tk f2=>
    have Sl':b7 P w h' asked ls:=Sl.at λo e=>(je.2 asked h2).trans e;have nd:=ns;rw[om]at nd;have hy:y∉jd:=λhm=>by rw[zB]at nd;exact nd.2.2 y hm y (by simp) rfl
    have bY:(jd.filter (·∉ls)).length<4000:=by have q1:=v5 (λz=>decide (z∉ls)) jd;have q2:=e3.length_eq;rw[om,dq]at q2;lia
    have stay:∀ g_,i_ r h' g_->b7 P w g_ r ((jd++[y]).filter (·∉ls))->∀ {QQ:ForInStep PUnit->aq->Prop},(∀ s',(∃ h' jd j0,s'={ s with heap:=h' }/\ss=jd++j0/\rest.map (λe=>e.1)=j0.map (dQ P w).hash/\d7 (rest.map (·.2)) j0/\i_ r s.heap h'/\b7 P w h' r (jd.filter (·∉ls)))->QQ (.yield PUnit.unit) s') ->
      ax (ay P w) A (do
      Dd id walked was
      pure (ForInStep.yield PUnit.unit)) QQ E { s with heap:=g_ }:=λg_ fK R2 QQ wQ=>by
     obtain⟨es,t,qP,pC⟩:=hw;have jf:g_.get? walked=aa { cls:=.type "set",dict:=ae,data:=.set es was t }:=(fK.2 walked h1).trans ((je.2 walked h1).trans qP);unfold Dd;refine ar (ar (zF (s:={ s with heap:=g_ }) jf rfl pC ?_));refine gs (λhc=>absurd hc (by simp)) (λ_=>aD (aD ?_));exact wQ _ ⟨g_,jd++[y],j0,rfl,by rw[om]; simp,f1,f2,je.trans fK,R2⟩
    refine ar (lF (ar (Lk (s:={ s with heap:=h' }) Sl' λr' hr=>?_)));refine ar (aD ?_);by_cases hm:y∈ls
    ·rw[decide_eq_true hm]at hr;rw[if_neg (by rw[hr]; decide)];refine aD (stay h' (vM r h') ?_ λ_ z=>z);rw[De];simpa[hm]using R'
    ·rw[decide_eq_false hm]at hr;rw[if_pos (by rw[hr]; rfl)];refine ar (ET (s:={ s with heap:=h' }) R' bY λg_ b fK R2=>aD (stay g_ fK ?_ λ_ z=>z));have:jr (jd.filter (·∉ls)) y=(jd++[y]).filter (·∉ls):=by unfold jr;rw[if_neg (λz=>hy (kh.mp z).1),De];simp[hm]
     rw[← this]; exact R2
 ·rintro _ s' ⟨h',jd,j0,rfl,om,f1,f2,je,R'⟩;cases j0 with
  | cons y j0=>exact absurd f2.length (by simp)
  | nil=>rw[ja]at om;exact h h' je (R'.perm (fin om.symm))
theorem y8{α:Type}(xs:Array α)(i:Nat):(n8 xs i).toList=xs.toList.eraseIdx i:=by unfold n8;rw[ix,JU,JU,List.eraseIdx_eq_take_drop_succ];simp[List.extract];exact km (by simp)
theorem HR:∀ {vs:List ak} {ss:List Str} (i:Nat),d7 vs ss->d7 (vs.eraseIdx i) (ss.eraseIdx i)
 | _,_,i,.nil=>by simpa using StrsAre.nil
 | _,_,0,.cons y t h=>by simpa using h
 | _,_,i+1,.cons y t h=>by simpa using StrsAre.cons y t (HR i h)
theorem HP:∀ {ss:List Str} {i:Nat} {x:Str},ss.Nodup->ss[i]?=aa x->ss.eraseIdx i=ss.filter (·≠x)
 | [],i,x,_,h=>by simp at h
 | y::ss,0,x,nd,h=>by simp at h;subst h;have hn:=(jx.mp nd).1;rw[List.eraseIdx_cons_zero,List.filter_cons_of_neg (by simp)];exact(n9.mpr λz hz=>by simp; rintro rfl; exact hn hz).symm
 | y::ss,i+1,x,nd,h=>by
  have h':ss[i]?=aa x:=by simpa using h
  have hn:=jx.mp nd;have hx:x∈ss:=vI h';rw[List.eraseIdx_cons_succ,List.filter_cons_of_pos (by simp; rintro rfl; exact hn.1 hx),HP hn.2 h']
theorem Pl{r:af}{ks:List Str}{es:Array (Int×ak)}{ep:Nat}{t:gG}{ss:List Str}{x:Str}{tk:Tok}{Q:Bool->aq->Prop}(X:Bd P w s.heap r ks es ep t ss)(nk:ks.Nodup)(h:∀ h' b (es':Array (Int×ak)) (t':gG) ep',i_ r s.heap h'->b7 P w h' r (ks.filter (·≠x))->h'.get? r=aa { cls:=.type "set",dict:=ae,data:=.set es' ep' t' }->t'.fits es'.size=ai->t'.dummies.size<=1->7<=t'.mask->Q b { s with heap:=h' }) : ax (ay P w) A (setDiscardHashed r (.str x tk) ((dQ P w).hash x)) Q E s:=by
 obtain⟨ho,hS,hp,fR,hsz,hf,g9,dI,DL,Dt⟩:=X;have ns:ss.Nodup:=hp.nodup_iff.mpr nk;have jc:(dQ P w).is x (.str x tk)=ai:=by rw[qo]; simp
 have hb:es.size<scanBound:=nS hsz (by decide);unfold setDiscardHashed;refine ar ?_;unfold setFind setFindIn;refine ar (iw ho rfl hf ?_);dsimp only;rw[byScan_of (knd:=dQ P w) (x:=.str x tk) rfl hb fR];simp only[if_true];refine ar (k6 (ar (JH jc ho rfl hf fR ?_)));cases hr:List.findIdx? (λe=>(dQ P w).is x e.2) es.toList with
 | some i=>
  obtain⟨hi,wA,_⟩:=JI.mp hr;refine aD ?_;dsimp only;simp only[nZ];have hi':i<es.size:=by simpa using hi
  have hsi:ss[i]?=aa x:=by
   have e1:(es.toList.map (·.2))[i]?=aa es.toList[i].2:=by rw[ir,iN hi]; rfl
   have gen:∀ {vs:List ak} {zs:List Str} (j:Nat) (v:ak),d7 vs zs->vs[j]?=aa v->(dQ P w).is x v=ai->zs[j]?=aa x:=by
    intro vs zs j v hh
    induction hh generalizing j with
    | nil=>intro e _; simp at e
    | cons y t' _ ih=>
     intro e q;cases j with
     | zero=>simp at e; subst e; rw[qo]at q; have:y=x:=of_decide_eq_true q; subst this; rfl
     | succ j=>simpa using ih j (by simpa using e) q
   exact gen i _ hS e1 wA
  refine ar (iw ho rfl hf ?_);dsimp only;have tZ:t.place.size=es.size:=by unfold tG at hf;simp only[iu,beq_iff_eq]at hf;exact hf.1
  have Du:t.fill<=t.mask:=by unfold tG at hf;simp only[iu,decide_eq_true_eq]at hf;exact hf.2
  have hpl2:t.place[i]?=aa t.place[i]:=zz (by rw[tZ]; exact hi');have esz:(n8 es i).size=es.size-1:=by rw[← gX,y8,C0,if_pos hi,gX]
  have psz:(n8 t.place i).size=es.size-1:=by rw[← gX,y8,C0,if_pos (by rw[gX,tZ]; exact hi'),gX,tZ]
  have wg:t.drop i={ t with place:=n8 t.place i,dummies:=JF t.dummies (JN t.dummies t.place[i]) t.place[i] }:=by unfold SetTable.drop;rw[hpl2]
  have dsz:(t.drop i).dummies.size=1:=by rw[wg,DL];unfold JF;simp
  have Kk:(t.drop i).fits (n8 es i).size=ai:=by unfold tG tO;rw[dsz,esz];rw[wg];simp only[psz,beq_self_eq_true,CS,decide_eq_true_eq];show es.size-1+1<=t.mask;unfold tO at Du;rw[tZ,DL]at Du;simp at Du;lia
  refine ar (tF ho rfl ?_ (vO (nS (show(n8 es i).size<4090 by lia) (by decide))));refine ar (wpAny_point (aD ?_));have at2:(s.heap.update r (Obj.putSet (n8 es i) (t.drop i))).get? r=aa { cls:=.type "set",dict:=ae,data:=.set (n8 es i) (ep+1) (t.drop i) }:=b7.put ho;refine h _ _ (n8 es i) (t.drop i) (ep+1) (nV ..) ⟨_,_,_,ss.eraseIdx i,at2,?_,?_,?_,∅,Kk,by rw[wg]; exact g9,λ_=>by rw[wg]; exact dI⟩ at2 Kk (by rw[dsz]; exact bi _) (by rw[wg]; exact Dt)
  ·have em:∀ (l:List (Int×ak)) (j:Nat),(l.eraseIdx j).map (·.2)=(l.map (·.2)).eraseIdx j:=by
    intro l
    induction l with
    | nil=>intro j; rfl
    | cons x l ih=>intro j; cases j with | zero=>rfl | succ j=>simp[ih]
   rw[y8,em]; exact HR i hS
  ·rw[HP ns hsi]; exact hp.filter _
  ·rw[y8]; exact λe he=>fR e (List.mem_of_mem_eraseIdx he)
 | none=>
  refine aD ?_;dsimp only;have hx:x∉ks:=λhm=>by have lW:=hp.mem_iff.mpr hm;obtain⟨t',q⟩:=(yB hS x).mp lW;obtain⟨e,he,ee⟩:=cO.mp q;have:=JK.mp hr e he;rw[ee,qo]at this;simp at this
  refine aD (h s.heap _ es t ep (vM ..) ?_ ho hf (by rw[DL]; simp) Dt);rw[n9.mpr λz hz=>by simp; rintro rfl; exact hx hz];exact⟨es,ep,t,ss,ho,hS,hp,fR,hsz,hf,g9,λ_=>dI⟩
theorem Lg{a b:af}{ks:List Str}{x0:Str}{Q:ak->aq->Prop}(og:a≠b)(Sa:b7 P w s.heap a ks)(Sb:b7 P w s.heap b [x0])(nk:ks.Nodup)(hk:ks.length<4000)(h:∀ h',b7 P w h' s.heap.objs.size (ks.filter (·≠x0))->(∀ c o,s.heap.get? c=aa o->h'.get? c=aa o)->Q (.ref s.heap.objs.size) { s with heap:=h' }) : ax (ay P w) A (jw .Sub (.ref a) (.ref b)) Q E s:=by
 refine wpAny_binaryOp_same (T:="set") (id:="set.__sub__") Sa.ty Sb.ty F.fills_set_sub F.slot_set_sub ?_;refine vJ F.slot_set_sub Sa.ty Mw ?_ (F.args_set_sub_2 _ _);unfold Builtin.«frozenset.__sub__»;refine ar (ar (aD (aD ?_)));dsimp only;refine ar (ar (xk Sa ?_));refine(xk Sb ?_);refine gs (λhc=>absurd hc (by decide)) (λ_=>?_);refine ar (aD (ar ?_));unfold Builtin.Frozenset.difference;refine ar (xk Sb ?_);simp only[zI,pe,if_false,Bool.false_and,if_true];have lt:∀ {c:af} {zs:List Str},b7 P w s.heap c zs->c≠s.heap.objs.size:=λ{c zs} S=>by obtain⟨_,_,_,_,e,_⟩:=S.ex;exact c7 (bC e)
 have last:∀ h',b7 P w h' s.heap.objs.size (ks.filter (·≠x0))->(∀ c o,s.heap.get? c=aa o->h'.get? c=aa o)->ax (ay P w) A.in1 (pure (Value.ref s.heap.objs.size)) (λa s'=>ax (ay P w) A.in1 (ret a) (λfin s'=>∃ v,fin=Fin.done (Flow.ret v)/\v≠Value.notImplemented/\Q v s') E s') E { s with heap:=h' }:=λh' S k=>
  aD (aD ⟨_,rfl,(by intro z; cases z),h h' S k⟩)
 refine ar (aD ?_);refine ar (xH Sb ?_);refine ar (xH Sa ?_);refine gs (λhc=>?_) (λhc=>?_)
 ·have hk8:8<=ks.length:=by simp at hc; lia
  refine ar (k6 ?_);refine ar (Te Sa hk8 hk λh1 es ep t ss X old=>?_);refine ar (aD ?_);refine ar (lF ?_);have Sb1:b7 P w h1 b [x0]:=Sb.at λo e=>old _ _ e;have hb:=lt Sb;unfold Builtin.Frozenset.differenceUpdate;refine gs (λhc=>absurd (show(Value.ref b == Value.ref s.heap.objs.size)=ai from hc) (by simp; exact hb)) (λ_=>?_);refine ar (xk (s:={ s with heap:=h1 }) Sb1 ?_);simp only[if_true];refine ar (aD ?_);refine ar (xH (s:={ s with heap:=h1 }) Sb1 ?_);refine ar (xH (s:={ s with heap:=h1 }) X.toS ?_);refine gs (λhc=>absurd (show([x0].length / 8 > ks.length)from hc) (by simp)) (λ_=>?_);obtain⟨eb,epb,tb,sb,hob,hSb,hpb,helb,hszb,hfb,hledb,hplb⟩:=id Sb1.ex;refine ar (zF (s:={ s with heap:=h1 }) hob rfl hfb ?_);refine ar (lF ?_);have lb:eb.size=1:=(b7.len (h:=h1) (a:=b) hSb hpb).symm;have AF:∀ {QQ:Array (Int×ak)->aq->Prop},(∀ arr,qX P w [x0] arr->QQ arr { s with heap:=h1 })->ax (ay P w) A.in1 (Da b [s.heap.objs.size] ae) QQ E { s with heap:=h1 }:=λ{QQ} wQ=>by unfold Da;refine ar (iw (s:={ s with heap:=h1 }) hob rfl hfb ?_);unfold nY;dsimp only;refine ar (ar (k8 (aD ?_)));refine gs (λ_=>?_) (λhc=>absurd (show(df w || (tb.led && tb.plain) || decide (eb.size<=1))=ai by rw[lb]; simp) hc);exact Ib (s:={ s with heap:=h1 }) Sb1 (.inr ⟨eb,epb,tb,hob,.inr ∅⟩) wQ
  refine ar (AF λarr wk=>?_);obtain⟨aR,e1,e2,e3⟩:=wk.ex;obtain rfl:aR=[x0]:=List.perm_singleton.mp e3;obtain⟨tk,harr⟩:∃ tk,arr.toList=[((dQ P w).hash x0,.str x0 tk)]:=by
   cases hl:arr.toList with
   | nil=>rw[hl]at e1; simp at e1
   | cons p r=>
    rw[hl]at e1 e2;obtain⟨hx,v⟩:=p;cases r with
    | cons=>simp at e1
    | nil=>
     simp only[d4,vL,vZ,and_true]at e1;cases e2 with
     | cons _ tk h2=>exact⟨tk,by rw[e1]⟩
  rw[← Array.forIn_toList,harr,List.forIn_cons];refine ar (ar (ar (lF (Pl (s:={ s with heap:=h1 }) X nk λh2 bb es' t' ep' fK S2 at2 fit2 dm mk=>?_))));have hob2:h2.get? b=aa { cls:=.type "set",dict:=ae,data:=.set eb epb tb }:=(fK.2 b hb).trans hob;unfold Dd;refine ar (ar (zF (s:={ s with heap:=h2 }) hob2 rfl hfb ?_));refine gs (λhc=>absurd hc (by simp)) (λ_=>aD (aD ?_));dsimp only;rw[List.forIn_nil];refine aD (aD ?_);unfold setTidy;refine ar (iw (s:={ s with heap:=h2 }) at2 rfl fit2 ?_);dsimp only;refine gs (λhc=>absurd (show t'.tooManyDummies=ai from hc) ?_) (λ_=>aD ?_)
  ·unfold SetTable.tooManyDummies;simp only[decide_eq_true_eq];lia
  ·exact last h2 S2 λc o e=>(fK.2 c (c7 (bC e))).trans (old c o e)
 ·have Q1:=Sa;unfold Builtin.Frozenset.baseOf;refine ar (ar (zy Sa.ty CY (aD ?_)));rw[if_pos rfl];refine ar (MZ λh1 R k1 z1=>?_);have Sa1:b7 P w h1 a ks:=Sa.at λo e=>k1 _ _ e;have Sb1:b7 P w h1 b [x0]:=Sb.at λo e=>k1 _ _ e;refine ar (aD ?_);obtain⟨es,ep,t,ss,ho,hS,iP,fR,hsz,hf,g9,dI⟩:=id Sa1.ex;refine ar (zF (s:={ s with heap:=h1 }) ho rfl hf ?_);refine ar (lF ?_);refine ar (MN (s:={ s with heap:=h1 }) Sa1 R (λc hc=>?_) λh2 arr fK R2 wk=>?_)
  ·simp only[cb,kn,or_false]at hc;rcases hc with rfl | rfl
   ·exact⟨_,Sb1⟩
   ·exact⟨_,R⟩
  have Sa2:b7 P w h2 a ks:=Sa1.at λo e=>(fK.2 _ (lt Sa)).trans e;have Sb2:b7 P w h2 b [x0]:=Sb1.at λo e=>(fK.2 _ (lt Sb)).trans e;refine ar (Tn (s:={ s with heap:=h2 }) Sa2 Sb2 R2 (lt Sa) (lt Sb) nk hk wk ⟨es,t,(fK.2 _ (lt Sa)).trans ho,hf⟩ λh3 sb3 R3=>?_);have e:ks.filter (·∉[x0])=ks.filter (·≠x0):=J5 λz _=>by simp
  refine aD (last h3 (e ▸ R3) λc o e=>?_);have hc:c≠s.heap.objs.size:=c7 (bC e);exact(sb3.2 c hc).trans ((fK.2 c hc).trans (k1 c o e))
end
section
variable{X:Cx}
def eT(ls:List Tx)(x:Tx):List Tx:=ls.filter λz=>decide (z≠x)
theorem Pe(ls:List Tx)(x:Tx):(ls.map tS).filter (λz=>decide (z≠tS x))=(eT ls x).map tS:=by unfold eT;rw[v6];congr 1;refine J5 λz _=>?_;simp only[qH];congr 1;exact propext ⟨λh e=>h (by rw[e]),λh e=>h (pQ e)⟩
theorem KD:cu X (jw .Sub) (λx y H Q=>∃ (p q:af) (ls:List Tx) (m:Tx),x = .ref p/\y = .ref q/\p≠q/\H p=aa (iD X p ls)/\H q=aa (iD X q [m])/\ls.Nodup/\ls.length<4000 /\ ∀ a,H a=ae->Q (.ref a) (upd H a (iD X a (eT ls m)))):=by
 intro ah s σ H x y v u Q I rx ry h;obtain⟨p,q,ls,m,rfl,rfl,hpq,hp,hq,nl,l1,k⟩:=h;cases rx;cases ry;obtain⟨Sp,_,_⟩:=(show dS X.prog X.w H s.heap p (iD X p ls)from I.hok p _ hp)
 obtain⟨Sq,_,_⟩:=(show dS X.prog X.w H s.heap q (iD X q [m])from I.hok q _ hq)
 refine Lg hpq Sp Sq (RV nl) (by rw[cD]; exact l1) λh' S old=>?_;rw[Pe]at S;refine⟨.ref s.heap.objs.size,_,I.laid (t':=s.toks) (o:=iD X s.heap.objs.size (eT ls m)) old (bi _) ?_,rfl,k _ I.fresh⟩;obtain⟨es,ep,t,ss,e,_⟩:=S.ex;exact⟨S,⟨_,e⟩,λh1 h2 q1 q2=>q1.at q2⟩
end
end L2
namespace Pu
open L2
section
variable{X:Cx}{E:XK}{e e2:aC}{ds ds2:aj->R (List PV)}{p q q2 p4 pos pos' pos2:Pos}
def Bh(ds ds2:aj->R (List PV)):aj->R PO:=λε=>(ds ε).bind λxs ε1=>(aS (sx xs) ε1).bind λls ε1=>(ds2 ε1).bind λys ε2=>match ys with
 | [.lst [.str t]]=>.ok (.lst (am (bu (eT ls t)))) ε2
 | _=>.no
theorem Ox(hc:X.calm=ai)(ha:DA X E [e] ds)(hb:DA X E [e2] ds2)(hm:X.mg "sorted" = ae)(lW:X.mg "set" = ae)(hg:Gl X "sorted":=by rfl)(hg2:Gl X "set":=by rfl)(h:mo e=ao:=by rfl)(h2:mo e2=ao:=by rfl) : DN X E (.Call (.Name "sorted" p) [.BinOp (.Call (.Name "set" q) [e] [] pos') .Sub (.Call (.Name "set" q2) [e2] [] pos2) p4] [] pos) (Bh ds ds2):=λF S ε σ H Q rl h'=>by
 refine cT (sN (Gz hc) hg hm uN (kc (DZ KD (sB (AI hc) hg2 lW AQ im (by decide) (by decide) (jg h) rfl) (sB (AI hc) hg2 lW AQ im (by decide) (by decide) (jg h2) rfl)) mn (jg rfl)) (by decide) (by decide) (jg rfl) rfl) ?_;refine ha F S ε σ H _ rl ((Ok.bind h').imp λxs ε1 F1 S1 H1 r1 g1 q1 vs jI=>?_);cases e1:sx xs with
 | none=>rw[e1]at q1; exact q1.elim
 | some ls=>
  rw[e1]at q1;obtain⟨p,zs,rfl,hp,hz,rfl,hx⟩:=Fd jI e1;refine⟨p,zs,rfl,hp,hz,λa fa=>?_⟩;have al1:Al F1 F1 H1 (upd H1 a (iD X a (ca zs))):=Al.new0 fa;have q2:Ok X.K E σ F1 S1 H1 ((ds2 ε1).bind λys ε2=>match ys with
   | [.lst [.str t]]=>R.ok (PO.lst (am (bu (eT (ca zs) t)))) ε2
   | _=>.no) _:=q1
  have q3:=Ok.from q2 (al1.grow (O:=U S1));refine hb F1 S1 ε1 σ _ _ (r1.al al1) ((Ok.bind q3).imp λys ε2 F2 S2 H2 r2 g2 q4 vs2 rvs2=>?_);have hys:∃ t,ys=[.lst [.str t]]:=by
   revert q4;split
   ·exact λ_=>⟨_,rfl⟩
   ·exact λz=>z.elim
  obtain⟨t,rfl⟩:=hys;have q5:Ok X.K E σ F2 S2 H2 (R.ok (PO.lst (am (bu (eT (ca zs) t)))) ε2) _:=q4;have elt:sx [.lst [.str t]]=aa [t]:=by rfl
  obtain⟨p2,zs2,rfl,fu,hz2,hu2,pB⟩:=Fd rvs2 elt;have na:¬ U S1 a:=λ⟨i,z⟩=>by
   obtain⟨_,_,o,w,_⟩:=r1.foot i a z;rw[fa]at w; cases w
  have ha2:H2 a=aa (iD X a (ca zs)):=g2.keep a _ cz na;refine⟨p2,zs2,rfl,fu,hz2,λb fb=>?_⟩;have og:a≠b:=by rintro rfl; rw[ha2]at fb; cases fb
  refine⟨a,b,ca zs,t,rfl,rfl,og,by rw[cn og]; exact ha2,by rw[cz,← hu2],QB _,hz,λc fc=>?_⟩;have bY:(eT (ca zs) t).length<4000:=tt (v5 _ _) hz;refine⟨c,_,rfl,cz,bY,λl fl=>?_⟩;have al2:Al F2 F2 H2 (upd (upd (upd H2 b (iD X b (ca zs2))) c (iD X c (eT (ca zs) t))) l (.lst (c0 (bu (eT (ca zs) t))))):=((Al.new0 fb).trans (Al.new0 fc)).trans (Al.new0 fl);have t_:H2 l=ae:=by
   have h1:l≠c:=by rintro rfl; rw[cz]at fl; cases fl
   rw[cn h1]at fl;have h2:l≠b:=by rintro rfl; rw[cz]at fl; cases fl
   rwa[cn h2]at fl
  refine q5 F2 S2 _ (r2.al al2) al2.grow l (λc=>c=l) ⟨⟨_,cz,UF.mpr ⟨rfl,λx wy=>hx x ((ml _ _).mp (kh.mp ((iU _).mem_iff.mp wy)).1)⟩⟩,λc=>tI⟩ λd z=>?_;subst z;refine⟨oC (g1.trans (al1.grow.trans g2)) t_,λz=>?_,λ⟨i,z⟩=>?_,_,cz,trivial⟩
  ·obtain⟨o,w⟩:=r2.ex _ z; rw[t_]at w; cases w
  ·obtain⟨_,_,o,w,_⟩:=r2.foot i _ z; rw[t_]at w; cases w
end
def u5:List PV->Option PV
 | [.int i,.int j]=>aa (.int (if j > i then j else i))
 | _=>ae
theorem MR{K:az}:PL K (λxs H Q=>∃ i j,xs=[.int i,.int j]/\Q (.int (if j > i then j else i)) H) u5:=λF H xs vs Q pv rs e q=>by
 unfold u5 at e;split at e
 ·cases e;obtain⟨v,r',rfl,h2,h3⟩:=rs;obtain⟨u,rfl,h4⟩:=iH h3;exact⟨_,_,by rw[show v=V.int _ from h2,show u=V.int _ from h4],q _ F H (Al.refl ..) rfl⟩
 ·cases e
end Pu
namespace L2
theorem KV.at{kvs:List (aI×V)}{vs:List (aI×ak)}(h:KV kvs vs){i:Nat}{p:aI×V}(e:kvs[i]?=aa p):∃ q,vs[i]?=aa q/\p.1=q.1/\RelV p.2 q.2:=by
 unfold KV at h
 induction h generalizing i with
 | nil=>simp at e
 | cons r _ ih=>
  cases i with
  | zero=>simp at e; subst e; exact⟨_,rfl,r⟩
  | succ i=>exact ih (by simpa using e)
theorem KV.len{kvs:List (aI×V)}{vs:List (aI×ak)}(h:KV kvs vs):kvs.length=vs.length:=by
 unfold KV at h
 induction h with
 | nil=>rfl
 | cons _ _ ih=>simp[ih]
end L2
namespace Pu
open L2
section
variable{X:Cx}{E:XK}{pin:List Nat}{e b c:aC}{de db dc:aj->R PV}{pos:Pos}
def oE(i:Nat)(n:Int):aj->R PO:=λε=>match ε[i]? with
 | some (.val (.str x))=>.ok (.dK [(.inr (tS x),.int n)]) ε
 | _=>.no
theorem El(i:Nat){y:Str}{yp q:Pos}{n:Int}{j:Nat}(hN:X.N[i]?=aa y:=by rfl)(fS:fW X.env.scope y:=by first | exact Or.inl rfl | exact Or.inr (Or.inl rfl) | exact Or.inr (Or.inr rfl))(hd:(y == ("__debug__" : Str))=ao:=by decide) (bM:(y == ("__classdict__" : Str))=ao:=by decide):DN X E (.Dict [aa (.Name y yp)] [.Constant (.int n) j q] pos) (oE i n):=λF S ε σ H Q rl h=>by
 unfold oE at h;split at h
 ·rename_i x ex;obtain⟨v,e1,e2⟩:=rl.val i _ ex;obtain⟨e2,hl⟩:=(show v=tV x/\_ from e2)
  subst e2;refine cT (LJ (O7 (gP hN fS hd bM) IF Su) rfl rfl (by simp) (by simp)) λp hp=>?_;refine⟨tV x,e1,cz,[(.inr (tS x),.int n)],rfl,by simp,?_⟩;rw[show sR [] [((Sum.inr (tS x):aI),V.int n)]=[((Sum.inr (tS x):aI),V.int n)] from rfl,MD];have al:Al F F H (upd H p (.dK [(.inr (tS x),.int n)])):=Al.new0 hp;refine h F S _ (rl.al al) al.grow p (λb=>b=p) ⟨⟨_,cz,.cons ⟨rfl,rfl⟩ .nil⟩,λb=>tI⟩ λb z=>?_;subst z;refine⟨hp,λz=>?_,λ⟨j,z⟩=>?_,_,cz,trivial⟩
  ·obtain⟨o,q⟩:=rl.ex b z; rw[hp]at q; cases q
  ·obtain⟨_,_,o,q,_⟩:=rl.foot j b z; rw[hp]at q; cases q
 ·exact h.elim
def fD(neg:Bool)(i:Nat)(db:aj->R PV):aj->R PV:=λε=>(db ε).bind λk ε1=>(aS (dP ε1 i) ε1).bind λkvs ε1=>aS ((j9 k).map λk=>.bl (neg ^^ (kH kvs k).isSome)) ε1
theorem zU{i:Nat}(neg:Bool){F:af->Prop}{S:Nat->af->Prop}{ε:aj}{σ:St}{H:Hp}{Q:VK}(hb:DE X E b db)(rl:a9 X.K F S ε σ H)(h:Ok X.K E σ F S H (fD neg i db ε) (λpv _ F' _ H'=>∀ v,bg X.K H' F' pv v->Q v H')) : iV X b σ H λy H1=>∃ x,σ[i]?=aa (aa x)/\∃ a o,x = .ref a/\kJ H1 a y o/\Q (.bl (neg ^^ o.isSome)) H1:=by
 unfold fD at h;refine hb F S ε σ H _ rl ((Ok.bind h).imp λk ε1 F1 S1 H1 r1 g1 q u ru=>?_);cases e1:dP ε1 i with
 | none=>rw[e1]at q; exact q.elim
 | some kvs=>
  rw[e1]at q;simp only[dE,R.bind_ok]at q;obtain⟨a,ws,ea,ha,hk,_⟩:=r1.dkAt (lu e1);cases e2:j9 k with
  | none=>rw[e2]at q; exact q.elim
  | some ky=>
   rw[e2,lH]at q;rw[yN ru e2];refine⟨.ref a,ea,a,iJ ws ky,rfl,kJ.k ha,?_⟩;rcases hk.val ky with⟨x,v,h1,h2,h3⟩ | ⟨h1,h2⟩
   ·rw[h1]at q;rw[h2];exact q F1 S1 H1 r1 (bX.refl ..) _ rfl
   ·rw[h1]at q;rw[h2];exact q F1 S1 H1 r1 (bX.refl ..) _ rfl
theorem Tq(i:Nat){y:Str}{yp:Pos}(hu:X.A.units+64<cLine)(hb:DE X E b db)(hN:X.N[i]?=aa y:=by rfl)(fS:fW X.env.scope y:=by first | exact Or.inl rfl | exact Or.inr (Or.inl rfl) | exact Or.inr (Or.inr rfl))(hd:(y == ("__debug__" : Str))=ao:=by decide) (bM:(y == ("__classdict__" : Str))=ao:=by decide) (hm:mz .In (.Name y yp)=ao:=by rfl):DE X E (.Compare b [.In] [.Name y yp] pos) (fD ao i db):=λF S ε σ H Q rl h=>by refine cT (MF (GF ∅ cx (gP hN fS hd bM)) hm) ?_;have:=zU ao hb rl h;simp only[mL]at this;exact this
theorem OW(i:Nat){y:Str}{yp:Pos}(hu:X.A.units+64<cLine)(hb:DE X E b db)(hN:X.N[i]?=aa y:=by rfl)(fS:fW X.env.scope y:=by first | exact Or.inl rfl | exact Or.inr (Or.inl rfl) | exact Or.inr (Or.inr rfl))(hd:(y == ("__debug__" : Str))=ao:=by decide) (bM:(y == ("__classdict__" : Str))=ao:=by decide) (hm:mz .In (.Name y yp)=ao:=by rfl):DT X E (.Compare b [.In] [.Name y yp] pos) (dB (fD ao i db)):=λF S ε σ H Q rl h=>by refine sM (Ia (GF ∅ cx (gP hN fS hd bM)) hm) ?_;have:=zU (Q:=λv H'=>∃ k,v = .bl k/\Q k H') ao hb rl (rg h);simp only[mL]at this;exact this
theorem GJ(i:Nat){y:Str}{yp:Pos}(hu:X.A.units+64<cLine)(hb:DE X E b db)(hN:X.N[i]?=aa y:=by rfl)(fS:fW X.env.scope y:=by first | exact Or.inl rfl | exact Or.inr (Or.inl rfl) | exact Or.inr (Or.inr rfl))(hd:(y == ("__debug__" : Str))=ao:=by decide) (bM:(y == ("__classdict__" : Str))=ao:=by decide) (hm:mz .NotIn (.Name y yp)=ao:=by rfl):DT X E (.Compare b [.NotIn] [.Name y yp] pos) (dB (fD ai i db)):=λF S ε σ H Q rl h=>by refine sM (Ia (QH ∅ cx (gP hN fS hd bM)) hm) ?_;have:=zU (Q:=λv H'=>∃ k,v = .bl k/\Q k H') ai hb rl (rg h);simp only[tP]at this;exact this
theorem fP.vals{K:az}{H:Hp}{F:af->Prop}{kvs:List (aI×PV)}{ws:List (aI×V)}(h:fP K H F kvs ws):bo K H F (kvs.map (·.2)) (ws.map (·.2)):=by
 unfold fP at h
 induction h with
 | nil=>rfl
 | cons r _ ih=>exact⟨_,_,rfl,r.2,ih⟩
def rA:List (aI×PV)->Option (List (Tx×Int))
 | []=>aa []
 | (.inr x,.int n)::r=>(rA r).map λm=>(x.cps.toList,n)::m
 | _::_=>ae
theorem ya(x:Str):tS x.cps.toList=x:=by simp[tS]
theorem IC{K:az}{H:Hp}{F:af->Prop}:∀ {kvs:List (aI×PV)} {ws:List (aI×V)} {m:List (Tx×Int)},fP K H F kvs ws->rA kvs=aa m->ws=m.map λp=>(Sum.inr (tS p.1),V.int p.2)
 | [],_,m,h,e=>by
  unfold fP at h;cases h;cases e;rfl
 | (.inr x,.int n)::r,_,m,h,e=>by
  unfold fP at h;cases h with
  | cons h1 h2=>obtain⟨m',e1,rfl⟩:=qB.mp e;rename_i q qs;obtain⟨q1,q2⟩:=q;have a1:Sum.inr x=q1:=h1.1;have a2:q2=V.int n:=h1.2;rw[IC (kvs:=r) h2 e1,← a1,a2,d4];simp only[ya]
 | (.inl _,_)::r,_,m,h,e=>by cases e
 | (.inr _,.non)::r,_,m,h,e=>by cases e
 | (.inr _,.bl _)::r,_,m,h,e=>by cases e
 | (.inr _,.str _)::r,_,m,h,e=>by cases e
 | (.inr _,.tup _)::r,_,m,h,e=>by cases e
 | (.inr _,.lst _)::r,_,m,h,e=>by cases e
 | (.inr _,.raw _)::r,_,m,h,e=>by cases e
 | (.inr _,.exc _)::r,_,m,h,e=>by cases e
end
end Pu
namespace L2
section
variable{X:Cx}
theorem SF(bs:List Bool):(bQ bs.length).any (λi=>bs.getD i ao)=bs.any id:=by
 induction bs with
 | nil=>rfl
 | cons b bs ih=>rw[eD,qC,nR,C4,nR,← ih];rfl
theorem KY(hc:X.calm=ai):gL X (.builtin "any") (λxs H Q=>∃ (p:af) (bs:List Bool),xs=[.ref p]/\ce X.K H p (bs.map V.bl)/\Q (.bl (bs.any id)) H):=by
 intro ah s σ H xs us Q I r h;obtain⟨p,bs,rfl,hq,q⟩:=h;obtain⟨u,rfl,ru⟩:=vals1 r;cases ru;obtain⟨its,rv,pl,hz⟩:=I.list hq;have hl:=rv.length;rw[cD]at hl;refine call_any_walk (CP pl.isList ?_);have cP:p≠s.heap.objs.size:=by obtain⟨o,ho,_⟩:=pl.isList;exact c7 (bC ho)
 refine⟨s.heap.objs.size,_,_,_,_,_,λi=>bs.getD i ao,rfl,Walks.list (wX (I.ok.hd hc)) s.heap.objs.size p cP its.toArray,⟨⟨_,dz _ rfl,rfl,rfl⟩,?_⟩,λi v s' Q' E' hv hQ=>?_,λh' tk k=>?_⟩
 ·obtain⟨o,ho,hc,hd⟩:=pl.isList;exact⟨o,bK _ ho,hc,hd⟩
 ·rw[Jb rv hv];exact nO hQ
 ·have e:(bQ its.toArray.size).any (λi=>bs.getD i ao)=bs.any id:=by
   rw[dA,← hl];exact SF bs
  rw[e];have I1:Inv X ah σ H { s with heap:=s.heap.push { cls:=.type "list_iterator",data:=.fields #[.ref p,.int 0 0] },toks:=s.toks }:=I.kept (t':=s.toks) λb o e=>bK _ e;exact⟨.bl _,H,Inv.turned (t':=tk) I1 (it:=s.heap.objs.size) (λb o hb e=>k b o (by simpa using hb) e) I.fresh (mC I.lt) (.inr I.sz) (λx c e z=>by obtain⟨v,qq⟩:=I.cell x c e;exact absurd qq.lt (by rw[z]; exact fk _)) (λpp hp z=>absurd (bC (I.pin pp hp).1) (by rw[z]; exact fk _)),rfl,q⟩
end
end L2
namespace Pu
open L2
def vd:List PV->Option PV
 | [.lst xs]=>(kE xs).map λbs=>.bl (bs.any id)
 | _=>ae
theorem Qj{K:az}:PL K (λxs H Q=>∃ (p:af) (bs:List Bool),xs=[.ref p]/\ce K H p (bs.map V.bl)/\Q (.bl (bs.any id)) H) vd:=λF H xs vs Q pv rs e q=>by
 unfold vd at e;split at e
 ·rename_i ys;cases q1:kE ys with
  | none=>rw[q1]at e; cases e
  | some bs=>
   rw[q1]at e;cases e;obtain⟨v,rfl,a,us,rfl,ha,_,ra⟩:=iH rs;rw[AX ra q1]at ha;exact⟨a,bs,rfl,.inl ha,q _ F H (Al.refl ..) rfl⟩
 ·cases e
def dr(m:List (Tx×Int))(x:Tx):Option Int:=(m.find? λp=>decide (p.1=x)).map (·.2)
def rf(m:List (Tx×Int)):List Tx->Option Tx
 | []=>ae
 | x::r=>r.foldl (λb y=>b.bind λb=>(dr m b).bind λkb=>(dr m y).map λky=>if ky<kb then y else b) ((dr m x).map λ_=>x)
def pH(i j:Nat):aj->R PV:=λε=>match ε[i]? with
 | some (.val (.lst xs))=>(aS (gA xs) ε).bind λls ε=>(aS (dP ε j) ε).bind λkvs ε=>(aS (rA kvs) ε).bind λm ε=>(aS (rf m ls) ε).bind λx ε=>.ok (.str x) ε
 | _=>.no
end Pu
namespace L2
theorem Nn{pos:Pos}{a b:Int}{c cv:ak}(l:List ak)(h:TriplesOk l)(e:vD pos (l++[eN a,eN b,c])=aa cv):vD pos l=aa cv\/cv=c:=by
 fun_induction TriplesOk l with
 | case1=>simp[vD,eN]at e;exact .inr e.2.symm
 | case2 a' t b' u x rest ih=>
  simp only[C9,vD]at e ⊢;split at e
  ·rename_i hc; rw[if_pos hc]; exact .inl e
  ·rename_i hc; rw[if_neg hc]; exact ih h e
 | case3 l h1 h2=>exact h.elim
section
variable{X:Cx}{ah:List (af×Obj)}{σ:St}{H:Hp}{s:aq}
structure LamAt(X:Cx)(x:Str)(c P:af):Prop where
 mem:x∈vj
 tab:lz X.K x=aa (c,P)
 hd:zo X.K c P=ai
 code:X.env.code = .ref c
theorem Sn(I:Inv X ah σ H s){x:Str}{c P:af}(L:LamAt X x c P){params:sX}{body:aC}{scope:eC}{pos:Pos}{clos:List (Str×af)}(hq:X.env.qual++"<lambda>" = x++".<locals>.<lambda>") (jG:zp scope X.env=pure clos) (wn:defaultsOf params X.env=([],[])) {Q:ak->aq->Prop}(h:∀ f c' ctv H' s',Inv X ah σ H' s'->(∀ b o,H b=aa o->H' b=aa o)->s'.heap.get? f=aa (Df "<lambda>" (X.env.qual++"<lambda>") params body scope clos ((X.mg "__name__").getD .none) c' ctv)->f≠X.env.locals -> s'.heap.CodeRec (.ref c') (X.env.qual++"<lambda>")->c'≠X.env.locals->Q (.ref f) s') : ax (ay X.prog X.w) X.A (bv (.Lambda params body scope pos) X.env) Q X.xe s:=by
 have tb:=I.tab x L.mem c P L.tab;obtain⟨ps,hP,tri,g⟩:=I.hok P _ tb;have hgl:s.heap.Ns cE X.mg:=I.mod.glob.keeps I.bk;have hgP:cE≠P:=λz=>by
  obtain⟨o,es,ep,e,hd,_⟩:=hgl;rw[z,hP]at e; cases e; cases hd
 have hbl:s.heap.BuiltinsAt X.mg P:=by
  obtain⟨bm,ob,b1,b2,b3,b4,b5,b6⟩:=I.mod.bm;refine⟨bm,ob,b1,b2,λz=>?_,λz=>?_,I.bk _ _ b3,b4,b5,b6⟩
  ·obtain⟨o,es,ep,e,hd,_⟩:=I.mod.glob;rw[← z,b3]at e; cases e; rw[b6]at hd; cases hd
  ·have e:=I.bk _ _ b3;rw[z,hP]at e; cases e; simp at b4
 have hC:=PySem.W.codeHd_of_K I.kIn L.hd;have Lne:X.env.locals≠P:=λz=>by have:=I.free; rw[z,tb]at this; cases this
 refine PySem.W.kla_eval wn ?_;cases hf:vD pos ps.toList with
 | some cv=>
  obtain⟨c1,rfl,mM,zR⟩:=g pos _ hf;refine PySem.W.kla_makeFunctionHit (mg:=X.mg) jG I.ok.glob hgl L.code hC hP tri hf hbl λctv h' tk hk hsz=>?_;have ez:∀ b o,s.heap.get? b=aa o->(h'.push (Df "<lambda>" (X.env.qual++"<lambda>") params body scope clos ((X.mg "__name__").getD .none) c1 ctv)).get? b=aa o:=λb o e=>bK _ (hk b o e);refine h _ c1 ctv H _ (I.un (Un.kept ez) (I.hok.kept ez)) (λ_ _ e=>e) (dz _ rfl) (mC (fQ I.lt hsz)) ?_ λz=>?_
  ·have hrec':s.heap.CodeRec (.ref c1) (X.env.qual++"<lambda>"):=by rw[hq]; exact zR
   exact hrec'.keeps ez
  ·have:=I.free; rw[← z,mM]at this; cases this
 | none=>
  refine PySem.W.kla_makeFunction (mg:=X.mg) jG I.ok.glob hgl L.code hC hP tri hf hgP hbl λc1 ctv h' tk hx eZ br zR htb=>?_;generalize ho:Df "<lambda>" (X.env.qual++"<lambda>") params body scope clos ((X.mg "__name__").getD .none) c1 ctv=fo;have ez:∀ b o,b≠P->s.heap.get? b=aa o->(h'.push fo).get? b=aa o:=λb o n e=>bK _ (hx b o n e);have fr:H c1=ae:=I.hok.fresh eZ;have rec2:(h'.push fo).CodeRec (.ref c1) (X.env.qual++"<lambda>"):=zR.keeps λb o e=>bK _ e;have nP:∀ b,H b=ae->b≠P:=λb n z=>by rw[z,tb]at n; cases n
  have nc:∀ b o,s.heap.get? b=aa o->b≠c1:=λb o e=>c7 (fQ (bC e) eZ);have up:∀ b o,H b=aa o->(upd H c1 (.own P)) b=aa o:=λb o e=>by rw[cn (mX e fr)]; exact e
  have I':Inv X ah σ (upd H c1 (.own P)) { s with heap:=h'.push fo,gens:=s.gens,drawn:=s.drawn,toks:=tk }:=by
   refine I.step (ch:=[]) (λ_ z=>nomatch z) (λb o _ _ _ e n=>ez b o (nP b n) e) (λb o _ _ _ e n=>⟨o.slots,ez b o (nP b n) e⟩) (λb o _ e n=>by rw[cn (nc b o e)]; exact n)
    (λb o _ e=>?_) (λb xs e=>up b _ e) (λb o u e=>up b _ e) (λb q e=>up b _ e) (λm hm=>?_) (λa u e=>?_) I.bare
   ·by_cases hb:b=P
    ·subst hb; exact⟨_,bK _ htb⟩
    ·exact⟨o,ez b o hb e⟩
   ·exact(hm.extBut hx Lne).push _
   ·by_cases ha:a=c1
    ·subst ha;rw[cz]at e;cases e;obtain⟨_,o,_,_,z,e2,_⟩:=rec2;cases z;exact⟨o,e2⟩
    ·rw[cn ha]at e;by_cases hb:a=P
     ·subst hb;rw[tb]at e;cases e;refine⟨_,bK _ htb,by rw[ix]; exact TriplesOk_snoc _ _ _ _ tri,λpos' cv hc=>?_⟩;rw[ix]at hc;rcases Nn _ tri hc with z | rfl
      ·obtain⟨c2,rfl,h1,h2⟩:=g pos' cv z;refine⟨c2,rfl,up c2 _ h1,?_⟩;obtain⟨c3,o,vs,t,z,e2,r⟩:=h2;cases z;exact⟨c2,o,vs,t,rfl,ez c2 o (λz=>by rw[z,tb]at h1; cases h1) e2,r⟩
      ·exact⟨c1,rfl,cz,hq ▸ rec2⟩
     ·refine(I.hok a u e).stay (λb v hc r=>ez b v ?_ r) (λb r=>up b _ r) λb xs r=>up b _ r;rcases hc with rfl | hc
      ·exact hb
      ·rintro rfl; rw[tb]at hc; cases hc
  exact h _ c1 ctv _ _ I' up (by rw[← ho]; exact dz _ rfl) (mC (fQ I.lt (cI eZ (lA br)))) rec2 (mC (fQ I.lt eZ))
end
open Att
section
variable{prog:aX}{w:aN}{A:be}{E:ak->aq->Prop}{s:aq}
structure z6(x y:Str)(params:sX)(scope:eC):Prop where
 bind:∀ (name qual:Str) (body:aC) (cl:List (Str×af)) (pm aP ct v:ak),gE (PySem.W.kla_fn name qual params body scope cl pm aP ct) ⟨[v],[]⟩=pure [(x,v)]
 lx:scope.names.lookup x=aa .local
 ly:scope.names.lookup y=aa .free
 nc:∀ z∈scope.names,z.2≠.cell
 co:scope.isCoroutine=ao
 gen:scope.isGenerator=ao
 kind:scope.kind = .function
 dx:(x == ("__debug__" : Str))=ao
 dy:(y == ("__debug__" : Str))=ao
 cy:(y == ("__classdict__" : Str))=ao
theorem SR{f c' d cell:af}{x y qual:Str}{params:sX}{scope:eC}{p1 p2 p3:Pos}{clos:List (Str×af)}{pm ctv v r:ak}{vs:List (aI×ak)}{k:aI}{Q:ak->aq->Prop}(L:z6 x y params scope)(wd:A.depth<vH) (ho:s.heap.get? f=aa (Df "<lambda>" qual params (.Subscript (.Name y p1) (.Name x p2) p3) scope clos pm c' ctv)) (bM:s.heap.CodeRec (.ref c') qual) (lim:s.heap.NoLimit)(jG:clos.lookup y=aa cell) (lL:s.heap.IsCell cell (aa (.ref d))) (hD:s.heap.DictOf (gf prog w) d vs) (hk:RelV (kV k) v) (hw:o_ vs k=aa r)(h:∀ h' tk,(∀ b o,s.heap.get? b=aa o->h'.get? b=aa o)->Q r { s with heap:=h',toks:=tk }):ax (ay prog w) A (call (.ref f) [v]) Q E s:=by
 refine wpAny_call (PySem.W.kla_callFunE wd ho rfl L.co L.gen rfl bM ?_);rw[L.bind];refine aD (wpAny_newFunctionEnv L.nc (λz hz=>by rw[gZ.mp hz]; exact L.lx) (λh₁ ku je=>?_) L.kind);have keep:∀ b o,s.heap.get? b=aa o->h₁.get? b=aa o:=λb o e=>(je.2 b (c7 (bC e))).trans (bK _ e);refine⟨lim.keeps keep,PySem.W.kla_codeExpr ?_⟩;obtain⟨oc,hoc,hdc⟩:=lL;have hD':h₁.DictOf (gf prog w) d vs:=by obtain⟨ob,es,ep,e,r⟩:=hD;exact⟨ob,es,ep,keep _ _ e,r⟩
 refine IE PySem.F.slot_dict_getitem.lookup (λ_ _=>rfl) ?_;refine zf (wpAny_loadName_free L.kind L.ly jG ⟨oc,keep _ _ hoc,hdc⟩ ?_ L.cy) L.dy;refine zf (wpAny_loadName_local L.kind L.lx ku (v:=v) (by simp) ?_) L.dx;exact⟨hD'.typeIs,wpAny_getItem_of (o0 hk) hD'.mapOf hw (h _ _ keep)⟩
end
theorem BP:∀ {xs:List V} {vs:List ak} {i:Nat} {v:ak},bI xs vs->vs[i]?=aa v->∃ x,xs[i]?=aa x/\RelV x v
 | _,_,_,_,.nil,e=>by simp at e
 | _,_,0,_,.cons h _,e=>by simp at e; subst e; exact⟨_,rfl,h⟩
 | _,_,i+1,_,.cons _ t,e=>by obtain⟨x,a,b⟩:=BP (i:=i) t (by simpa using e);exact⟨x,by simpa using a,b⟩
def A4(h:aE)(L:af):List (af×Obj):=BD h L L
theorem U4{h:aE}{L a:af}{o:Obj}:(a,o)∈A4 h L↔a≠L/\h.get? a=aa o:=by unfold A4;rw[OU];exact⟨λz=>⟨z.1,z.2.2⟩,λz=>⟨z.1,z.1,z.2⟩⟩
section
variable{X:Cx}{ah:List (af×Obj)}{σ:St}{H:Hp}{s:aq}
theorem Inv.mapKept{h':aE}{tk:Nat}{m:Str->Option ak}(I:Inv X ah σ H s)(hm:s.heap.Ns X.env.locals m)(hm':h'.Ns X.env.locals m)(k:∀ b o,b≠X.env.locals->s.heap.get? b=aa o->h'.get? b=aa o):Inv X ah σ H { s with heap:=h',toks:=tk }:=by
 refine I.step (g':=s.gens) (d':=s.drawn) (ch:=[]) (λ_ z=>nomatch z) (λb o hL _ _ e _=>k b o hL e) (λb o hL _ _ e _=>⟨o.slots,k b o hL e⟩) (λ_ _ _ _ n=>n) (λb o _ e=>?_) (λ_ _ e=>e) (λ_ _ _ e=>e) (λ_ _ e=>e) (λm2 h2=>?_) (λa u e=>?_) I.bare
 ·by_cases hb:b=X.env.locals
  ·subst hb;obtain⟨o',_,_,e',_⟩:=hm';exact⟨o',e'⟩
  ·exact⟨o,k b o hb e⟩
 ·have:m2=m:=h2.eq_nsMap.trans hm.eq_nsMap.symm;rw[this]; exact hm'
 ·refine(I.hok a u e).stay (λb v hc r=>k b v ?_ r) (λ_ r=>r) λ_ _ r=>r;rintro rfl;have:=I.free;rcases hc with rfl | hc
  ·rw[e]at this; cases this
  ·rw[hc]at this; cases this
def PJ(iy:Nat)(te:TA):TE:=λσ H Q=>te σ H λls H1=>∃ (a d:af) (xs:List V) (kvs:List (aI×V)) (kf:Nat->Int),ls=[.ref a]/\Rd H1 a (.lst xs)/\xs≠[]/\σ[iy]?=aa (aa (.ref d))/\Rd H1 d (.dK kvs) /\
 (∀ i v,xs[i]?=aa v->∃ k,v=kV k/\iJ kvs k=aa (.int (kf i)))/\∀ i v H2,xs[i]?=aa v->(∀ j,j<xs.length->kf i<=kf j/\(j<i->kf i<kf j))->(∀ b o,H1 b=aa o->H2 b=aa o)->Q v H2
theorem S8{z x y n:Str}{p0:Pos}{c P cell:af}{params:sX}{scope:eC}{p p1 p2 p3 lpos kp pos:Pos}{iy:Nat}{ta:TA}(hc:X.calm=ai)(hr:X.A.depth+1<vH)(LA:LamAt X n c P)(LO:z6 x y params scope)(hq:X.env.qual++"<lambda>" = n++".<locals>.<lambda>")(hy:X.N[iy]?=aa y) (hyk:X.env.kindOf y=aa .cell) (lL:X.env.cells.lookup y=aa cell) (wE:zp scope X.env=pure [(y,cell)]) (wn:defaultsOf params X.env=([],[]))(hg:Gl X "min") (hm:X.mg "min" = ae) (ha:PA X [.Name z p0] ta):PE X (.Call (.Name "min" p) [.Name z p0] [⟨aa "key",.Lambda params (.Subscript (.Name y p1) (.Name x p2) p3) scope lpos,kp⟩] pos) (PJ iy ta):=by
 intro ah s σ H Q I h;refine Cz (sH I hg hm (show fq "min" = aa (.builtin "min") by kernel_rfl) ?_ (by decide) (by decide));refine callWith_kw (aU (ha pos ah s σ H _ I h) λus s1 ⟨vs,H1,I1,r1,q⟩=>?_);obtain⟨a,d,xs,kvs,kf,rfl,hA,cP,hσ,hD,hkf,hQ⟩:=q;obtain⟨u,rfl⟩:∃ u,us=[u]:=by
  cases r1 with
  | cons _ t=>cases t; exact⟨_,rfl⟩
 obtain rfl:u = .ref a:=by
  cases r1 with
  | cons z _=>exact z
 refine kws_cons (Sn I1 LA hq wE wn λf c' ctv H2 s2 I2 sub hf hfL zR hcL=>kws_nil ?_);have hA2:Rd H2 a (.lst xs):=hA.elim (λz=>.inl (sub _ _ z)) λ⟨o,z⟩=>.inr ⟨o,sub _ _ z⟩;have hD2:Rd H2 d (.dK kvs):=hD.elim (λz=>.inl (sub _ _ z)) λ⟨o,z⟩=>.inr ⟨o,sub _ _ z⟩;obtain⟨m,ku,hl⟩:=id I2.loc;obtain⟨zl,its,n0,rv,eL⟩:=hA2.ok I2.hok;obtain⟨zd,hsm,dv,rel,dd⟩:=hD2.ok I2.hok;have neT:∀ {b:af} {u:HO},Rd H2 b u->b≠X.env.locals:=λ{b u} r z=>by
  have:=I2.free;rcases r with r | ⟨_,r⟩ <;> rw[← z,r]at this <;> cases this
 obtain⟨u,ru,lk⟩:=hl iy y _ hy hσ (.inr (.inl hyk));obtain rfl:u = .ref d:=ru;have jG:s2.heap.IsCell cell (aa (.ref d)):=by
  rcases lk with⟨z,_⟩ | ⟨_,c2,e2,z⟩
  ·rw[hyk]at z; cases z
  ·rw[lL]at e2; cases e2; exact z
 have lenI:its.length=xs.length:=rv.length.symm;show ax _ _ (call (.builtin "min") [.ref a] [(CB "key",.ref f)]) _ _ _;refine kmk_min (h₀:=yR s2.heap) (L:=X.env.locals) (m:=m) (news:=A4 s2.heap X.env.locals) (vs:=its) kf (I2.ok.hd hc) (RK ku) (λ⟨b,o⟩ hp=>?_) (λh' F' N'=>?_) (by rw[lenI]; exact List.length_pos_iff.mpr cP) (λi v hv h' tk own F' N'=>?_) λi v h' tk hv DP F' N'=>?_
 ·obtain⟨n1,e1⟩:=U4.mp hp;exact⟨e1,n1,Jg _ _⟩
 ·exact⟨_,(N' _ (U4.mpr ⟨neT hA2,eL⟩)).1,rfl,n0,rfl⟩
 ·have k:∀ b o,b≠X.env.locals->s2.heap.get? b=aa o->h'.get? b=aa o:=λb o n e=>(N' (b,o) (ze _ (U4.mpr ⟨n,e⟩))).1;obtain⟨xv,hx,rx⟩:=BP rv hv;obtain⟨ky,rfl,DC⟩:=hkf i xv hx;obtain⟨r,mR,rr⟩:=o3.some_of (v:=.int (kf i)) (o:=o_ dv ky) (by rw[← DC]; exact rel.val ky);obtain⟨t,rfl⟩:=rr;obtain⟨cc,oc,vc,tc,z,ec,rc⟩:=zR;cases z;obtain⟨ob,es,ep,e3,r3⟩:=dd;obtain⟨ol,tY,t4⟩:=jG;refine SR (s:={ s2 with heap:=h',toks:=tk }) LO (zJ hr) (k _ _ hfL hf) ⟨_,oc,vc,tc,rfl,k _ _ hcL ec,rc⟩ (I2.mod.nolimit.keeps λb o e=>k b o (c7 (fQ (bC e) (cI I2.ok.bsz I2.ok.above))) (I2.bk b o e))
   (by simp[zr]) ⟨ol,k _ _ (I2.cne y cell lL) tY,t4⟩ ⟨ob,es,ep,k _ _ (neT hD2) e3,r3⟩ rx mR λh2 tk2 k2=>?_
  exact⟨h2,tk2,t,rfl,rfl,⟨F'.ns.keeps k2,λb o e=>k2 b o (F'.keep b o e),F'.above⟩,λq hq=>⟨k2 _ _ (N' q hq).1,(N' q hq).2⟩⟩
 ·obtain⟨xv,hx,rx⟩:=BP rv hv;exact⟨xv,H2,I2.mapKept ku F'.ns λb o n e=>(N' (b,o) (U4.mpr ⟨n,e⟩)).1,rx,hQ i xv H2 hx (λj hj=>DP j (by rw[lenI]; exact hj)) sub⟩
end
end L2
namespace Pu
open L2
theorem N1(m:List (Tx×Int))(x:Tx):iJ (m.map λp=>((Sum.inr (tS p.1):aI),V.int p.2)) (Sum.inr (tS x))=(dr m x).map V.int:=by
 unfold dr
 induction m with
 | nil=>rfl
 | cons p m ih=>
  rw[d4,f6];by_cases h:p.1=x
  ·rw[u7 (by rw[h]),decide_eq_true h]; rfl
  ·rw[uG (λz=>h (pQ (Sum.inr.inj z))),decide_eq_false h]; exact ih
theorem FX(m:List (Tx×Int))(r:List Tx):r.foldl (λb y=>b.bind λb=>(dr m b).bind λkb=>(dr m y).map λky=>if ky<kb then y else b) (ae:Option Tx)=ae:=by
 induction r with
 | nil=>rfl
 | cons y r ih=>exact ih
theorem AS(m:List (Tx×Int)):∀ (r pre:List Tx) (b:Tx) (kb:Int) (i0:Nat),pre[i0]?=aa b->dr m b=aa kb->(∀ (j:Nat) y,pre[j]?=aa y->∃ k,dr m y=aa k/\kb<=k/\(j<i0->kb<k))->∀ x, r.foldl (λb y=>b.bind λb=>(dr m b).bind λkb=>(dr m y).map λky=>if ky<kb then y else b) (aa b)=aa x -> ∃ i kx,(pre++r)[i]?=aa x/\dr m x=aa kx/\∀ (j:Nat) y,(pre++r)[j]?=aa y->∃ k,dr m y=aa k/\kx<=k/\(j<i->kx<k)
 | [],pre,b,kb,i0,h1,h2,h3,x,e=>by
  cases e;rw[ja];exact⟨i0,kb,h1,h2,h3⟩
 | y::r,pre,b,kb,i0,h1,h2,h3,x,e=>by
  rw[jz,gI,h2,gI]at e;have i0l:i0<pre.length:=(eu.mp h1).1;cases ey:dr m y with
  | none=>rw[ey,CQ,FX]at e; cases e
  | some ky=>
   rw[ey,lH]at e;rw[List.append_cons pre y r];by_cases c:ky<kb
   ·rw[if_pos c]at e;refine AS m r (pre++[y]) y ky pre.length (by simp) ey (λj z hz=>?_) x e;by_cases hj:j<pre.length
    ·rw[fJ hj]at hz;obtain⟨k,a1,a2,_⟩:=h3 j z hz;exact⟨k,a1,∅,λ_=>∅⟩
    ·rw[jy ∅]at hz;obtain rfl:z=y:=by
      cases hq:j-pre.length with
      | zero=>rw[hq]at hz; simpa using hz.symm
      | succ n=>rw[hq]at hz; simp at hz
     exact⟨ky,ey,Int.le_refl _,λz=>absurd z hj⟩
   ·rw[if_neg c]at e;refine AS m r (pre++[y]) b kb i0 (by rw[fJ i0l]; exact h1) h2 (λj z hz=>?_) x e;by_cases hj:j<pre.length
    ·rw[fJ hj]at hz;exact h3 j z hz
    ·rw[jy ∅]at hz;obtain rfl:z=y:=by
      cases hq:j-pre.length with
      | zero=>rw[hq]at hz; simpa using hz.symm
      | succ n=>rw[hq]at hz; simp at hz
     exact⟨ky,ey,∅,λz=>∅⟩
theorem LY{m:List (Tx×Int)}{ls:List Tx}{x:Tx}(h:rf m ls=aa x):∃ i kx,ls[i]?=aa x/\dr m x=aa kx/\∀ (j:Nat) y,ls[j]?=aa y->∃ k,dr m y=aa k/\kx<=k/\(j<i->kx<k):=by
 cases ls with
 | nil=>cases h
 | cons y r=>
  unfold rf at h;dsimp only at h;cases e:dr m y with
  | none=>rw[e,CQ,FX]at h; cases h
  | some k=>
   rw[e,lH]at h;refine AS m r [y] y k 0 rfl e (λj z hz=>?_) x h;cases j with
   | zero=>cases hz; exact⟨k,e,Int.le_refl _,λz=>absurd z (zn _)⟩
   | succ j=>simp at hz
section
variable{X:Cx}{E:XK}
theorem MQ(i j:Nat){z x y n:Str}{c P cell:af}{params:sX}{scope:eC}{p p0 p1 p2 p3 lpos kp pos:Pos}(hc:X.calm=ai)(hr:X.A.depth+1<vH)(LA:LamAt X n c P)(hm:X.mg "min" = ae)(hq:X.env.qual++"<lambda>" = n++".<locals>.<lambda>":=by rfl) (lL:X.env.cells.lookup y=aa cell:=by rfl) (wE:zp scope X.env=pure [(y,cell)]:=by rfl)(LO:z6 x y params scope:=by exact⟨λ_ _ _ _ _ _ _ _=>rfl,rfl,rfl,by decide,rfl,rfl,rfl,by decide,by decide,by decide⟩)(hN:X.N[i]?=aa z:=by rfl) (fS:fW X.env.scope z:=by first | exact Or.inl rfl | exact Or.inr (Or.inl rfl) | exact Or.inr (Or.inr rfl)) (hd:(z == ("__debug__" : Str))=ao:=by decide) (bM:(z == ("__classdict__" : Str))=ao:=by decide)(hj:X.N[j]?=aa y:=by rfl) (hyk:X.env.kindOf y=aa .cell:=by rfl) (wn:defaultsOf params X.env=([],[]):=by rfl) (hg:Gl X "min":=by rfl) : DE X E (.Call (.Name "min" p) [.Name z p0] [⟨aa "key",.Lambda params (.Subscript (.Name y p1) (.Name x p2) p3) scope lpos,kp⟩] pos) (pH i j):=λF S ε σ H Q rl h=>by
 unfold pH at h;split at h
 ·rename_i xs e0;cases e1:gA xs with
  | none=>rw[e1]at h; exact h.elim
  | some ls=>
   rw[e1]at h;simp only[dE,R.bind_ok]at h;cases e2:dP ε j with
   | none=>rw[e2]at h; exact h.elim
   | some kvs=>
    rw[e2]at h;simp only[dE,R.bind_ok]at h;cases e3:rA kvs with
    | none=>rw[e3]at h; exact h.elim
    | some m=>
     rw[e3]at h;simp only[dE,R.bind_ok]at h;cases e4:rf m ls with
     | none=>rw[e4]at h; exact h.elim
     | some r=>
      rw[e4]at h;simp only[dE,R.bind_ok]at h;obtain rfl:=ui e1;obtain⟨v,ev,a,us,rfl,ha,hF,ra⟩:=rl.val i _ e0;obtain⟨rfl,bY⟩:=UF.mp ra;obtain⟨d,ws,ed,hD,hk,_⟩:=rl.dkAt (lu e2);have hws:=IC hk e3;obtain⟨i0,kx,g1,g2,g3⟩:=LY e4;have kfe:∀ (t:Nat) u,ls[t]?=aa u->dr m u=aa (((ls[t]?).bind (dr m)).getD 0):=λt u hu=>by obtain⟨k,a1,_⟩:=g3 t u hu;rw[hu,gI,a1]; rfl
      refine cT (S8 hc hr LA LO hq hj hyk lL wE wn hg hm (kc (gP hN fS hd bM) mn (by rfl))) ?_;refine⟨_,ev,a,d,c0 ls,ws,λt=>((ls[t]?).bind (dr m)).getD 0,rfl,ha,λz=>?_,ed,.inl hD,λt v hv=>?_,λt v H2 hv DP sub=>?_⟩
      ·have:ls=[]:=by unfold c0 at z; exact List.map_eq_nil_iff.mp z
       rw[this]at g1; simp at g1
      ·unfold c0 at hv;rw[ir]at hv;obtain⟨u,hu,rfl⟩:=qB.mp hv;refine⟨.inr (tS u),rfl,?_⟩;rw[hws,N1,kfe t u hu]; rfl
      ·unfold c0 at hv;rw[ir]at hv;obtain⟨u,hu,rfl⟩:=qB.mp hv;have tl:t<ls.length:=(eu.mp hu).1;have il:i0<ls.length:=(eu.mp g1).1;have k1:((ls[t]?).bind (dr m)).getD 0=kx\/True:=.inr trivial;have ki0:((ls[i0]?).bind (dr m)).getD 0=kx:=by rw[g1,gI,g2]; rfl
       obtain⟨k,a1,a2,a3⟩:=g3 t u hu;have kt:((ls[t]?).bind (dr m)).getD 0=k:=by rw[hu,gI,a1]; rfl
       obtain⟨m1,m2⟩:=DP i0 (by unfold c0; rw[cD]; exact il);have m1':((ls[t]?).bind (dr m)).getD 0<=((ls[i0]?).bind (dr m)).getD 0:=m1;have m2':i0<t->((ls[t]?).bind (dr m)).getD 0<((ls[i0]?).bind (dr m)).getD 0:=m2;rw[kt,ki0]at m1' m2';have et:t=i0:=by
        rcases Nat.lt_trichotomy t i0 with q | q | q
        ·have:=a3 q; lia
        ·exact q
        ·have:=m2' q; lia
       subst et;rw[g1]at hu;cases hu;have al:Al F F H H2:=⟨λ_ z=>z,λb o e=>sub b o e,λ_ z=>.inl z⟩
       exact h F S H2 (rl.al al) al.grow (tV r) ⟨rfl,bY r (vI g1)⟩
 ·exact h.elim
end
structure BU(K:az)(mg:Str->Option ak)(x:Str)(c T:af):Prop where
 tab:lz K x=aa (c,T)
 hd:zo K c T=ai
 code:∀ f fd oc od osl,mg x=aa (.ref f)->K.lookup f=aa ⟨oc,od,.func fd,osl⟩->fd.code = .ref c
theorem QD{K:az}{h:aE}{mg:Str->Option ak}{x:Str}{c T:af}(X:K.In h)(G:h.Ns cE mg)(h1:lz K x=aa (c,T))(h2:zo K c T=ai):BU K mg x c T:=by
 refine⟨h1,h2,λf fd oc od osl hm hl=>?_⟩;unfold lz at h1;split at h1
 ·rename_i f' e;have e':=jB X G e;rw[hm]at e';cases e';rw[hl]at h1;dsimp only at h1;split at h1
  ·rename_i c' e3;split at h1
   ·split at h1
    ·cases h1; exact e3
    ·cases h1
   ·cases h1
  ·cases h1
 ·cases h1
theorem RI{CX:fV}{P:aX}{w:aN}{K:az}{mg:Str->Option ak}{base:aE}{x:Str}{st:bf}{N ps:List Str}{k n:Nat}{d:aj->R aH}{pin:List Nat}(LF:∃ c T,BU K mg x c T)(hx:x∈vj)(D:cA K mg x st)(Sc:b8 N ps (aY st))(hn:N.length=ps.length+n)(hb:∀ (kV doc pm:ak) (an:Option af) (aP ct:ak) (us:List ak),us.length=ps.length->gE (kl x x (kL st) (gS st) (aY st) .none kV doc pm an aP ct) ⟨us,[]⟩=pure (ps.zip us))(jD:∀ (f:af) (aP:ak) (c T:af) (A:be) (outer:List Env) (s:aq) (H:Hp) (E:XK),Room k (A.deeper (jV x (aY st) s.heap.objs.size f aP))->LamAt (iX CX P w K mg base N x (aY st) f aP A outer s H E) x c T->jj (iX CX P w K mg base N x (aY st) f aP A outer s H E) E pin (gS st) d) : cm CX P w K mg base x (k+1) ps (b0 K (bt ps.length pin (bw n d))):=by
 have no:∀ {ss},bt ps.length pin (bw n d) ss≠.no->ss.length=ps.length/\eQ pin 0 ss=ai:=λ{ss} h=>by
  unfold bt at h;by_cases z:ss.length=ps.length/\eQ pin 0 ss=ai
  ·exact z
  ·rw[if_neg z]at h; exact absurd rfl h
 obtain⟨f,fd,hm,Fn⟩:=D.ex;obtain⟨c,T,L⟩:=LF;refine⟨f,fd,hm,Ep Fn Sc hn hb (λss h=>(no h).1) (λss h i po e=>by have:=rG (no h).2 i po e; rwa[nZ]at this) (λss h=>by unfold bt; rw[if_pos (no h)]) λA outer s H E hr=>?_,Fn.binds hb,Fn.kp⟩;obtain⟨oc,od,_,_,_,_,_,_,osl,_,lk,_⟩:=Fn.ex;exact jD f fd.code c T A outer s H E hr ⟨hx,L.tab,L.hd,L.code f fd oc od osl hm lk⟩
end Pu
theorem L2.Room.d1{k:Nat}{A:PySem.Around}(r:L2.Room k A):A.depth+1<PySem.recursionLimit:=by have:=r.dp; lia
theorem L2.LamAt.nox{X:L2.Cx}{x:PySem.Str}{c T:PySem.Addr}(h:L2.LamAt X x c T):L2.LamAt X.nox x c T:=⟨h.mem,h.tab,h.hd,h.code⟩
namespace Sh
open L2 Pu
set_option genInjectivity false in
structure Ad where
 SlitError:af
 NoText:af
 NoWidth:af
 NoView:af
 NoWindow:af
 Never:af
 Full:af
 Nothing:af
 Unlike:af
 NoPlace:af
 NoLetters:af
 BadText:af
 Seeker:af
 Slit:af
def yap(a:Ad):aj->R aH:=dJ (dL uZ (aw (dF (dD [1] (cG (dV 0)) (dU) (d2 (rq ao) (dV 0) (dV 1)))) (aB)))
def vi(a:Ad):aj->R Slot:=bt 2 [] (bw 0 (yap a))
def yat(a:Ad):aj->R aH:=dJ (ou (dL i8 (aw (dV 0) (aw (dC (.raw (.ty "int"))) (aB)))) (Ih (dL i8 (aw (dV 0) (aw (dC (.raw (.ty "bool"))) (aB))))))
def xh(a:Ad):aj->R Slot:=bt 1 [] (bw 0 (yat a))
def yau(a:Ad):aj->R aH:=dJ (ou (aV (aG (xh a) (gV (dV 0) (bO)))) (pV (jl λi j=>decide (i<=j)) (jl λi j=>decide (i<=j)) (dC (.int 1)) (dV 0) (dC (.int 4))))
def qm(a:Ad):aj->R Slot:=bt 1 [] (bw 0 (yau a))
def yav(a:Ad):aj->R aH:=dJ (ou (dL i8 (aw (dV 0) (aw (dC (.raw (.ty "str"))) (aB)))) (ou (d2 (eqT ao) (dL bz (aw (dV 0) (aB))) (dV 1)) (aV (aG (vi a) (gV (dV 0) (gV (dV 2) (bO)))))))
def sD(a:Ad):aj->R Slot:=bt 3 [] (bw 0 (yav a))
def yag(a:Ad):aj->R aH:=aF (cV (qY (j4 (dB (dL i8 (aw (dV 0) (aw (dC (.raw (.ty "tuple"))) (aB)))))) (j4 (dB (pV (jl λi j=>decide (i<=j)) (jl λi j=>decide (i<=j)) (dC (.int 1)) (dL bz (aw (dV 0) (aB))) (dC (.int 9)))))) (dJ (dC (.bl ao))) (dG))
 (aF (cV (j4 (dB (dL uZ (aw (dF (dD [1,2] (cG (dV 0)) (dU) (aV (aG (sD a) (gV (dV 0) (gV (dV 1) (gV (dV 2) (bO)))))))) (aB))))) (dJ (dC (.bl ao))) (dG))
 (dJ (d2 (eqT ao) (dF (dL ym (aw (dV 0) (aB)))) (dF (dL lp (aw (dV 0) (aB)))))))
def oN(a:Ad):aj->R Slot:=bt 3 [] (bw 0 (yag a))
def yas(a:Ad):aj->R aH:=aF (cV (qY (j4 (dB (dL i8 (aw (dV 0) (aw (dC (.raw (.ty "tuple"))) (aB)))))) (dB (d2 (eqT ai) (dL bz (aw (dV 0) (aB))) (dC (.int 2))))) (dJ (dC (.bl ao))) (dG))
 (dJ (ou (aV (aG (qm a) (gV (d2 bA (dV 0) (dC (.int 0))) (bO)))) (aV (aG (oN a) (gV (d2 bA (dV 0) (dC (.int 1))) (gV (d2 bA (dV 0) (dC (.int 0))) (gV (dV 1) (bO))))))))
def r_(a:Ad):aj->R Slot:=bt 2 [] (bw 0 (yas a))
def yar(a:Ad):aj->R aH:=ro (aG (r_ a) (gV (dV 0) (gV (dC (.str [97,98,99])) (bO))))
def yr(a:Ad):aj->R Slot:=bt 1 [] (bw 0 (yar a))
def yaj(a:Ad):aj->R aH:=cV (j4 (dB (aV (aG (yr a) (gV (dV 0) (bO)))))) (rH (.ref a.NoView) (λε=>dw ((dC (.str [97,32,118,105,101,119,32,105,115,32,97,32,116,117,112,108,101,32,111,102,32,97,32,119,105,100,116,104,32,97,110,100,32,97,32,114,105,115,105,110,103,32,116,117,112,108,101,32,111,102,32,49,32,116,111,32,57,32,119,105,110,100,111,119,115])) ε))) (dG)
def xI(a:Ad):aj->R Slot:=bt 1 [] (bw 0 (yaj a))
def yaR(a:Ad):aj->R aH:=aF (cV (j4 (dB (pV (jl λi j=>decide (i<=j)) (jl λi j=>decide (i<=j)) (dC (.int 1)) (dL bz (aw (dV 1) (aB))) (dC (.int 9))))) (rH (.ref a.NoView) (λε=>dw ((dC (.str [97,32,118,105,101,119,32,104,97,115,32,49,32,116,111,32,57,32,119,105,110,100,111,119,115])) ε))) (dG))
 (dJ (dL sA (aw (dV 0) (aw (dL yb (aw (dF (dL lp (aw (dV 1) (aB)))) (aB))) (aB)))))
def yZ(a:Ad):aj->R Slot:=bt 2 [] (bw 0 (yaR a))
def yal(a:Ad):aj->R aH:=aF (cQ 1 (AM))
 (aF (λε=>cr (cq 2 (cG (dV 0)) (jh 1 (dV 2) (d2 aL (nz 1 (dV 2) (dC (.int 0))) (dC (.int 1)))) ε))
 (fg 1))
def vn(a:Ad):aj->R Slot:=bt 1 [] (bw 2 (yal a))
def yaf(a:Ad)(rc:aj->R Slot):aj->R aH:=aF (cV (j4 (dB (uJ 2))) (aF (jO 3 (dV 0)) (IJ (.ret (.val .non)))) (dG))
 (aF (bH 4 (ba a_ (dV 0) (aM (d2 aL (d2 cX (dL bz (aw (dV 0) (aB))) (dV 1)) (dC (.int 1)))) (bW)))
 (λε=>cr (cq 5 (cG (dC (.str [97,98,99]))) (aF (bH 6 (d2 aL (dV 4) (dV 5)))
 (cV (dB (d2 (jl λi j=>decide (j<i)) (nz 2 (dV 6) (dC (.int 0))) (dC (.int 0)))) (aF (jh 2 (dV 6) (d2 cX (js 2 (dV 6)) (dC (.int 1))))
 (aF (kU (aG (rc) (gV (d2 aL (dV 0) (dV 5)) (gV (dV 1) (gO 2 (gO 3 (bO)))))))
 (jh 2 (dV 6) (d2 aL (js 2 (dV 6)) (dC (.int 1)))))) (dG))) ε)))
def oX(a:Ad):Nat->aj->R Slot
 | 0=>bt 4 [2,3] (bw 3 Gg)
 | k+1=>bt 4 [2,3] (bw 3 (yaf a (oX a k)))
def yaN(a:Ad):aj->R aH:=aF (kU (aG (xI a) (gV (dV 0) (bO))))
 (aF (bH 1 (d2 bA (dV 0) (dC (.int 0))))
 (aF (cQ 2 (dL b_ (aB)))
 (aF (λε=>cr (cq 3 (cG (dF (dL lr (aw (dF (dD [] (cG (d2 bA (dV 0) (dC (.int 1)))) (dU) (ba a_ (dV 0) (bW) (aM (d1 gd (dC (.int 1))))))) (aB))))) (kU (ug (oX a 12) (rY (dV 3) (rY (dV 1) (gN (kM (aG (vn a) (gV (d2 bA (dV 0) (dC (.int 1))) (bO)))) (gO 2 (bO))))))) ε))
 (fg 2))))
def qh(a:Ad):aj->R Slot:=bt 1 [] (bw 3 (yaN a))
def yax(a:Ad):aj->R aH:=aF (cV (dB (d2 (jl λi j=>decide (i<j)) (dV 1) (dL bz (aw (dV 0) (aB))))) (dJ (d2 bA (dV 0) (dV 1))) (dG))
 (aF (cV (dB (d2 (eqT ao) (dV 0) (dF (dL b_ (aB))))) (dJ (dC (.int 0))) (dG))
 (dJ (d2 aL (d2 iM (d2 bA (dV 0) (d2 iF (dV 1) (dL bz (aw (dV 0) (aB))))) (dC (.int 31))) (dV 1))))
def rW(a:Ad):aj->R Slot:=bt 2 [] (bw 0 (yax a))
def yaB(a:Ad):aj->R aH:=aF (bH 3 (d2 iF (d2 aL (d2 aL (d2 iM (aV (aG (rW a) (gV (dV 0) (gV (dV 1) (bO))))) (dC (.int 1103515245))) (d2 iM (dC (.int 7919)) (dV 1))) (dC (.int 12345))) (dC (.int 2147483647))))
 (dJ (d2 iF (d2 iF (d2 iF (d2 uD (dV 3) (dC (.int 5))) (dC (.int 2147483647))) (dC (.int 999983))) (dV 2)))
def yV(a:Ad):aj->R Slot:=bt 3 [] (bw 1 (yaB a))
def yay(a:Ad):aj->R aH:=aF (jO 1 (dC (.int 0)))
 (ro (aG (yV a) (gV (dV 0) (gV (yw (λxs=>oG (bz xs)) 1) (gV (dV 2) (bO))))))
def mw(a:Ad):aj->R Slot:=bt 3 [1] (bw 0 (yay a))
def yaD(a:Ad):aj->R aH:=dJ (d2 bA (dV 2) (aV (aG (mw a) (gV (dV 0) (gO 1 (gV (dL bz (aw (dV 2) (aB))) (bO)))))))
def lj(a:Ad):aj->R Slot:=bt 3 [1] (bw 0 (yaD a))
def yaG(a:Ad):aj->R aH:=aF (bH 4 (aV (aG (lj a) (gV (dV 0) (gO 1 (gV (dF (dL b_ (aw (dC (.int 1)) (aw (dC (.int 2)) (aw (dC (.int 2)) (aw (dC (.int 3)) (aw (dC (.int 3)) (aw (dC (.int 3)) (aB))))))))) (bO)))))))
 (aF (bH 5 (dC (.str [])))
 (aF (λε=>cr (cq 6 (dL ij (aw (d2 aL (dV 2) (aV (aG (mw a) (gV (dV 0) (gO 1 (gV (d2 aL (d2 cX (dV 3) (dV 2)) (dC (.int 1))) (bO))))))) (aB))) (bH 5 (d2 aL (dV 5) (d2 bA (dC (.str [97,98,99])) (aV (aG (mw a) (gV (dV 0) (gO 1 (gV (dV 4) (bO))))))))) ε))
 (dJ (dV 5))))
def oA(a:Ad):aj->R Slot:=bt 4 [1] (bw 3 (yaG a))
def yaq(a:Ad):aj->R aH:=dJ (ou (dL i8 (aw (dV 0) (aw (dC (.raw (.ty "str"))) (aB)))) (ou (pV (jl λi j=>decide (i<=j)) (jl λi j=>decide (i<=j)) (dC (.int 1)) (dL bz (aw (dV 0) (aB))) (dV 1)) (aV (aG (vi a) (gV (dV 0) (gV (dC (.str [97,98,99])) (bO)))))))
def yT(a:Ad):aj->R Slot:=bt 2 [] (bw 0 (yaq a))
def yai(a:Ad):aj->R aH:=cV (j4 (dB (aV (aG (yT a) (gV (dV 0) (gV (dC (.int 12)) (bO))))))) (rH (.ref a.NoText) (λε=>dw ((dC (.str [97,32,116,101,120,116,32,104,97,115,32,49,32,116,111,32,49,50,32,108,101,116,116,101,114,115,32,97,44,32,98,44,32,99])) ε))) (dG)
def yL(a:Ad):aj->R Slot:=bt 1 [] (bw 0 (yai a))
def yak(a:Ad):aj->R aH:=cV (j4 (dB (aV (aG (qm a) (gV (dV 0) (bO)))))) (rH (.ref a.NoWidth) (λε=>dw ((dC (.str [97,32,119,105,100,116,104,32,105,115,32,97,32,119,104,111,108,101,32,110,117,109,98,101,114,32,102,114,111,109,32,49,32,116,111,32,52])) ε))) (dG)
def yA(a:Ad):aj->R Slot:=bt 1 [] (bw 0 (yak a))
def yaI(a:Ad):aj->R aH:=kD (dD [0,1] (dL ij (aw (d2 aL (d2 cX (dL bz (aw (dV 0) (aB))) (dV 1)) (dC (.int 1))) (aB))) (dU) (ba a_ (dV 1) (aM (dV 0)) (aM (d2 aL (dV 0) (dV 2)))))
def sQ(a:Ad):aj->R Slot:=bt 2 [] (bw 0 (yaI a))
def yaM(a:Ad):aj->R aH:=aF (kU (aG (yL a) (gV (dV 0) (bO))))
 (aF (kU (aG (yA a) (gV (dV 1) (bO))))
 (ro (aG (yZ a) (gV (dV 1) (gV (aV (aG (sQ a) (gV (dV 0) (gV (dV 1) (bO))))) (bO))))))
def oZ(a:Ad):aj->R Slot:=bt 2 [] (bw 0 (yaM a))
def yaP(a:Ad):aj->R aH:=dJ (ba a_ (d2 iM (dV 0) (dV 1)) (bW) (aM (d2 cX (d2 aL (dL bz (aw (dV 0) (aB))) (dV 1)) (dC (.int 1)))))
def rn(a:Ad):aj->R Slot:=bt 2 [] (bw 0 (yaP a))
def yao(a:Ad):aj->R aH:=aF (cQ 4 (dL b_ (aB)))
 (aF (λε=>cr (cq 5 (dL ig (aw (d2 aL (dV 2) (dC (.int 1))) (aw (d2 aL (dV 3) (dC (.int 1))) (aB)))) (cq 6 (dL ig (aw (d2 aL (dV 3) (dC (.int 1))) (aw (dL bz (aw (dV 1) (aB))) (aB)))) (cV (dB (d2 (eqT ao) (d2 bA (dV 1) (dV 5)) (d2 bA (dV 1) (dV 6)))) (jO 4 (d2 aL (d2 aL (d2 aL (d2 aL (ba a_ (dV 0) (bW) (aM (dV 2))) (ba a_ (dV 0) (aM (dV 3)) (aM (dV 6)))) (ba a_ (dV 0) (aM (dV 5)) (aM (dV 3)))) (ba a_ (dV 0) (aM (dV 2)) (aM (dV 5)))) (ba a_ (dV 0) (aM (dV 6)) (bW)))) (dG))) ε))
 (fg 4))
def u6(a:Ad):aj->R Slot:=bt 4 [] (bw 3 (yao a))
def yan(a:Ad):aj->R aH:=aF (cQ 2 (dL b_ (aB)))
 (aF (λε=>cr (cq 3 (dL ij (aw (dL bz (aw (dV 1) (aB))) (aB))) (cq 4 (dL ig (aw (d2 aL (dV 3) (dC (.int 1))) (aw (dL bz (aw (dV 1) (aB))) (aB)))) (cV (dB (d2 (eqT ao) (d2 bA (dV 1) (dV 3)) (d2 bA (dV 1) (dV 4)))) (kR 2 (aV (aG (u6 a) (gV (dV 0) (gV (dV 1) (gV (dV 3) (gV (dV 4) (bO)))))))) (dG))) ε))
 (fg 2))
def zZ(a:Ad):aj->R Slot:=bt 2 [] (bw 3 (yan a))
def yaO(a:Ad):aj->R aH:=aF (cV (dB (d2 (eqT ai) (d2 bA (dV 1) (dC (.int 0))) (d2 bA (dV 1) (d1 gd (dC (.int 1)))))) (kD (dL b_ (aB))) (dG))
 (aF (bH 3 (ba a_ (dV 0) (bW) (aM (d2 cX (dL bz (aw (dV 1) (aB))) (dC (.int 1))))))
 (kD (dD [3,2] (dL ig (aw (dC (.int 1)) (aw (dL bz (aw (dV 3) (aB))) (aB)))) (dU) (aV (aG (rn a) (gV (d2 aL (ba a_ (dV 1) (aM (dV 0)) (bW)) (ba a_ (dV 1) (bW) (aM (dV 0)))) (gV (dV 2) (bO))))))))
def uT(a:Ad):aj->R Slot:=bt 3 [] (bw 1 (yaO a))
def yaH(a:Ad):aj->R aH:=aF (bH 2 (aV (aG (sQ a) (gV (dV 0) (gV (d2 cX (dV 1) (dC (.int 1))) (bO))))))
 (kD (Bh (aw (d2 aL (aV (aG (zZ a) (gV (dV 0) (gV (dV 2) (bO))))) (aV (aG (uT a) (gV (dV 0) (gV (dV 2) (gV (dV 1) (bO))))))) (aB)) (aw (dF (dL b_ (aw (dV 0) (aB)))) (aB))))
def kF(a:Ad):aj->R Slot:=bt 2 [] (bw 1 (yaH a))
def yaA(a:Ad):aj->R aH:=aF (bH 4 (d2 aL (dC (.int 1)) (aV (aG (lj a) (gV (dV 0) (gO 1 (gV (dF (dL b_ (aw (dC (.int 1)) (aw (dC (.int 1)) (aw (dC (.int 2)) (aw (dC (.int 2)) (aw (dC (.int 3)) (aB)))))))) (bO))))))))
 (aF (bH 5 (aV (aG (oA a) (gV (dV 0) (gO 1 (gV (dV 2) (gV (dC (.int 4)) (bO))))))))
 (aF (λε=>cr (eI (dB (d2 (jl λi j=>decide (i<j)) (dL bz (aw (dV 5) (aB))) (d2 cX (dV 3) (dC (.int 2))))) (bH 5 (d2 aL (dV 5) (aV (aG (lj a) (gV (dV 0) (gO 1 (gV (dF (dL b_ (aw (ba a_ (dV 5) (bW) (aM (dC (.int 2)))) (aw (ba a_ (dV 5) (bW) (aM (dC (.int 3)))) (aw (ba a_ (dV 5) (aM (dC (.int 1))) (aM (dC (.int 3)))) (aw (dC (.str [97])) (aw (dC (.str [98])) (aw (ba a_ (dV 5) (aM (d1 gd (dC (.int 2)))) (bW)) (aB))))))))) (bO)))))))) 1000 ε))
 (dJ (dL sA (aw (ba a_ (dV 5) (bW) (aM (dL u5 (aw (dV 4) (aw (d2 cX (dV 3) (aV (aG (mw a) (gV (dV 0) (gO 1 (gV (dC (.int 3)) (bO))))))) (aB)))))) (aw (dV 4) (aB)))))))
def pJ(a:Ad):aj->R Slot:=bt 4 [1] (bw 2 (yaA a))
def yaE(a:Ad):aj->R aH:=kD (dD [0,1] (dL ij (aw (d2 aL (d2 cX (dL bz (aw (dV 0) (aB))) (dV 1)) (dC (.int 2))) (aB))) (dU) (ba a_ (dV 1) (aM (dV 0)) (aM (d2 cX (d2 aL (dV 0) (dV 2)) (dC (.int 1))))))
def pM(a:Ad):aj->R Slot:=bt 2 [] (bw 0 (yaE a))
def yaF(a:Ad):aj->R aH:=aF (cQ 4 (dL b_ (aB)))
 (aF (λε=>cr (cq 5 (dL ig (aw (dV 2) (aw (dV 3) (aB)))) (cq 6 (dL ij (aw (dV 2) (aB))) (cV (dB (d2 (eqT ao) (d2 bA (dV 1) (dV 6)) (d2 bA (dV 1) (dV 5)))) (aF (bH 7 (d2 aL (ba a_ (dV 0) (bW) (aM (dV 6))) (ba a_ (dV 0) (aM (dV 5)) (aM (dV 3)))))
 (aF (bH 7 (d2 aL (dV 7) (ba a_ (dV 0) (aM (dV 2)) (aM (dV 5)))))
 (jO 4 (d2 aL (d2 aL (dV 7) (ba a_ (dV 0) (aM (dV 6)) (aM (dV 2)))) (ba a_ (dV 0) (aM (dV 3)) (bW)))))) (dG))) ε))
 (fg 4))
def vy(a:Ad):aj->R Slot:=bt 4 [] (bw 4 (yaF a))
def yaC(a:Ad):aj->R aH:=aF (bH 2 (aV (aG (pM a) (gV (dV 0) (gV (dV 1) (bO))))))
 (aF (cQ 3 (dL b_ (aB)))
 (aF (λε=>cr (cq 4 (dL ij (aw (dL bz (aw (dV 2) (aB))) (aB))) (cq 5 (dL ij (aw (dV 4) (aB))) (cV (dB (d2 (eqT ao) (d2 bA (dV 2) (dV 5)) (d2 bA (dV 2) (dV 4)))) (kR 3 (aV (aG (vy a) (gV (dV 0) (gV (dV 2) (gV (dV 5) (gV (dV 4) (bO)))))))) (dG))) ε))
 (aF (cV (dB (d2 (eqT ao) (d2 bA (dV 2) (dC (.int 0))) (d2 bA (dV 2) (d1 gd (dC (.int 1)))))) (aF (bH 6 (d2 iM (ba a_ (dV 0) (bW) (aM (d2 cX (dL bz (aw (dV 2) (aB))) (dC (.int 1))))) (dC (.int 3))))
 (kR 3 (dF (dD [6,0] (dL ig (aw (dC (.int 1)) (aw (d2 cX (dL bz (aw (dV 2) (aB))) (dC (.int 1))) (aB)))) (dU) (ba a_ (dV 1) (aM (dV 0)) (aM (d2 aL (dV 0) (dL bz (aw (dV 2) (aB)))))))))) (dG))
 (dJ (dF (dL lr (aw (dF (dD [0] (cG (dM 3)) (dB (d2 (eqT ai) (dV 0) (dV 1))) (dV 0))) (aB))))))))
def p7(a:Ad):aj->R Slot:=bt 2 [] (bw 5 (yaC a))
def yaQ(a:Ad):aj->R aH:=ro (aG (oZ a) (gV (dV 0) (gV (dV 1) (bO))))
def qt(a:Ad):aj->R Slot:=bt 2 [] (bw 0 (yaQ a))
def yaK(a:Ad):aj->R aH:=aF (cQ 4 (dL b_ (aB)))
 (aF (λε=>cr (cq 5 (cG (dV 0)) (cq 6 (cG (aV (aG (kF a) (gV (dV 5) (gV (dV 1) (bO)))))) (cV (dB (fD ai 3 (dV 6))) (aF (jh 3 (dV 6) (d2 aL (dV 2) (dC (.int 1))))
 (jO 4 (dV 6))) (dG))) ε))
 (fg 4))
def sL(a:Ad):aj->R Slot:=bt 4 [3] (bw 3 (yaK a))
def yam(a:Ad):aj->R aH:=aF (bH 3 (aV (aG (kF a) (gV (dV 1) (gV (dV 2) (bO))))))
 (aF (cQ 4 (oE 0 0))
 (aF (bH 5 (dF (dL b_ (aw (dV 0) (aB)))))
 (aF (bH 6 (dC (.int 0)))
 (aF (λε=>cr (eI (j4 (dB (dL vd (aw (dF (dD [4] (cG (dV 3)) (dU) (fD ao 1 (dV 0)))) (aB))))) (aF (bH 5 (aV (aG (sL a) (gV (dV 5) (gV (dV 2) (gV (dV 6) (gO 4 (bO))))))))
 (bH 6 (d2 aL (dV 6) (dC (.int 1))))) 1000 ε))
 (fg 4)))))
def pK(a:Ad):aj->R Slot:=bt 3 [] (bw 4 (yam a))
def yah(a:Ad):aj->R aH:=aF (bH 3 (aV (aG (oZ a) (gV (dV 0) (gV (dV 2) (bO))))))
 (cV (dB (d2 (eqT ai) (dV 3) (aV (aG (oZ a) (gV (dV 1) (gV (dV 2) (bO))))))) (rH (.ref a.Unlike) (λε=>dw ((dC (.str [116,104,101,32,116,119,111,32,116,101,120,116,115,32,104,97,118,101,32,117,110,108,105,107,101,32,118,105,101,119,115])) ε))) (dG))
def qg(a:Ad):aj->R Slot:=bt 3 [] (bw 1 (yah a))
def yaJ(a:Ad):aj->R aH:=aF (kU (aG (qg a) (gV (dV 0) (gV (dV 1) (gV (dV 2) (bO))))))
 (aF (cQ 3 (dL b_ (aw (dV 0) (aB))))
 (aF (cV (dB (d2 (eqT ao) (dV 0) (dV 1))) (fg 3) (dG))
 (aF (cQ 4 (kM (aG (pK a) (gV (dV 1) (gV (dV 0) (gV (dV 2) (bO)))))))
 (aF (λε=>cr (eI (dB (d2 (eqT ai) (pF bA 3 (d1 gd (dC (.int 1)))) (dV 1))) (aF (bH 5 (dF (dD [4] (cG (aV (aG (kF a) (gV (pF bA 3 (d1 gd (dC (.int 1)))) (gV (dV 2) (bO)))))) (dB (fD ao 1 (dV 0))) (dV 0))))
 (jO 3 (pH 5 4))) 1000 ε))
 (fg 3)))))
def rQ(a:Ad):aj->R Slot:=bt 3 [] (bw 3 (yaJ a))
def yaL(a:Ad):aj->R aH:=dJ (d2 cX (dL bz (aw (aV (aG (rQ a) (gV (dV 0) (gV (dV 1) (gV (dV 2) (bO)))))) (aB))) (dC (.int 1)))
def nh(a:Ad):aj->R Slot:=bt 3 [] (bw 0 (yaL a))
def yaz(a:Ad):aj->R aH:=aF (cQ 2 (oE 0 0))
 (aF (bH 3 (dF (dL b_ (aw (dV 0) (aB)))))
 (aF (λε=>cr (eI (dB (d2 (eqT ai) (dV 3) (dF (dL b_ (aB))))) (aF (cQ 4 (dL b_ (aB)))
 (aF (cq 5 (cG (dV 3)) (kR 4 (dF (dD [2] (cG (aV (aG (p7 a) (gV (dV 5) (gV (dV 1) (bO)))))) (dB (fD ai 1 (dV 0))) (dV 0)))))
 (aF (cq 6 (cG (dM 4)) (jh 2 (dV 6) (d2 aL (js 2 (d2 bA (dV 3) (dC (.int 0)))) (dC (.int 1)))))
 (bH 3 (dF (dL lr (aw (dV 4) (aB)))))))) 1000 ε))
 (fg 2)))
def vx(a:Ad):aj->R Slot:=bt 2 [] (bw 5 (yaz a))
end Sh
namespace Pu
open L2
section
variable{X:Cx}
theorem uW{vs:List ak}{ls:List Tx}(h:d7 vs (ls.map tS)):bI (c0 ls) vs:=by
 induction ls generalizing vs with
 | nil=>cases h; exact .nil
 | cons x ls ih=>
  cases h with
  | cons _ t h=>exact .cons ⟨_,rfl⟩ (ih h)
theorem TN(hc:X.calm=ai):gL X (.type "list") (λxs H Q=>∃ (d:af) (kvs:List (aI×V)) (ls:List Tx),xs=[.ref d]/\H d=aa (.dK kvs)/\kvs.map (·.1)=ls.map (λx=>Sum.inr (tS x))/\∀ l,H l=ae->Q (.ref l) (upd H l (.lst (c0 ls)))):=by
 intro ah s σ H xs us Q I r h;obtain⟨d,kvs,ls,rfl,hd,hk,q⟩:=h;obtain⟨u,rfl,ru⟩:=vals1 r;cases ru;obtain⟨z,hs,vs,rel,dd⟩:=u0 I.hok hd;obtain⟨ep,t6⟩:=dd.dictAt;have bY:vs.length=ls.length:=by have h1:=congrArg sW hk;simp only[cD]at h1;rw[← rel.length]; exact h1
 have hz:ls.length<=bp:=by rw[← bY,← rel.length]; exact z
 refine PySem.W.kdl_call (PySem.W.kdl_dict (knd:=gf X.prog X.w) (kvs:=vs) (ep:=ep) hs) (I.ok.hd hc) t6 (by rw[← rel.length]; exact z) λh' tk au c' k e hi=>?_;have hstr:d7 au.toList (ls.map tS):=by
  refine FL _ _ (by rw[cD,gX,hi.1,bY]) λi v x h1 h2=>?_;obtain⟨ky,y,e1,e2⟩:=hi.2 i v (by rw[← zA]; exact h1);obtain⟨wv,e3,_⟩:=KV.at rel e1;have e4:(kvs.map (·.1))[i]?=aa ky:=by rw[ir,e3]; rfl
  rw[hk,ir]at e4;rw[ir]at h2;cases e5:ls[i]? with
  | none=>rw[e5]at h2; cases h2
  | some l=>
   rw[e5]at e4 h2;cases e4;cases h2;exact Value.isStrOf_shape e2
 refine⟨.ref s.heap.objs.size,_,I.laid (t':=tk) k (bi _) (show dS X.prog X.w _ h' _ (.lst (c0 ls))from⟨by unfold c0; rw[cD]; exact hz,au.toList,c',uW hstr,?_⟩),rfl,q _ (I.hok.fresh (bi _))⟩;rw[JE]; exact e
def xN(kvs:List (aI×PV)):Option PO:=(qd kvs).bind λls=>if ∀ x∈ls,x.length<=bB then aa (.lst (am ls))else ae
def oD(i:Nat):aj->R PO:=λε=>(aS (dP ε i) ε).bind λkvs ε=>aS (xN kvs) ε
theorem OJ:fq "list" = aa (.type "list"):=by decide +kernel
theorem MH{E:XK}(i:Nat){y:Str}{yp p pos:Pos}(hc:X.calm=ai)(hm:X.mg "list" = ae)(hN:X.N[i]?=aa y:=by rfl)(fS:fW X.env.scope y:=by first | exact Or.inl rfl | exact Or.inr (Or.inl rfl) | exact Or.inr (Or.inr rfl))(hd:(y == ("__debug__" : Str))=ao:=by decide) (bM:(y == ("__classdict__" : Str))=ao:=by decide) (hg:Gl X "list":=by rfl):DN X E (.Call (.Name "list" p) [.Name y yp] [] pos) (oD i):=λF S ε σ H Q rl h=>by
 unfold oD at h;cases e0:dP ε i with
 | none=>rw[e0]at h; exact h.elim
 | some kvs=>
  rw[e0]at h;simp only[dE,R.bind_ok]at h;obtain⟨a,ws,ea,ha,hk,ia,_⟩:=rl.dkAt (lu e0);unfold xN at h;cases e1:qd kvs with
  | none=>rw[e1]at h; exact h.elim
  | some ls=>
   rw[e1,gI]at h;split at h
   ·rename_i hh;refine cT (sB (TN hc) hg hm OJ (kc (gP hN fS hd bM) mn (jg rfl)) (by decide) (by decide) (jg rfl) rfl) ⟨.ref a,ea,a,ws,ls,rfl,ha,by rw[hk.keys]; exact Hq e1,λl hl=>?_⟩;have al:Al F F H (L2.upd H l (.lst (c0 ls))):=Al.new0 hl;refine h F S _ (rl.al al) al.grow l (λc=>c=l) ⟨⟨_,cz,UF.mpr ⟨rfl,hh⟩⟩,λc=>tI⟩ λb z=>?_;subst z;exact⟨hl,λz=>Exists.elim (rl.ex _ z) (λo w=>by rw[hl]at w; cases w),λ⟨j,z⟩=>Exists.elim (rl.foot j b z).2.2 (λo w=>by rw[hl]at w; cases w.1),_,cz,trivial⟩
   ·exact h.elim
end
end Pu
local macro_rules | `(tactic| simp! [$xs,*]) => `(tactic| simp [Pu.aF, Pu.cV, Pu.dB, Pu.d2, Pu.d1, Pu.dV, Pu.dC, Pu.dL, Pu.dF, Pu.aw, Pu.aB, Pu.dJ, Pu.ro, Pu.bH, Pu.cQ, Pu.aG, Pu.gV, Pu.gO, Pu.bO, Pu.e_, Pu.eB, Pu.cC, Pu.dZ, Pu.d8, Pu.R.bind, Pu.aS, Pu.bt, Pu.eQ, Pu.bw, Pu.back, Pu.jq, Pu.qZ, Pu.RD, Pu.E5, Pu.Ir, Pu.Qo, Pu.aV, Pu.kM, Pu.b_, Pu.sA, Pu.dG, Pu.IJ, Pu.kU, Pu.U1, Pu.j4, Pu.Ih, Pu.UI, Pu.qY, Pu.ou, Pu.UW, Pu.pV, Pu.jl, Pu.f_, Pu.jO, Pu.yw, Pu.oG, Pu.imm, Pu.UZ, Pu.rP, bF, sW, $xs,*])
local macro_rules | `(tactic| and_intros) => `(tactic| (refine' Pu.UB ?a ?l ?c ?k; (case a => k_is); (case l => k_is); (case c => k_is); (case k => k_is)))
namespace K19
open L2 Pu Sh
def cR(i:Nat):bf:=PySem.Challenge.pw_slitview_k19_whole_all_reached.main.body.getD i (.Pass ⟨0,0,0,0⟩)
abbrev Ab:bf:=cR 43
abbrev z0:bf:=cR 44
abbrev A0:bf:=cR 45
abbrev B4:bf:=cR 46
abbrev AO:bf:=cR 47
abbrev BG:bf:=cR 48
abbrev Az:bf:=cR 12
abbrev Cm:bf:=cR 14
abbrev xC:bf:=cR 11
abbrev BO:bf:=cR 15
abbrev xF:bf:=cR 16
abbrev BE:bf:=cR 17
abbrev Bf:bf:=cR 18
abbrev Cq:bf:=cR 21
abbrev AJ:bf:=cR 30
abbrev Ao:bf:=cR 29
abbrev y0:bf:=cR 31
abbrev yJ:bf:=cR 50
abbrev Cn:bf:=cR 52
abbrev u8:bf:=cR 51
abbrev yH:bf:=cR 53
abbrev BV:bf:=cR 13
abbrev Cd:bf:=cR 19
abbrev Cs:bf:=cR 20
abbrev At:bf:=cR 23
abbrev xU:bf:=cR 22
abbrev Av:bf:=cR 24
abbrev B0:bf:=cR 27
abbrev As:bf:=cR 39
abbrev AR:bf:=cR 33
abbrev AE:bf:=cR 34
abbrev Bl:bf:=cR 25
abbrev yU:bf:=cR 35
abbrev Cg:bf:=cR 36
abbrev Af:bf:=cR 37
abbrev xG:bf:=cR 38
abbrev y9:bf:=cR 40
abbrev BJ:bf:=cR 41
abbrev wV:bf:=cR 54
def mr(a:Ad):List af:=[a.NoText,a.NoWidth,a.NoView,a.Unlike]
structure cM(K:az)(mg:Str->Option ak)(base:aE)(a:Ad):Prop where
 yax:cA K mg "_law_cell_at" Ab
 yaB:cA K mg "_law_mixed" z0
 yay:cA K mg "_law_draw" A0
 yaD:cA K mg "_law_pick" B4
 yaG:cA K mg "_law_text" AO
 yaA:cA K mg "_law_like" BG
 yat:cA K mg "is_whole_number" Az
 yau:cA K mg "is_width" Cm
 yap:cA K mg "has_only" xC
 yav:cA K mg "is_window" BO
 yag:cA K mg "are_windows" xF
 yas:cA K mg "is_view_with" BE
 yar:cA K mg "is_view" Bf
 yaj:cA K mg "check_view" Cq
 yaf:cA K mg "add_endings" AJ
 yal:cA K mg "counted" Ao
 yaN:cA K mg "texts" y0
 yaE:cA K mg "_law_row" yJ
 yaF:cA K mg "_law_stretches" Cn
 yaC:cA K mg "_law_moved" u8
 yaz:cA K mg "_law_levels" yH
 yaq:cA K mg "is_text_up_to" BV
 yai:cA K mg "check_text" Cd
 yak:cA K mg "check_width" Cs
 yaR:cA K mg "view_of" At
 yaI:cA K mg "pieces" xU
 yaM:cA K mg "text_view" Av
 yaQ:cA K mg "view" B0
 yah:cA K mg "check_alike" As
 yao:cA K mg "exchanges_from" AR
 yan:cA K mg "exchanges" AE
 yaP:cA K mg "unrolled" Bl
 yaO:cA K mg "turns" yU
 yaH:cA K mg "one_step_off" Cg
 yaK:cA K mg "spread" Af
 yam:cA K mg "distances" xG
 yaJ:cA K mg "road" y9
 yaL:cA K mg "steps" BJ
 yaw:cA K mg "law" wV
 yaT:mg "all" = ae
 yaU:mg "any" = ae
 yaV:mg "bool" = ae
 yaW:mg "int" = ae
 yaX:mg "isinstance" = ae
 yaY:mg "len" = ae
 yaZ:mg "list" = ae
 ya0:mg "max" = ae
 ya1:mg "min" = ae
 ya2:mg "range" = ae
 ya3:mg "set" = ae
 ya4:mg "sorted" = ae
 ya5:mg "str" = ae
 ya6:mg "tuple" = ae
 ybb:∃ t,mg "LETTERS" = aa (.str (tS [97,98,99]) t)
 ybc:∃ t,mg "MOST_LETTERS" = aa (.int 12 t)
 ybd:∃ t,mg "MOST_WINDOWS" = aa (.int 9 t)
 ybe:∃ t,mg "WIDEST" = aa (.int 4 t)
 yad:mg "SlitError" = aa (.ref a.SlitError)
 yaa:mg "NoText" = aa (.ref a.NoText)
 yac:mg "NoWidth" = aa (.ref a.NoWidth)
 yab:mg "NoView" = aa (.ref a.NoView)
 yae:mg "Unlike" = aa (.ref a.Unlike)
 ya8:OwnCls "NoView" a.NoView [.type "ValueError",.type "Exception",.type "BaseException",.type "object"] "ValueError.__new__" mg base
 ya7:OwnCls "NoText" a.NoText [.type "ValueError",.type "Exception",.type "BaseException",.type "object"] "ValueError.__new__" mg base
 ya9:OwnCls "NoWidth" a.NoWidth [.type "ValueError",.type "Exception",.type "BaseException",.type "object"] "ValueError.__new__" mg base
 yba:OwnCls "Unlike" a.Unlike [.type "ValueError",.type "Exception",.type "BaseException",.type "object"] "ValueError.__new__" mg base
 yaS:∃ c T,BU K mg "road" c T
section
variable{P:aX}{w:aN}{K:az}{mg:Str->Option ak}{base:aE}{a:Ad}
theorem QJ:b8 ["_law_script","_law_k"] ["_law_script","_law_k"] (aY Ab):=by ac_nf
theorem QW(G:cM K mg base a):cm (b9 P w) P w K mg base "_law_cell_at" 1 ["_law_script","_law_k"] (b0 K (rW a)) :=
 cU (k:=0) (pin:=[]) G.yax QJ rfl (λ_ _ _ _ _ _ us hl=>Pu.UC (λ_ _=>rfl) us hl) (λf aP A outer s H E hr=>by exact
  (bn (fY (gM HW lq (ap 1) (dO fF fH G.yaY fE (aQ (ap 0) bh)) rfl) (aZ (fG (fL fh fi (ap 0) (ap 1)))) fX)
  (bn (fY (gM (mv hr.units) mh (ap 0) (oS bh) rfl) (aZ (fG a8)) fX)
  (aZ (fG (bG c_ c8 (bG uK uA (fL fh fi (ap 0) (bG uo vz (ap 1) (dO fF fH G.yaY fE (aQ (ap 0) bh)))) a8) (ap 1)))))))
theorem PF:b8 ["_law_script","_law_k","_law_many","_law_drawn"] ["_law_script","_law_k","_law_many"] (aY z0):=by ac_nf
theorem Kt(G:cM K mg base a):cm (b9 P w) P w K mg base "_law_mixed" 2 ["_law_script","_law_k","_law_many"] (b0 K (yV a)) :=
 cU (k:=1) (pin:=[]) G.yaB PF rfl (λ_ _ _ _ _ _ us hl=>Pu.UO (λ_ _ _=>rfl) us hl) (λf aP A outer s H E hr=>by exact
  (bn (fe 3 PF.nd (bG uo vz (bG c_ c8 (bG c_ c8 (bG uK uA ((bS (QW G) (hr.mono (by decide)) cY (aJ (ap 0) (aJ (ap 1) bR)))).de a8) (bG uK uA a8 (ap 1))) a8) a8))
  (aZ (fG (bG uo vz (bG uo vz (bG uo vz (bG RB T9 (ap 3) a8) a8) a8) (ap 2))))))
theorem SU:b8 ["_law_script","_law_town","_law_many"] ["_law_script","_law_town","_law_many"] (aY A0):=by ac_nf
theorem w_(G:cM K mg base a):cm (b9 P w) P w K mg base "_law_draw" 3 ["_law_script","_law_town","_law_many"] (b0 K (mw a)) :=
 cU (k:=2) (pin:=[1]) G.yay SU rfl (λ_ _ _ _ _ _ us hl=>Pu.UO (λ_ _ _=>rfl) us hl) (λf aP A outer s H E hr=>by exact
  (bn (r9 1 a8)
  (aZ (w8 (bS (Kt G) (hr.mono (by decide)) cY (aJ (ap 0) (aJ (QI 1 fF fH G.yaY fE) (aJ (ap 2) bR))))))))
theorem PQ:b8 ["_law_script","_law_town","_law_some"] ["_law_script","_law_town","_law_some"] (aY B4):=by ac_nf
theorem Ce(G:cM K mg base a):cm (b9 P w) P w K mg base "_law_pick" 4 ["_law_script","_law_town","_law_some"] (b0 K (lj a)) :=
 cU (k:=3) (pin:=[1]) G.yaD PQ rfl (λ_ _ _ _ _ _ us hl=>Pu.UO (λ_ _ _=>rfl) us hl) (λf aP A outer s H E hr=>by exact
  (aZ (fG (fL fh fi (ap 2) ((bS (w_ G) (hr.mono (by decide)) cY (aJ (ap 0) (j8 1 (aJ (dO fF fH G.yaY fE (aQ (ap 2) bh)) bR))))).de))))
theorem TC:b8 ["_law_script","_law_town","_law_low","_law_most","_law_few","_law_made","_law_k"] ["_law_script","_law_town","_law_low","_law_most"] (aY AO):=by ac_nf
theorem LU(G:cM K mg base a):cm (b9 P w) P w K mg base "_law_text" 5 ["_law_script","_law_town","_law_low","_law_most"] (b0 K (oA a)) :=
 cU (k:=4) (pin:=[1]) G.yaG TC rfl (λ_ _ _ _ _ _ us hl=>Pu.U0 (λ_ _ _ _=>rfl) us hl) (λf aP A outer s H E hr=>by exact
  (bn (fe 4 TC.nd ((bS (Ce G) (hr.mono (by decide)) cY (aJ (ap 0) (j8 1 (aJ (oS (aQ a8 (aQ a8 (aQ a8 (aQ a8 (aQ a8 (aQ a8 bh))))))) bR))))).de)
  (bn (fe 5 TC.nd (nE []))
  (bn (jM (iG 6 gJ rfl TC.nd (pI G.ya2 (aQ (bG c_ c8 (ap 2) ((bS (w_ G) (hr.mono (by decide)) i7 (aJ (ap 0) (j8 1 (aJ (bG c_ c8 (bG jJ jK (ap 3) (ap 2)) a8) bR))))).de) bh)) (aZ (fe 5 TC.nd (bG c_ c8 (ap 5) (fL fh fi (nE [97,98,99]) ((bS (w_ G) (hr.mono (by decide)) i7 (aJ (ap 0) (j8 1 (aJ (ap 4) bR))))).de))))))
  (aZ (fG (ap 5)))))))
theorem Om:b8 ["_law_script","_law_town","_law_low","_law_most","_law_width","_law_made"] ["_law_script","_law_town","_law_low","_law_most"] (aY BG):=by ac_nf
theorem Mv(G:cM K mg base a):cm (b9 P w) P w K mg base "_law_like" 6 ["_law_script","_law_town","_law_low","_law_most"] (b0 K (pJ a)) :=
 cU (k:=5) (pin:=[1]) G.yaA Om rfl (λ_ _ _ _ _ _ us hl=>Pu.U0 (λ_ _ _ _=>rfl) us hl) (λf aP A outer s H E hr=>by exact
  (bn (fe 4 Om.nd (bG c_ c8 a8 ((bS (Ce G) (hr.mono (by decide)) cY (aJ (ap 0) (j8 1 (aJ (oS (aQ a8 (aQ a8 (aQ a8 (aQ a8 (aQ a8 bh)))))) bR))))).de))
  (bn (fe 5 Om.nd ((bS (LU G) (hr.mono (by decide)) cY (aJ (ap 0) (j8 1 (aJ (ap 2) (aJ a8 bR)))))).de)
  (bn (jM (xX (λ_=>1000) gJ (gM HW lq (dO fF fH G.yaY fE (aQ (ap 5) bh)) (bG jJ jK (ap 3) a8) rfl) (aZ (fe 5 Om.nd (bG c_ c8 (ap 5) ((bS (Ce G) (hr.mono (by decide)) i7 (aJ (ap 0) (j8 1 (aJ (oS (aQ (eU eX eV (ap 5) iY (c9 a8)) (aQ (eU eX eV (ap 5) iY (c9 a8)) (aQ (eU eX eV (ap 5) (c9 a8) (c9 a8)) (aQ (nE [97]) (aQ (nE [98]) (aQ (eU eX eV (ap 5) (c9 (sd rN sK a8)) iY) bh))))))) bR))))).de)))))
  (aZ (fG (Fb (aQ (eU eX eV (ap 5) iY (c9 (dO (O4 rfl) MR G.ya0 NO (aQ (ap 4) (aQ (bG jJ jK (ap 3) ((bS (w_ G) (hr.mono (by decide)) cY (aJ (ap 0) (j8 1 (aJ a8 bR))))).de) bh))))) (aQ (ap 4) bh)))))))))
theorem NP:b8 ["thing"] ["thing"] (aY Az):=by ac_nf
theorem LN(G:cM K mg base a):cm (b9 P w) P w K mg base "is_whole_number" 1 ["thing"] (b0 K (xh a)) :=
 cU (k:=0) (pin:=[]) G.yat NP rfl (λ_ _ _ _ _ _ us hl=>Pu.UR (λ_=>rfl) us hl) (λf aP A outer s H E hr=>by exact
  (aZ (fG (qf (dO rj rX G.yaX sh (aQ (ap 0) (aQ (rD G.yaW P_) bh))) (uf (Rf (dO rj rX G.yaX sh (aQ (ap 0) (aQ (rD G.yaV PZ) bh)))))))))
theorem Sx:b8 ["thing"] ["thing"] (aY Cm):=by ac_nf
theorem FV(G:cM K mg base a):cm (b9 P w) P w K mg base "is_width" 2 ["thing"] (b0 K (qm a)) :=
 cU (k:=1) (pin:=[]) G.yau Sx rfl (λ_ _ _ _ _ _ us hl=>Pu.UR (λ_=>rfl) us hl) (λf aP A outer s H E hr=>by exact
  (aZ (fG (qf ((bS (LN G) (hr.mono (by decide)) cY (aJ (ap 0) bR))).de (uf (IK oq oq lq lq a8 (ap 0) (yO G.ybe)))))))
theorem L6:b8 ["text","signs"] ["text","signs"] (aY xC):=by ac_nf
theorem G_(G:cM K mg base a):cm (b9 P w) P w K mg base "has_only" 1 ["text","signs"] (b0 K (vi a)) :=
 cU (k:=0) (pin:=[]) G.yap L6 rfl (λ_ _ _ _ _ _ us hl=>Pu.UC (λ_ _=>rfl) us hl) (λf aP A outer s H E hr=>by exact
  (aZ (fG (dO (Io rfl) Jm G.yaT Jc (aQ (lZ (cap:=[1]) (N':=["sign","signs"]) (mi.of ["text","signs"] (aY xC) rfl rfl (by decide +kernel)) rfl (ju (ap 0)) (λC s₀ H₀ ex pn=>by exact oz) (λC s₀ H₀ ex pn=>by exact(yP RO KN (ap 0) (ap 1) rfl))).de bh)))))
theorem Ma:b8 ["thing","width","signs"] ["thing","width","signs"] (aY BO):=by ac_nf
theorem Nx(G:cM K mg base a):cm (b9 P w) P w K mg base "is_window" 2 ["thing","width","signs"] (b0 K (sD a)) :=
 cU (k:=1) (pin:=[]) G.yav Ma rfl (λ_ _ _ _ _ _ us hl=>Pu.UO (λ_ _ _=>rfl) us hl) (λf aP A outer s H E hr=>by exact
  (aZ (fG (qf (dO rj rX G.yaX sh (aQ (ap 0) (aQ (rD G.ya5 Gp) bh))) (qf (yP (mv hr.units) mh (dO fF fH G.yaY fE (aQ (ap 0) bh)) (ap 1) rfl) (uf ((bS (G_ G) (hr.mono (by decide)) cY (aJ (ap 0) (aJ (ap 2) bR)))).de))))))
theorem Rk:b8 ["thing","width","signs"] ["thing","width","signs"] (aY xF):=by ac_nf
theorem Oe(G:cM K mg base a):cm (b9 P w) P w K mg base "are_windows" 3 ["thing","width","signs"] (b0 K (oN a)) :=
 cU (k:=2) (pin:=[]) G.yag Rk rfl (λ_ _ _ _ _ _ us hl=>Pu.UO (λ_ _ _=>rfl) us hl) (λf aP A outer s H E hr=>by exact
  (bn (fY ((Ai (l_ (o4 (dO rj rX G.yaX sh (aQ (ap 0) (aQ (rD G.ya6 AG) bh))))) (Ac (l_ (EV oq oq lq lq a8 (dO fF fH G.yaY fE (aQ (ap 0) bh)) (yO G.ybd)))))).dt (aZ (fG uL)) fX)
  (bn (fY (l_ (o4 (dO (Io rfl) Jm G.yaT Jc (aQ (lZ (cap:=[1,2]) (N':=["window","width","signs"]) (mi.of ["thing","width","signs"] (aY xF) rfl rfl (by decide +kernel)) rfl (ju (ap 0)) (λC s₀ H₀ ex pn=>by exact oz) (λC s₀ H₀ ex pn=>by exact((bS (Nx G) (hr.mono (by decide)) i7 (aJ (ap 0) (aJ (ap 1) (aJ (ap 2) bR))))).de)).de bh)))) (aZ (fG uL)) fX)
  (aZ (fG (yP (mv hr.units) mh (Ol Tz Pn G.yaZ MO (aQ (ap 0) bh)).de (Am Ah B5 G.ya4 uN (aQ (ap 0) bh)).de rfl))))))
theorem KB:b8 ["thing","signs"] ["thing","signs"] (aY BE):=by ac_nf
theorem Mb(G:cM K mg base a):cm (b9 P w) P w K mg base "is_view_with" 4 ["thing","signs"] (b0 K (r_ a)) :=
 cU (k:=3) (pin:=[]) G.yas KB rfl (λ_ _ _ _ _ _ us hl=>Pu.UC (λ_ _=>rfl) us hl) (λf aP A outer s H E hr=>by exact
  (bn (fY ((Ai (l_ (o4 (dO rj rX G.yaX sh (aQ (ap 0) (aQ (rD G.ya6 AG) bh))))) (Ac (gM (mV hr.units) nq (dO fF fH G.yaY fE (aQ (ap 0) bh)) a8 rfl)))).dt (aZ (fG uL)) fX)
  (aZ (fG (qf ((bS (FV G) (hr.mono (by decide)) cY (aJ (fL fh fi (ap 0) a8) bR))).de (uf ((bS (Oe G) (hr.mono (by decide)) cY (aJ (fL fh fi (ap 0) a8) (aJ (fL fh fi (ap 0) a8) (aJ (ap 1) bR))))).de))))))
theorem Lq:b8 ["thing"] ["thing"] (aY Bf):=by ac_nf
theorem Rh(G:cM K mg base a):cm (b9 P w) P w K mg base "is_view" 5 ["thing"] (b0 K (yr a)) :=
 cU (k:=4) (pin:=[]) G.yar Lq rfl (λ_ _ _ _ _ _ us hl=>Pu.UR (λ_=>rfl) us hl) (λf aP A outer s H E hr=>by exact
  (aZ (w8 (bS (Mb G) (hr.mono (by decide)) cY (aJ (ap 0) (aJ (BX G.ybb) bR))))))
theorem TH:b8 ["thing"] ["thing"] (aY Cq):=by ac_nf
theorem RF(G:cM K mg base a):cm (b9 P w) P w K mg base "check_view" 6 ["thing"] (b0 K (xI a)) :=
 cU (k:=5) (pin:=[]) G.yaj TH rfl (λ_ _ _ _ _ _ us hl=>Pu.UR (λ_=>rfl) us hl) (λf aP A outer s H E hr=>by exact
  (aZ (fY (l_ (o4 ((bS (Rh G) (hr.mono (by decide)) cY (aJ (ap 0) bR))).de)) (aZ (uU ul rfl G.ya8 zK (nE [97,32,118,105,101,119,32,105,115,32,97,32,116,117,112,108,101,32,111,102,32,97,32,119,105,100,116,104,32,97,110,100,32,97,32,114,105,115,105,110,103,32,116,117,112,108,101,32,111,102,32,49,32,116,111,32,57,32,119,105,110,100,111,119,115]))) fX)))
theorem EK:b8 ["text","width","left","found","head","letter","window"] ["text","width","left","found"] (aY AJ):=by ac_nf
theorem Ow(G:cM K mg base a)(m:Nat):cm (b9 P w) P w K mg base "add_endings" (1+m) ["text","width","left","found"] (b0 K (oX a m)):=by
 induction m with
 | zero=>exact cU (k:=0) (pin:=[2,3]) G.yaf EK rfl (λ_ _ _ _ _ _ us hl=>Pu.U0 (λ_ _ _ _=>rfl) us hl) (λf aP A outer s H E hr=>SW)
 | succ m ih=>exact cU (k:=1+m) (pin:=[2,3]) G.yaf EK rfl (λ_ _ _ _ _ _ us hl=>Pu.U0 (λ_ _ _ _=>rfl) us hl) (λf aP A outer s H E hr=>by exact
  (bn (fY (l_ (o4 (Pf 2 rfl G.yaU))) (bn (r9 3 (ap 0))
  (aZ SS)) fX)
  (bn (fe 4 EK.nd (eU eX eV (ap 0) (c9 (bG c_ c8 (bG jJ jK (dO fF fH G.yaY fE (aQ (ap 0) bh)) (ap 1)) a8)) iY))
  (aZ (jM (iG 5 gJ rfl EK.nd (ju (BX G.ybb)) (bn (fe 6 EK.nd (bG c_ c8 (ap 4) (ap 5)))
  (aZ (fY (gM NX lq (HB 2 hr.units (ap 6) a8) a8 rfl) (bn (vo 2 hr.units (ap 6) (bG jJ jK (uE 2 hr.units (ap 6)) a8))
  (bn (q8 (bS ih (hr.mono ∅) i7 (aJ (bG c_ c8 (ap 0) (ap 5)) (aJ (ap 1) (j8 2 (j8 3 bR))))))
  (aZ (vo 2 hr.units (ap 6) (bG c_ c8 (uE 2 hr.units (ap 6)) a8))))) fX)))))))))
theorem La:b8 ["windows","counts","window"] ["windows"] (aY Ao):=by ac_nf
theorem MK(G:cM K mg base a):cm (b9 P w) P w K mg base "counted" 1 ["windows"] (b0 K (vn a)) :=
 cU (k:=0) (pin:=[]) G.yal La rfl (λ_ _ _ _ _ _ us hl=>Pu.UR (λ_=>rfl) us hl) (λf aP A outer s H E hr=>by exact
  (bn (jR 1 La.nd (Me))
  (bn (jM (iG 2 gJ rfl La.nd (ju (ap 0)) (aZ (vo 1 hr.units (ap 2) (bG c_ c8 (HB 1 hr.units (ap 2) a8) a8)))))
  (aZ (mq 1)))))
theorem TQ:b8 ["view","width","found","head"] ["view"] (aY y0):=by ac_nf
theorem Le(G:cM K mg base a):cm (b9 P w) P w K mg base "texts" 14 ["view"] (b0 K (qh a)) :=
 cU (k:=13) (pin:=[]) G.yaN TQ rfl (λ_ _ _ _ _ _ us hl=>Pu.UR (λ_=>rfl) us hl) (λf aP A outer s H E hr=>by exact
  (bn (q8 (bS (RF G) (hr.mono (by decide)) cY (aJ (ap 0) bR)))
  (bn (fe 1 TQ.nd (fL fh fi (ap 0) a8))
  (bn (jR 2 TQ.nd (lg bh))
  (bn (jM (iG 3 gJ rfl TQ.nd (ju (Ay rfl (aQ (lZ (cap:=[]) (N':=["window"]) (mi.of ["view","width","found","head"] (aY y0) rfl rfl (by decide +kernel)) rfl (ju (fL fh fi (ap 0) a8)) (λC s₀ H₀ ex pn=>by exact oz) (λC s₀ H₀ ex pn=>by exact(eU eX eV (ap 0) iY (c9 (sd rN sK a8))))).de bh) G.ya4 G.ya3).de) (aZ (q8 (Ro (Ow G 12) (hr.mono (by decide)) i7 (Es (ap 3) (Es (ap 1) (Nc (((bS (MK G) (hr.mono (by decide)) i7 (aJ (fL fh fi (ap 0) a8) bR))).dn) (j8 2 bR)))))))))
  (aZ (mq 2)))))))
theorem MA:b8 ["_law_text_here","_law_width"] ["_law_text_here","_law_width"] (aY yJ):=by ac_nf
theorem Rq(G:cM K mg base a):cm (b9 P w) P w K mg base "_law_row" 1 ["_law_text_here","_law_width"] (b0 K (pM a)) :=
 cU (k:=0) (pin:=[]) G.yaE MA rfl (λ_ _ _ _ _ _ us hl=>Pu.UC (λ_ _=>rfl) us hl) (λf aP A outer s H E hr=>by exact
  (aZ (uF (lZ (cap:=[0,1]) (N':=["_law_at","_law_text_here","_law_width"]) (mi.of ["_law_text_here","_law_width"] (aY yJ) rfl rfl (by decide +kernel)) rfl (pI G.ya2 (aQ (bG c_ c8 (bG jJ jK (dO fF fH G.yaY fE (aQ (ap 0) bh)) (ap 1)) a8) bh)) (λC s₀ H₀ ex pn=>by exact oz) (λC s₀ H₀ ex pn=>by exact(eU eX eV (ap 1) (c9 (ap 0)) (c9 (bG jJ jK (bG c_ c8 (ap 0) (ap 2)) a8))))))))
theorem Ug:b8 ["_law_text_here","_law_row_here","_law_j","_law_l","_law_made","_law_k","_law_i","_law_front"] ["_law_text_here","_law_row_here","_law_j","_law_l"] (aY Cn):=by ac_nf
theorem Qu(G:cM K mg base a):cm (b9 P w) P w K mg base "_law_stretches" 1 ["_law_text_here","_law_row_here","_law_j","_law_l"] (b0 K (vy a)) :=
 cU (k:=0) (pin:=[]) G.yaF Ug rfl (λ_ _ _ _ _ _ us hl=>Pu.U0 (λ_ _ _ _=>rfl) us hl) (λf aP A outer s H E hr=>by exact
  (bn (jR 4 Ug.nd (lg bh))
  (bn (jM (iG 5 gJ rfl Ug.nd (rV G.ya2 (aQ (ap 2) (aQ (ap 3) bh))) (aZ (iG 6 gJ rfl Ug.nd (pI G.ya2 (aQ (ap 2) bh)) (aZ (fY (gM (mv hr.units) mh (fL fh fi (ap 1) (ap 6)) (fL fh fi (ap 1) (ap 5)) rfl) (bn (fe 7 Ug.nd (bG c_ c8 (eU eX eV (ap 0) iY (c9 (ap 6))) (eU eX eV (ap 0) (c9 (ap 5)) (c9 (ap 3)))))
  (bn (fe 7 Ug.nd (bG c_ c8 (ap 7) (eU eX eV (ap 0) (c9 (ap 2)) (c9 (ap 5)))))
  (aZ (r9 4 (bG c_ c8 (bG c_ c8 (ap 7) (eU eX eV (ap 0) (c9 (ap 6)) (c9 (ap 2)))) (eU eX eV (ap 0) (c9 (ap 3)) iY)))))) fX))))))
  (aZ (mq 4)))))
theorem O_:b8 ["_law_text_here","_law_width","_law_row_here","_law_made","_law_l","_law_j","_law_ring"] ["_law_text_here","_law_width"] (aY u8):=by ac_nf
theorem N3(G:cM K mg base a):cm (b9 P w) P w K mg base "_law_moved" 2 ["_law_text_here","_law_width"] (b0 K (p7 a)) :=
 cU (k:=1) (pin:=[]) G.yaC O_ rfl (λ_ _ _ _ _ _ us hl=>Pu.UC (λ_ _=>rfl) us hl) (λf aP A outer s H E hr=>by exact
  (bn (fe 2 O_.nd ((bS (Rq G) (hr.mono (by decide)) cY (aJ (ap 0) (aJ (ap 1) bR)))).de)
  (bn (jR 3 O_.nd (lg bh))
  (bn (jM (iG 4 gJ rfl O_.nd (pI G.ya2 (aQ (dO fF fH G.yaY fE (aQ (ap 2) bh)) bh)) (aZ (iG 5 gJ rfl O_.nd (pI G.ya2 (aQ (ap 4) bh)) (aZ (fY (gM (mv hr.units) mh (fL fh fi (ap 2) (ap 5)) (fL fh fi (ap 2) (ap 4)) rfl) (aZ (xR 3 ((bS (Qu G) (hr.mono (by decide)) i7 (aJ (ap 0) (aJ (ap 2) (aJ (ap 5) (aJ (ap 4) bR)))))).de)) fX))))))
  (bn (fY (gM (mv hr.units) mh (fL fh fi (ap 2) a8) (fL fh fi (ap 2) (sd rN sK a8)) rfl) (bn (fe 6 O_.nd (bG uK uA (eU eX eV (ap 0) iY (c9 (bG jJ jK (dO fF fH G.yaY fE (aQ (ap 2) bh)) a8))) a8))
  (aZ (xR 3 (lZ (cap:=[6,0]) (N':=["_law_at","_law_ring","_law_text_here"]) (mi.of ["_law_text_here","_law_width","_law_row_here","_law_made","_law_l","_law_j","_law_ring"] (aY u8) rfl rfl (by decide +kernel)) rfl (rV G.ya2 (aQ a8 (aQ (bG jJ jK (dO fF fH G.yaY fE (aQ (ap 2) bh)) a8) bh))) (λC s₀ H₀ ex pn=>by exact oz) (λC s₀ H₀ ex pn=>by exact(eU eX eV (ap 1) (c9 (ap 0)) (c9 (bG c_ c8 (ap 0) (dO fF fH G.yaY fE (aQ (ap 2) bh))))))).de))) fX)
  (aZ (fG (Ay rfl (aQ (lZ (cap:=[0]) (N':=["_law_other","_law_text_here"]) (mi.of ["_law_text_here","_law_width","_law_row_here","_law_made","_law_l","_law_j","_law_ring"] (aY u8) rfl rfl (by decide +kernel)) rfl (ju (IW 3)) (λC s₀ H₀ ex pn=>by exact A9 (gM (mV hr.units) nq (ap 0) (ap 1) rfl)) (λC s₀ H₀ ex pn=>by exact(ap 0))).de bh) G.ya4 G.ya3).de)))))))
theorem QC:b8 ["_law_text_here","_law_width","_law_far","_law_level","_law_later","_law_here","_law_other"] ["_law_text_here","_law_width"] (aY yH):=by ac_nf
theorem Pd(G:cM K mg base a):cm (b9 P w) P w K mg base "_law_levels" 3 ["_law_text_here","_law_width"] (b0 K (vx a)) :=
 cU (k:=2) (pin:=[]) G.yaz QC rfl (λ_ _ _ _ _ _ us hl=>Pu.UC (λ_ _=>rfl) us hl) (λf aP A outer s H E hr=>by exact
  (bn (jR 2 QC.nd (El 0))
  (bn (fe 3 QC.nd (oS (aQ (ap 0) bh)))
  (bn (jM (xX (λ_=>1000) gJ (gM (mV hr.units) nq (ap 3) (oS bh) rfl) (bn (jR 4 QC.nd (lg bh))
  (bn (iG 5 gJ rfl QC.nd (ju (ap 3)) (aZ (xR 4 (lZ (cap:=[2]) (N':=["_law_other","_law_far"]) (mi.of ["_law_text_here","_law_width","_law_far","_law_level","_law_later","_law_here","_law_other"] (aY yH) rfl rfl (by decide +kernel)) rfl (ju ((bS (N3 G) (hr.mono (by decide)) i7 (aJ (ap 5) (aJ (ap 1) bR)))).de) (λC s₀ H₀ ex pn=>by exact A9 (GJ 1 hr.units (ap 0))) (λC s₀ H₀ ex pn=>by exact(ap 0))).de)))
  (bn (iG 6 gJ rfl QC.nd (ju (IW 4)) (aZ (vo 2 hr.units (ap 6) (bG c_ c8 (uE 2 hr.units (fL fh fi (ap 3) a8)) a8))))
  (aZ (fe 3 QC.nd (Ay rfl (aQ (ap 4) bh) G.ya4 G.ya3).de)))))))
  (aZ (mq 2))))))
theorem K_:b8 ["thing","most"] ["thing","most"] (aY BV):=by ac_nf
theorem Tb(G:cM K mg base a):cm (b9 P w) P w K mg base "is_text_up_to" 2 ["thing","most"] (b0 K (yT a)) :=
 cU (k:=1) (pin:=[]) G.yaq K_ rfl (λ_ _ _ _ _ _ us hl=>Pu.UC (λ_ _=>rfl) us hl) (λf aP A outer s H E hr=>by exact
  (aZ (fG (qf (dO rj rX G.yaX sh (aQ (ap 0) (aQ (rD G.ya5 Gp) bh))) (qf (IK oq oq lq lq a8 (dO fF fH G.yaY fE (aQ (ap 0) bh)) (ap 1)) (uf ((bS (G_ G) (hr.mono (by decide)) cY (aJ (ap 0) (aJ (BX G.ybb) bR)))).de))))))
theorem Pt:b8 ["thing"] ["thing"] (aY Cd):=by ac_nf
theorem TX(G:cM K mg base a):cm (b9 P w) P w K mg base "check_text" 3 ["thing"] (b0 K (yL a)) :=
 cU (k:=2) (pin:=[]) G.yai Pt rfl (λ_ _ _ _ _ _ us hl=>Pu.UR (λ_=>rfl) us hl) (λf aP A outer s H E hr=>by exact
  (aZ (fY (l_ (o4 ((bS (Tb G) (hr.mono (by decide)) cY (aJ (ap 0) (aJ (yO G.ybc) bR)))).de)) (aZ (uU ul rfl G.ya7 zK (nE [97,32,116,101,120,116,32,104,97,115,32,49,32,116,111,32,49,50,32,108,101,116,116,101,114,115,32,97,44,32,98,44,32,99]))) fX)))
theorem Kw:b8 ["thing"] ["thing"] (aY Cs):=by ac_nf
theorem SN(G:cM K mg base a):cm (b9 P w) P w K mg base "check_width" 3 ["thing"] (b0 K (yA a)) :=
 cU (k:=2) (pin:=[]) G.yak Kw rfl (λ_ _ _ _ _ _ us hl=>Pu.UR (λ_=>rfl) us hl) (λf aP A outer s H E hr=>by exact
  (aZ (fY (l_ (o4 ((bS (FV G) (hr.mono (by decide)) cY (aJ (ap 0) bR))).de)) (aZ (uU ul rfl G.ya9 zK (nE [97,32,119,105,100,116,104,32,105,115,32,97,32,119,104,111,108,101,32,110,117,109,98,101,114,32,102,114,111,109,32,49,32,116,111,32,52]))) fX)))
theorem Sv:b8 ["width","windows"] ["width","windows"] (aY At):=by ac_nf
theorem Mp(G:cM K mg base a):cm (b9 P w) P w K mg base "view_of" 1 ["width","windows"] (b0 K (yZ a)) :=
 cU (k:=0) (pin:=[]) G.yaR Sv rfl (λ_ _ _ _ _ _ us hl=>Pu.UC (λ_ _=>rfl) us hl) (λf aP A outer s H E hr=>by exact
  (bn (fY (l_ (EV oq oq lq lq a8 (dO fF fH G.yaY fE (aQ (ap 1) bh)) (yO G.ybd))) (aZ (uU ul rfl G.ya8 zK (nE [97,32,118,105,101,119,32,104,97,115,32,49,32,116,111,32,57,32,119,105,110,100,111,119,115]))) fX)
  (aZ (fG (Fb (aQ (ap 0) (aQ (TJ RE RU G.ya6 AG (aQ (Am Ah B5 G.ya4 uN (aQ (ap 1) bh)).de bh)) bh)))))))
theorem R8:b8 ["text","length"] ["text","length"] (aY xU):=by ac_nf
theorem IR(G:cM K mg base a):cm (b9 P w) P w K mg base "pieces" 1 ["text","length"] (b0 K (sQ a)) :=
 cU (k:=0) (pin:=[]) G.yaI R8 rfl (λ_ _ _ _ _ _ us hl=>Pu.UC (λ_ _=>rfl) us hl) (λf aP A outer s H E hr=>by exact
  (aZ (uF (lZ (cap:=[0,1]) (N':=["place","text","length"]) (mi.of ["text","length"] (aY xU) rfl rfl (by decide +kernel)) rfl (pI G.ya2 (aQ (bG c_ c8 (bG jJ jK (dO fF fH G.yaY fE (aQ (ap 0) bh)) (ap 1)) a8) bh)) (λC s₀ H₀ ex pn=>by exact oz) (λC s₀ H₀ ex pn=>by exact(eU eX eV (ap 1) (c9 (ap 0)) (c9 (bG c_ c8 (ap 0) (ap 2)))))))))
theorem Lc:b8 ["text","width"] ["text","width"] (aY Av):=by ac_nf
theorem Bz(G:cM K mg base a):cm (b9 P w) P w K mg base "text_view" 4 ["text","width"] (b0 K (oZ a)) :=
 cU (k:=3) (pin:=[]) G.yaM Lc rfl (λ_ _ _ _ _ _ us hl=>Pu.UC (λ_ _=>rfl) us hl) (λf aP A outer s H E hr=>by exact
  (bn (q8 (bS (TX G) (hr.mono (by decide)) cY (aJ (ap 0) bR)))
  (bn (q8 (bS (SN G) (hr.mono (by decide)) cY (aJ (ap 1) bR)))
  (aZ (w8 (bS (Mp G) (hr.mono (by decide)) cY (aJ (ap 1) (aJ ((bS (IR G) (hr.mono (by decide)) cY (aJ (ap 0) (aJ (ap 1) bR)))).de bR))))))))
theorem Rs:b8 ["text","width"] ["text","width"] (aY B0):=by ac_nf
theorem RY(G:cM K mg base a):cm (b9 P w) P w K mg base "view" 5 ["text","width"] (b0 K (qt a)) :=
 cU (k:=4) (pin:=[]) G.yaQ Rs rfl (λ_ _ _ _ _ _ us hl=>Pu.UC (λ_ _=>rfl) us hl) (λf aP A outer s H E hr=>by exact
  (aZ (w8 (bS (Bz G) (hr.mono (by decide)) cY (aJ (ap 0) (aJ (ap 1) bR))))))
theorem Lm:b8 ["one","other","width","one_view"] ["one","other","width"] (aY As):=by ac_nf
theorem Rz(G:cM K mg base a):cm (b9 P w) P w K mg base "check_alike" 5 ["one","other","width"] (b0 K (qg a)) :=
 cU (k:=4) (pin:=[]) G.yah Lm rfl (λ_ _ _ _ _ _ us hl=>Pu.UO (λ_ _ _=>rfl) us hl) (λf aP A outer s H E hr=>by exact
  (bn (fe 3 Lm.nd ((bS (Bz G) (hr.mono (by decide)) cY (aJ (ap 0) (aJ (ap 2) bR)))).de)
  (aZ (fY (gM (mV hr.units) nq (ap 3) ((bS (Bz G) (hr.mono (by decide)) cY (aJ (ap 1) (aJ (ap 2) bR)))).de rfl) (aZ (uU ul rfl G.yba zK (nE [116,104,101,32,116,119,111,32,116,101,120,116,115,32,104,97,118,101,32,117,110,108,105,107,101,32,118,105,101,119,115]))) fX))))
theorem K1:b8 ["text","row","start","again","found","end","last"] ["text","row","start","again"] (aY AR):=by ac_nf
theorem Se(G:cM K mg base a):cm (b9 P w) P w K mg base "exchanges_from" 1 ["text","row","start","again"] (b0 K (u6 a)) :=
 cU (k:=0) (pin:=[]) G.yao K1 rfl (λ_ _ _ _ _ _ us hl=>Pu.U0 (λ_ _ _ _=>rfl) us hl) (λf aP A outer s H E hr=>by exact
  (bn (jR 4 K1.nd (lg bh))
  (bn (jM (iG 5 gJ rfl K1.nd (rV G.ya2 (aQ (bG c_ c8 (ap 2) a8) (aQ (bG c_ c8 (ap 3) a8) bh))) (aZ (iG 6 gJ rfl K1.nd (rV G.ya2 (aQ (bG c_ c8 (ap 3) a8) (aQ (dO fF fH G.yaY fE (aQ (ap 1) bh)) bh))) (aZ (fY (gM (mv hr.units) mh (fL fh fi (ap 1) (ap 5)) (fL fh fi (ap 1) (ap 6)) rfl) (aZ (r9 4 (bG c_ c8 (bG c_ c8 (bG c_ c8 (bG c_ c8 (eU eX eV (ap 0) iY (c9 (ap 2))) (eU eX eV (ap 0) (c9 (ap 3)) (c9 (ap 6)))) (eU eX eV (ap 0) (c9 (ap 5)) (c9 (ap 3)))) (eU eX eV (ap 0) (c9 (ap 2)) (c9 (ap 5)))) (eU eX eV (ap 0) (c9 (ap 6)) iY)))) fX))))))
  (aZ (mq 4)))))
theorem Qr:b8 ["text","row","found","start","again"] ["text","row"] (aY AE):=by ac_nf
theorem Nv(G:cM K mg base a):cm (b9 P w) P w K mg base "exchanges" 2 ["text","row"] (b0 K (zZ a)) :=
 cU (k:=1) (pin:=[]) G.yan Qr rfl (λ_ _ _ _ _ _ us hl=>Pu.UC (λ_ _=>rfl) us hl) (λf aP A outer s H E hr=>by exact
  (bn (jR 2 Qr.nd (lg bh))
  (bn (jM (iG 3 gJ rfl Qr.nd (pI G.ya2 (aQ (dO fF fH G.yaY fE (aQ (ap 1) bh)) bh)) (aZ (iG 4 gJ rfl Qr.nd (rV G.ya2 (aQ (bG c_ c8 (ap 3) a8) (aQ (dO fF fH G.yaY fE (aQ (ap 1) bh)) bh))) (aZ (fY (gM (mv hr.units) mh (fL fh fi (ap 1) (ap 3)) (fL fh fi (ap 1) (ap 4)) rfl) (aZ (xR 2 ((bS (Se G) (hr.mono (by decide)) i7 (aJ (ap 0) (aJ (ap 1) (aJ (ap 3) (aJ (ap 4) bR)))))).de)) fX))))))
  (aZ (mq 2)))))
theorem Mj:b8 ["ring","width"] ["ring","width"] (aY Bl):=by ac_nf
theorem Nk(G:cM K mg base a):cm (b9 P w) P w K mg base "unrolled" 1 ["ring","width"] (b0 K (rn a)) :=
 cU (k:=0) (pin:=[]) G.yaP Mj rfl (λ_ _ _ _ _ _ us hl=>Pu.UC (λ_ _=>rfl) us hl) (λf aP A outer s H E hr=>by exact
  (aZ (fG (eU eX eV (bG uK uA (ap 0) (ap 1)) iY (c9 (bG jJ jK (bG c_ c8 (dO fF fH G.yaY fE (aQ (ap 0) bh)) (ap 1)) a8))))))
theorem MU:b8 ["text","row","width","ring"] ["text","row","width"] (aY yU):=by ac_nf
theorem N2(G:cM K mg base a):cm (b9 P w) P w K mg base "turns" 2 ["text","row","width"] (b0 K (uT a)) :=
 cU (k:=1) (pin:=[]) G.yaO MU rfl (λ_ _ _ _ _ _ us hl=>Pu.UO (λ_ _ _=>rfl) us hl) (λf aP A outer s H E hr=>by exact
  (bn (fY (gM (mV hr.units) nq (fL fh fi (ap 1) a8) (fL fh fi (ap 1) (sd rN sK a8)) rfl) (aZ (uF (lg bh))) fX)
  (bn (fe 3 MU.nd (eU eX eV (ap 0) iY (c9 (bG jJ jK (dO fF fH G.yaY fE (aQ (ap 1) bh)) a8))))
  (aZ (uF (lZ (cap:=[3,2]) (N':=["place","ring","width"]) (mi.of ["text","row","width","ring"] (aY yU) rfl rfl (by decide +kernel)) rfl (rV G.ya2 (aQ a8 (aQ (dO fF fH G.yaY fE (aQ (ap 3) bh)) bh))) (λC s₀ H₀ ex pn=>by exact oz) (λC s₀ H₀ ex pn=>by exact((bS (Nk G) (hr.mono (by decide)) i7 (aJ (bG c_ c8 (eU eX eV (ap 1) (c9 (ap 0)) iY) (eU eX eV (ap 1) iY (c9 (ap 0)))) (aJ (ap 2) bR)))).de)))))))
theorem RM:b8 ["text","width","row"] ["text","width"] (aY Cg):=by ac_nf
theorem BQ(G:cM K mg base a):cm (b9 P w) P w K mg base "one_step_off" 3 ["text","width"] (b0 K (kF a)) :=
 cU (k:=2) (pin:=[]) G.yaH RM rfl (λ_ _ _ _ _ _ us hl=>Pu.UC (λ_ _=>rfl) us hl) (λf aP A outer s H E hr=>by exact
  (bn (fe 2 RM.nd ((bS (IR G) (hr.mono (by decide)) cY (aJ (ap 0) (aJ (bG jJ jK (ap 1) a8) bR)))).de)
  (aZ (uF (Ox rfl (aQ (bG c_ c8 ((bS (Nv G) (hr.mono (by decide)) cY (aJ (ap 0) (aJ (ap 2) bR)))).de ((bS (N2 G) (hr.mono (by decide)) cY (aJ (ap 0) (aJ (ap 2) (aJ (ap 1) bR))))).de) bh) (aQ (oS (aQ (ap 0) bh)) bh) G.ya4 G.ya3)))))
theorem MJ:b8 ["newest","width","number","far","added","text","other"] ["newest","width","number","far"] (aY Af):=by ac_nf
theorem Tk(G:cM K mg base a):cm (b9 P w) P w K mg base "spread" 4 ["newest","width","number","far"] (b0 K (sL a)) :=
 cU (k:=3) (pin:=[3]) G.yaK MJ rfl (λ_ _ _ _ _ _ us hl=>Pu.U0 (λ_ _ _ _=>rfl) us hl) (λf aP A outer s H E hr=>by exact
  (bn (jR 4 MJ.nd (lg bh))
  (bn (jM (iG 5 gJ rfl MJ.nd (ju (ap 0)) (aZ (iG 6 gJ rfl MJ.nd (ju ((bS (BQ G) (hr.mono (by decide)) i7 (aJ (ap 5) (aJ (ap 1) bR)))).de) (aZ (fY (GJ 3 hr.units (ap 6)) (bn (vo 3 hr.units (ap 6) (bG c_ c8 (ap 2) a8))
  (aZ (r9 4 (ap 6)))) fX))))))
  (aZ (mq 4)))))
theorem Ui:b8 ["goal","start","width","near","far","newest","number"] ["goal","start","width"] (aY xG):=by ac_nf
theorem Tl(G:cM K mg base a):cm (b9 P w) P w K mg base "distances" 5 ["goal","start","width"] (b0 K (pK a)) :=
 cU (k:=4) (pin:=[]) G.yam Ui rfl (λ_ _ _ _ _ _ us hl=>Pu.UO (λ_ _ _=>rfl) us hl) (λf aP A outer s H E hr=>by exact
  (bn (fe 3 Ui.nd ((bS (BQ G) (hr.mono (by decide)) cY (aJ (ap 1) (aJ (ap 2) bR)))).de)
  (bn (jR 4 Ui.nd (El 0))
  (bn (fe 5 Ui.nd (oS (aQ (ap 0) bh)))
  (bn (fe 6 Ui.nd a8)
  (bn (jM (xX (λ_=>1000) gJ (l_ (o4 (dO (KY rfl) Qj G.yaU Ha (aQ (lZ (cap:=[4]) (N':=["text","far"]) (mi.of ["goal","start","width","near","far","newest","number"] (aY xG) rfl rfl (by decide +kernel)) rfl (ju (ap 3)) (λC s₀ H₀ ex pn=>by exact oz) (λC s₀ H₀ ex pn=>by exact(Tq 1 hr.units (ap 0)))).de bh)))) (bn (fe 5 Ui.nd ((bS (Tk G) (hr.mono (by decide)) i7 (aJ (ap 5) (aJ (ap 2) (aJ (ap 6) (j8 4 bR)))))).de)
  (aZ (fe 6 Ui.nd (bG c_ c8 (ap 6) a8))))))
  (aZ (mq 4))))))))
theorem Kv:b8 ["one","other","width","way","far","near"] ["one","other","width"] (aY y9):=by ac_nf
theorem NI(G:cM K mg base a):cm (b9 P w) P w K mg base "road" 6 ["one","other","width"] (b0 K (rQ a)) :=
 RI (k:=5) (pin:=[]) G.yaS (by decide) G.yaJ Kv rfl (λ_ _ _ _ _ _ us hl=>Pu.UO (λ_ _ _=>rfl) us hl) (λf aP c T A outer s H E hr hL=>by exact
  (bn (q8 (bS (Rz G) (hr.mono (by decide)) cY (aJ (ap 0) (aJ (ap 1) (aJ (ap 2) bR)))))
  (bn (jR 3 Kv.nd (lg (aQ (ap 0) bh)))
  (bn (fY (gM (mv hr.units) mh (ap 0) (ap 1) rfl) (aZ (mq 3)) fX)
  (bn (jR 4 Kv.nd (((bS (Tl G) (hr.mono (by decide)) cY (aJ (ap 1) (aJ (ap 0) (aJ (ap 2) bR))))).dn))
  (bn (jM (xX (λ_=>1000) gJ (gM (mV hr.units) nq (Ij 3 fh fi (sd rN sK a8)) (ap 1) rfl) (bn (KU 5 Kv.nd (cap:=[4]) (N':=["text","far"]) (mi.of ["one","other","width","way","far","near"] (aY y9) rfl rfl (by decide +kernel)) rfl (ju ((bS (BQ G) (hr.mono (by decide)) i7 (aJ (Ij 3 fh fi (sd rN sK a8)) (aJ (ap 2) bR)))).de) (λC s₀ H₀ ex pn=>by exact A9 (OW 1 hr.units (ap 0))) (λC s₀ H₀ ex pn=>by exact(ap 0)))
  (aZ (r9 3 (MQ 5 4 rfl hr.d1 (by first | exact hL | exact LamAt.nox hL) G.ya1))))))
  (aZ (mq 3))))))))
theorem T8:b8 ["one","other","width"] ["one","other","width"] (aY BJ):=by ac_nf
theorem BA(G:cM K mg base a):cm (b9 P w) P w K mg base "steps" 7 ["one","other","width"] (b0 K (nh a)) :=
 cU (k:=6) (pin:=[]) G.yaL T8 rfl (λ_ _ _ _ _ _ us hl=>Pu.UO (λ_ _ _=>rfl) us hl) (λf aP A outer s H E hr=>by exact
  (aZ (fG (bG jJ jK (dO fF fH G.yaY fE (aQ ((bS (NI G) (hr.mono (by decide)) cY (aJ (ap 0) (aJ (ap 1) (aJ (ap 2) bR))))).de bh)) a8))))
def yaw(a:Ad):aj->R aH:=aF (cQ 1 (dL b_ (aB)))
 (aF (yn 2 3 (aV (aG (pJ a) (gV (dV 0) (gO 1 (gV (dC (.int 2)) (gV (dC (.int 9)) (bO))))))))
 (aF (bH 4 (aV (aG (qh a) (gV (aV (aG (qt a) (gV (dV 2) (gV (dV 3) (bO))))) (bO)))))
 (aF (cQ 5 (kM (aG (vx a) (gV (dV 2) (gV (dV 3) (bO))))))
 (aF (cV (dB (d2 (eqT ai) (dF (dL lp (aw (dF (oD 5)) (aB)))) (dV 4))) (dJ (dC (.bl ao))) (dG))
 (aF (λε=>cr (cq 6 (cG (ba a_ (dV 4) (bW) (aM (dC (.int 12))))) (cV (qY (dB (d2 (eqT ai) (aV (aG (nh a) (gV (dV 2) (gV (dV 6) (gV (dV 3) (bO)))))) (js 5 (dV 6)))) (dB (d2 (eqT ai) (aV (aG (nh a) (gV (dV 6) (gV (dV 2) (gV (dV 3) (bO)))))) (js 5 (dV 6))))) (dJ (dC (.bl ao))) (dG)) ε))
 (dJ (d2 (eqT ao) (aV (aG (nh a) (gV (dV 2) (gV (dV 2) (gV (dV 3) (bO)))))) (dC (.int 0)))))))))
def ut(a:Ad):aj->R Slot:=bt 1 [] (bw 6 (yaw a))
theorem Pb:b8 ["_law_script","_law_town","_law_text_here","_law_width","_law_some","_law_far","_law_other"] ["_law_script"] (aY wV):=by ac_nf
theorem OS(G:cM K mg base a){f:af}{fd:iq}(Fn:oH K "law" "law" wV f fd):jn P w K mg base (b9 P w) 15 f fd ["_law_script"] (b0 K (ut a)) :=
 NT (k:=14) (pin:=[]) Fn Pb rfl (λ_ _ _ _ _ _ us hl=>Pu.UR (λ_=>rfl) us hl) (λf aP A outer s H E hr=>by exact
  (bn (jR 1 Pb.nd (lg bh))
  (bn (Ti 2 3 rfl Pb.nd ((bS (Mv G) (hr.mono (by decide)) cY (aJ (ap 0) (j8 1 (aJ a8 (aJ a8 bR)))))).de)
  (bn (fe 4 Pb.nd ((bS (Le G) (hr.mono (by decide)) cY (aJ ((bS (RY G) (hr.mono (by decide)) cY (aJ (ap 2) (aJ (ap 3) bR)))).de bR))).de)
  (bn (jR 5 Pb.nd (((bS (Pd G) (hr.mono (by decide)) cY (aJ (ap 2) (aJ (ap 3) bR)))).dn))
  (bn (fY (gM (mV hr.units) nq (Am Ah B5 G.ya4 uN (aQ (MH 5 rfl G.yaZ).de bh)).de (ap 4) rfl) (aZ (fG uL)) fX)
  (bn (jM (iG 6 gJ rfl Pb.nd (ju (eU eX eV (ap 4) iY (c9 a8))) (aZ (fY ((Ai (gM (mV hr.units) nq ((bS (BA G) (hr.mono (by decide)) i7 (aJ (ap 2) (aJ (ap 6) (aJ (ap 3) bR))))).de (uE 5 hr.units (ap 6)) rfl) (Ac (gM (mV hr.units) nq ((bS (BA G) (hr.mono (by decide)) i7 (aJ (ap 6) (aJ (ap 2) (aJ (ap 3) bR))))).de (uE 5 hr.units (ap 6)) rfl)))).dt (aZ (fG uL)) fX))))
  (aZ (fG (yP (mv hr.units) mh ((bS (BA G) (hr.mono (by decide)) cY (aJ (ap 2) (aJ (ap 2) (aJ (ap 3) bR))))).de a8 rfl))))))))))
end
end K19
namespace Mx
open L2 Pu
def cN:Tx:=[97,98,99]
def eF:Nat->List Tx
 | 0=>[[]]
 | k+1=>cN.flatMap λc=>(eF k).map (c::·)
theorem p9:∀ (k:Nat) (x:Tx),x∈eF k↔x.length=k/\∀ c∈x,c∈cN
 | 0,x=>by
  simp only[eF,gZ];constructor
  ·rintro rfl; simp
  ·rintro⟨h,_⟩; exact Dg.mp h
 | k+1,x=>by
  simp only[eF,v7,cO];constructor
  ·rintro⟨c,hc,y,hy,rfl⟩;obtain⟨h1,h2⟩:=(p9 k y).mp hy;refine⟨by simp[h1],λd hd=>?_⟩;rcases cb.mp hd with rfl | hd
   ·exact hc
   ·exact h2 d hd
  ·rintro⟨h1,h2⟩;cases x with
   | nil=>cases h1
   | cons c y=>exact⟨c,h2 c (by simp),y,(p9 k y).mpr ⟨vU h1,λd hd=>h2 d (by simp[hd])⟩,rfl⟩
theorem B1:∀ k:Nat,(eF k).length=3 ^ k
 | 0=>rfl
 | k+1=>by simp only[eF,cN,lK,J7,dq,cD,B1 k,tj,qG];lia
theorem OR(i j:Nat):eF (i+j)=(eF i).flatMap λh=>(eF j).map (h++·):=by
 induction i with
 | zero=>simp[eF]
 | succ i ih=>rw[show i+1+j=(i+j)+1 by lia];simp only[eF,ih,List.flatMap_assoc,List.map_flatMap,List.flatMap_map,eE,JD,C9]
theorem BR:∀ k:Nat,(eF k).Pairwise (λa b=>a<b)
 | 0=>by simp[eF]
 | k+1=>by
  simp only[eF];rw[List.pairwise_flatMap];refine⟨λc _=>?_,?_⟩
  ·rw[CU];exact(BR k).imp λh=>List.cons_lt_cons_iff.mpr (.inr ⟨rfl,h⟩)
  ·have:cN.Pairwise (λa b=>a<b):=by decide
   refine this.imp λh=>?_;intro x hx y hy;obtain⟨x',_,rfl⟩:=cO.mp hx;obtain⟨y',_,rfl⟩:=cO.mp hy;exact List.cons_lt_cons_iff.mpr (.inl h)
theorem Kz{a b:Tx}(h:a<b):fj a b=ai:=by simp only[fj,decide_eq_true_eq];exact List.le_of_lt h
theorem Em(k:Nat):(eF k).Pairwise (λa b=>fj a b=ai):=(BR k).imp Kz
theorem GG(k:Nat):(eF k).Nodup:=(BR k).imp λh z=>by subst z; exact List.lt_irrefl _ h
def aW(z:Tx)(w:Nat):List Tx:=((bQ z.length).filter λi=>decide (i+w<=z.length)).map λi=>(z.drop i).take w
theorem GX(w L:Nat):∀ m:Nat,(bQ m).filter (λi=>decide (i+w<=L))=bQ (min m (L+1-w))
 | 0=>by simp
 | m+1=>by
  rw[tw,De,GX w L m];by_cases h:m+w<=L
  ·rw[show min m (L+1-w)=m by lia,show min (m+1) (L+1-w)=m+1 by lia,tw];simp[h]
  ·rw[show min (m+1) (L+1-w)=min m (L+1-w) by lia];simp[h]
theorem ny(z:Tx)(w:Nat)(hw:1<=w):aW z w=(bQ (z.length+1-w)).map λi=>(z.drop i).take w:=by unfold aW;rw[GX,show min z.length (z.length+1-w)=z.length+1-w by lia]
def nw(w:Nat)(t:Tx):Tx->List Tx
 | []=>[]
 | c::s=>(t.drop (t.length+1-w)++[c])::nw w (t++[c]) s
theorem Ik(w:Nat)(hw:1<=w):∀ (s t:Tx),w<=t.length+1->nw w t s=(bQ s.length).map λi=>((t++s).drop (t.length+1-w+i)).take w
 | [],t,_=>by simp[nw]
 | c::s,t,h=>by
  rw[nw,Ik w hw s (t++[c]) (by simp; lia),eD,qC,d4,eE];congr 1
  ·show _=((t++c::s).drop (t.length+1-w)).take w;rw[J8 ∅,List.take_append];have e1:(t.drop (t.length+1-w)).length=w-1:=by rw[jX]; lia
   rw[e1,km (by rw[e1]; lia),show w-(w-1)=1 by lia];rfl
  ·refine gF λi _=>?_;simp only[qH];rw[dq,ti,show t.length+1+1-w+i=t.length+1-w+Nat.succ i by lia];simp
theorem EU{w:Nat}(hw:1<=w){h s:Tx}(hh:h.length=w-1):aW (h++s) w=nw w h s:=by rw[ny _ _ hw,Ik w hw s h ∅,dq,show h.length+s.length+1-w=s.length by lia];refine gF λi _=>?_;rw[show h.length+1-w+i=i by lia]
theorem Fq{z:Tx}{w:Nat}{x:Tx}(hx:x∈aW z w):x.length=w/\∀ c∈x,c∈z:=by simp only[aW,cO,kh,nK,decide_eq_true_eq]at hx;obtain⟨i,⟨_,h⟩,rfl⟩:=hx;exact⟨by rw[jW,jX]; lia,λc hc=>n_ (jC hc)⟩
def iK(w:Nat):Nat->Tx->List Tx->List Tx
 | 0,t,_=>[t]
 | r+1,t,q=>cN.flatMap λc=>if t.drop (t.length+1-w)++[c]∈q then iK w r (t++[c]) (q.erase (t.drop (t.length+1-w)++[c]))else []
theorem Ei(w:Nat):∀ (r:Nat) (t:Tx) (q:List Tx),q.length=r->iK w r t q=((eF r).filter λs=>(nw w t s).isPerm q).map (t++·)
 | 0,t,q,hq=>by have:q=[]:=Dg.mp hq;subst this;simp[iK,eF,nw,List.isPerm]
 | r+1,t,q,hq=>by
  simp only[iK,eF,List.filter_flatMap,List.map_flatMap];congr 1;funext c;rw[v6,eE];by_cases h:t.drop (t.length+1-w)++[c]∈q
  ·rw[if_pos h,Ei w r (t++[c]) _ (by rw[J9 h,hq]; rfl)];have e:((λs=>(nw w t s).isPerm q) ∘ λx=>c::x)=λs=>(nw w (t++[c]) s).isPerm (q.erase (t.drop (t.length+1-w)++[c])):=by funext s;show(q.contains (t.drop (t.length+1-w)++[c]) && (nw w (t++[c]) s).isPerm (q.erase (t.drop (t.length+1-w)++[c])))=_;rw[List.contains_iff_mem.mpr h,CS]
   rw[e];refine gF λs _=>?_;simp
  ·rw[if_neg h];have e:((λs=>(nw w t s).isPerm q) ∘ λx=>c::x)=λ_=>ao:=by
    funext s;show(q.contains (t.drop (t.length+1-w)++[c]) && (nw w (t++[c]) s).isPerm (q.erase (t.drop (t.length+1-w)++[c])))=_;have:q.contains (t.drop (t.length+1-w)++[c])=ao:=by rw[Bool.eq_false_iff]; intro z; exact h (List.contains_iff_mem.mp z)
    rw[this,Bool.false_and]
   rw[e];simp
def pW(w:Nat)(ls:List Tx):List Tx:=(bu (ca (ls.map qI))).flatMap λh=>iK w ls.length h ls
theorem Pg{α β:Type}{l:List α}{f:α->List β}(p:α->Bool)(h:∀ x∈l,p x=ao->f x=[]):l.flatMap f=(l.filter p).flatMap f:=by
 induction l with
 | nil=>rfl
 | cons x l ih=>
  rw[lK,ih λy hy=>h y (by simp[hy]),tm];cases e:p x with
  | true=>simp
  | false=>rw[h x (by simp) e]; simp
theorem HQ{w:Nat}{ls:List Tx}(hw:1<=w)(hn:1<=ls.length)(hl:∀ x∈ls,x.length=w/\∀ c∈x,c∈cN) : pW w ls=(eF (w-1+ls.length)).filter λz=>(aW z w).isPerm ls:=by
 rw[OR,List.filter_flatMap];have e1:(λh=>((eF ls.length).map (h++·)).filter λz=>(aW z w).isPerm ls)=λh=>((eF ls.length).filter λs=>(aW (h++s) w).isPerm ls).map (h++·):=by funext h;rw[v6]; rfl
 rw[e1,Pg (λh=>decide (h∈ls.map qI))]
 ·have e2:(eF (w-1)).filter (λh=>decide (h∈ls.map qI))=bu (ca (ls.map qI)):=by
   refine oV ?_ ((Em (w-1)).filter _);refine(Dh ((GG (w-1)).filter _) (vq _)).mpr λx=>?_;rw[kh,decide_eq_true_eq,ml,p9];refine⟨λh=>h.2,λh=>⟨?_,h⟩⟩;obtain⟨y,hy,rfl⟩:=cO.mp h;obtain⟨h1,h2⟩:=hl y hy;exact⟨by rw[C5,h1],λc hc=>h2 c ((List.dropLast_sublist _).mem hc)⟩
  rw[e2];unfold pW;have:∀ l:List Tx,(∀ h∈l,h.length=w-1)->l.flatMap (λh=>iK w ls.length h ls)=l.flatMap λh=>((eF ls.length).filter λs=>(aW (h++s) w).isPerm ls).map (h++·):=by
   intro l
   induction l with
   | nil=>intro _; rfl
   | cons h l ih=>
    intro hh;rw[lK,lK,ih λy hy=>hh y (by simp[hy]),Ei w _ h ls rfl];have e3:(λs=>(nw w h s).isPerm ls)=λs=>(aW (h++s) w).isPerm ls:=by funext s; rw[EU hw (hh h (by simp))]
    rw[e3]
  refine this _ λh hh=>?_;have hm:=(ml _ _).mp ((iU _).mem_iff.mp hh);obtain⟨y,hy,rfl⟩:=cO.mp hm;rw[C5,(hl y hy).1]
 ·intro h hh hp;have bY:=((p9 _ h).mp hh).1;rw[List.map_eq_nil_iff,List.filter_eq_nil_iff];intro s hs hq;have wR:=((p9 _ s).mp hs).1;rw[EU hw bY,Di]at hq;cases s with
  | nil=>rw[tj]at wR; lia
  | cons c s=>rw[nw,show h.length+1-w=0 by lia,zu]at hq;have:h++[c]∈ls:=hq.mem_iff.mp (by simp);rw[decide_eq_false_iff_not]at hp;exact hp (cO.mpr ⟨_,this,by simp⟩)
end Mx
namespace Sh
open L2 Pu Mx
theorem io{α:Type}{f:List PV->Option α}{ds:aj->R (List PV)}{ε ε1:aj}{xs:List PV}{v:α}(h:ds ε = .ok xs ε1)(hf:f xs=aa v):dL f ds ε = .ok v ε1:=by unfold dL; rw[h]; show aS (f xs) ε1=_; rw[hf]; rfl
theorem fO{d:aj->R PV}{ds:aj->R (List PV)}{ε ε1 ε2:aj}{x:PV}{xs:List PV}(h:d ε = .ok x ε1)(hs:ds ε1 = .ok xs ε2):aw d ds ε = .ok (x::xs) ε2:=by unfold aw; rw[h]; show(ds ε1).bind _=_; rw[hs]; rfl
theorem ie{ε:aj}:aB ε = .ok [] ε:=rfl
theorem kP(pv:PV)(ε:aj):dC pv ε = .ok pv ε:=rfl
theorem gQ{f:PV->PV->Option PV}{da db:aj->R PV}{ε ε1 ε2:aj}{x y z:PV}(h:da ε = .ok x ε1)(h2:db ε1 = .ok y ε2)(hf:f x y=aa z):d2 f da db ε = .ok z ε2:=by unfold d2; rw[h]; show(db ε1).bind _=_; rw[h2]; show aS (f x y) ε2=_; rw[hf]; rfl
section
theorem Od{ls:List Tx}(h:ls.length<=1000000):lp [.lst (am ls)]=aa (.lst (am (bu ls))):=by show(gA (am ls)).bind _=_;rw[oy,gI,if_pos h]
end
section
variable{a:Ad}
abbrev cf(ns:List Int):Slot:=.val (.lst (ns.map .int))
theorem IG(ns:List Int)(k:Int)(h0:0<=k)(h:k<ns.length):∃ v,ff (ns.map PV.int) k=aa (.int v):=by
 have hk:k.toNat<ns.length:=∅
 refine⟨ns[k.toNat],?_⟩;rw[Bu h0 (by rw[cD]; exact hk)];simp
theorem eq_nil(ns:List Int):Pu.eqT ao (.lst (ns.map .int)) (.lst [])=aa (.bl ns.isEmpty):=by
 cases ns with
 | nil=>rfl
 | cons x xs=>
  have hd:∀ l:List Int,i9 (l.map .int)=0:=λl=>by induction l with | nil=>rfl | cons y l ih=>simp[i9,i4,ih]
  have:i9 ((x::xs).map .int)=0:=hd _;simp only[d4]at this;simp[Pu.eqT,fz,cW,ik,i4,this]
theorem uX(neg:Bool)(i j:Int):Pu.eqT neg (.int i) (.int j)=aa (.bl (neg ^^ decide (i=j))):=by show(if p_ (V.int i) (V.int j)then aa (PV.bl (neg ^^ decide (V.int i=V.int j)))else ae)=_;have:p_ (V.int i) (V.int j)=ai:=rfl;rw[if_pos this];simp
theorem mZ(neg:Bool)(x y:Tx):Pu.eqT neg (.str x) (.str y)=aa (.bl (neg ^^ decide (x=y))):=by show(if p_ (tV x) (tV y)then aa (PV.bl (neg ^^ decide (tV x=tV y)))else ae)=_;have:p_ (tV x) (tV y)=ai:=rfl;rw[if_pos this];have e:(tV x=tV y)=(x=y):=propext ⟨NF,λh=>by rw[h]⟩;simp only[e]
theorem Lj(ns:List Int)(k:Int)(h0:0<=k):∃ v,rW a [cf ns,.val (.int k)] = .ok (.val (.int v)) [cf ns,.val (.int k)]:=by
 by_cases h:k<ns.length
 ·obtain⟨v,hv⟩:=IG ns k h0 h;refine⟨v,?_⟩;simp![rW,yax,bz,bA,hv,h]
 ·have e:=eq_nil ns;by_cases hn:ns=[]
  ·subst hn;refine⟨0,?_⟩;simp only[vL,J_]at e;have h':¬ k<0:=∅
   simp![rW,yax,bz,bA,e,h']
  ·have hpos:0<ns.length:=by cases ns with | nil=>exact absurd rfl hn | cons=>simp
   obtain⟨v,hv⟩:=IG ns (k % ns.length) (Dc _ ∅) (Db _ ∅);refine⟨v * 31+k,?_⟩;have e2:ns.isEmpty=ao:=by cases ns with | nil=>exact absurd rfl hn | cons=>rfl
   rw[e2]at e;have hm:iF (.int k) (.int (ns.length:Int))=aa (.int (k % ns.length)):=by simp[iF]; lia
   have hmul:iM (.int v) (.int 31)=aa (.int (v * 31)):=by simp[iM,vg]
   simp![rW,yax,bz,bA,h,e,hm,hv,hmul,aL]
theorem OT(ns:List Int)(k m:Int)(h0:0<=k)(hm:0<m):∃ v,0<=v/\v<m/\yV a [cf ns,.val (.int k),.val (.int m)] = .ok (.val (.int v)) [cf ns,.val (.int k),.val (.int m)]:=by
 obtain⟨c,hc⟩:=Lj (a:=a) ns k h0;have d0:0<=(c * 1103515245+7919 * k+12345) % 2147483647:=Dc _ (by decide);have d1:(c * 1103515245+7919 * k+12345) % 2147483647<2147483647:=Db _ (by decide);have m1:iM (.int c) (.int 1103515245)=aa (.int (c * 1103515245)):=by simp[iM,vg]
 have m2:iM (.int 7919) (.int k)=aa (.int (7919 * k)):=by simp[iM,vg]
 have m3:iF (.int (c * 1103515245+7919 * k+12345)) (.int 2147483647)=aa (.int ((c * 1103515245+7919 * k+12345) % 2147483647)):=by simp[iF]
 generalize (c * 1103515245+7919 * k+12345) % 2147483647=d at d0 d1 m3;have m4:uD (.int d) (.int 5)=aa (.int (d ^ 5)):=by
  have:d.natAbs<2 ^ 64:=∅
  simp[uD,this]
 have m5:iF (.int (d ^ 5)) (.int 2147483647)=aa (.int (d ^ 5 % 2147483647)):=by simp[iF]
 generalize d ^ 5 % 2147483647=d5 at m5;have m6:iF (.int d5) (.int 999983)=aa (.int (d5 % 999983)):=by simp[iF]
 generalize d5 % 999983=d6 at m6;have m7:iF (.int d6) (.int m)=aa (.int (d6 % m)):=by simp[iF,hm]
 refine⟨d6 % m,Dc _ ∅,Db _ hm,?_⟩;simp![yV,yaB,hc,m1,m2,m3,m4,m5,m6,m7,aL]
theorem yY(ns:List Int)(xs:List PV)(m:Int)(hm:0<m)(hx:xs.length<=1000):∃ v,0<=v/\v<m/\mw a [cf ns,.own (.lst xs),.val (.int m)] = .ok (.val (.int v)) [cf ns,.own (.lst (xs++[.int 0])),.val (.int m)]:=by
 obtain⟨v,v0,v1,hv⟩:=OT (a:=a) ns ((xs.length:Int)+1) m ∅ hm;refine⟨v,v0,v1,?_⟩;have wy:xs.length<bB:=by unfold bB; lia
 simp![mw,yay,bz,wy,hv]
theorem FJ{α:Type}(ps:List α)(v:Int)(h0:0<=v)(h1:v<ps.length):∃ x∈ps,ff ps v=aa x:=by
 have hk:v.toNat<ps.length:=∅
 exact⟨ps[v.toNat],JJ _,Bu h0 hk⟩
theorem BK(ns:List Int)(xs ps:List PV)(hx:xs.length<=1000)(hp:0<ps.length):∃ x∈ps,lj a [cf ns,.own (.lst xs),.val (.lst ps)] = .ok (.val x) [cf ns,.own (.lst (xs++[.int 0])),.val (.lst ps)]:=by obtain⟨v,v0,v1,hv⟩:=yY (a:=a) ns xs (ps.length:Nat) ∅ hx;obtain⟨x,hm,pB⟩:=FJ ps v v0 v1;refine⟨x,hm,?_⟩;simp![lj,yaD,bz,bA,hv,pB]
theorem yG{n:Nat}(h:n<=1000000):ij [.int n]=aa (fU 0 n):=by show(if(n:Int)<=1000000/\-1000000<=(n:Int)then aa (fU 0 (n:Int).toNat)else ae)=_;rw[if_pos ⟨∅,∅⟩]; simp
theorem ka{x y:Tx}(h:x.length+y.length<=bB):aL (.str x) (.str y)=aa (.str (x++y)):=by show(if(x++y).length<=bB then aa (PV.str (x++y))else ae)=_;rw[if_pos (by rw[dq]; exact h)]
theorem cK{d1 d2:aj->R aH}{ε ε1:aj}(h:d1 ε = .ok .next ε1):aF d1 d2 ε=d2 ε1:=by unfold aF; rw[h]
theorem nD{i:Nat}{d:aj->R PV}{ε ε1:aj}{x:PV}(h:d ε = .ok x ε1):bH i d ε = .ok .next (ε1.set i (.val x)):=by unfold bH; rw[h]; rfl
theorem Fg{i:Nat}{db:aj->R aH}{I:Nat->aj->Prop}{N:Nat}(step:∀ k ε x,k<N->I k ε->∃ ε',db (ε.set i (.val x)) = .ok .next ε'/\I (k+1) ε'):∀ (xs:List PV) (k:Nat) (ε:aj),k+xs.length<=N->I k ε->∃ ε',eh i db xs ε = .ok .next ε'/\I (k+xs.length) ε'
 | [],k,ε,_,h=>⟨ε,rfl,h⟩
 | x::xs,k,ε,hk,h=>by simp only[eD]at hk;obtain⟨ε1,e1,h1⟩:=step k ε x ∅ h;obtain⟨ε2,e2,h2⟩:=Fg step xs (k+1) ε1 ∅ h1;refine⟨ε2,by unfold eh; rw[e1]; exact e2,?_⟩;rw[eD,show k+(xs.length+1)=k+1+xs.length by lia]; exact h2
theorem yX{i:Nat}{db:aj->R aH}{I:List PV->aj->Prop}(step:∀ (x:PV) (r:List PV) ε,I (x::r) ε->∃ ε',db (ε.set i (.val x)) = .ok .next ε'/\I r ε'):∀ (xs:List PV) (ε:aj),I xs ε->∃ ε',eh i db xs ε = .ok .next ε'/\I [] ε'
 | [],ε,h=>⟨ε,rfl,h⟩
 | x::xs,ε,h=>by obtain⟨ε1,e1,h1⟩:=step x xs ε h;obtain⟨ε2,e2,h2⟩:=yX step xs ε1 h1;exact⟨ε2,by unfold eh; rw[e1]; exact e2,h2⟩
theorem P5(ns:List Int)(xs:List PV)(low most:Nat)(hlm:low<=most)(hm:most<=100)(hx:xs.length<=500) : ∃ (z:Tx) (ys:List PV),low<=z.length/\z.length<=most/\(∀ c∈z,c∈cN)/\ys.length<=xs.length+2+most /\ oA a [cf ns,.own (.lst xs),.val (.int low),.val (.int most)] = .ok (.val (.str z)) [cf ns,.own (.lst ys),.val (.int low),.val (.int most)]:=by
 obtain⟨f,hf,hp⟩:=BK (a:=a) ns xs [.int 1,.int 2,.int 2,.int 3,.int 3,.int 3] ∅ (by decide);obtain⟨few,rfl,f0,f1⟩:∃ few:Int,f = .int few/\0<few/\few<=3:=by simp only[cb,kn,or_false]at hf;rcases hf with rfl | rfl | rfl | rfl | rfl | rfl <;> exact⟨_,rfl,by decide,by decide⟩
 obtain⟨m,m0,m1,hd⟩:=yY (a:=a) ns (xs++[.int 0]) ((most:Int)-low+1) ∅ (by simp; lia);obtain⟨n,hn⟩:∃ n:Nat,(low:Int)+m=n:=⟨(low+m).toNat,∅⟩
 have hr:ij [.int ((low:Int)+m)]=aa (fU 0 n):=by rw[hn];exact yG ∅
 have bY:(fU 0 n).length=n:=by simp[fU]
 obtain⟨ε',e1,ys,z,s6,rfl,hz,hy,DQ⟩:=Fg (i:=6) (db:=bH 5 (d2 aL (dV 5) (d2 bA (dC (.str [97,98,99])) (aV (aG (mw a) (gV (dV 0) (gO 1 (gV (dV 4) (Pu.bO)))))))))
  (I:=λk ε=>∃ ys z s6,ε=[cf ns,.own (.lst ys),.val (.int low),.val (.int most),.val (.int few),.val (.str z),s6]/\z.length=k/\ys.length<=xs.length+2+k/\∀ c∈z,c∈cN) (N:=n)
  (by
   rintro k ε x hk ⟨ys,z,s6,rfl,hz,hy,DQ⟩;obtain⟨v,v0,v1,hv⟩:=yY (a:=a) ns ys few f0 ∅;obtain⟨c,hc,hc2⟩:=FJ cN v v0 (by simp[cN]; lia);refine⟨[cf ns,.own (.lst (ys++[.int 0])),.val (.int low),.val (.int most),.val (.int few),.val (.str (z++[c])),.val x],?_,ys++[.int 0],z++[c],.val x,rfl,by simp[hz],by simp; lia,λd hd=>?_⟩
   ·have hc3:bA (.str [97,98,99]) (.int v)=aa (.str [c]):=by
     show(ff cN v).map _=_;rw[hc2]; rfl
    have lN:aL (.str z) (.str [c])=aa (.str (z++[c])):=ka (by simp[bB]; lia);simp![hv,hc3,lN]
   ·simp only[eM,gZ]at hd;rcases hd with hd | rfl
    ·exact DQ d hd
    ·exact hc)
  (fU 0 n) 0 [cf ns,.own (.lst (xs++[.int 0]++[.int 0])),.val (.int low),.val (.int most),.val (.int few),.val (.str []),.none] ∅ ⟨xs++[.int 0]++[.int 0],[],.none,rfl,rfl,by simp,by simp⟩
 refine⟨z,ys,∅,∅,DQ,∅,?_⟩;have jZ:cX (.int most) (.int low)=aa (.int ((most:Int)-low)):=rfl;have ha1:aL (.int ((most:Int)-low)) (.int 1)=aa (.int ((most:Int)-low+1)):=rfl;have ha2:aL (.int low) (.int m)=aa (.int ((low:Int)+m)):=rfl;simp only[gH,C9,ft]at e1;simp![oA,yaG,hp,jZ,ha1,ha2,hd,cq,hr,cr,e1]
theorem kI{cap:List Nat}{dt:aj->R Bool}{de:aj->R PV}{ε:aj}(p:PV->Bool)(f:PV->PV):∀ (xs:List PV),(∀ x∈xs,dw (eA cap dt x ε) = .ok (p x) ε/\(p x=ai->dw (eA cap de x ε) = .ok (f x) ε))->∀ au,kQ cap dt de xs au ε = .ok (au++(xs.filter p).map f) ε
 | [],_,au=>by simp[kQ]
 | x::xs,h,au=>by
  have h1:=h x (by simp);have ih:=kI p f xs (λy hy=>h y (by simp[hy]));unfold kQ;rw[h1.1];simp only[R.bind_ok];cases hp:p x with
  | false=>simp only[ih au,tm,hp]; simp
  | true=>simp only[h1.2 hp,R.bind_ok,ih (au++[f x]),tm,hp]; simp
theorem GA{z:Tx}{i w:Nat}(h:i+w<=z.length):dN z (aa (i:Int)) (aa ((i:Int)+w))=(z.drop i).take w:=by
 unfold dN;have e1:HT.sIx z.length 0 (aa (i:Int))=i:=by rw[HT.sIx_nat]; lia
 have e2:HT.sIx z.length z.length (aa ((i:Int)+w))=i+w:=by rw[show(i:Int)+w=((i+w:Nat):Int) by lia,HT.sIx_nat]; lia
 rw[e1,e2,v8]
theorem D5{z:Tx}{w:Nat}:∀ x∈aW z w,x.length=w/\∀ c∈x,c∈z:=by intro x hx;simp only[aW,cO,kh,nK,decide_eq_true_eq]at hx;obtain⟨i,⟨_,h⟩,rfl⟩:=hx;exact⟨by rw[jW,jX]; lia,λc hc=>n_ (jC hc)⟩
theorem RC{z:Tx}{w m:Nat}(hw:1<=w)(h1:w<=z.length)(h2:z.length<=w+m):1<=(aW z w).length/\(aW z w).length<=m+1:=by
 unfold aW;rw[cD];have:∀ n,((bQ n).filter λi=>decide (i+w<=z.length)).length=min n (z.length+1-w):=by
  intro n
  induction n with
  | zero=>simp
  | succ n ih=>
   rw[tw,De,dq,ih];by_cases h:n+w<=z.length
   ·simp[List.filter,h]; lia
   ·simp[List.filter,h]; lia
 rw[this];lia
structure Good(l:Tx)(w:Nat)(ls:List Tx):Prop where
 len:∀ x∈ls,x.length=w
 abc:∀ x∈ls,∀ c∈x,c∈l
 some:1<=ls.length
 few:ls.length<=9
theorem Good.perm{l:Tx}{w:Nat}{ls ms:List Tx}(g:Good l w ls)(p:ms.Perm ls):Good l w ms:=⟨λx h=>g.len x (p.mem_iff.mp h),λx h=>g.abc x (p.mem_iff.mp h),by rw[p.length_eq]; exact g.some,by rw[p.length_eq]; exact g.few⟩
theorem gm(ls:List Tx):(am ls).length=ls.length:=by simp[am]
theorem SC{n:Nat}{v:Int}(h0:0<=v)(h1:v<n):j_ n v=aa v.toNat:=by unfold j_; rw[if_pos h0,if_pos h1]
theorem vp(ls ms:List Tx):am ls++am ms=am (ls++ms):=by simp[am]
theorem FR{α:Type}(xs:List α)(n:Nat):dN xs ae (aa (n:Int))=xs.take n:=by
 unfold dN;have e1:HT.sIx xs.length 0 ae=0:=rfl;rw[e1,HT.sIx_nat,zu,Nat.sub_zero];by_cases h:n<=xs.length
 ·rw[v9 h]
 ·rw[Dj ∅,km (bi _),km ∅]
theorem GT{α:Type}(xs:List α)(n:Nat):dN xs (aa (n:Int)) ae=xs.drop n:=by
 unfold dN;have e2:HT.sIx xs.length xs.length ae=xs.length:=rfl;rw[e2,HT.sIx_nat];by_cases h:n<=xs.length
 ·rw[v9 h,km (by rw[jX]; lia)]
 ·rw[Dj ∅,Dk ∅,Dk ∅]; simp
theorem p8{t T:String}{b:Bool}{x:PV}(h:vm x=aa t)(e:jU [] (.type t) (.type T)=aa b):i8 [x,.raw (.ty T)]=aa (.bl b):=by show((vm x).bind λt=>(jU [] (.type t) (.type T)).map λb=>PV.bl b)=_;rw[h,gI,e]; rfl
theorem PY:jU [] (.type "int") (.type "int")=aa ai:=by decide +kernel
theorem RQ:jU [] (.type "int") (.type "bool")=aa ao:=by decide +kernel
theorem GL:jU [] (.type "str") (.type "str")=aa ai:=by decide +kernel
theorem Ak:jU [] (.type "tuple") (.type "tuple")=aa ai:=by decide +kernel
theorem ER(bs:List Bool):kE (bs.map .bl)=aa bs:=by
 induction bs with
 | nil=>rfl
 | cons b bs ih=>show(kE (bs.map .bl)).map (b::·)=_; rw[ih]; rfl
theorem FP(bs:List Bool):uZ [.lst (bs.map .bl)]=aa (.bl (bs.all id)):=by show(kE (bs.map .bl)).map _=_;rw[ER]; rfl
theorem Gs(z s:Tx):vi a [.val (.str z),.val (.str s)] = .ok (.val (.bl (z.all s.contains))) [.val (.str z),.val (.str s)]:=by
 have hc:=kI (cap:=[1]) (dt:=dU) (de:=(d2 (rq ao) (dV 0) (dV 1))) (ε:=[.val (.str z),.val (.str s)]) (λ_=>ai) (λx=>match x with | .str [c]=>.bl (s.contains c) | _=>.non) (z.map λc=>.str [c])
  (by
   intro x hx;obtain⟨c,_,rfl⟩:=cO.mp hx;refine⟨by simp![eA,d9,dw,dU],λ_=>?_⟩;have eO:rq ao (.str [c]) (.str s)=aa (.bl (s.contains c)):=by rw[← Lz]; simp[rq]
   simp![eA,d9,dw,eO]) []
 have he:((z.map λc=>PV.str [c]).filter (λ_=>ai)).map (λx=>match x with | .str [c]=>PV.bl (s.contains c) | _=>.non)=(z.map s.contains).map .bl:=by rw[n9.mpr (by simp),eE,eE]; rfl
 rw[ft,he]at hc;have j1:(z.map s.contains).all id=z.all s.contains:=by rw[CO]; rfl
 generalize z.map s.contains=bs at hc j1;have ha:=FP bs;rw[j1]at ha;simp![vi,yap,dD,cG,nB,hc,ha]
def j3(w:Int)(s z:Tx):Bool:=decide ((z.length:Int)=w) && z.all s.contains
theorem L_(z s:Tx)(w:Int):sD a [.val (.str z),.val (.int w),.val (.str s)] = .ok (.val (.bl (j3 w s z))) [.val (.str z),.val (.int w),.val (.str s)]:=by
 have h1:i8 [.str z,.raw (.ty "str")]=aa (.bl ai):=p8 rfl GL;have hh:=Gs (a:=a) z s;have hl:bz [.str z]=aa (.int (z.length:Nat)):=rfl;have he:=uX ao (z.length:Nat) w;unfold j3;by_cases h:((z.length:Nat):Int)=w
 ·simp only[h,decide_true,Bool.xor_true,Bool.not_false]at he;simp![sD,yav,h1,hl,he,hh,h]
 ·simp only[h,decide_false,Bool.xor_false]at he;simp![sD,yav,h1,hl,he,h]
theorem Ey(ls ms:List Tx):ik (am ls) (am ms)=aa (decide (ls=ms)):=by
 induction ls generalizing ms with
 | nil=>cases ms <;> simp[am,ik]
 | cons x ls ih=>
  cases ms with
  | nil=>simp[am,ik]
  | cons y ms=>
   show(cW (.str x) (.str y)).bind (λa=>(ik (am ls) (am ms)).map λb=>a && b)=_;rw[ih];have:cW (.str x) (.str y)=aa (decide (x=y)):=by
    show aa (tS x == tS y)=_;by_cases h:x=y
    ·subst h; simp
    ·have:tS x≠tS y:=λz=>h (pQ z);simp[h,this]
   rw[this];simp[vZ]
theorem EO(ls:List Tx):i9 (am ls)=0:=by
 induction ls with
 | nil=>rfl
 | cons x ls ih=>show max (i4 (.str x)) (i9 (am ls))=0; rw[ih]; rfl
theorem B2(neg:Bool)(ls ms:List Tx):Pu.eqT neg (.lst (am ls)) (.lst (am ms))=aa (.bl (neg ^^ decide (ls=ms))):=by show(if i4 (.lst (am ls))<=8 then(ik (am ls) (am ms)).map (λk=>PV.bl (neg ^^ k))else ae)=_;rw[if_pos (by show i9 (am ls)+1<=8; rw[EO]; decide),Ey]; rfl
theorem Mr(ls:List Tx)(w:Int)(s:Tx)(h1:1<=ls.length)(h9:ls.length<=9) : oN a [.val (.tup (am ls)),.val (.int w),.val (.str s)] = .ok (.val (.bl (ls.all (j3 w s) && decide (ls=bu ls)))) [.val (.tup (am ls)),.val (.int w),.val (.str s)]:=by
 have k1:i8 [.tup (am ls),.raw (.ty "tuple")]=aa (.bl ai):=p8 rfl Ak;have hl:bz [.tup (am ls)]=aa (.int (ls.length:Nat)):=by simp[bz,gm]
 have c1:(1:Int)<=(ls.length:Nat):=∅
 have c2:((ls.length:Nat):Int)<=9:=∅
 have hc:=kI (cap:=[1,2]) (dt:=dU) (de:=(aV (aG (sD a) (gV (dV 0) (gV (dV 1) (gV (dV 2) (Pu.bO))))))) (ε:=[.val (.tup (am ls)),.val (.int w),.val (.str s)]) (λ_=>ai) (λx=>match x with | .str z=>.bl (j3 w s z) | _=>.non) (am ls)
  (by intro x hx;obtain⟨z,_,rfl⟩:=cO.mp hx;refine⟨by simp![eA,d9,dw,dU],λ_=>?_⟩;have hw:=L_ (a:=a) z s w;simp![eA,d9,dw,hw]) []
 have he:((am ls).filter (λ_=>ai)).map (λx=>match x with | .str z=>PV.bl (j3 w s z) | _=>.non)=(ls.map (j3 w s)).map .bl:=by rw[n9.mpr (by simp)];unfold am;rw[eE,eE]; rfl
 rw[ft,he]at hc;have j1:(ls.map (j3 w s)).all id=ls.all (j3 w s):=by rw[CO]; rfl
 generalize ls.map (j3 w s)=bs at hc j1;have ha:=FP bs;have iS:ls.length<=1000000:=∅
 have qT:=B2 ao ls (bu ls);cases hb:ls.all (j3 w s)with
 | false=>rw[j1,hb]at ha;simp![oN,yag,k1,hl,c1,c2,dD,cG,nB,hc,ha]
 | true=>rw[j1,hb]at ha;simp only[mL]at qT;simp![oN,yag,k1,hl,c1,c2,dD,cG,nB,hc,ha,ym,lp,oy,iS,qT]
theorem TF(ls:List Tx)(w:Int)(s:Tx)(h9:ls.length=0\/9<ls.length):oN a [.val (.tup (am ls)),.val (.int w),.val (.str s)] = .ok (.val (.bl ao)) [.val (.tup (am ls)),.val (.int w),.val (.str s)]:=by
 have k1:i8 [.tup (am ls),.raw (.ty "tuple")]=aa (.bl ai):=p8 rfl Ak;have hl:bz [.tup (am ls)]=aa (.int (ls.length:Nat)):=by simp[bz,gm]
 by_cases c1:(1:Int)<=(ls.length:Nat)
 ·have c2:¬ ((ls.length:Nat):Int)<=9:=∅
  simp![oN,yag,k1,hl,c1,c2]
 ·simp![oN,yag,k1,hl,c1]
theorem RJ(i:Int):xh a [.val (.int i)] = .ok (.val (.bl ai)) [.val (.int i)]:=by have h1:i8 [.int i,.raw (.ty "int")]=aa (.bl ai):=p8 rfl PY;have h2:i8 [.int i,.raw (.ty "bool")]=aa (.bl ao):=p8 rfl RQ;simp![xh,yat,h1,h2]
theorem Ft(i:Int):qm a [.val (.int i)] = .ok (.val (.bl (decide (1<=i/\i<=4)))) [.val (.int i)]:=by
 have h:=RJ (a:=a) i;by_cases c1:1<=i
 ·by_cases c2:i<=4
  ·simp![qm,yau,h,c1,c2]
  ·simp![qm,yau,h,c1,c2]
 ·simp![qm,yau,h,c1]
def um(s:Tx)(w:Int)(ls:List Tx):Bool:=decide (1<=w/\w<=4) && (decide (1<=ls.length/\ls.length<=9) && (ls.all (j3 w s) && decide (ls=bu ls)))
theorem TW(s:Tx)(w:Int)(ls:List Tx):r_ a [.val (.tup [.int w,.tup (am ls)]),.val (.str s)] = .ok (.val (.bl (um s w ls))) [.val (.tup [.int w,.tup (am ls)]),.val (.str s)]:=by
 have k1:i8 [.tup [.int w,.tup (am ls)],.raw (.ty "tuple")]=aa (.bl ai):=p8 rfl Ak;have hl:bz [.tup [.int w,.tup (am ls)]]=aa (.int 2):=rfl;have e2:=uX ai 2 2;simp only[decide_true,tP,zI]at e2;have i0:bA (.tup [.int w,.tup (am ls)]) (.int 0)=aa (.int w):=rfl;have i1:bA (.tup [.int w,.tup (am ls)]) (.int 1)=aa (.tup (am ls)):=rfl;have hw:=Ft (a:=a) w;unfold um;by_cases c:1<=w/\w<=4
 ·rw[decide_eq_true c]at hw ⊢;by_cases c2:1<=ls.length/\ls.length<=9
  ·have hh:=Mr (a:=a) ls w s c2.1 c2.2;rw[decide_eq_true c2];simp![r_,yas,k1,hl,e2,i0,i1,hw,hh]
  ·have hh:=TF (a:=a) ls w s ∅;rw[decide_eq_false c2];simp![r_,yas,k1,hl,e2,i0,i1,hw,hh]
 ·rw[decide_eq_false c]at hw ⊢;simp![r_,yas,k1,hl,e2,i0,i1,hw]
abbrev vw(w:Int)(ls:List Tx):Bool:=um cN w ls
theorem Nu(w:Int)(ls:List Tx):yr a [.val (.tup [.int w,.tup (am ls)])] = .ok (.val (.bl (vw w ls))) [.val (.tup [.int w,.tup (am ls)])]:=by have hv:=TW (a:=a) cN w ls;simp only[cN]at hv;simp![yr,yar,hv];rfl
theorem Rt{w:Int}{ls:List Tx}(h:vw w ls=ai):xI a [.val (.tup [.int w,.tup (am ls)])] = .ok (.val .non) [.val (.tup [.int w,.tup (am ls)])]:=by have hv:=Nu (a:=a) w ls;rw[h]at hv;simp![xI,yaj,hv]
theorem Good.vw{w:Nat}{ls:List Tx}(g:Good cN w ls)(w1:1<=w)(w4:w<=4)(hs:ls.Pairwise (λa b=>fj a b=ai)):vw w ls=ai:=by
 have e1:ls.all (j3 w cN)=ai:=by rw[vS];intro x hx;unfold j3;rw[g.len x hx,decide_eq_true rfl,CS,vS];intro c hc;simpa using g.abc x hx c hc
 have e2:decide (ls=bu ls)=ai:=decide_eq_true (HM hs).symm;show um cN w ls=ai;unfold um;rw[e1,e2,decide_eq_true (show 1<=(w:Int)/\(w:Int)<=4 by lia),decide_eq_true (show 1<=ls.length/\ls.length<=9 from⟨g.some,g.few⟩)];rfl
end
def bj(m:List (Tx×Int))(x:Tx):Option Int:=(m.find? λp=>decide (p.1=x)).map (·.2)
def cL(m:List (Tx×Int))(x:Tx)(n:Int):List (Tx×Int):=if(m.any λp=>decide (p.1=x))=ai then m.map (λp=>if p.1=x then(p.1,n)else p)else m++[(x,n)]
def dk(m:List (Tx×Int)):List (aI×PV):=m.map λp=>(Sum.inr (tS p.1),PV.int p.2)
theorem Cb(x y:Tx):((Sum.inr (tS x):aI)=Sum.inr (tS y))=(x=y):=propext ⟨λh=>pQ (Sum.inr.inj h),λh=>by rw[h]⟩
theorem rh(m:List (Tx×Int))(x:Tx):kH (dk m) (Sum.inr (tS x))=(bj m x).map .int:=by
 induction m with
 | nil=>rfl
 | cons p m ih=>
  show((List.find? _ ((Sum.inr (tS p.1),PV.int p.2)::dk m)).map (·.2))=_;unfold bj;rw[f6,f6];simp only[Cb];by_cases h:p.1=x
  ·simp[h]
  ·simp only[h,decide_false]; exact ih
theorem SY(m:List (Tx×Int))(x:Tx):((dk m).any λkv=>decide (kv.1=(Sum.inr (tS x):aI)))=m.any λp=>decide (p.1=x):=by unfold dk;rw[C4];congr 1;funext p;simp only[qH,Cb]
theorem xx(m:List (Tx×Int))(x:Tx)(n:Int):rE (dk m) (Sum.inr (tS x)) (.int n)=dk (cL m x n):=by
 unfold rE cL;rw[SY];split
 ·unfold dk;rw[eE,eE];refine gF λp _=>?_;simp only[qH,Cb];split <;> rfl
 ·unfold dk; simp
theorem Hi(m:List (Tx×Int)):qe (dk m)=aa (m.any λp=>decide (p.2≠0)):=by
 induction m with
 | nil=>rfl
 | cons p m ih=>show(qe (dk m)).map _=_;rw[ih]; simp
theorem xi{m:List (Tx×Int)}{x:Tx}(h:(m.any λp=>decide (p.1=x))=ao):bj m x=ae:=by unfold bj;rw[Option.map_eq_none_iff,zH];intro p hp;have:=Js.mp h p hp;simpa using this
theorem F7{m:List (Tx×Int)}{x y:Tx}{n:Int}(h:(m.any λp=>decide (p.1=x))=ao):bj (m++[(x,n)]) y=if y=x then aa n else bj m y:=by
 have hn:=xi h;unfold bj at hn ⊢;rw[List.find?_append];by_cases e:y=x
 ·subst e;rw[Option.map_eq_none_iff]at hn;simp[hn]
 ·rw[if_neg e];have:¬ x=y:=λz=>e z.symm;cases hf:m.find? (λp=>decide (p.1=y))with
  | none=>simp[this]
  | some p=>simp
theorem Lf{m:List (Tx×Int)}{x y:Tx}{n:Int}:bj (m.map λp=>if p.1=x then(p.1,n)else p) y=(bj m y).map λz=>if y=x then n else z:=by
 induction m with
 | nil=>rfl
 | cons p m ih=>
  unfold bj at ih ⊢;rw[d4,f6,f6];by_cases h:p.1=x
  ·rw[if_pos h];by_cases e:p.1=y
   ·simp[e,show y=x from e.symm.trans h]
   ·simp only[e,decide_false]; exact ih
  ·rw[if_neg h];by_cases e:p.1=y
   ·simp[e,show ¬ y=x from λz=>h (e.trans z)]
   ·simp only[e,decide_false]; exact ih
theorem IY{m:List (Tx×Int)}{x:Tx}(h:(m.any λp=>decide (p.1=x))=ai):∃ n,bj m x=aa n:=by
 unfold bj;cases hf:m.find? (λp=>decide (p.1=x))with
 | none=>rw[zH]at hf;obtain⟨p,hp,hq⟩:=tQ.mp h;exact absurd hq (hf p hp)
 | some p=>exact⟨_,rfl⟩
theorem ue(m:List (Tx×Int))(x y:Tx)(n:Int):bj (cL m x n) y=if y=x then aa n else bj m y:=by
 unfold cL;by_cases h:(m.any λp=>decide (p.1=x))=ai
 ·rw[if_pos h,Lf];by_cases e:y=x
  ·subst e;obtain⟨k,hk⟩:=IY h;rw[hk]; simp
  ·simp[e]
 ·rw[if_neg h,F7 (Bool.eq_false_iff.mpr h)]
structure oM(m:List (Tx×Int))(q:List Tx):Prop where
 nd:(m.map (·.1)).Nodup
 get:∀ x,(bj m x).getD 0=(q.count x:Nat)
theorem oM.mem{m:List (Tx×Int)}{q:List Tx}(h:oM m q){p:Tx×Int}(hp:p∈m):bj m p.1=aa p.2:=by
 have nd:=h.nd;clear h
 induction m with
 | nil=>cases hp
 | cons r m ih=>
  unfold bj;rw[f6];rcases cb.mp hp with rfl | hp
  ·simp
  ·rw[d4,jx]at nd;have:¬ r.1=p.1:=λz=>nd.1 (cO.mpr ⟨p,hp,z.symm⟩);simp only[this,decide_false];exact ih hp nd.2
theorem Au{m:List (Tx×Int)}{x:Tx}{n:Int}:(cL m x n).map (·.1)=if(m.any λp=>decide (p.1=x))=ai then m.map (·.1)else m.map (·.1)++[x]:=by
 unfold cL;split
 ·rw[eE];refine gF λp _=>?_;simp only[qH];split <;> rfl
 ·simp
theorem xO{m:List (Tx×Int)}{x:Tx}{n:Int}(h:(m.map (·.1)).Nodup):((cL m x n).map (·.1)).Nodup:=by
 rw[Au];split
 ·exact h
 ·rename_i hn;rw[zB];refine⟨h,by simp,λa ha b hb=>?_⟩;rw[gZ]at hb;subst hb;rintro rfl;obtain⟨p,hp,rfl⟩:=cO.mp ha;exact hn (tQ.mpr ⟨p,hp,by simp⟩)
theorem oM.any{m:List (Tx×Int)}{q:List Tx}(h:oM m q):(m.any λp=>decide (p.2≠0)) = !q.isEmpty:=by
 cases q with
 | nil=>rw[J_,zI,Js];intro p hp;have h1:=h.get p.1;rw[h.mem hp]at h1;simpa using h1
 | cons x q=>
  rw[List.isEmpty_cons,Bool.not_false,tQ];have h1:=h.get x;rw[Dl]at h1;cases e:m.find? (λp=>decide (p.1=x))with
  | none=>unfold bj at h1; rw[e]at h1; simp at h1; lia
  | some p=>unfold bj at h1;rw[e]at h1;refine⟨p,List.mem_of_find?_eq_some e,?_⟩;simp at h1;simp; lia
theorem oM.dec{m:List (Tx×Int)}{q:List Tx}(h:oM m q){x:Tx}(hx:x∈q):∃ n,bj m x=aa n/\0<n/\oM (cL m x (n-1)) (q.erase x)/\bj (cL m x (n-1)) x=aa (n-1)/\cL (cL m x (n-1)) x (n-1+1)=m:=by
 have h1:=h.get x;have hc:0<q.count x:=List.count_pos_iff.mpr hx;cases e:bj m x with
 | none=>rw[e]at h1; simp at h1; lia
 | some n=>
  rw[e]at h1;simp only[Ka]at h1;refine⟨n,rfl,∅,⟨xO h.nd,λy=>?_⟩,by rw[ue,if_pos rfl],?_⟩
  ·rw[ue];by_cases c:y=x
   ·subst c;rw[if_pos rfl,List.count_erase_self];simp only[Ka]; lia
   ·rw[if_neg c,List.count_erase_of_ne (gW (gW c))]; exact h.get y
  ·have ha:(m.any λp=>decide (p.1=x))=ai:=by
    cases z:(m.any λp=>decide (p.1=x))with
    | true=>rfl
    | false=>rw[xi z]at e; cases e
   have hb:((cL m x (n-1)).any λp=>decide (p.1=x))=ai:=by unfold cL;rw[if_pos ha];obtain⟨p,hp,hq⟩:=tQ.mp ha;refine tQ.mpr ⟨_,cO.mpr ⟨p,hp,rfl⟩,?_⟩;rw[decide_eq_true_eq]at hq;rw[if_pos hq]; simpa using hq
   have e1:cL (cL m x (n-1)) x (n-1+1)=(m.map λp=>if p.1=x then(p.1,n-1)else p).map λp=>if p.1=x then(p.1,n-1+1)else p:=by show(if((cL m x (n-1)).any λp=>decide (p.1=x))=ai then _ else _)=_;rw[if_pos hb];unfold cL;rw[if_pos ha]
   rw[e1,eE];have:∀ p∈m,((λp:Tx×Int=>if p.1=x then(p.1,n-1+1)else p) ∘ λp:Tx×Int=>if p.1=x then(p.1,n-1)else p) p=p:=by
    intro p hp;simp only[qH];by_cases c:p.1=x
    ·rw[if_pos c,if_pos c];have h2:=h.mem hp;rw[c,e]at h2;cases h2;rw[show p.2-1+1=p.2 by lia]
    ·rw[if_neg c,if_neg c]
   rw[gF this,List.map_id''];intro p; rfl
theorem oM.zero{m:List (Tx×Int)}{q:List Tx}(h:oM m q){x:Tx}(hx:x∉q):(bj m x).getD 0=0:=by rw[h.get,Uo hx]; rfl
section
variable{a:Ad}
theorem R6(ls:List Tx)(hl:ls.length<=100):∃ m,oM m ls/\m.length<=ls.length/\vn a [.val (.tup (am ls))] = .ok (.own (.dK (dk m))) [.val (.tup (am ls))]:=by
 obtain⟨ε',e1,m,s2,l,rfl,hm,ua,kz⟩:=yX (i:=2) (db:=(jh 1 (dV 2) (d2 aL (nz 1 (dV 2) (dC (.int 0))) (dC (.int 1)))))
  (I:=λr ε=>∃ (m:List (Tx×Int)) (s2:Slot) (l:List Tx),ε=[.val (.tup (am ls)),.own (.dK (dk m)),s2]/\oM m l/\m.length<=l.length/\∃ q,ls=l++q/\r=am q)
  (by
   rintro x r ε ⟨m,s2,l,rfl,hm,ua,q,hq,hr⟩;cases q with
   | nil=>cases hr
   | cons y q=>
    have gK:x::r = .str y::am q:=hr;simp only[vZ]at gK;obtain⟨rfl,rfl⟩:=gK;have bY:m.length<bB:=by have:=congrArg sW hq;simp at this;unfold bB; lia
    refine⟨[.val (.tup (am ls)),.own (.dK (dk (cL m y ((bj m y).getD 0+1)))),.val (.str y)],?_,cL m y ((bj m y).getD 0+1),_,l++[y],rfl,⟨xO hm.nd,λz=>?_⟩,?_,q,by rw[hq]; simp,rfl⟩
    ·have hv:=rh m y;have hp:=xx m y ((bj m y).getD 0+1);have hd:(dk m).length<bB:=by unfold dk; rw[cD]; exact bY
     have hg:((bj m y).map PV.int).getD (.int 0) = .int ((bj m y).getD 0):=by cases bj m y <;> rfl
     generalize dk m=D at hv hp hd;simp![jh,nz,dP,j9,hv,hg,aL,hd,hp]
    ·rw[ue];by_cases c:z=y
     ·subst c;rw[if_pos rfl,List.count_append,List.count_singleton_self];have:=hm.get z;simp only[Ka]; lia
     ·rw[if_neg c,List.count_append,hm.get z];have:[y].count z=0:=Uo (by simpa using c);rw[this]; rfl
    ·have:(cL m y ((bj m y).getD 0+1)).length<=m.length+1:=by
      unfold cL; split <;> simp
     rw[dq,ti]; lia)
  (am ls) [.val (.tup (am ls)),.own (.dK (dk [])),.none] ⟨[],.none,[],rfl,⟨by simp,λx=>by simp[bj]⟩,by simp,ls,by simp,rfl⟩
 obtain⟨q,hq,wO⟩:=kz;have:q=[]:=by cases q with | nil=>rfl | cons=>cases wO
 subst this;rw[ja]at hq;subst hq;refine⟨m,hm,ua,?_⟩;have e0:dk []=[]:=rfl;rw[e0]at e1;simp![vn,yal,AM,cq,cG,nB,cr,e1,fg]
theorem P8{t:Tx}{w:Nat}(hw:w<=t.length+1)(h1:1<=w):a_ (.str t) (aa ((t.length:Int)-w+1)) ae=aa (.str (t.drop (t.length+1-w))):=by show aa (PV.str (dN t _ ae))=_;rw[show((t.length:Int)-w+1)=((t.length+1-w:Nat):Int) by lia,GT]
def pY(c:Nat):PV:=.str [c]
theorem GU(w:Nat)(w1:1<=w):∀ (r bx:Nat) (t:Tx) (m:List (Tx×Int)) (q:List Tx) (dR:List Tx),r<bx->q.length=r->oM m q->w<=t.length+1->t.length+r<=1000->m.length<=1000->dR.length+(iK w r t q).length<=bB -> oX a bx [.val (.str t),.val (.int w),.own (.dK (dk m)),.own (.lst (am dR))] = .ok (.val .non) [.val (.str t),.val (.int w),.own (.dK (dk m)),.own (.lst (am (dR++iK w r t q)))]
 | 0,0,_,_,_,_,h,_,_,_,_,_,_=>absurd h ∅
 | r+1,0,_,_,_,_,h,_,_,_,_,_,_=>absurd h ∅
 | 0,bx+1,t,m,q,dR,_,hq,hm,hw,ht,ua,hs=>by
  have hq0:q=[]:=Dg.mp hq;subst hq0;have ha:=Hi m;rw[hm.any]at ha;simp only[J_,zI]at ha;have hl:(am dR).length<bB:=by rw[gm];simp only[iK,ti]at hs; lia
  have e:am (dR++iK w 0 t [])=am dR++[.str t]:=by simp[am,iK]
  rw[e];generalize dk m=D at ha;generalize am dR=L at hl;simp![oX,yaf,uJ,dP,ha,hl]
 | r+1,bx+1,t,m,q,dR,hf,hq,hm,hw,ht,ua,hs=>by
  have cP:q.isEmpty=ao:=by cases q with | nil=>cases hq | cons=>rfl
  have ha:=Hi m;rw[hm.any,cP]at ha;simp only[Bool.not_false]at ha;have hcut:=P8 (t:=t) hw w1;have br:bz [.str t]=aa (.int (t.length:Nat)):=rfl;have jZ:cX (.int (t.length:Nat)) (.int w)=aa (.int ((t.length:Int)-w)):=rfl;have lN:aL (.int ((t.length:Int)-w)) (.int 1)=aa (.int ((t.length:Int)-w+1)):=rfl
  let H:=t.drop (t.length+1-w)
  let f:=λc=>if H++[c]∈q then iK w r (t++[c]) (q.erase (H++[c]))else []
  have hE:iK w (r+1) t q=cN.flatMap f:=rfl;have hH:H.length<=1000:=by simp only[H,jX]; lia
  obtain⟨ε',e1,s5,s6,p,rest,hp,hr0,rfl⟩:=yX (i:=5) (db:=(aF (bH 6 (d2 aL (dV 4) (dV 5)))
 (cV (dB (d2 (jl λi j=>decide (j<i)) (nz 2 (dV 6) (dC (.int 0))) (dC (.int 0)))) (aF (jh 2 (dV 6) (d2 cX (js 2 (dV 6)) (dC (.int 1))))
 (aF (kU (aG (oX a bx) (gV (d2 aL (dV 0) (dV 5)) (gV (dV 1) (gO 2 (gO 3 (Pu.bO)))))))
 (jh 2 (dV 6) (d2 aL (js 2 (dV 6)) (dC (.int 1)))))) (dG))))
   (I:=λr' ε=>∃ (s5 s6:Slot) (p rest:Tx),cN=p++rest/\r'=rest.map pY/\ε=[.val (.str t),.val (.int w),.own (.dK (dk m)),.own (.lst (am (dR++p.flatMap f))),.val (.str H),s5,s6])
   (by
    rintro x r' ε ⟨s5,s6,p,rest,hp,gK,rfl⟩;cases rest with
    | nil=>cases gK
    | cons c rest=>
     have Kl:x::r'=pY c::rest.map pY:=gK;simp only[vZ]at Kl;obtain⟨rfl,rfl⟩:=Kl;have t7:aL (.str H) (.str [c])=aa (.str (H++[c])):=ka (by simp[bB]; lia);have pB:aL (.str t) (.str [c])=aa (.str (t++[c])):=ka (by simp[bB]; lia);have Us:dR.length+(p.flatMap f).length+(f c).length<=bB:=by rw[hE,hp,List.flatMap_append,lK,dq,dq]at hs; lia
     have hfl:am (dR++(p++[c]).flatMap f)=am ((dR++p.flatMap f)++f c):=by simp
     by_cases hc:H++[c]∈q
     ·obtain⟨n,g1,g2,g3,g4,g5⟩:=hm.dec hc;have hfc:f c=iK w r (t++[c]) (q.erase (H++[c])):=if_pos hc;have ih:=GU w w1 r bx (t++[c]) (cL m (H++[c]) (n-1)) (q.erase (H++[c])) (dR++p.flatMap f) ∅ (by rw[J9 hc,hq]; rfl) g3 (by simp; lia) (by simp; lia)
       (by
        have:(cL m (H++[c]) (n-1)).length=m.length:=by
         have:=congrArg sW (Au (m:=m) (x:=H++[c]) (n:=n-1));have ha:(m.any λp=>decide (p.1=H++[c]))=ai:=by
          cases z:(m.any λp=>decide (p.1=H++[c]))with
          | true=>rfl
          | false=>rw[xi z]at g1; cases g1
         rw[if_pos ha]at this;simpa using this
        lia)
       (by rw[← hfc,dq]; exact Us)
      rw[← hfc]at ih;have qU:=rh m (H++[c]);rw[g1]at qU;have hZ:=xx m (H++[c]) (n-1);have hv2:=rh (cL m (H++[c]) (n-1)) (H++[c]);rw[g4]at hv2;have fu:=xx (cL m (H++[c]) (n-1)) (H++[c]) (n-1+1);rw[g5,show n-1+1=n by lia]at fu;have hd1:(dk m).length<bB:=by unfold dk; rw[cD]; unfold bB; lia
      have wt:(dk (cL m (H++[c]) (n-1))).length<bB:=by
       unfold dk;rw[cD];have:(cL m (H++[c]) (n-1)).length<=m.length+1:=by unfold cL; split <;> simp
       unfold bB; lia
      have gt:(0:Int)<n:=g2;refine⟨[.val (.str t),.val (.int w),.own (.dK (dk m)),.own (.lst (am (dR++(p++[c]).flatMap f))),.val (.str H),.val (.str [c]),.val (.str (H++[c]))],?_,_,_,p++[c],rest,by rw[hp]; simp,rfl,rfl⟩;rw[hfl];have s1:cX (.int n) (.int 1)=aa (.int (n-1)):=rfl;have s2:aL (.int (n-1)) (.int 1)=aa (.int n):=by show aa (PV.int (n-1+1))=_;congr 2; lia
      simp only[lH]at qU hv2;generalize dk m=D at qU hZ fu hd1;generalize dk (cL m (H++[c]) (n-1))=D2 at hv2 hZ fu ih wt;generalize am (dR++p.flatMap f)=L at ih;generalize am ((dR++p.flatMap f)++f c)=L2 at ih;clear_value H f;simp![pY,t7,nz,js,jh,dP,j9,qU,gt,s1,hd1,hZ,pB,ih,hv2,s2,wt,fu]
     ·have hfc:f c=[]:=if_neg hc;have hz:=hm.zero hc;have qU:=rh m (H++[c]);have hg:((bj m (H++[c])).map PV.int).getD (.int 0) = .int 0:=by
       cases e:bj m (H++[c])with
       | none=>rfl
       | some k=>rw[e]at hz; simp at hz; subst hz; rfl
      refine⟨[.val (.str t),.val (.int w),.own (.dK (dk m)),.own (.lst (am (dR++(p++[c]).flatMap f))),.val (.str H),.val (.str [c]),.val (.str (H++[c]))],?_,_,_,p++[c],rest,by rw[hp]; simp,rfl,rfl⟩;rw[hfl,hfc,ja];generalize dk m=D at qU;generalize am (dR++p.flatMap f)=L;clear_value H f;simp![pY,t7,nz,dP,j9,qU,hg])
   (cN.map pY) [.val (.str t),.val (.int w),.own (.dK (dk m)),.own (.lst (am (dR++([]:Tx).flatMap f))),.val (.str H),.none,.none] ⟨.none,.none,[],cN,by simp,rfl,rfl⟩
  have kC:rest=[]:=by cases rest with | nil=>rfl | cons=>cases hr0
  subst kC;rw[ja]at hp;rw[hE];rw[← hp]at e1;simp only[J7,ja]at e1;have hits:nB (.str [97,98,99])=aa (cN.map pY):=rfl;have Uy:a_ (.str t) (aa ((t.length:Int)-w+1)) ae=aa (.str H):=hcut;generalize dk m=D at ha e1;generalize am dR=L at e1;generalize am (dR++cN.flatMap f)=L2 at e1;clear_value H f;simp![oX,yaf,uJ,dP,ha,ba,aM,bW,br,jZ,lN,Uy,cr,cq,cG,hits,e1]
end
section
variable{a:Ad}
abbrev dY(w:Nat)(ls:List Tx):PV:=.tup [.int w,.tup (am ls)]
theorem O8{α:Type}(xs:List α):dN xs ae (aa (-1))=xs.dropLast:=by unfold dN;rw[show HT.sIx xs.length 0 ae=0 from rfl,zu,Nat.sub_zero,List.dropLast_eq_take];congr 1;show(HT.sIx xs.length xs.length (aa (-1)))=_;show(if(-1:Int)<0 then((-1:Int)+(xs.length:Int)).toNat else min (-1:Int).toNat xs.length)=_;rw[if_pos (by decide)];lia
theorem Pm{w:Nat}{ls:List Tx}(g:Good cN w ls)(w1:1<=w)(w4:w<=4):(pW w ls).length<=531441:=by rw[HQ w1 g.some λx hx=>⟨g.len x hx,g.abc x hx⟩];refine cI (v5 _ _) ?_;rw[B1];exact cI (Nat.pow_le_pow_right (by decide) (show w-1+ls.length<=12 by have:=g.few; lia)) (by decide)
theorem K0(V:PV)(ls:List Tx)(w:Nat)(s2 s3:Slot):kQ [] dU (ba a_ (dV 0) bW (aM (d1 gd (dC (.int 1))))) (am ls) [] [.val V,.val (.int w),s2,s3] = .ok (am (ls.map qI)) [.val V,.val (.int w),s2,s3]:=by
 have hc:=kI (cap:=[]) (dt:=dU) (de:=(ba a_ (dV 0) bW (aM (d1 gd (dC (.int 1)))))) (ε:=[.val V,.val (.int w),s2,s3]) (λ_=>ai) (λx=>match x with | .str z=>.str z.dropLast | _=>.non) (am ls)
  (by
   intro x hx;obtain⟨z,_,rfl⟩:=cO.mp hx;refine⟨by simp![eA,d9,dw,dU],λ_=>?_⟩;have hs:a_ (.str z) ae (aa (-1))=aa (.str z.dropLast):=by show aa (PV.str (dN z ae (aa (-1))))=_;rw[O8]
   have hn:gd (.int 1)=aa (.int (-1)):=rfl;simp![eA,d9,dw,ba,bW,aM,hn,hs]) []
 rw[hc,ft,n9.mpr (by simp)];unfold am;rw[eE,eE]; rfl
theorem SK{w:Nat}{ls:List Tx}(g:Good cN w ls)(w1:1<=w)(w4:w<=4)(hs:ls.Pairwise (λa b=>fj a b=ai)) : qh a [.val (dY w ls)] = .ok (.own (.lst (am (pW w ls)))) [.val (dY w ls)]:=by
 have hck:=Rt (a:=a) (g.vw w1 w4 hs);have i0:bA (dY w ls) (.int 0)=aa (.int w):=rfl;have i1:bA (dY w ls) (.int 1)=aa (.tup (am ls)):=rfl;obtain⟨m,hm,hml0,wS⟩:=R6 (a:=a) ls (by have:=g.few; lia);have ua:m.length<=1000:=by have:=g.few; lia
 let hd:=bu (ca (ls.map qI))
 have t4:∀ h∈hd,h.length=w-1:=λh hh=>by have hm:=(ml _ _).mp ((iU _).mem_iff.mp hh);obtain⟨y,hy,rfl⟩:=cO.mp hm;rw[C5,g.len y hy]
 let f:=λh=>iK w ls.length h ls
 have hT:pW w ls=hd.flatMap f:=rfl;have hTl:=Pm g w1 w4;obtain⟨ε',e1,s3,p,rest,hp,hr0,rfl⟩:=yX (i:=3) (db:=(kU (ug (oX a 12) (rY (dV 3) (rY (dV 1) (gN (kM (aG (vn a) (gV (d2 bA (dV 0) (dC (.int 1))) (Pu.bO)))) (gO 2 (Pu.bO))))))))
  (I:=λr ε=>∃ (s3:Slot) (p rest:List Tx),hd=p++rest/\r=am rest/\ε=[.val (dY w ls),.val (.int w),.own (.lst (am (p.flatMap f))),s3])
  (by
   rintro x r ε ⟨s3,p,rest,hp,hr,rfl⟩;cases rest with
   | nil=>cases hr
   | cons h rest=>
    have gK:x::r = .str h::am rest:=hr;simp only[vZ]at gK;obtain⟨rfl,rfl⟩:=gK;have hh:h.length=w-1:=t4 h (by rw[hp]; simp);have ha:=GU (a:=a) w w1 ls.length 12 h m ls (p.flatMap f) (by have:=g.few; lia) rfl hm ∅ (by have:=g.few; lia) ua (by rw[hT,hp,List.flatMap_append,lK,dq,dq]at hTl;show(p.flatMap f).length+(f h).length<=bB;unfold bB; lia);refine⟨[.val (dY w ls),.val (.int w),.own (.lst (am ((p++[h]).flatMap f))),.val (.str h)],?_,_,p++[h],rest,by rw[hp]; simp,rfl,rfl⟩;have e2:(p++[h]).flatMap f=p.flatMap f++iK w ls.length h ls:=by simp[f]
    rw[e2];generalize am (p.flatMap f)=L at ha;generalize am (p.flatMap f++iK w ls.length h ls)=L2 at ha;generalize dk m=D at ha wS;simp only[dY]at i1 ⊢;generalize am ls=T at wS i1;clear_value f hd;simp![ug,rY,gN,Gb,i1,wS,ha])
  (am hd) [.val (dY w ls),.val (.int w),.own (.lst (am (([]:List Tx).flatMap f))),.none] ⟨.none,[],hd,by simp,rfl,rfl⟩
 have kC:rest=[]:=by cases rest with | nil=>rfl | cons=>cases hr0
 subst kC;rw[ja]at hp;rw[← hp,← hT]at e1;simp only[J7]at e1;have hco:=K0 (dY w ls) ls w (.own (.lst [])) .none;have om:lr [.lst (am (ls.map qI))]=aa (.lst (am hd)):=by show(gA (am _)).bind _=_;have h2:=g.few;rw[oy,gI,if_pos (tt (yE _) (by rw[cD]; lia))]
 have e0:am ([]:List Tx)=[]:=rfl;rw[e0]at e1;generalize am (pW w ls)=L at e1;generalize am hd=D at e1 om;generalize am (ls.map qI)=D0 at hco om;simp only[dY]at hck i0 i1 hco e1 ⊢;generalize hTT:am ls=T at hck i0 i1 hco e1;clear_value f hd;simp![qh,yaN,hck,i0,i1,cr,cq,cG,nB,dD,hco,om,e1,fg]
end
end Sh
namespace Mx
open L2 Pu
def aO(z:Tx)(i:Nat):Nat:=z.getD (i % z.length) 0
def qj(z:Tx)(w i:Nat):Tx:=(bQ w).map λk=>aO z (i+k)
def cw(z:Tx)(w:Nat):List Tx:=(bQ z.length).map (qj z w)
def gc(z:Tx)(w:Nat):Tx:=((bF w z).flatten).take (z.length+w-1)
theorem xL{z:Tx}{i:Nat}(h:i<z.length):z[i]?=aa (aO z i):=by unfold aO;rw[pf h];simp[List.getD,h]
theorem EE(z:Tx)(i:Nat):aO z (z.length+i)=aO z i:=by unfold aO; rw[Nat.add_mod_left]
theorem IM(z:Tx):∀ (w i:Nat),i<w * z.length->(bF w z).flatten[i]?=aa (aO z i)
 | 0,i,h=>∅
 | w+1,i,h=>by
  rw[CG,JA];by_cases c:i<z.length
  ·rw[fJ c,xL c]
  ·rw[jy ∅,IM z w (i-z.length) (by rw[Nat.succ_mul]at h; lia)];congr 1;have:=EE z (i-z.length);rw[show z.length+(i-z.length)=i by lia]at this;exact this.symm
theorem GD(z:Tx)(w:Nat):(bF w z).flatten.length=w * z.length:=by simp
theorem yk{z:Tx}{w:Nat}(hn:1<=z.length)(hw:1<=w):(gc z w).length=z.length+w-1:=by
 unfold gc;rw[jW,GD];obtain⟨n,hn'⟩:∃ n,z.length=n+1:=⟨z.length-1,∅⟩
 obtain⟨v,rfl⟩:∃ v,w=v+1:=⟨w-1,∅⟩
 rw[hn',Dm,Nat.mul_add];have:=kY (v * n);lia
theorem qa{z:Tx}{w:Nat}(hn:1<=z.length)(hw:1<=w){i:Nat}(h:i<z.length+w-1):(gc z w)[i]?=aa (aO z i):=by have hl:=yk hn hw;unfold gc at hl ⊢;rw[jW,GD]at hl;rw[zi h,IM z w i ∅]
theorem EL{z:Tx}{w:Nat}(hn:1<=z.length)(hw:1<=w):aW (gc z w) w=cw z w:=by
 rw[ny _ _ hw,yk hn hw,show z.length+w-1+1-w=z.length by lia];refine gF λi hi=>?_;have hi:i<z.length:=by simpa using hi
 refine ko λk=>?_;unfold qj;by_cases hk:k<w
 ·rw[zi hk,kq,qa hn hw ∅,ir,CN hk]; rfl
 ·rw[jA (by rw[jW]; lia),jA (by simp; lia)]
theorem LD{z:Tx}{w:Nat}(hn:1<=z.length)(hw:1<=w):(gc z w).take z.length=z:=by
 refine ko λk=>?_;by_cases hk:k<z.length
 ·rw[zi hk,qa hn hw ∅,xL hk]
 ·rw[jA (by rw[jW]; lia),jA ∅]
def gD(i:Nat)(z:Tx):Tx:=z.drop i++z.take i
theorem mU{i:Nat}{z:Tx}(h:i<=z.length):(gD i z).length=z.length:=by unfold gD; rw[dq,jX,jW]; lia
theorem uk{z:Tx}{i:Nat}(h:i<=z.length)(hn:1<=z.length)(j:Nat):aO (gD i z) j=aO z (i+j):=by
 unfold aO;rw[mU h];have hj:j % z.length<z.length:=qD _ ∅;rw[tN i j];generalize j % z.length=m at hj;by_cases hi:i=z.length
 ·subst hi;unfold gD;rw[JP,ft,C8,Nat.mod_self,nZ,pf hj]
 ·rw[pf (show i<z.length by lia)];unfold gD;rw[J4,J4];congr 1;by_cases c:i+m<z.length
  ·rw[pf c,fJ (by rw[jX]; lia),kq]
  ·have e:(i+m) % z.length=i+m-z.length:=by
    rw[Nat.mod_eq_sub_mod ∅,pf ∅]
   rw[e,jy (by rw[jX]; lia),jX,zi ∅];congr 1; lia
theorem Mh{x y:Tx}(h:x.length=y.length)(hn:1<=x.length)(ha:∀ k,k<x.length->aO x k=aO y k):x=y:=by
 refine ko λk=>?_;by_cases hk:k<x.length
 ·rw[xL hk,xL ∅,ha k hk]
 ·rw[jA ∅,jA ∅]
theorem K7{z:Tx}{i j:Nat}(hn:1<=z.length)(hi:i<z.length)(hj:j<z.length):gD j (gD i z)=gD ((i+j) % z.length) z:=by
 have hm:(i+j) % z.length<z.length:=qD _ ∅;have h1:(gD i z).length=z.length:=mU ∅;refine Mh ?_ ?_ λk hk=>?_
 ·rw[mU ∅,h1,mU ∅]
 ·rw[mU ∅,h1]; exact hn
 ·rw[uk ∅ ∅,uk ∅ hn,uk ∅ hn];unfold aO;congr 1;rw[← vT,tN ((i+j) % z.length) k,Nat.mod_mod,← tN]
theorem KA(z:Tx):gD 0 z=z:=by simp[gD]
theorem Fw{f:Nat->Tx}{n:Nat}(hf:∀ i,f (i+n)=f i):∀ i,((bQ n).map λj=>f (i+j)).Perm ((bQ n).map f)
 | 0=>by simp
 | i+1=>by
  refine List.Perm.trans ?_ (Fw hf i);cases n with
  | zero=>simp
  | succ m=>
   have eL:(bQ (m+1)).map (λj=>f (i+1+j))=(bQ m).map (λj=>f (i+(j+1)))++[f (i+0)]:=by
    rw[tw,pc];congr 1
    ·refine gF λj _=>?_;congr 1; lia
    ·rw[d4,vL];congr 1;show f (i+1+m)=f i;rw[← hf i];congr 1; lia
   have eR:(bQ (m+1)).map (λj=>f (i+j))=f (i+0)::(bQ m).map (λj=>f (i+(j+1))):=by rw[qC,d4,eE]; rfl
   rw[eL,eR];exact List.perm_append_singleton _ _
theorem Sy(z:Tx)(w i:Nat):qj z w (i+z.length)=qj z w i:=by unfold qj;refine gF λk _=>?_;rw[show i+z.length+k=z.length+(i+k) by lia,EE]
theorem Uh{z:Tx}{w i:Nat}(hi:i<z.length):(cw (gD i z) w).Perm (cw z w):=by
 have e:cw (gD i z) w=(bQ z.length).map λj=>qj z w (i+j):=by unfold cw;rw[mU ∅];refine gF λj _=>?_;unfold qj;refine gF λk _=>?_;rw[uk ∅ ∅,vT]
 rw[e];exact Fw (λj=>Sy z w j) i
theorem Ky{z:Tx}{w:Nat}{c:Nat}(h:c∈gc z w):c∈z:=by have:=jC h;rw[List.mem_flatten]at this;obtain⟨l,hl,hc⟩:=this;rw[List.mem_replicate]at hl;rw[hl.2]at hc; exact hc
theorem Lh{z:Tx}{i c:Nat}(h:c∈gD i z):c∈z:=(eM.mp h).elim n_ jC
def ma:Nat->Nat->Nat->Nat->List Tx
 | 0,_,_,_=>[[]]
 | n+1,i,j,k=>(match i with | 0=>[] | i+1=>(ma n i j k).map (97::·))++((match j with | 0=>[] | j+1=>(ma n i j k).map (98::·))++(match k with | 0=>[] | k+1=>(ma n i j k).map (99::·)))
theorem FC:∀ (n:Nat) (z:Tx),z.length=n->(∀ c∈z,c∈cN)->z∈ma n (z.count 97) (z.count 98) (z.count 99)
 | 0,z,h,_=>by rw[Dg.mp h]; simp[ma]
 | n+1,z,h,hc=>by
  cases z with
  | nil=>cases h
  | cons c z=>
   have ih:=FC n z (vU h) λd hd=>hc d (by simp[hd]);have h3:c=97\/c=98\/c=99:=by have:=hc c (by simp);simpa[cN]using this
   rcases h3 with rfl | rfl | rfl
   ·rw[Dl,v_ (by decide),v_ (by decide)];simp only[ma,eM];exact .inl (cO.mpr ⟨z,ih,rfl⟩)
   ·rw[Dl,v_ (by decide),v_ (by decide)];simp only[ma,eM];exact .inr (.inl (cO.mpr ⟨z,ih,rfl⟩))
   ·rw[Dl,v_ (by decide),v_ (by decide)];simp only[ma,eM];exact .inr (.inr (cO.mpr ⟨z,ih,rfl⟩))
theorem len_sub{l m:List Tx}(nd:l.Nodup)(h:∀ x∈l,x∈m):l.length<=m.length:=by
 induction l generalizing m with
 | nil=>simp
 | cons x l ih=>rw[jx]at nd;have hx:x∈m:=h x (by simp);have:=ih (m:=m.erase x) nd.2 λy hy=>(List.mem_erase_of_ne (λz=>nd.1 (by rw[← z]; exact hy))).mpr (h y (by simp[hy]));rw[J9 hx]at this;have h0:0<m.length:=List.length_pos_of_mem hx;rw[eD]; lia
theorem NL{z:Tx}(h:∀ c∈z,c∈cN):z.count 97+z.count 98+z.count 99=z.length:=by
 induction z with
 | nil=>rfl
 | cons c z ih=>
  have:=ih λd hd=>h d (by simp[hd]);have h3:c=97\/c=98\/c=99:=by have:=h c (by simp);simpa[cN]using this
  rcases h3 with rfl | rfl | rfl <;> (rw[List.count_cons,List.count_cons,List.count_cons,eD]; simp; lia)
end Mx
namespace Sh
open L2 Pu Mx
section
variable{a:Ad}
theorem Kr{z:Tx}(h1:1<=z.length)(h2:z.length<=12)(hc:∀ c∈z,c∈cN):yL a [.val (.str z)] = .ok (.val .non) [.val (.str z)]:=by
 have k1:i8 [.str z,.raw (.ty "str")]=aa (.bl ai):=p8 rfl GL;have hh:=Gs (a:=a) z cN;have j1:z.all cN.contains=ai:=by rw[vS]; intro c h; simpa using hc c h
 rw[j1]at hh;simp only[cN]at hh;have hl:bz [.str z]=aa (.int (z.length:Nat)):=rfl;have c1:(1:Int)<=(z.length:Nat):=∅
 have c2:((z.length:Nat):Int)<=12:=∅
 have ht:yT a [.val (.str z),.val (.int 12)] = .ok (.val (.bl ai)) [.val (.str z),.val (.int 12)]:=by simp![yT,yaq,k1,hl,c1,c2,hh]
 simp![yL,yai,ht]
theorem SO{w:Nat}(w1:1<=w)(w4:w<=4):yA a [.val (.int w)] = .ok (.val .non) [.val (.int w)]:=by have h:=Ft (a:=a) w;rw[decide_eq_true (show 1<=(w:Int)/\(w:Int)<=4 by lia)]at h;simp![yA,yak,h]
def bN(t:Tx)(v:Nat):List Tx:=(bQ (t.length+1-v)).map λi=>(t.drop i).take v
theorem su(t:Tx)(v:Nat):(bN t v).length=t.length+1-v:=by simp[bN]
theorem Ev{t:Tx}{w:Nat}(hw:w<=t.length+1)(ht:t.length<=60):sQ a [.val (.str t),.val (.int w)] = .ok (.own (.lst (am (bN t w)))) [.val (.str t),.val (.int w)]:=by
 have hl:bz [.str t]=aa (.int (t.length:Nat)):=rfl;have hs:cX (.int (t.length:Nat)) (.int w)=aa (.int ((t.length:Int)-w)):=rfl;have ha:aL (.int ((t.length:Int)-w)) (.int 1)=aa (.int ((t.length+1-w:Nat):Int)):=by show aa (PV.int ((t.length:Int)-w+1))=_;congr 2; lia
 have hr:ij [.int ((t.length+1-w:Nat):Int)]=aa (fU 0 (t.length+1-w)):=yG ∅;have hc:=kI (cap:=[0,1]) (dt:=dU) (de:=(ba a_ (dV 1) (aM (dV 0)) (aM (d2 aL (dV 0) (dV 2))))) (ε:=[.val (.str t),.val (.int w)]) (λ_=>ai) (λx=>match x with | .int i=>.str (dN t (aa i) (aa (i+w))) | _=>.non) (fU 0 (t.length+1-w))
  (by intro x hx;obtain⟨i,_,rfl⟩:=cO.mp hx;refine⟨by simp![eA,d9,dw,dU],λ_=>?_⟩;simp![eA,d9,dw,aL,ba,aM,a_]) []
 have he:((fU 0 (t.length+1-w)).filter (λ_=>ai)).map (λx=>match x with | .int i=>PV.str (dN t (aa i) (aa (i+w))) | _=>.non)=am (bN t w):=by
  rw[n9.mpr (by simp)];unfold fU am bN;rw[eE,eE];refine gF λi hi=>?_;have hi:i<t.length+1-w:=by simpa using hi
  simp only[qH,Int.zero_add];rw[GA ∅]
 rw[ft,he]at hc;generalize am (bN t w)=T at hc;generalize fU 0 (t.length+1-w)=RR at hr hc;generalize ((t.length+1-w:Nat):Int)=n at ha hr;simp![sQ,yaI,kD,dD,hl,hs,ha,hr,hc]
theorem M9{t:Tx}{w:Nat}(w1:1<=w):bN t w=aW t w:=(ny t w w1).symm
theorem Og{t:Tx}{w:Nat}(w1:1<=w)(hw:w<=t.length+1)(ht:t.length<=60):sQ a [.val (.str t),.val (.int w)] = .ok (.own (.lst (am (aW t w)))) [.val (.str t),.val (.int w)]:=by rw[← M9 w1]; exact Ev hw ht
theorem RL{w:Nat}{ls:List Tx}(h1:1<=ls.length)(h9:ls.length<=9):yZ a [.val (.int w),.val (.lst (am ls))] = .ok (.val (dY w (bu ls))) [.val (.int w),.val (.lst (am ls))]:=by
 have hl:bz [.lst (am ls)]=aa (.int (ls.length:Nat)):=by simp[bz,gm]
 have c1:(1:Int)<=(ls.length:Nat):=∅
 have c2:((ls.length:Nat):Int)<=9:=∅
 have lQ:lp [.lst (am ls)]=aa (.lst (am (bu ls))):=Od ∅;simp only[dY];generalize am (bu ls)=T at lQ;generalize am ls=B at hl lQ;simp![yZ,yaR,hl,c1,c2,lQ,yb]
structure Tv(t:Tx)(w:Nat):Prop where
 w1:1<=w
 w4:w<=4
 h1:w<=t.length
 h9:t.length+1<=w+9
 abc:∀ c∈t,c∈cN
theorem Tv.good{t:Tx}{w:Nat}(h:Tv t w):Good cN w (aW t w):=by have hm:=RC (m:=8) h.w1 h.h1 (by have:=h.h9; lia);exact⟨λx hx=>(D5 x hx).1,λx hx c hc=>h.abc c ((D5 x hx).2 c hc),hm.1,hm.2⟩
theorem Aa{t:Tx}{w:Nat}(h:Tv t w):oZ a [.val (.str t),.val (.int w)] = .ok (.val (dY w (bu (aW t w)))) [.val (.str t),.val (.int w)]:=by have b1:=h.w1;have b2:=h.w4;have b3:=h.h1;have b4:=h.h9;have e1:=Kr (a:=a) (z:=t) ∅ ∅ h.abc;have e2:=SO (a:=a) h.w1 h.w4;have e4:=Og (a:=a) (t:=t) h.w1 ∅ ∅;have e5:=RL (a:=a) (w:=w) (ls:=aW t w) h.good.some h.good.few;generalize dY w (bu (aW t w))=V at e5;generalize am (aW t w)=C at e4 e5;simp![oZ,yaM,e1,e2,e4,e5]
theorem MX{z:Tx}{w:Nat}(w1:1<=w)(w4:w<=4)(hz:z.length<=60):rn a [.val (.str z),.val (.int w)] = .ok (.val (.str (gc z w))) [.val (.str z),.val (.int w)]:=by
 have hm:iM (.str z) (.int w)=aa (.str (bF w z).flatten):=by show(if 0<=(w:Int)/\(w:Int)<=100/\z.length<=100 then aa (PV.str (bF (w:Int).toNat z).flatten)else ae)=_;rw[if_pos ⟨∅,∅,∅⟩]; rfl
 have hl:bz [.str z]=aa (.int (z.length:Nat)):=rfl;have ha:aL (.int (z.length:Nat)) (.int w)=aa (.int ((z.length:Int)+w)):=rfl;have hs:cX (.int ((z.length:Int)+w)) (.int 1)=aa (.int ((z.length+w-1:Nat):Int)):=by show aa (PV.int ((z.length:Int)+w-1))=_;congr 2; lia
 have hc:a_ (.str (bF w z).flatten) ae (aa ((z.length+w-1:Nat):Int))=aa (.str (gc z w)):=by show aa (PV.str (dN _ ae (aa _)))=_;rw[FR]; rfl
 generalize ((z.length+w-1:Nat):Int)=n at hs hc;generalize (bF w z).flatten=F at hm hc;simp![rn,yaP,ba,bW,aM,hm,hl,ha,hs,hc]
theorem nt{i:Nat}{db:aj->R aH}{σ:Type}(env:List Tx->σ->aj)(f:Nat->List Tx)(B:Nat) : ∀ (xs:List Nat) (au:List Tx) (s:σ),(au++xs.flatMap f).length<=B->(∀ x∈xs,∀ au s,(au++f x).length<=B->∃ s',db ((env au s).set i (.val (.int x))) = .ok .next (env (au++f x) s')) -> ∃ s',eh i db (xs.map λx=>.int (x:Nat)) (env au s) = .ok .next (env (au++xs.flatMap f) s')
 | [],au,s,_,_=>⟨s,by simp[eh]⟩
 | x::xs,au,s,hB,step=>by rw[lK]at hB ⊢;obtain⟨s1,e1⟩:=step x (by simp) au s (by simp at hB ⊢; lia);obtain⟨s2,e2⟩:=nt env f B xs (au++f x) s1 (by rw[gH]; exact hB) λy hy=>step y (by simp[hy]);refine⟨s2,?_⟩;rw[d4,eh,e1];simp only;rw[e2,gH]
def bP(lo hi:Nat):List Nat:=Dn lo (hi-lo)
theorem HI{lo hi x:Nat}:x∈bP lo hi↔lo<=x/\x<hi:=by unfold bP;rw[List.mem_range'_1];lia
theorem IH(lo n:Nat):fU (lo:Nat) n=(Dn lo n).map λx=>PV.int (x:Nat):=by unfold fU;rw[List.range'_eq_map_range,eE];refine gF λx _=>?_;simp
theorem sP{lo hi:Nat}(h1:lo<=1000)(h2:hi<=1000):ig [.int lo,.int hi]=aa ((bP lo hi).map λx=>.int (x:Nat)):=by show(if _ then _ else _)=_;rw[if_pos ⟨∅,∅,∅,∅⟩];congr 1;rw[show(((hi:Nat):Int)-((lo:Nat):Int)).toNat=hi-lo by lia];exact IH lo (hi-lo)
theorem yo{n:Nat}(h:n<=1000):ij [.int n]=aa ((bP 0 n).map λx=>.int (x:Nat)):=by rw[yG ∅];congr 1;exact IH 0 n
def part(t:Tx)(i j:Nat):Tx:=(t.drop i).take (j-i)
theorem OX(t:Tx)(i j:Nat):dN t (aa (i:Nat)) (aa (j:Nat))=part t i j:=by
 unfold dN part;rw[HT.sIx_nat,HT.sIx_nat];by_cases h:i<=t.length
 ·rw[v9 h];by_cases h2:j<=t.length
  ·rw[v9 h2]
  ·rw[Dj ∅,km (by simp),km (by simp; lia)]
 ·rw[show min i t.length=t.length by lia,Dk (bi _),Dk (show t.length<=i by lia)];simp
theorem oJ(t:Tx)(i j:Nat):a_ (.str t) (aa (i:Nat)) (aa (j:Nat))=aa (.str (part t i j)):=by show aa (PV.str (dN t (aa (i:Nat)) (aa (j:Nat))))=_;rw[OX]
theorem oO(t:Tx)(j:Nat):a_ (.str t) ae (aa (j:Nat))=aa (.str (t.take j)):=by show aa (PV.str (dN t ae (aa (j:Nat))))=_;rw[FR]
theorem zS(t:Tx)(i:Nat):a_ (.str t) (aa (i:Nat)) ae=aa (.str (t.drop i)):=by show aa (PV.str (dN t (aa (i:Nat)) ae))=_;rw[GT]
def aO(row:List Tx)(i:Nat):Tx:=row.getD i []
theorem lY{row:List Tx}{i:Nat}(h:i<row.length):bA (.lst (am row)) (.int i)=aa (.str (aO row i)):=by show ff (am row) ((i:Nat):Int)=_;unfold ff;rw[SC ∅ (by rw[gm]; lia)];simp[am,aO,h]
def eG(t:Tx)(s e g l:Nat):Tx:=t.take s++part t g l++part t e g++part t s e++t.drop l
theorem rm(t:Tx)(i j:Nat):(part t i j).length<=t.length:=by unfold part; simp; lia
def nv(t:Tx)(row:List Tx)(s g e:Nat):List Tx:=(bP (g+1) row.length).flatMap λl=>if aO row e=aO row l then [eG t s e g l] else []
def lh(t:Tx)(row:List Tx)(s g:Nat):List Tx:=(bP (s+1) (g+1)).flatMap λe=>nv t row s g e
def za:aj->R aH:=cV (dB (d2 (eqT ao) (d2 bA (dV 1) (dV 5)) (d2 bA (dV 1) (dV 6)))) (jO 4 (d2 aL (d2 aL (d2 aL (d2 aL (ba a_ (dV 0) (bW) (aM (dV 2))) (ba a_ (dV 0) (aM (dV 3)) (aM (dV 6)))) (ba a_ (dV 0) (aM (dV 5)) (aM (dV 3)))) (ba a_ (dV 0) (aM (dV 2)) (aM (dV 5)))) (ba a_ (dV 0) (aM (dV 6)) (bW)))) (dG)
def Ja:aj->R (List PV):=dL ig (aw (d2 aL (dV 3) (dC (.int 1))) (aw (dL bz (aw (dV 1) (aB))) (aB)))
def FQ:aj->R aH:=cq 6 Ja za
def Ee:aj->R (List PV):=dL ig (aw (d2 aL (dV 2) (dC (.int 1))) (aw (d2 aL (dV 3) (dC (.int 1))) (aB)))
theorem Sf:yao a=aF (cQ 4 (dL b_ (aB))) (aF (λε=>cr (cq 5 Ee FQ ε)) (fg 4)):=rfl
theorem Qe(t:Tx)(row:List Tx)(s g e:Nat)(ht:t.length<=20)(hr:row.length<=20)(he:e<row.length)(au:List Tx)(s6:Slot)(hB:(au++nv t row s g e).length<=100000):∃ iA, eh 6 za ((bP (g+1) row.length).map λx=>.int (x:Nat)) [.val (.str t),.val (.lst (am row)),.val (.int s),.val (.int g),.own (.lst (am au)),.val (.int e),s6] = .ok .next [.val (.str t),.val (.lst (am row)),.val (.int s),.val (.int g),.own (.lst (am (au++nv t row s g e))),.val (.int e),iA]:=by
 refine nt (i:=6) (σ:=Slot) (λau s6=>[.val (.str t),.val (.lst (am row)),.val (.int s),.val (.int g),.own (.lst (am au)),.val (.int e),s6]) (λl=>if aO row e=aO row l then [eG t s e g l] else []) 100000 _ au s6 hB ?_;intro l hl au s6 hB;obtain⟨l1,l2⟩:=HI.mp hl;refine⟨.val (.int l),?_⟩;have i1:=lY he;have i2:=lY l2;have he:=mZ ao (aO row e) (aO row l);simp only[mL]at he;by_cases q:aO row e=aO row l
 ·rw[decide_eq_true q]at he;rw[if_pos q]at hB ⊢;have c1:=oO t s;have c2:=oJ t g l;have c3:=oJ t e g;have c4:=oJ t s e;have c5:=zS t l;have p1:=rm t g l;have p2:=rm t e g;have p3:=rm t s e;have a1:aL (.str (t.take s)) (.str (part t g l))=aa (.str (t.take s++part t g l)):=ka (by unfold bB; simp; lia);have a2:aL (.str (t.take s++part t g l)) (.str (part t e g))=aa (.str (t.take s++part t g l++part t e g)):=ka (by unfold bB; simp; lia);have a3:aL (.str (t.take s++part t g l++part t e g)) (.str (part t s e))=aa (.str (t.take s++part t g l++part t e g++part t s e)):=ka (by unfold bB; simp; lia);have a4:aL (.str (t.take s++part t g l++part t e g++part t s e)) (.str (t.drop l))=aa (.str (eG t s e g l)):=ka (by unfold bB; simp; lia);have br:(am au).length<bB:=by rw[gm]; simp at hB; unfold bB; lia
  rw[show am (au++[eG t s e g l])=am au++[.str (eG t s e g l)] by simp[am]];generalize eG t s e g l=X at a4;generalize t.take s++part t g l++part t e g++part t s e=A3 at a3 a4;generalize t.take s++part t g l++part t e g=A2 at a2 a3;generalize t.take s++part t g l=A1 at a1 a2;generalize t.take s=T0 at c1 a1;generalize t.drop l=T5 at c5 a4;generalize part t g l=T2 at c2 a1;generalize part t e g=T3 at c3 a2;generalize part t s e=T4 at c4 a3;generalize aO row e=R1 at i1 he;generalize aO row l=R2 at i2 he;generalize am au=AC at br;generalize am row=RW at i1 i2;generalize ((s:Nat):Int)=si at c1 c4;generalize ((g:Nat):Int)=gi at c2 c3;generalize ((e:Nat):Int)=ei at c3 c4 i1;generalize ((l:Nat):Int)=li at c2 c5 i2;simp![za,i1,i2,he,ba,aM,bW,c1,c2,c3,c4,c5,a1,a2,a3,a4,br]
 ·rw[decide_eq_false q]at he;rw[if_neg q,ja];generalize aO row e=R1 at i1 he;generalize aO row l=R2 at i2 he;generalize am au=AC;generalize am row=RW at i1 i2;generalize ((s:Nat):Int)=si;generalize ((g:Nat):Int)=gi;generalize ((e:Nat):Int)=ei at i1;generalize ((l:Nat):Int)=li at i2;simp![za,i1,i2,he]
theorem Ps{d:aj->R aH}{v0 v1 v2 v3:PV}{sl e4 e5 e6:Slot}(h:d [.val v0,.val v1,.val v2,.val v3,.none,.none,.none] = .ok (.ret sl) [.val v0,.val v1,.val v2,.val v3,e4,e5,e6]):bt 4 [] (bw 3 d) [.val v0,.val v1,.val v2,.val v3] = .ok sl [.val v0,.val v1,.val v2,.val v3]:=by simp[bt,eQ,bw,bF,h,back,aS,R.bind]
theorem qr{i:Nat}{ε:aj}(h:i<ε.length):cQ i (dL b_ aB) ε = .ok .next (ε.set i (.own (.lst []))):=by simp[cQ,dL,aB,b_,R.bind,aS,h]
theorem oI{i:Nat}{ε:aj}{po:PO}(h:ε[i]?=aa (.own po)):fg i ε = .ok (.ret (.own po)) (ε.set i .none):=by unfold fg; rw[h]
theorem oP{i:Nat}{di:aj->R (List PV)}{db:aj->R aH}{ε ε1 ε2:aj}{xs:List PV}(h:di ε = .ok xs ε1)(h2:eh i db xs ε1 = .ok .next ε2):cq i di db ε = .ok .next ε2:=by unfold cq; rw[h]; exact h2
theorem ID{i:Nat}{di:aj->R (List PV)}{db:aj->R aH}{ε ε1 ε2:aj}{xs:List PV}(h:di ε = .ok xs ε1)(h2:eh i db xs ε1 = .ok .next ε2):(λε=>cr (cq i di db ε)) ε = .ok .next ε2:=by show cr _=_;rw[oP h h2];rfl
theorem ur{i:Nat}{di:aj->R (List PV)}{db d2:aj->R aH}{ε ε1 ε2:aj}{xs:List PV}(h:di ε = .ok xs ε1)(h2:eh i db xs ε1 = .ok .next ε2):aF (λε=>cr (cq i di db ε)) d2 ε=d2 ε2 :=cK (d1:=λε=>cr (cq i di db ε)) (ID h h2)
theorem Tc(t:Tx)(row:List Tx)(s g:Nat)(ht:t.length<=20)(hr:row.length<=20)(hg:g<row.length)(hsg:s<=g)(hB:(lh t row s g).length<=100000) : u6 a [.val (.str t),.val (.lst (am row)),.val (.int s),.val (.int g)] = .ok (.own (.lst (am (lh t row s g)))) [.val (.str t),.val (.lst (am row)),.val (.int s),.val (.int g)]:=by
 have r1:=sP (lo:=s+1) (hi:=g+1) ∅ ∅;have r2:=sP (lo:=g+1) (hi:=row.length) ∅ ∅;have as:aL (.int s) (.int 1)=aa (.int ((s+1:Nat):Int)):=by show aa (PV.int _)=_; congr 2
 have ag:aL (.int g) (.int 1)=aa (.int ((g+1:Nat):Int)):=by show aa (PV.int _)=_; congr 2
 have hl:bz [.lst (am row)]=aa (.int (row.length:Nat)):=by show aa (PV.int _)=_; rw[gm]
 obtain⟨⟨s5,s6⟩,e1⟩:=nt (i:=5) (db:=FQ) (σ:=Slot×Slot)
  (λau p=>[.val (.str t),.val (.lst (am row)),.val (.int s),.val (.int g),.own (.lst (am au)),p.1,p.2]) (λe=>nv t row s g e) 100000 (bP (s+1) (g+1)) [] (.none,.none) (by rw[ft]; exact hB)
  (by
   intro e he au p hB;obtain⟨e1,e2⟩:=HI.mp he;obtain⟨iA,h⟩:=Qe t row s g e ht hr ∅ au p.2 hB;refine⟨(.val (.int e),iA),?_⟩;have hd:Ja [.val (.str t),.val (.lst (am row)),.val (.int s),.val (.int g),.own (.lst (am au)),.val (.int e),p.2] =
     .ok ((bP (g+1) row.length).map λx=>PV.int (x:Nat)) [.val (.str t),.val (.lst (am row)),.val (.int s),.val (.int g),.own (.lst (am au)),.val (.int e),p.2] :=
    io (fO (gQ (x:=.int g) rfl (kP _ _) ag) (fO (io (fO (x:=.lst (am row)) rfl ie) hl) ie)) r2
   exact oP hd h)
 have f9:=e1;dsimp only at f9;rw[ft,show am ([]:List Tx)=[] from rfl,show(bP (s+1) (g+1)).flatMap (λe=>nv t row s g e)=lh t row s g from rfl]at f9;clear e1;have hd:Ee [.val (.str t),.val (.lst (am row)),.val (.int s),.val (.int g),.own (.lst []),.none,.none] =
   .ok ((bP (s+1) (g+1)).map λx=>PV.int (x:Nat)) [.val (.str t),.val (.lst (am row)),.val (.int s),.val (.int g),.own (.lst []),.none,.none] :=
  io (fO (gQ (x:=.int s) rfl (kP _ _) as) (fO (gQ (x:=.int g) rfl (kP _ _) ag) ie)) r1
 clear r1 r2 as ag hl hB;have hb:yao a [.val (.str t),.val (.lst (am row)),.val (.int s),.val (.int g),.none,.none,.none] = .ok (.ret (.own (.lst (am (lh t row s g))))) [.val (.str t),.val (.lst (am row)),.val (.int s),.val (.int g),.none,s5,s6]:=by rw[Sf];have h1:=qr (i:=4) (ε:=[.val (.str t),.val (.lst (am row)),.val (.int s),.val (.int g),.none,.none,.none]) (by simp);refine(cK h1).trans ?_;refine(ur hd f9).trans ?_;exact oI rfl
 exact Ps hb
end
section
variable{a:Ad}
theorem Jj(n:Nat):aL (.int n) (.int 1)=aa (.int ((n+1:Nat):Int)):=by show aa (PV.int _)=_; congr 2
theorem wZ(row:List Tx):bz [.lst (am row)]=aa (.int (row.length:Nat)):=by show aa (PV.int _)=_; rw[gm]
theorem oQ{f:Nat->List Tx}{c:Nat->Nat}:∀ {l:List Nat},(∀ x∈l,(f x).length<=c x)->(l.flatMap f).length<=(l.map c).sum
 | [],_=>by simp
 | x::l,h=>by have h1:=h x (by simp);have h2:=oQ (f:=f) (c:=c) (l:=l) λy hy=>h y (by simp[hy]);rw[lK,dq,d4,Do];lia
theorem GI(c:Nat):∀ (l:List Nat),(l.map λ_=>c).sum=l.length * c
 | []=>by simp
 | x::l=>by rw[d4,Do,GI c l,eD,Dm]; lia
theorem xK{f:Nat->List Tx}{c:Nat}{l:List Nat}(h:∀ x∈l,(f x).length<=c):(l.flatMap f).length<=l.length * c:=by have:=oQ (f:=f) (c:=λ_=>c) h;rwa[GI]at this
theorem rM(lo hi:Nat):(bP lo hi).length=hi-lo:=by simp[bP]
theorem GN{p:Prop}[Decidable p]{x:Tx}:(if p then [x] else []).length<=1:=by split <;> simp
theorem BL{p:Prop}[Decidable p]{x:List Tx}{n:Nat}(h:x.length<=n):(if p then x else []).length<=n:=by split <;> simp[h]
theorem PB(t:Tx)(row:List Tx)(s g e:Nat):(nv t row s g e).length<=row.length-(g+1):=by have:=xK (f:=λl=>if aO row e=aO row l then [eG t s e g l] else []) (c:=1) (l:=bP (g+1) row.length) λ_ _=>GN;rw[rM]at this;unfold nv; lia
theorem FU(t:Tx)(row:List Tx)(s g:Nat):(lh t row s g).length<=(g-s) * (row.length-(g+1)):=by have:=xK (f:=nv t row s g) (l:=bP (s+1) (g+1)) λe _=>PB t row s g e;rw[rM,show g+1-(s+1)=g-s by lia]at this;exact this
def ri(t:Tx)(row:List Tx)(s:Nat):List Tx:=(bP (s+1) row.length).flatMap λg=>if aO row s=aO row g then lh t row s g else []
def nj(t:Tx)(row:List Tx):List Tx:=(bP 0 row.length).flatMap λs=>ri t row s
def Qk(n:Nat):Nat:=((bP 0 n).map λs=>((bP (s+1) n).map λg=>(g-s) * (n-(g+1))).sum).sum
theorem R4:∀ n,n<=10->Qk n<=3000:=by decide +kernel
theorem G9{t:Tx}{row:List Tx}(h:row.length<=10):(nj t row).length<=3000:=by refine cI (oQ (c:=λs=>((bP (s+1) row.length).map λg=>(g-s) * (row.length-(g+1))).sum) λs _=>?_) (R4 _ h);exact oQ λg _=>BL (FU t row s g)
theorem Ru{t:Tx}{row:List Tx}(h:row.length<=10){s g:Nat}(hg:g<row.length):(lh t row s g).length<=100:=by have:=FU t row s g;have h2:(g-s) * (row.length-(g+1))<=10 * 10:=CV ∅ ∅;lia
def wY(a:Ad):aj->R aH:=cV (dB (d2 (eqT ao) (d2 bA (dV 1) (dV 3)) (d2 bA (dV 1) (dV 4)))) (kR 2 (aV (aG (u6 a) (gV (dV 0) (gV (dV 1) (gV (dV 3) (gV (dV 4) (Pu.bO)))))))) (dG)
def Eu:aj->R (List PV):=dL ig (aw (d2 aL (dV 3) (dC (.int 1))) (aw (dL bz (aw (dV 1) (aB))) (aB)))
def G1(a:Ad):aj->R aH:=cq 4 Eu (wY a)
def IQ:aj->R (List PV):=dL ij (aw (dL bz (aw (dV 1) (aB))) (aB))
theorem Sd:yan a=aF (cQ 2 (dL b_ (aB))) (aF (λε=>cr (cq 3 IQ (G1 a) ε)) (fg 2)):=rfl
theorem cp{i:Nat}{ε:aj}{v:PV}(h:ε[i]?=aa (.val v)):dV i ε = .ok v ε:=by unfold dV; rw[h]
theorem fA{d:aj->R PV}{dg:aj->R (List cB)}{ε ε1 ε2:aj}{x:PV}{as:List cB}(h:d ε = .ok x ε1)(h2:dg ε1 = .ok as ε2):gV d dg ε = .ok (.inl x::as) ε2:=by unfold gV; rw[h,R.bind_ok,h2]; rfl
theorem mY{ε:aj}:Pu.bO ε = .ok [] ε:=rfl
theorem FI{G:aj->R Slot}{ε:aj}{i0 i1 i2 i3:Nat}{v0 v1 v2 v3:PV}{r:Slot}(h0:ε[i0]?=aa (.val v0))(h1:ε[i1]?=aa (.val v1))(h2:ε[i2]?=aa (.val v2))(h3:ε[i3]?=aa (.val v3))(hG:G [.val v0,.val v1,.val v2,.val v3] = .ok r [.val v0,.val v1,.val v2,.val v3]):aG G (gV (dV i0) (gV (dV i1) (gV (dV i2) (gV (dV i3) (Pu.bO))))) ε = .ok r ε:=by unfold aG;rw[fA (cp h0) (fA (cp h1) (fA (cp h2) (fA (cp h3) mY))),R.bind_ok];simp[cC,dZ,R.bind,aS,hG,e_,d8,eB]
theorem nG{d:aj->R Slot}{ε ε1:aj}{xs:List PV}(h:d ε = .ok (.own (.lst xs)) ε1):aV d ε = .ok (.lst xs) ε1:=by unfold aV; rw[h]; rfl
theorem xr{i:Nat}{de:aj->R PV}{ε ε1:aj}{xs0 xs ys:List PV}(h0:f_ ε i=aa xs0)(h:de ε = .ok (.lst ys) ε1)(h1:f_ ε1 i=aa xs)(hl:xs.length+ys.length<=bB):kR i de ε = .ok .next (ε1.set i (.own (.lst (xs++ys)))):=by unfold kR;rw[h0];simp only[dE,R.bind_ok];rw[h];simp only[R.bind_ok];rw[h1];simp only[dE,R.bind_ok];rw[if_pos hl]
theorem uP{α:Type}{c:aj->R Bool}{d1 d2:aj->R α}{ε ε1:aj}(h:c ε = .ok ai ε1):cV c d1 d2 ε=d1 ε1:=by unfold cV; rw[h]; rfl
theorem uS{α:Type}{c:aj->R Bool}{d1 d2:aj->R α}{ε ε1:aj}(h:c ε = .ok ao ε1):cV c d1 d2 ε=d2 ε1:=by unfold cV; rw[h]; rfl
theorem kK{d:aj->R PV}{b:Bool}{ε ε1:aj}(h:d ε = .ok (.bl b) ε1):dB d ε = .ok b ε1:=by unfold dB; rw[h]; rfl
theorem Ng(t:Tx)(row:List Tx)(s:Nat)(ht:t.length<=20)(hr:row.length<=10)(hs:s<row.length)(au:List Tx)(s4:Slot)(hB:(au++ri t row s).length<=100000):∃ qV, eh 4 (wY a) ((bP (s+1) row.length).map λx=>.int (x:Nat)) [.val (.str t),.val (.lst (am row)),.own (.lst (am au)),.val (.int s),s4] = .ok .next [.val (.str t),.val (.lst (am row)),.own (.lst (am (au++ri t row s))),.val (.int s),qV]:=by
 refine nt (i:=4) (σ:=Slot) (λau s4=>[.val (.str t),.val (.lst (am row)),.own (.lst (am au)),.val (.int s),s4]) (λg=>if aO row s=aO row g then lh t row s g else []) 100000 _ au s4 hB ?_;intro g hg au s4 hB;obtain⟨l1,l2⟩:=HI.mp hg;refine⟨.val (.int g),?_⟩;have i1:=lY hs;have i2:=lY l2;have he:=mZ ao (aO row s) (aO row g);simp only[mL]at he;by_cases q:aO row s=aO row g
 ·rw[decide_eq_true q]at he;rw[if_pos q]at hB ⊢;have hc:=Tc (a:=a) t row s g ht ∅ l2 ∅ (by have:=Ru (t:=t) hr (s:=s) l2; lia);have br:(am au).length+(am (lh t row s g)).length<=bB:=by rw[gm,gm]; simp at hB; unfold bB; lia
  rw[← vp];generalize am (lh t row s g)=EF at hc br;generalize aO row s=R1 at i1 he;generalize aO row g=R2 at i2 he;generalize am au=AC at br;generalize am row=RW at i1 i2 hc;generalize ((s:Nat):Int)=si at i1 hc;generalize ((g:Nat):Int)=gi at i2 hc;have hx:aV (aG (u6 a) (gV (dV 0) (gV (dV 1) (gV (dV 3) (gV (dV 4) (Pu.bO)))))) [.val (.str t),.val (.lst RW),.own (.lst AC),.val (.int si),.val (.int gi)] = .ok (.lst EF) [.val (.str t),.val (.lst RW),.own (.lst AC),.val (.int si),.val (.int gi)]:=nG (FI rfl rfl rfl rfl hc);have bM:dB (d2 (eqT ao) (d2 bA (dV 1) (dV 3)) (d2 bA (dV 1) (dV 4))) [.val (.str t),.val (.lst RW),.own (.lst AC),.val (.int si),.val (.int gi)] = .ok ai [.val (.str t),.val (.lst RW),.own (.lst AC),.val (.int si),.val (.int gi)]:=by simp![i1,i2,he]
  unfold wY;exact(uP bM).trans (xr rfl hx rfl br)
 ·rw[decide_eq_false q]at he;rw[if_neg q,ja];generalize aO row s=R1 at i1 he;generalize aO row g=R2 at i2 he;generalize am au=AC;generalize am row=RW at i1 i2;generalize ((s:Nat):Int)=si at i1;generalize ((g:Nat):Int)=gi at i2;simp![wY,i1,i2,he]
theorem LB{d:aj->R aH}{v0 v1:PV}{sl e4 e5 e6:Slot}(h:d [.val v0,.val v1,.none,.none,.none] = .ok (.ret sl) [.val v0,.val v1,e4,e5,e6]):bt 2 [] (bw 3 d) [.val v0,.val v1] = .ok sl [.val v0,.val v1]:=by simp[bt,eQ,bw,bF,h,back,aS,R.bind]
theorem LL(t:Tx)(row:List Tx)(ht:t.length<=20)(hr:row.length<=10) : zZ a [.val (.str t),.val (.lst (am row))] = .ok (.own (.lst (am (nj t row)))) [.val (.str t),.val (.lst (am row))]:=by
 have r1:=yo (n:=row.length) ∅;have hl:=wZ row;have hB:=G9 (t:=t) hr;obtain⟨⟨s3,s4⟩,e1⟩:=nt (i:=3) (db:=G1 a) (σ:=Slot×Slot)
  (λau p=>[.val (.str t),.val (.lst (am row)),.own (.lst (am au)),p.1,p.2]) (λs=>ri t row s) 100000 (bP 0 row.length) [] (.none,.none) (by rw[ft]; exact cI hB (by decide))
  (by
   intro s he au p hB;obtain⟨e1,e2⟩:=HI.mp he;obtain⟨qV,h⟩:=Ng (a:=a) t row s ht hr e2 au p.2 hB;refine⟨(.val (.int s),qV),?_⟩;have r2:=sP (lo:=s+1) (hi:=row.length) ∅ ∅;have hd:Eu [.val (.str t),.val (.lst (am row)),.own (.lst (am au)),.val (.int s),p.2] =
     .ok ((bP (s+1) row.length).map λx=>PV.int (x:Nat)) [.val (.str t),.val (.lst (am row)),.own (.lst (am au)),.val (.int s),p.2] :=
    io (fO (gQ (x:=.int s) rfl (kP _ _) (Jj s)) (fO (io (fO (x:=.lst (am row)) rfl ie) hl) ie)) r2
   exact oP hd h)
 have f9:=e1;dsimp only at f9;rw[ft,show am ([]:List Tx)=[] from rfl,show(bP 0 row.length).flatMap (λs=>ri t row s)=nj t row from rfl]at f9;clear e1;have hd:IQ [.val (.str t),.val (.lst (am row)),.own (.lst []),.none,.none] = .ok ((bP 0 row.length).map λx=>PV.int (x:Nat)) [.val (.str t),.val (.lst (am row)),.own (.lst []),.none,.none] :=io (fO (io (fO (x:=.lst (am row)) rfl ie) hl) ie) r1;have hb:yan a [.val (.str t),.val (.lst (am row)),.none,.none,.none] = .ok (.ret (.own (.lst (am (nj t row))))) [.val (.str t),.val (.lst (am row)),.none,s3,s4]:=by rw[Sd];have h1:=qr (i:=2) (ε:=[.val (.str t),.val (.lst (am row)),.none,.none,.none]) (by simp);refine(cK h1).trans ?_;refine(ur hd f9).trans ?_;exact oI rfl
 exact LB hb
theorem GS{row:List Tx}(h:1<=row.length):bA (.lst (am row)) (.int (-1))=aa (.str (aO row (row.length-1))):=by
 show ff (am row) (-1)=_;unfold ff;have:j_ (am row).length (-1)=aa (row.length-1):=by unfold j_;rw[gm,if_neg (by decide),if_pos ∅];congr 1; lia
 rw[this];have h2:row.length-1<row.length:=∅
 simp[am,aO,h2]
def pE(t:Tx)(m w:Nat):List Tx:=(bP 1 m).map λp=>gc ((t.take m).drop p++(t.take m).take p) w
theorem Oo(t:Tx)(m w:Nat)(w1:1<=w)(w4:w<=4)(ht:t.length<=20)(hm:m<=t.length)(RW:PV) : kQ [3,2] dU (aV (aG (rn a) (gV (d2 aL (ba a_ (dV 1) (aM (dV 0)) (bW)) (ba a_ (dV 1) (bW) (aM (dV 0)))) (gV (dV 2) (Pu.bO))))) ((bP 1 m).map λx=>.int (x:Nat)) [] [.val (.str t),.val RW,.val (.int w),.val (.str (t.take m))] = .ok (am (pE t m w)) [.val (.str t),.val RW,.val (.int w),.val (.str (t.take m))]:=by
 have hc:=kI (cap:=[3,2]) (dt:=dU) (de:=(aV (aG (rn a) (gV (d2 aL (ba a_ (dV 1) (aM (dV 0)) (bW)) (ba a_ (dV 1) (bW) (aM (dV 0)))) (gV (dV 2) (Pu.bO)))))) (ε:=[.val (.str t),.val RW,.val (.int w),.val (.str (t.take m))])
  (λ_=>ai) (λx=>match x with | .int i=>.str (gc ((t.take m).drop i.toNat++(t.take m).take i.toNat) w) | _=>.non) ((bP 1 m).map λx=>.int (x:Nat))
  (by intro x hx;obtain⟨i,_,rfl⟩:=cO.mp hx;refine⟨by simp![eA,d9,dw,dU],λ_=>?_⟩;have s1:=zS (t.take m) i;have s2:=oO (t.take m) i;have h1:aL (.str ((t.take m).drop i)) (.str ((t.take m).take i))=aa (.str ((t.take m).drop i++(t.take m).take i)):=ka (by unfold bB; simp; lia);have h2:=MX (a:=a) (z:=(t.take m).drop i++(t.take m).take i) w1 w4 (by simp; lia);simp only[mG];generalize gc ((t.take m).drop i++(t.take m).take i) w=U at h2;generalize (t.take m).drop i++(t.take m).take i=Y at h1 h2;generalize (t.take m).drop i=A1 at s1 h1;generalize (t.take m).take i=A2 at s2 h1;generalize t.take m=TM at s1 s2;generalize ((i:Nat):Int)=ii at s1 s2;simp![eA,d9,dw,ba,aM,bW,s1,s2,h1,h2]) []
 rw[hc,ft,n9.mpr (by simp)];congr 1;unfold am pE;rw[eE,eE];refine gF λi _=>?_;simp
def jN(t:Tx)(row:List Tx)(w:Nat):List Tx:=if aO row 0=aO row (row.length-1)then pE t (row.length-1) w else []
theorem LS(t:Tx)(row:List Tx)(w:Nat)(w1:1<=w)(w4:w<=4)(ht:t.length<=20)(hr:1<=row.length)(mR:row.length<=t.length+1) : uT a [.val (.str t),.val (.lst (am row)),.val (.int w)] = .ok (.own (.lst (am (jN t row w)))) [.val (.str t),.val (.lst (am row)),.val (.int w)]:=by
 have i1:bA (.lst (am row)) (.int 0)=aa (.str (aO row 0)):=lY (i:=0) ∅;have i2:=GS hr;have he:=mZ ai (aO row 0) (aO row (row.length-1));have wo:gd (.int 1)=aa (.int (-1)):=rfl;unfold jN;by_cases q:aO row 0=aO row (row.length-1)
 ·rw[decide_eq_true q]at he;rw[if_pos q];have hl:=wZ row;have hs:cX (.int (row.length:Nat)) (.int 1)=aa (.int ((row.length-1:Nat):Int)):=by show aa (PV.int _)=_;congr 2; lia
  have s1:=oO t (row.length-1);have kz:bz [.str (t.take (row.length-1))]=aa (.int ((row.length-1:Nat):Int)):=by show aa (PV.int _)=_;congr 2; simp; lia
  have r1:=sP (lo:=1) (hi:=row.length-1) ∅ ∅;have hc:=Oo (a:=a) t (row.length-1) w w1 w4 ht ∅ (.lst (am row));generalize am (pE t (row.length-1) w)=TT at hc;generalize (bP 1 (row.length-1)).map (λx=>PV.int (x:Nat))=RG at r1 hc;generalize t.take (row.length-1)=T1 at s1 kz hc;generalize ((row.length-1:Nat):Int)=m at hs s1 kz r1;generalize ((row.length:Nat):Int)=n at hl hs;generalize aO row 0=R1 at i1 he;generalize aO row (row.length-1)=R2 at i2 he;generalize am row=RW at i1 i2 hl hc;simp only[Bool.xor_true,zI]at he;have r1':ig [.int 1,.int m]=aa RG:=r1;clear r1;simp![uT,yaO,i1,i2,wo,he,hl,hs,ba,bW,aM,s1,kD,dD,kz,r1',hc]
 ·rw[decide_eq_false q]at he;rw[if_neg q];generalize aO row 0=R1 at i1 he;generalize aO row (row.length-1)=R2 at i2 he;generalize am row=RW at i1 i2;simp only[Bool.xor_false]at he;simp![uT,yaO,i1,i2,wo,he,kD,show am ([]:List Tx)=[] from rfl]
def iE(t:Tx)(w:Nat):List Tx:=nj t (bN t (w-1))++jN t (bN t (w-1)) w
def bE(t:Tx)(w:Nat):List Tx:=bu (eT (ca (iE t w)) t)
theorem Ud(t:Tx)(row:List Tx)(w:Nat):(jN t row w).length<=row.length:=by
 unfold jN;split
 ·unfold pE; rw[cD,rM]; lia
 ·simp
theorem Bw(t:Tx)(w:Nat)(h:Tv t w)(h9:t.length+2<=w+10):kF a [.val (.str t),.val (.int w)] = .ok (.own (.lst (am (bE t w)))) [.val (.str t),.val (.int w)]:=by
 have b1:=h.w1;have b2:=h.w4;have b3:=h.h1;have hs:cX (.int w) (.int 1)=aa (.int ((w-1:Nat):Int)):=by show aa (PV.int _)=_;congr 2; lia
 have e1:=Ev (a:=a) (t:=t) (w:=w-1) ∅ ∅;have ub:=su t (w-1);have e2:=LL (a:=a) t (bN t (w-1)) ∅ ∅;have e3:=LS (a:=a) t (bN t (w-1)) w b1 b2 ∅ ∅ ∅;have l1:=G9 (t:=t) (row:=bN t (w-1)) ∅;have l2:=Ud t (bN t (w-1)) w;have lN:aL (.lst (am (nj t (bN t (w-1))))) (.lst (am (jN t (bN t (w-1)) w)))=aa (.lst (am (iE t w))):=by show(if _ then _ else _)=_;rw[if_pos (by rw[gm,gm]; unfold bB; lia),vp];rfl
 have hu:sx [.lst (am (iE t w))]=aa (ca (iE t w)):=by show(gA (am (iE t w))).bind _=_;have:=yE (iE t w);rw[oy,gI,if_pos (by unfold iE at this; rw[dq]at this; unfold iE; lia)]
 unfold bE;generalize ca (iE t w)=UL at hu;generalize am (iE t w)=SL at lN hu;generalize am (nj t (bN t (w-1)))=EA at e2 lN;generalize am (jN t (bN t (w-1)) w)=TA at e3 lN;generalize am (bN t (w-1))=RW at e1 e2 e3;generalize ((w-1:Nat):Int)=wi at hs e1;simp![kF,yaH,kD,hs,e1,e2,e3,Bh,lN,hu]
theorem Mm{t:Tx}{w:Nat}(w1:1<=w)(hw:w<=t.length+1)(ht:t.length<=60):pM a [.val (.str t),.val (.int w)] = .ok (.own (.lst (am (bN t (w-1))))) [.val (.str t),.val (.int w)]:=by
 have hl:bz [.str t]=aa (.int (t.length:Nat)):=rfl;have hs:cX (.int (t.length:Nat)) (.int w)=aa (.int ((t.length:Int)-w)):=rfl;have ha:aL (.int ((t.length:Int)-w)) (.int 2)=aa (.int ((t.length+1-(w-1):Nat):Int)):=by show aa (PV.int ((t.length:Int)-w+2))=_;congr 2; lia
 have hr:ij [.int ((t.length+1-(w-1):Nat):Int)]=aa (fU 0 (t.length+1-(w-1))):=yG ∅;have hc:=kI (cap:=[0,1]) (dt:=dU) (de:=(ba a_ (dV 1) (aM (dV 0)) (aM (d2 cX (d2 aL (dV 0) (dV 2)) (dC (.int 1)))))) (ε:=[.val (.str t),.val (.int w)]) (λ_=>ai) (λx=>match x with | .int i=>.str (dN t (aa i) (aa (i+w-1))) | _=>.non) (fU 0 (t.length+1-(w-1)))
  (by intro x hx;obtain⟨i,_,rfl⟩:=cO.mp hx;refine⟨by simp![eA,d9,dw,dU],λ_=>?_⟩;simp![eA,d9,dw,aL,cX,ba,aM,a_]) []
 have he:((fU 0 (t.length+1-(w-1))).filter (λ_=>ai)).map (λx=>match x with | .int i=>PV.str (dN t (aa i) (aa (i+w-1))) | _=>.non)=am (bN t (w-1)):=by
  rw[n9.mpr (by simp)];unfold fU am bN;rw[eE,eE];refine gF λi hi=>?_;have hi:i<t.length+1-(w-1):=by simpa using hi
  simp only[qH,Int.zero_add];rw[show((i:Int)+w-1)=(i:Int)+((w-1:Nat):Int) by lia,GA ∅]
 rw[ft,he]at hc;generalize am (bN t (w-1))=T at hc;generalize fU 0 (t.length+1-(w-1))=RR at hr hc;generalize ((t.length+1-(w-1):Nat):Int)=n at ha hr;simp![pM,yaE,kD,dD,hl,hs,ha,hr,hc]
def stI(t:Tx)(row:List Tx)(j l k:Nat):List Tx:=(bP 0 j).flatMap λi=>if aO row i=aO row k then [eG t i j k l] else []
def mx(t:Tx)(row:List Tx)(j l:Nat):List Tx:=(bP j l).flatMap λk=>stI t row j l k
def sJ(t:Tx)(row:List Tx)(l:Nat):List Tx:=(bP 0 l).flatMap λj=>if aO row j=aO row l then mx t row j l else []
def nH(t:Tx)(row:List Tx):List Tx:=(bP 0 row.length).flatMap λl=>sJ t row l
theorem Qv(t:Tx)(row:List Tx)(j l k:Nat):(stI t row j l k).length<=j:=by have:=xK (f:=λi=>if aO row i=aO row k then [eG t i j k l] else []) (c:=1) (l:=bP 0 j) λ_ _=>GN;rw[rM]at this;unfold stI; lia
theorem Ca(t:Tx)(row:List Tx)(j l:Nat):(mx t row j l).length<=(l-j) * j:=by have:=xK (f:=stI t row j l) (l:=bP j l) λk _=>Qv t row j l k;rw[rM]at this;exact this
def Il(n:Nat):Nat:=((bP 0 n).map λl=>((bP 0 l).map λj=>(l-j) * j).sum).sum
theorem LK:∀ n,n<=10->Il n<=3000:=by decide +kernel
theorem Ec{t:Tx}{row:List Tx}(h:row.length<=10):(nH t row).length<=3000:=by refine cI (oQ (c:=λl=>((bP 0 l).map λj=>(l-j) * j).sum) λs _=>?_) (LK _ h);exact oQ λg _=>BL (Ca t row g s)
theorem N7{t:Tx}{row:List Tx}{j l:Nat}(hl:l<=10)(hj:j<=l):(mx t row j l).length<=100:=by have:=Ca t row j l;have h2:(l-j) * j<=10 * 10:=CV ∅ ∅;lia
def xB:aj->R aH:=cV (dB (d2 (eqT ao) (d2 bA (dV 1) (dV 6)) (d2 bA (dV 1) (dV 5)))) (aF (bH 7 (d2 aL (ba a_ (dV 0) (bW) (aM (dV 6))) (ba a_ (dV 0) (aM (dV 5)) (aM (dV 3))))) (aF (bH 7 (d2 aL (dV 7) (ba a_ (dV 0) (aM (dV 2)) (aM (dV 5))))) (jO 4 (d2 aL (d2 aL (dV 7) (ba a_ (dV 0) (aM (dV 6)) (aM (dV 2)))) (ba a_ (dV 0) (aM (dV 3)) (bW)))))) (dG)
def EW:aj->R (List PV):=dL ij (aw (dV 2) (aB))
def Im:aj->R aH:=cq 6 EW xB
def Gm:aj->R (List PV):=dL ig (aw (dV 2) (aw (dV 3) (aB)))
theorem QF:yaF a=aF (cQ 4 (dL b_ (aB))) (aF (λε=>cr (cq 5 Gm Im ε)) (fg 4)):=rfl
theorem Tf(t:Tx)(row:List Tx)(j l k:Nat)(ht:t.length<=20)(hj:j<=k)(hk:k<row.length)(au:List Tx)(p:Slot×Slot)(hB:(au++stI t row j l k).length<=100000):∃ p':Slot×Slot, eh 6 xB ((bP 0 j).map λx=>.int (x:Nat)) [.val (.str t),.val (.lst (am row)),.val (.int j),.val (.int l),.own (.lst (am au)),.val (.int k),p.1,p.2] = .ok .next [.val (.str t),.val (.lst (am row)),.val (.int j),.val (.int l),.own (.lst (am (au++stI t row j l k))),.val (.int k),p'.1,p'.2]:=by
 refine nt (i:=6) (σ:=Slot×Slot) (λau p=>[.val (.str t),.val (.lst (am row)),.val (.int j),.val (.int l),.own (.lst (am au)),.val (.int k),p.1,p.2]) (λi=>if aO row i=aO row k then [eG t i j k l] else []) 100000 _ au p hB ?_;intro i hi au p hB;obtain⟨_,l2⟩:=HI.mp hi;have i1:=lY (row:=row) (i:=i) ∅;have i2:=lY hk;have he:=mZ ao (aO row i) (aO row k);simp only[mL]at he;obtain⟨p1,p2⟩:=p;by_cases q:aO row i=aO row k
 ·rw[decide_eq_true q]at he;rw[if_pos q]at hB ⊢;have c1:=oO t i;have c2:=oJ t k l;have c3:=oJ t j k;have c4:=oJ t i j;have c5:=zS t l;have p1:=rm t k l;have p2:=rm t j k;have p3:=rm t i j;have a1:aL (.str (t.take i)) (.str (part t k l))=aa (.str (t.take i++part t k l)):=ka (by unfold bB; simp; lia);have a2:aL (.str (t.take i++part t k l)) (.str (part t j k))=aa (.str (t.take i++part t k l++part t j k)):=ka (by unfold bB; simp; lia);have a3:aL (.str (t.take i++part t k l++part t j k)) (.str (part t i j))=aa (.str (t.take i++part t k l++part t j k++part t i j)):=ka (by unfold bB; simp; lia);have a4:aL (.str (t.take i++part t k l++part t j k++part t i j)) (.str (t.drop l))=aa (.str (eG t i j k l)):=ka (by unfold bB; simp; lia);have br:(am au).length<bB:=by rw[gm]; simp at hB; unfold bB; lia
  rw[show am (au++[eG t i j k l])=am au++[.str (eG t i j k l)] by simp[am]];refine⟨(.val (.int i),.val (.str (t.take i++part t k l++part t j k))),?_⟩;generalize eG t i j k l=X at a4;generalize t.take i++part t k l++part t j k++part t i j=A3 at a3 a4;generalize t.take i++part t k l++part t j k=A2 at a2 a3;generalize t.take i++part t k l=A1 at a1 a2;generalize t.take i=T0 at c1 a1;generalize t.drop l=T5 at c5 a4;generalize part t k l=T2 at c2 a1;generalize part t j k=T3 at c3 a2;generalize part t i j=T4 at c4 a3;generalize aO row i=R1 at i1 he;generalize aO row k=R2 at i2 he;generalize am au=AC at br;generalize am row=RW at i1 i2;generalize ((i:Nat):Int)=ii at c1 c4 i1;generalize ((j:Nat):Int)=ji at c3 c4;generalize ((k:Nat):Int)=ki at c2 c3 i2;generalize ((l:Nat):Int)=li at c2 c5;simp![xB,i1,i2,he,ba,aM,bW,c1,c2,c3,c4,c5,a1,a2,a3,a4,br]
 ·rw[decide_eq_false q]at he;rw[if_neg q,ja];refine⟨(.val (.int i),p2),?_⟩;generalize aO row i=R1 at i1 he;generalize aO row k=R2 at i2 he;generalize am au=AC;generalize am row=RW at i1 i2;generalize ((i:Nat):Int)=ii at i1;generalize ((j:Nat):Int)=ji;generalize ((k:Nat):Int)=ki at i2;generalize ((l:Nat):Int)=li;simp![xB,i1,i2,he]
theorem K2{d:aj->R aH}{v0 v1 v2 v3:PV}{sl e4 e5 e6 e7:Slot}(h:d [.val v0,.val v1,.val v2,.val v3,.none,.none,.none,.none] = .ok (.ret sl) [.val v0,.val v1,.val v2,.val v3,e4,e5,e6,e7]):bt 4 [] (bw 4 d) [.val v0,.val v1,.val v2,.val v3] = .ok sl [.val v0,.val v1,.val v2,.val v3]:=by simp[bt,eQ,bw,bF,h,back,aS,R.bind]
theorem Op(t:Tx)(row:List Tx)(j l:Nat)(ht:t.length<=20)(hr:row.length<=10)(hl:l<row.length)(hj:j<=l) : vy a [.val (.str t),.val (.lst (am row)),.val (.int j),.val (.int l)] = .ok (.own (.lst (am (mx t row j l)))) [.val (.str t),.val (.lst (am row)),.val (.int j),.val (.int l)]:=by
 have r1:=sP (lo:=j) (hi:=l) ∅ ∅;have r2:=yo (n:=j) ∅;obtain⟨⟨s5,s6,s7⟩,e1⟩:=nt (i:=5) (db:=Im) (σ:=Slot×Slot×Slot)
  (λau p=>[.val (.str t),.val (.lst (am row)),.val (.int j),.val (.int l),.own (.lst (am au)),p.1,p.2.1,p.2.2]) (λk=>stI t row j l k) 100000 (bP j l) [] (.none,.none,.none) (by rw[ft]; have:=N7 (t:=t) (row:=row) (l:=l) ∅ hj; exact cI this (by decide))
  (by
   intro k he au p hB;obtain⟨e1,e2⟩:=HI.mp he;obtain⟨p',h⟩:=Tf t row j l k ht e1 ∅ au p.2 hB;refine⟨(.val (.int k),p'),?_⟩;have hd:EW [.val (.str t),.val (.lst (am row)),.val (.int j),.val (.int l),.own (.lst (am au)),.val (.int k),p.2.1,p.2.2] =
     .ok ((bP 0 j).map λx=>PV.int (x:Nat)) [.val (.str t),.val (.lst (am row)),.val (.int j),.val (.int l),.own (.lst (am au)),.val (.int k),p.2.1,p.2.2] :=
    io (fO (x:=.int j) rfl ie) r2
   exact oP hd h)
 have f9:=e1;dsimp only at f9;rw[ft,show am ([]:List Tx)=[] from rfl,show(bP j l).flatMap (λk=>stI t row j l k)=mx t row j l from rfl]at f9;clear e1;have hd:Gm [.val (.str t),.val (.lst (am row)),.val (.int j),.val (.int l),.own (.lst []),.none,.none,.none] =
   .ok ((bP j l).map λx=>PV.int (x:Nat)) [.val (.str t),.val (.lst (am row)),.val (.int j),.val (.int l),.own (.lst []),.none,.none,.none] :=
  io (fO (x:=.int j) rfl (fO (x:=.int l) rfl ie)) r1
 have hb:yaF a [.val (.str t),.val (.lst (am row)),.val (.int j),.val (.int l),.none,.none,.none,.none] = .ok (.ret (.own (.lst (am (mx t row j l))))) [.val (.str t),.val (.lst (am row)),.val (.int j),.val (.int l),.none,s5,s6,s7]:=by rw[QF];have h1:=qr (i:=4) (ε:=[.val (.str t),.val (.lst (am row)),.val (.int j),.val (.int l),.none,.none,.none,.none]) (by simp);refine(cK h1).trans ?_;refine(ur hd f9).trans ?_;exact oI rfl
 exact K2 hb
def y6(a:Ad):aj->R aH:=cV (dB (d2 (eqT ao) (d2 bA (dV 2) (dV 5)) (d2 bA (dV 2) (dV 4)))) (kR 3 (aV (aG (vy a) (gV (dV 0) (gV (dV 2) (gV (dV 5) (gV (dV 4) (Pu.bO)))))))) (dG)
def Ge:aj->R (List PV):=dL ij (aw (dV 4) (aB))
def yW(a:Ad):aj->R aH:=cq 5 Ge (y6 a)
def xz:aj->R (List PV):=dL ij (aw (dL bz (aw (dV 2) (aB))) (aB))
def tM:aj->R aH:=cV (dB (d2 (eqT ao) (d2 bA (dV 2) (dC (.int 0))) (d2 bA (dV 2) (d1 gd (dC (.int 1)))))) (aF (bH 6 (d2 iM (ba a_ (dV 0) (bW) (aM (d2 cX (dL bz (aw (dV 2) (aB))) (dC (.int 1))))) (dC (.int 3)))) (kR 3 (dF (dD [6,0] (dL ig (aw (dC (.int 1)) (aw (d2 cX (dL bz (aw (dV 2) (aB))) (dC (.int 1))) (aB)))) (dU) (ba a_ (dV 1) (aM (dV 0)) (aM (d2 aL (dV 0) (dL bz (aw (dV 2) (aB)))))))))) (dG)
def uM:aj->R aH:=dJ (dF (dL lr (aw (dF (dD [0] (cG (dM 3)) (dB (d2 (eqT ai) (dV 0) (dV 1))) (dV 0))) (aB))))
theorem SX:yaC a=aF (bH 2 (aV (aG (pM a) (gV (dV 0) (gV (dV 1) (Pu.bO)))))) (aF (cQ 3 (dL b_ (aB))) (aF (λε=>cr (cq 4 xz (yW a) ε)) (aF tM uM))):=rfl
theorem Na(t:Tx)(W:PV)(row:List Tx)(l:Nat)(ht:t.length<=20)(hr:row.length<=10)(hl:l<row.length)(au:List Tx)(s5 s6:Slot)(hB:(au++sJ t row l).length<=100000):∃ h_, eh 5 (y6 a) ((bP 0 l).map λx=>.int (x:Nat)) [.val (.str t),.val W,.val (.lst (am row)),.own (.lst (am au)),.val (.int l),s5,s6] = .ok .next [.val (.str t),.val W,.val (.lst (am row)),.own (.lst (am (au++sJ t row l))),.val (.int l),h_,s6]:=by
 refine nt (i:=5) (σ:=Slot) (λau s5=>[.val (.str t),.val W,.val (.lst (am row)),.own (.lst (am au)),.val (.int l),s5,s6]) (λj=>if aO row j=aO row l then mx t row j l else []) 100000 _ au s5 hB ?_;intro j hj au s5 hB;obtain⟨_,l2⟩:=HI.mp hj;refine⟨.val (.int j),?_⟩;have i1:=lY (row:=row) (i:=j) ∅;have i2:=lY hl;have he:=mZ ao (aO row j) (aO row l);simp only[mL]at he;by_cases q:aO row j=aO row l
 ·rw[decide_eq_true q]at he;rw[if_pos q]at hB ⊢;have hc:=Op (a:=a) t row j l ht hr hl ∅;have br:(am au).length+(am (mx t row j l)).length<=bB:=by rw[gm,gm]; simp at hB; unfold bB; lia
  rw[← vp];generalize am (mx t row j l)=EF at hc br;generalize aO row j=R1 at i1 he;generalize aO row l=R2 at i2 he;generalize am au=AC at br;generalize am row=RW at i1 i2 hc;generalize ((j:Nat):Int)=si at i1 hc;generalize ((l:Nat):Int)=gi at i2 hc;have hx:aV (aG (vy a) (gV (dV 0) (gV (dV 2) (gV (dV 5) (gV (dV 4) (Pu.bO)))))) [.val (.str t),.val W,.val (.lst RW),.own (.lst AC),.val (.int gi),.val (.int si),s6] = .ok (.lst EF) [.val (.str t),.val W,.val (.lst RW),.own (.lst AC),.val (.int gi),.val (.int si),s6]:=nG (FI rfl rfl rfl rfl hc);have bM:dB (d2 (eqT ao) (d2 bA (dV 2) (dV 5)) (d2 bA (dV 2) (dV 4))) [.val (.str t),.val W,.val (.lst RW),.own (.lst AC),.val (.int gi),.val (.int si),s6] = .ok ai [.val (.str t),.val W,.val (.lst RW),.own (.lst AC),.val (.int gi),.val (.int si),s6]:=by simp![i1,i2,he]
  unfold y6;exact(uP bM).trans (xr rfl hx rfl br)
 ·rw[decide_eq_false q]at he;rw[if_neg q,ja];generalize aO row j=R1 at i1 he;generalize aO row l=R2 at i2 he;generalize am au=AC;generalize am row=RW at i1 i2;generalize ((j:Nat):Int)=si at i1;generalize ((l:Nat):Int)=gi at i2;simp![y6,i1,i2,he]
theorem K9(t:Tx)(W:PV)(row:List Tx)(ht:t.length<=20)(hr:row.length<=10):∃ s4 s5, (λε=>cr (cq 4 xz (yW a) ε)) [.val (.str t),.val W,.val (.lst (am row)),.own (.lst []),.none,.none,.none] = .ok .next [.val (.str t),.val W,.val (.lst (am row)),.own (.lst (am (nH t row))),s4,s5,.none]:=by
 have r1:=yo (n:=row.length) ∅;have hl:=wZ row;have hB:=Ec (t:=t) hr;obtain⟨⟨s4,s5⟩,e1⟩:=nt (i:=4) (db:=yW a) (σ:=Slot×Slot)
  (λau p=>[.val (.str t),.val W,.val (.lst (am row)),.own (.lst (am au)),p.1,p.2,.none]) (λl=>sJ t row l) 100000 (bP 0 row.length) [] (.none,.none) (by rw[ft]; exact cI hB (by decide))
  (by
   intro l he au p hB;obtain⟨e1,e2⟩:=HI.mp he;obtain⟨h_,h⟩:=Na (a:=a) t W row l ht hr e2 au p.2 .none hB;refine⟨(.val (.int l),h_),?_⟩;have r2:=yo (n:=l) ∅;have hd:Ge [.val (.str t),.val W,.val (.lst (am row)),.own (.lst (am au)),.val (.int l),p.2,.none] =
     .ok ((bP 0 l).map λx=>PV.int (x:Nat)) [.val (.str t),.val W,.val (.lst (am row)),.own (.lst (am au)),.val (.int l),p.2,.none] :=
    io (fO (x:=.int l) rfl ie) r2
   exact oP hd h)
 have f9:=e1;dsimp only at f9;rw[ft,show am ([]:List Tx)=[] from rfl,show(bP 0 row.length).flatMap (λl=>sJ t row l)=nH t row from rfl]at f9;clear e1;have hd:xz [.val (.str t),.val W,.val (.lst (am row)),.own (.lst []),.none,.none,.none] = .ok ((bP 0 row.length).map λx=>PV.int (x:Nat)) [.val (.str t),.val W,.val (.lst (am row)),.own (.lst []),.none,.none,.none] :=io (fO (io (fO (x:=.lst (am row)) rfl ie) hl) ie) r1;exact⟨s4,s5,ID hd f9⟩
def rF(t:Tx)(m:Nat):List Tx:=(bP 1 m).map λp=>part (bF 3 (t.take m)).flatten p (p+t.length)
def ge(t:Tx)(row:List Tx):List Tx:=if aO row 0=aO row (row.length-1)then rF t (row.length-1)else []
theorem Gf(t:Tx)(row:List Tx):(ge t row).length<=row.length:=by
 unfold ge;split
 ·unfold rF; rw[cD,rM]; lia
 ·simp
theorem O9(t:Tx)(m:Nat)(V1 V2:PV)(po:PO)(s4 s5:Slot)(F:Tx) : kQ [6,0] dU (ba a_ (dV 1) (aM (dV 0)) (aM (d2 aL (dV 0) (dL bz (aw (dV 2) (aB)))))) ((bP 1 m).map λx=>.int (x:Nat)) [] [.val (.str t),.val V1,.val V2,.own po,s4,s5,.val (.str F)] = .ok (am ((bP 1 m).map λp=>part F p (p+t.length))) [.val (.str t),.val V1,.val V2,.own po,s4,s5,.val (.str F)]:=by
 have hc:=kI (cap:=[6,0]) (dt:=dU) (de:=(ba a_ (dV 1) (aM (dV 0)) (aM (d2 aL (dV 0) (dL bz (aw (dV 2) (aB))))))) (ε:=[.val (.str t),.val V1,.val V2,.own po,s4,s5,.val (.str F)])
  (λ_=>ai) (λx=>match x with | .int i=>.str (part F i.toNat (i.toNat+t.length)) | _=>.non) ((bP 1 m).map λx=>.int (x:Nat))
  (by
   intro x hx;obtain⟨i,_,rfl⟩:=cO.mp hx;refine⟨by simp![eA,d9,dw,dU],λ_=>?_⟩;have hl:bz [.str t]=aa (.int (t.length:Nat)):=rfl;have ha:aL (.int i) (.int (t.length:Nat))=aa (.int ((i+t.length:Nat):Int)):=by show aa (PV.int _)=_; congr 2
   have s1:=oJ F i (i+t.length);simp only[mG];generalize part F i (i+t.length)=P at s1;generalize ((i+t.length:Nat):Int)=e at ha s1;generalize ((t.length:Nat):Int)=tl at hl ha;generalize ((i:Nat):Int)=ii at ha s1;simp![eA,d9,dw,ba,aM,hl,ha,s1]) []
 rw[hc,ft,n9.mpr (by simp)];congr 1;unfold am;rw[eE,eE];refine gF λi _=>?_;simp
theorem QG(t:Tx)(W:PV)(row au:List Tx)(s4 s5:Slot)(ht:t.length<=20)(hr:1<=row.length)(mR:row.length<=t.length+1)(hB:(au++ge t row).length<=100000):∃ s6, tM [.val (.str t),.val W,.val (.lst (am row)),.own (.lst (am au)),s4,s5,.none] = .ok .next [.val (.str t),.val W,.val (.lst (am row)),.own (.lst (am (au++ge t row))),s4,s5,s6]:=by
 have i1:bA (.lst (am row)) (.int 0)=aa (.str (aO row 0)):=lY (i:=0) ∅;have i2:=GS hr;have he:=mZ ao (aO row 0) (aO row (row.length-1));simp only[mL]at he;have wo:gd (.int 1)=aa (.int (-1)):=rfl;unfold ge at hB ⊢;by_cases q:aO row 0=aO row (row.length-1)
 ·rw[decide_eq_true q]at he;rw[if_pos q]at hB ⊢;have hl:=wZ row;have hs:cX (.int (row.length:Nat)) (.int 1)=aa (.int ((row.length-1:Nat):Int)):=by show aa (PV.int _)=_;congr 2; lia
  have s1:=oO t (row.length-1);have hm:iM (.str (t.take (row.length-1))) (.int 3)=aa (.str (bF 3 (t.take (row.length-1))).flatten):=by show(if 0<=(3:Int)/\(3:Int)<=100/\(t.take (row.length-1)).length<=100 then aa (PV.str (bF (3:Int).toNat (t.take (row.length-1))).flatten)else ae)=_;rw[if_pos ⟨by decide,by decide,by simp; lia⟩]; rfl
  have r1:ig [.int 1,.int ((row.length-1:Nat):Int)]=aa ((bP 1 (row.length-1)).map λx=>.int (x:Nat)):=sP (lo:=1) (hi:=row.length-1) ∅ ∅;have hc:=O9 t (row.length-1) W (.lst (am row)) (.lst (am au)) s4 s5 (bF 3 (t.take (row.length-1))).flatten;rw[show((bP 1 (row.length-1)).map λp=>part (bF 3 (t.take (row.length-1))).flatten p (p+t.length))=rF t (row.length-1)from rfl]at hc;have br:(am au).length+(am (rF t (row.length-1))).length<=bB:=by rw[gm,gm]; simp at hB; unfold bB; lia
  refine⟨.val (.str (bF 3 (t.take (row.length-1))).flatten),?_⟩;rw[← vp];generalize am (rF t (row.length-1))=TT at hc br;generalize (bP 1 (row.length-1)).map (λx=>PV.int (x:Nat))=RG at r1 hc;generalize (bF 3 (t.take (row.length-1))).flatten=F3 at hm hc;generalize t.take (row.length-1)=T1 at s1 hm;generalize ((row.length-1:Nat):Int)=m at hs s1 r1;generalize ((row.length:Nat):Int)=n at hl hs;generalize aO row 0=R1 at i1 he;generalize aO row (row.length-1)=R2 at i2 he;generalize am row=RW at i1 i2 hl hc;generalize am au=AC at br hc;have bM:dB (d2 (eqT ao) (d2 bA (dV 2) (dC (.int 0))) (d2 bA (dV 2) (d1 gd (dC (.int 1))))) [.val (.str t),.val W,.val (.lst RW),.own (.lst AC),s4,s5,.none] = .ok ai [.val (.str t),.val W,.val (.lst RW),.own (.lst AC),s4,s5,.none]:=by simp![i1,i2,wo,he]
  unfold tM;refine(uP bM).trans ?_;have hset:bH 6 (d2 iM (ba a_ (dV 0) (bW) (aM (d2 cX (dL bz (aw (dV 2) (aB))) (dC (.int 1))))) (dC (.int 3))) [.val (.str t),.val W,.val (.lst RW),.own (.lst AC),s4,s5,.none] = .ok .next [.val (.str t),.val W,.val (.lst RW),.own (.lst AC),s4,s5,.val (.str F3)]:=by simp![hl,hs,ba,bW,aM,s1,hm]
  refine(cK hset).trans ?_;have hrng:dL ig (aw (dC (.int 1)) (aw (d2 cX (dL bz (aw (dV 2) (aB))) (dC (.int 1))) (aB))) [.val (.str t),.val W,.val (.lst RW),.own (.lst AC),s4,s5,.val (.str F3)] = .ok RG [.val (.str t),.val W,.val (.lst RW),.own (.lst AC),s4,s5,.val (.str F3)] :=io (fO (kP _ _) (fO (gQ (io (fO (x:=.lst RW) rfl ie) hl) (kP _ _) hs) ie)) r1;have hx:dF (dD [6,0] (dL ig (aw (dC (.int 1)) (aw (d2 cX (dL bz (aw (dV 2) (aB))) (dC (.int 1))) (aB)))) (dU) (ba a_ (dV 1) (aM (dV 0)) (aM (d2 aL (dV 0) (dL bz (aw (dV 2) (aB))))))) [.val (.str t),.val W,.val (.lst RW),.own (.lst AC),s4,s5,.val (.str F3)] = .ok (.lst TT) [.val (.str t),.val W,.val (.lst RW),.own (.lst AC),s4,s5,.val (.str F3)]:=by unfold dF dD;rw[hrng,R.bind_ok,hc];rfl
  exact xr rfl hx rfl br
 ·rw[decide_eq_false q]at he;rw[if_neg q,ja];refine⟨.none,?_⟩;generalize aO row 0=R1 at i1 he;generalize aO row (row.length-1)=R2 at i2 he;generalize am row=RW at i1 i2;generalize am au=AC;simp![tM,i1,i2,wo,he]
theorem LI(t:Tx)(W RW:PV)(ms:List Tx)(s4 s5 s6:Slot)(hm:ms.length<=3500) : uM [.val (.str t),.val W,.val RW,.own (.lst (am ms)),s4,s5,s6] = .ok (.ret (.val (.lst (am (bu (ca (eT ms t))))))) [.val (.str t),.val W,.val RW,.val (.lst (am ms)),s4,s5,s6]:=by
 have hc:=kI (cap:=[0]) (dt:=(dB (d2 (eqT ai) (dV 0) (dV 1)))) (de:=dV 0) (ε:=[.val (.str t),.val W,.val RW,.val (.lst (am ms)),s4,s5,s6]) (λx=>match x with | .str z=>decide (z≠t) | _=>ao) (λx=>x) (am ms)
  (by intro x hx;obtain⟨z,_,rfl⟩:=cO.mp hx;refine⟨?_,λ_=>by simp![eA,d9,dw]⟩;have he:=mZ ai z t;simp only[tP]at he;simp![eA,d9,dw,he]) []
 have hf:((am ms).filter (λx=>match x with | .str z=>decide (z≠t) | _=>ao)).map (λx=>x)=am (eT ms t):=by rw[List.map_id'];unfold am eT;rw[v6];rfl
 rw[ft,hf]at hc;have hs:lr [.lst (am (eT ms t))]=aa (.lst (am (bu (ca (eT ms t))))):=by show(gA (am (eT ms t))).bind _=_;have h1:=yE (eT ms t);have h2:(eT ms t).length<=ms.length:=v5 _ _;rw[oy,gI,if_pos ∅]
 generalize am (bu (ca (eT ms t)))=A at hs;generalize am (eT ms t)=B at hs hc;generalize am ms=C at hc;simp[uM,dJ,dF,dL,aw,aB,dD,cG,nB,dM,R.bind,aS,hc,E5,hs]
def lm(t:Tx)(w:Nat):List Tx:=nH t (bN t (w-1))++ge t (bN t (w-1))
def jt(t:Tx)(w:Nat):List Tx:=bu (ca (eT (lm t w) t))
theorem OQ(t:Tx)(w:Nat)(h:Tv t w)(h9:t.length+2<=w+10):p7 a [.val (.str t),.val (.int w)] = .ok (.val (.lst (am (jt t w)))) [.val (.str t),.val (.int w)]:=by
 have b1:=h.w1;have b2:=h.w4;have b3:=h.h1;have e1:=Mm (a:=a) (t:=t) b1 ∅ ∅;have ub:=su t (w-1);obtain⟨s4,s5,e2⟩:=K9 (a:=a) t (.int w) (bN t (w-1)) ∅ ∅;have l1:=Ec (t:=t) (row:=bN t (w-1)) ∅;have l2:=Gf t (bN t (w-1));obtain⟨s6,e3⟩:=QG t (.int w) (bN t (w-1)) (nH t (bN t (w-1))) s4 s5 ∅ ∅ ∅ (by rw[dq]; lia);have e4:=LI t (.int w) (.lst (am (bN t (w-1)))) (lm t w) s4 s5 s6 (by unfold lm; rw[dq]; lia);have hb:yaC a [.val (.str t),.val (.int w),.none,.none,.none,.none,.none] = .ok (.ret (.val (.lst (am (jt t w))))) [.val (.str t),.val (.int w),.val (.lst (am (bN t (w-1)))),.val (.lst (am (lm t w))),s4,s5,s6]:=by
  rw[SX];have h0:bH 2 (aV (aG (pM a) (gV (dV 0) (gV (dV 1) (Pu.bO))))) [.val (.str t),.val (.int w),.none,.none,.none,.none,.none] = .ok .next [.val (.str t),.val (.int w),.val (.lst (am (bN t (w-1)))),.none,.none,.none,.none]:=by refine nD (x:=.lst (am (bN t (w-1)))) (ε1:=[.val (.str t),.val (.int w),.none,.none,.none,.none,.none]) (nG ?_);generalize am (bN t (w-1))=RW at e1;generalize pM a=G at e1;simp![e1]
  have h1:cQ 3 (dL b_ aB) [.val (.str t),.val (.int w),.val (.lst (am (bN t (w-1)))),.none,.none,.none,.none] = .ok .next [.val (.str t),.val (.int w),.val (.lst (am (bN t (w-1)))),.own (.lst []),.none,.none,.none]:=qr (by simp);refine(cK h0).trans ?_;refine(cK h1).trans ?_;refine(cK (d1:=λε=>cr (cq 4 xz (yW a) ε)) e2).trans ?_;refine(cK e3).trans ?_;exact e4
 unfold p7;generalize yaC a=D at hb;generalize am (jt t w)=A at hb;generalize am (lm t w)=B at hb;generalize am (bN t (w-1))=C at hb;simp[bt,eQ,bw,bF,hb,back,aS,R.bind,jq]
end
theorem Ck{p:Prop}[Decidable p]{z:Tx}{L:List Tx}:z∈(if p then L else [])↔p/\z∈L:=by split <;> simp[*]
def l0(t:Tx)(row:List Tx)(z:Tx):Prop:=∃ s e g l,s<e/\e<=g/\g<l/\l<row.length/\aO row s=aO row g/\aO row e=aO row l/\z=eG t s e g l
theorem Ew{t:Tx}{row:List Tx}{z:Tx}:z∈nj t row↔l0 t row z:=by
 unfold nj ri lh nv l0;simp only[v7,HI,Ck,gZ];constructor
 ·rintro⟨s,hs,g,hg,q1,e,he,l,hl,q2,rfl⟩;exact⟨s,e,g,l,∅,∅,∅,hl.2,q1,q2,rfl⟩
 ·rintro⟨s,e,g,l,h1,h2,h3,h4,q1,q2,rfl⟩;exact⟨s,⟨∅,∅⟩,g,⟨∅,∅⟩,q1,e,⟨∅,∅⟩,l,⟨∅,h4⟩,q2,rfl⟩
theorem LX{t:Tx}{row:List Tx}{z:Tx}:z∈nH t row↔l0 t row z:=by
 unfold nH sJ mx stI l0;simp only[v7,HI,Ck,gZ];constructor
 ·rintro⟨l,hl,j,hj,q2,k,hk,i,hi,q1,rfl⟩;exact⟨i,j,k,l,∅,∅,∅,hl.2,q1,q2,rfl⟩
 ·rintro⟨s,e,g,l,h1,h2,h3,h4,q1,q2,rfl⟩;exact⟨l,⟨∅,h4⟩,e,⟨∅,∅⟩,q2,g,⟨∅,∅⟩,s,⟨∅,∅⟩,q1,rfl⟩
theorem Sm{R:Tx}{m w p:Nat}(hR:R.length=m)(w1:1<=w)(hw:w<=m+1)(hp:p<=m):gc (R.drop p++R.take p) w=part (bF 3 R).flatten p (p+(m+w-1)):=by
 have hl:(R.drop p++R.take p).length=m:=by simp; lia
 unfold gc part;rw[hl,v8];have e3:((bF 3 R).flatten).drop p=(R.drop p++R.take p)++((R.drop p++R.take p)++R.drop p):=by
  have:(bF 3 R).flatten=R++(R++R):=by simp[bF]
  rw[this,J8 ∅];simp only[gH];rw[mK,← gH (R.take p),mK]
 rw[e3];generalize R.drop p++R.take p=Z at hl;obtain⟨v,rfl⟩:∃ v,w=v+1:=⟨w-1,∅⟩
 cases v with
 | zero=>
  have:(bF (0+1) Z).flatten=Z:=by simp
  rw[this,Dp ∅]
 | succ v=>
  have:(bF (v+1+1) Z).flatten=(Z++Z)++(bF v Z).flatten:=by simp[bF]
  rw[this,← gH,Dp (l₁:=Z++Z) (by simp; lia),Dp (l₁:=Z++Z) (by simp; lia)]
section
variable{a:Ad}
theorem Q0{α:Type}(xs:List α)(k:Nat)(h1:1<=k):dN xs (aa (-(k:Int))) ae=xs.drop (xs.length-k):=by
 unfold dN;rw[show HT.sIx xs.length xs.length ae=xs.length from rfl];have:HT.sIx xs.length 0 (aa (-(k:Int)))=xs.length-k:=by show(if(-(k:Int))<0 then((-(k:Int))+(xs.length:Int)).toNat else min (-(k:Int)).toNat xs.length)=_;rw[if_pos ∅];lia
 rw[this,km (by simp)]
def u9(a:Ad):aj->R aH:=bH 5 (d2 aL (dV 5) (aV (aG (lj a) (gV (dV 0) (gO 1 (gV (dF (dL b_ (aw (ba a_ (dV 5) (bW) (aM (dC (.int 2)))) (aw (ba a_ (dV 5) (bW) (aM (dC (.int 3)))) (aw (ba a_ (dV 5) (aM (dC (.int 1))) (aM (dC (.int 3)))) (aw (dC (.str [97])) (aw (dC (.str [98])) (aw (ba a_ (dV 5) (aM (d1 gd (dC (.int 2)))) (bW)) (aB))))))))) (Pu.bO)))))))
def vA:aj->R Bool:=dB (d2 (jl λi j=>decide (i<j)) (dL bz (aw (dV 5) (aB))) (d2 cX (dV 3) (dC (.int 2))))
theorem To:yaA a=aF (bH 4 (d2 aL (dC (.int 1)) (aV (aG (lj a) (gV (dV 0) (gO 1 (gV (dF (dL b_ (aw (dC (.int 1)) (aw (dC (.int 1)) (aw (dC (.int 2)) (aw (dC (.int 2)) (aw (dC (.int 3)) (aB)))))))) (Pu.bO)))))))) (aF (bH 5 (aV (aG (oA a) (gV (dV 0) (gO 1 (gV (dV 2) (gV (dC (.int 4)) (Pu.bO)))))))) (aF (λε=>cr (eI vA (u9 a) 1000 ε)) (dJ (dL sA (aw (ba a_ (dV 5) (bW) (aM (dL u5 (aw (dV 4) (aw (d2 cX (dV 3) (aV (aG (mw a) (gV (dV 0) (gO 1 (gV (dC (.int 3)) (Pu.bO))))))) (aB)))))) (aw (dV 4) (aB))))))):=rfl
theorem Ot(ns:List Int)(xs:List PV)(L M W:PV)(z:Tx)(hz:2<=z.length)(hz2:z.length<=12)(hc:∀ c∈z,c∈cN)(hx:xs.length<=900):∃ y:Tx,1<=y.length/\y.length<=3/\(∀ c∈y,c∈cN) /\ u9 a [cf ns,.own (.lst xs),.val L,.val M,.val W,.val (.str z)] = .ok .next [cf ns,.own (.lst (xs++[.int 0])),.val L,.val M,.val W,.val (.str (z++y))]:=by
 obtain⟨x,hm,hp⟩:=BK (a:=a) ns xs [.str (z.take 2),.str (z.take 3),.str (part z 1 3),.str [97],.str [98],.str (z.drop (z.length-2))] ∅ (by simp);obtain⟨y,rfl,y1,y2,y3⟩:∃ y:Tx,x = .str y/\1<=y.length/\y.length<=3/\∀ c∈y,c∈cN:=by
  simp only[cb,kn,or_false]at hm;rcases hm with rfl | rfl | rfl | rfl | rfl | rfl
  ·exact⟨_,rfl,by simp; lia,by simp; lia,λc h=>hc c (jC h)⟩
  ·exact⟨_,rfl,by simp; lia,by simp; lia,λc h=>hc c (jC h)⟩
  ·exact⟨_,rfl,by unfold part; simp; lia,by unfold part; simp; lia,λc h=>hc c (n_ (jC h))⟩
  ·exact⟨_,rfl,by simp,by simp,by simp[cN]⟩
  ·exact⟨_,rfl,by simp,by simp,by simp[cN]⟩
  ·exact⟨_,rfl,by simp; lia,by simp; lia,λc h=>hc c (n_ h)⟩
 refine⟨y,y1,y2,y3,?_⟩;have s1:a_ (.str z) ae (aa 2)=aa (.str (z.take 2)):=oO z 2;have s2:a_ (.str z) ae (aa 3)=aa (.str (z.take 3)):=oO z 3;have s3:a_ (.str z) (aa 1) (aa 3)=aa (.str (part z 1 3)):=oJ z 1 3;have s4:a_ (.str z) (aa (-2)) ae=aa (.str (z.drop (z.length-2))):=by show aa (PV.str (dN z (aa (-((2:Nat):Int))) ae))=_;rw[Q0 _ _ (by decide)]
 have hn:gd (.int 2)=aa (.int (-2)):=rfl;have ha:aL (.str z) (.str y)=aa (.str (z++y)):=ka (by unfold bB; lia);generalize z++y=ZY at ha;generalize z.take 2=Z1 at s1 hp;generalize z.take 3=Z2 at s2 hp;generalize part z 1 3=Z3 at s3 hp;generalize z.drop (z.length-2)=Z4 at s4 hp;unfold u9;generalize lj a=G at hp ⊢;have hL:dF (dL b_ (aw (ba a_ (dV 5) (bW) (aM (dC (.int 2)))) (aw (ba a_ (dV 5) (bW) (aM (dC (.int 3)))) (aw (ba a_ (dV 5) (aM (dC (.int 1))) (aM (dC (.int 3)))) (aw (dC (.str [97])) (aw (dC (.str [98])) (aw (ba a_ (dV 5) (aM (d1 gd (dC (.int 2)))) (bW)) (aB)))))))) [cf ns,.own (.lst xs),.val L,.val M,.val W,.val (.str z)] = .ok (.lst [.str Z1,.str Z2,.str Z3,.str [97],.str [98],.str Z4]) [cf ns,.own (.lst xs),.val L,.val M,.val W,.val (.str z)]:=by simp![ba,aM,bW,s1,s2,s3,s4,hn]
 have hd:aV (aG G (gV (dV 0) (gO 1 (gV (dF (dL b_ (aw (ba a_ (dV 5) (bW) (aM (dC (.int 2)))) (aw (ba a_ (dV 5) (bW) (aM (dC (.int 3)))) (aw (ba a_ (dV 5) (aM (dC (.int 1))) (aM (dC (.int 3)))) (aw (dC (.str [97])) (aw (dC (.str [98])) (aw (ba a_ (dV 5) (aM (d1 gd (dC (.int 2)))) (bW)) (aB))))))))) (Pu.bO))))) [cf ns,.own (.lst xs),.val L,.val M,.val W,.val (.str z)] = .ok (.str y) [cf ns,.own (.lst (xs++[.int 0])),.val L,.val M,.val W,.val (.str z)]:=by generalize dF (dL b_ _)=D at hL ⊢;simp[aV,aG,gV,gO,Pu.bO,dV,hL,R.bind,aS,cC,dZ,hp,e_,d8,eB,Ir]
 exact nD (gQ (x:=.str z) rfl hd ha)
theorem Fh(ns:List Int)(xs:List PV)(L W:PV)(most:Nat)(z:Tx)(hm:2<=most):vA [cf ns,.own (.lst xs),.val L,.val (.int most),.val W,.val (.str z)] = .ok (decide (z.length<most-2)) [cf ns,.own (.lst xs),.val L,.val (.int most),.val W,.val (.str z)]:=by
 have hl:bz [.str z]=aa (.int (z.length:Nat)):=rfl;have hs:cX (.int most) (.int 2)=aa (.int ((most-2:Nat):Int)):=by show aa (PV.int _)=_;congr 2; lia
 have hd:decide (((z.length:Nat):Int)<((most-2:Nat):Int))=decide (z.length<most-2):=by
  by_cases q:z.length<most-2
  ·rw[decide_eq_true q,decide_eq_true ∅]
  ·rw[decide_eq_false q,decide_eq_false ∅]
 rw[← hd];generalize ((most-2:Nat):Int)=m2 at hs;generalize ((z.length:Nat):Int)=zl at hl;simp![vA,hl,hs]
theorem yc{t:aj->R Bool}{db:aj->R aH}{n:Nat}{ε ε1 ε2:aj}(h:t ε = .ok ai ε1)(h2:db ε1 = .ok .next ε2):eI t db (n+1) ε=eI t db n ε2:=by rw[eI,h,R.bind_ok];simp only;rw[h2]
theorem ve{t:aj->R Bool}{db:aj->R aH}{n:Nat}{ε ε1:aj}(h:t ε = .ok ao ε1):eI t db (n+1) ε = .ok .next ε1:=by rw[eI,h,R.bind_ok]
theorem Oa(ns:List Int)(L W:PV)(most:Nat)(m6:6<=most)(m10:most<=10):∀ (k bx:Nat) (xs:List PV) (z:Tx),most-2-z.length<=k->k<bx->2<=z.length->z.length<=most->(∀ c∈z,c∈cN)->xs.length+k<=900 -> ∃ (ys:List PV) (y:Tx),most<=y.length+2/\y.length<=most/\(∀ c∈y,c∈cN)/\ys.length<=xs.length+k/\eI vA (u9 a) bx [cf ns,.own (.lst xs),.val L,.val (.int most),.val W,.val (.str z)] = .ok .next [cf ns,.own (.lst ys),.val L,.val (.int most),.val W,.val (.str y)]:=by
 intro k
 induction k with
 | zero=>
  intro bx xs z h1 h2 h3 h4 hc hx;obtain⟨f,rfl⟩:∃ f,bx=f+1:=⟨bx-1,∅⟩
  have c:=Fh ns xs L W most z ∅;rw[decide_eq_false ∅]at c;exact⟨xs,z,∅,h4,hc,∅,ve c⟩
 | succ k ih=>
  intro bx xs z h1 h2 h3 h4 hc hx;obtain⟨f,rfl⟩:∃ f,bx=f+1:=⟨bx-1,∅⟩
  have c:=Fh ns xs L W most z ∅;by_cases q:z.length<most-2
  ·rw[decide_eq_true q]at c;obtain⟨y,y1,y2,y3,hb⟩:=Ot (a:=a) ns xs L (.int most) W z h3 ∅ hc ∅;obtain⟨ys,v,v1,v2,v3,v4,hw⟩:=ih f (xs++[.int 0]) (z++y) (by simp; lia) ∅ (by simp; lia) (by simp; lia) (λd hd=>by
    rcases eM.mp hd with hd | hd
    ·exact hc d hd
    ·exact y3 d hd) (by simp; lia)
   refine⟨ys,v,v1,v2,v3,?_,(yc c hb).trans hw⟩;simp at v4; lia
  ·rw[decide_eq_false q]at c;exact⟨xs,z,∅,h4,hc,∅,ve c⟩
theorem Qx(ns:List Int)(xs:List PV)(low most:Nat)(l2:2<=low)(l4:low<=4)(m6:6<=most)(m10:most<=10)(hx:xs.length<=400):∃ (t:Tx) (w:Nat) (ys:List PV),2<=w/\w<=4/\most<=t.length+2/\t.length<=most/\(∀ c∈t,c∈cN)/\ys.length<=xs.length+30 /\ pJ a [cf ns,.own (.lst xs),.val (.int low),.val (.int most)] = .ok (.val (.tup [.str t,.int w])) [cf ns,.own (.lst ys),.val (.int low),.val (.int most)]:=by
 obtain⟨f,hf,hp⟩:=BK (a:=a) ns xs [.int 1,.int 1,.int 2,.int 2,.int 3] ∅ (by decide);obtain⟨w0,rfl,f0,f1⟩:∃ w0:Nat,f = .int w0/\1<=w0/\w0<=3:=by
  simp only[cb,kn,or_false]at hf;rcases hf with rfl | rfl | rfl | rfl | rfl
  ·exact⟨1,rfl,by decide,by decide⟩
  ·exact⟨1,rfl,by decide,by decide⟩
  ·exact⟨2,rfl,by decide,by decide⟩
  ·exact⟨2,rfl,by decide,by decide⟩
  ·exact⟨3,rfl,by decide,by decide⟩
 obtain⟨z,y1,z1,z2,zabc,hy1,hz⟩:=P5 (a:=a) ns (xs++[.int 0]) low 4 l4 (by decide) (by simp; lia);simp only[dq,ti]at hy1;obtain⟨y2,z',c1,c2,c3,hy2,hw⟩:=Oa (a:=a) ns (.int low) (.int ((w0+1:Nat):Int)) most m6 m10 10 1000 y1 z ∅ ∅ ∅ ∅ zabc ∅;obtain⟨v,v0,v1,hv⟩:=yY (a:=a) ns y2 3 (by decide) ∅;obtain⟨d,rfl⟩:∃ d:Nat,v=d:=⟨v.toNat,∅⟩
 obtain⟨n,hn,n1,n2⟩:∃ n:Nat,u5 [.int ((w0+1:Nat):Int),.int ((most:Int)-d)]=aa (.int n)/\most<=n+2/\n<=most:=by refine⟨most-d,?_,∅,∅⟩;show aa (PV.int (if((most:Int)-d) > ((w0+1:Nat):Int)then((most:Int)-d)else((w0+1:Nat):Int)))=_;congr 2;split <;> lia
 refine⟨z'.take n,w0+1,y2++[.int 0],∅,∅,by simp; lia,by simp; lia,λc h=>c3 c (jC h),by simp; lia,?_⟩;have lN:aL (.int 1) (.int w0)=aa (.int ((w0+1:Nat):Int)):=by show aa (PV.int _)=_;congr 2; lia
 have jZ:cX (.int most) (.int d)=aa (.int ((most:Int)-d)):=rfl;have wR:=oO z' n;have hb:yaA a [cf ns,.own (.lst xs),.val (.int low),.val (.int most),.none,.none] = .ok (.ret (.val (.tup [.str (z'.take n),.int ((w0+1:Nat):Int)]))) [cf ns,.own (.lst (y2++[.int 0])),.val (.int low),.val (.int most),.val (.int ((w0+1:Nat):Int)),.val (.str z')]:=by
  rw[To];generalize (most:Int)-d=md at hn jZ;generalize ((d:Nat):Int)=di at hv jZ;generalize ((w0+1:Nat):Int)=wi at hn lN hw ⊢;generalize z'.take n=ZN at wR ⊢;generalize ((n:Nat):Int)=ni at hn wR;have k1:bH 4 (d2 aL (dC (.int 1)) (aV (aG (lj a) (gV (dV 0) (gO 1 (gV (dF (dL b_ (aw (dC (.int 1)) (aw (dC (.int 1)) (aw (dC (.int 2)) (aw (dC (.int 2)) (aw (dC (.int 3)) (aB)))))))) (Pu.bO))))))) [cf ns,.own (.lst xs),.val (.int low),.val (.int most),.none,.none] = .ok .next [cf ns,.own (.lst (xs++[.int 0])),.val (.int low),.val (.int most),.val (.int wi),.none]:=by generalize lj a=G at hp ⊢;simp![hp,lN]
  have k2:bH 5 (aV (aG (oA a) (gV (dV 0) (gO 1 (gV (dV 2) (gV (dC (.int 4)) (Pu.bO))))))) [cf ns,.own (.lst (xs++[.int 0])),.val (.int low),.val (.int most),.val (.int wi),.none] = .ok .next [cf ns,.own (.lst y1),.val (.int low),.val (.int most),.val (.int wi),.val (.str z)]:=by have uc:oA a [cf ns,.own (.lst (xs++[.int 0])),.val (.int low),.val (.int 4)] = .ok (.val (.str z)) [cf ns,.own (.lst y1),.val (.int low),.val (.int 4)]:=hz;generalize oA a=G at uc ⊢;simp![uc]
  refine(cK k1).trans ?_;refine(cK k2).trans ?_;refine(cK (d1:=λε=>cr (eI vA (u9 a) 1000 ε)) (by show cr _=_; rw[hw]; rfl)).trans ?_;generalize mw a=G at hv ⊢;simp![hv,jZ,hn,ba,aM,bW,wR]
 unfold pJ;generalize yaA a=D at hb;simp[bt,eQ,bw,bF,hb,back,aS,R.bind,jq]
end
end Sh
namespace Mx
open L2 Pu
theorem u_{z:Tx}{w:Nat}(hw:1<=w):(aW z w).length=z.length+1-w:=by rw[ny z w hw]; simp
def bJ(t:Tx)(w:Nat):List Tx:=(eF t.length).filter λz=>(aW z w).isPerm (aW t w)
theorem UK{t z:Tx}{w:Nat}:z∈bJ t w↔z.length=t.length/\(∀ c∈z,c∈cN)/\(aW z w).Perm (aW t w):=by unfold bJ;rw[kh,p9,Di];exact⟨λ⟨⟨a,b⟩,c⟩=>⟨a,b,c⟩,λ⟨a,b,c⟩=>⟨⟨a,b⟩,c⟩⟩
theorem KO(t:Tx)(w:Nat):(bJ t w).Pairwise (λa b=>fj a b=ai):=(Em _).filter _
theorem Bt(t:Tx)(w:Nat):(bJ t w).Nodup:=(GG _).filter _
theorem Lu{t:Tx}{w:Nat}(hw:1<=w)(h1:w<=t.length)(ha:∀ c∈t,c∈cN):pW w (bu (aW t w))=bJ t w:=by
 have hp:=iU (aW t w);have hl:(bu (aW t w)).length=t.length+1-w:=by rw[hp.length_eq,u_ hw]
 have h:=HQ (w:=w) (ls:=bu (aW t w)) hw ∅ λx hx=>by obtain⟨a,b⟩:=Fq (hp.mem_iff.mp hx);exact⟨a,λc hc=>ha c (b c hc)⟩
 rw[h,hl];unfold bJ;rw[show w-1+(sW t+1-w)=sW t by lia];refine J5 λz _=>?_;rw[o6,Di,Di];exact⟨λq=>q.trans hp,λq=>q.trans hp.symm⟩
end Mx
namespace Sh
open L2 Pu Mx
def sg(s e g l i:Nat):Nat:=if i<s then i else if i<s+(l-g)then g+(i-s)else if i<s+(l-g)+(g-e)then e+(i-(s+(l-g)))else if i<l then s+(i-(s+(l-g)+(g-e)))else i
theorem sv{t:Tx}{i j:Nat}(h:j<=t.length):(part t i j).length=j-i:=by unfold part; simp; lia
theorem Ar{t:Tx}{i j k:Nat}(h:k<j-i):(part t i j)[k]?=t[i+k]?:=by unfold part;rw[jb,if_pos h,kq]
theorem xo{t:Tx}{s e g l:Nat}(h1:s<e)(h2:e<=g)(h3:g<l)(h4:l<=t.length):(eG t s e g l).length=t.length:=by unfold eG;rw[dq,dq,dq,dq,sv h4,sv ∅,sv ∅,jW,jX];lia
theorem yI{t:Tx}{s e g l:Nat}(h1:s<e)(h2:e<=g)(h3:g<l)(h4:l<=t.length)(i:Nat):(eG t s e g l)[i]?=t[sg s e g l i]?:=by
 have e1:(t.take s).length=s:=by simp; lia
 have e2:=sv (t:=t) (i:=g) (j:=l) h4;have e3:=sv (t:=t) (i:=e) (j:=g) ∅;have e4:=sv (t:=t) (i:=s) (j:=e) ∅;unfold eG sg;by_cases c1:i<s
 ·rw[if_pos c1,gH,gH,gH,fJ ∅,jb,if_pos c1]
 ·rw[if_neg c1,gH,gH,gH,jy ∅,e1];by_cases c2:i<s+(l-g)
  ·rw[if_pos c2,fJ ∅,Ar ∅]
  ·rw[if_neg c2,jy ∅,e2];by_cases c3:i<s+(l-g)+(g-e)
   ·rw[if_pos c3,fJ ∅,Ar ∅,show i-s-(l-g)=i-(s+(l-g)) by lia]
   ·rw[if_neg c3,jy ∅,e3];by_cases c4:i<l
    ·rw[if_pos c4,fJ ∅,Ar ∅];congr 1; lia
    ·rw[if_neg c4,jy ∅,e4,kq];congr 1; lia
theorem uu{s e g l i:Nat}(h:i<s):sg s e g l i=i:=if_pos h
theorem qp{s e g l i:Nat}(a:¬ i<s)(h:i<s+(l-g)):sg s e g l i=g+(i-s):=by unfold sg; rw[if_neg a,if_pos h]
theorem sG{s e g l i:Nat}(a:¬ i<s+(l-g))(h:i<s+(l-g)+(g-e)):sg s e g l i=e+(i-(s+(l-g))):=by unfold sg; rw[if_neg λz=>a (tR _ z),if_neg a,if_pos h]
theorem rT{s e g l i:Nat}(a:¬ i<s+(l-g)+(g-e))(h:i<l):sg s e g l i=s+(i-(s+(l-g)+(g-e))):=by unfold sg; rw[if_neg λz=>a (tR _ (tR _ z)),if_neg λz=>a (tR _ z),if_neg a,if_pos h]
theorem uj{s e g l i:Nat}(a:¬ i<s+(l-g)+(g-e))(h:¬ i<l):sg s e g l i=i:=by unfold sg; rw[if_neg λz=>a (tR _ (tR _ z)),if_neg λz=>a (tR _ z),if_neg a,if_neg h]
theorem Th{s e g l:Nat}(h1:s<e)(h2:e<=g)(h3:g<l)(i:Nat):sg s e g l (i+1)=sg s e g l i+1\/(sg s e g l (i+1)=g/\sg s e g l i+1=s)\/(sg s e g l (i+1)=e/\sg s e g l i+1=l)\/(sg s e g l (i+1)=s/\sg s e g l i+1=l/\e=g)\/(sg s e g l (i+1)=s/\sg s e g l i+1=g)\/(sg s e g l (i+1)=l/\sg s e g l i+1=e):=by
 by_cases a1:i+1<s
 ·exact .inl (by rw[uu a1,uu (zJ a1)])
 by_cases a2:i+1<s+(l-g)
 ·by_cases b:i<s
  ·exact .inr (.inl ⟨by rw[qp a1 a2]; lia,by rw[uu b]; lia⟩)
  ·exact .inl (by rw[qp a1 a2,qp b (zJ a2)]; lia)
 by_cases a3:i+1<s+(l-g)+(g-e)
 ·by_cases b:i<s+(l-g)
  ·exact .inr (.inr (.inl ⟨by rw[sG a2 a3]; lia,by rw[qp ∅ b]; lia⟩))
  ·exact .inl (by rw[sG a2 a3,sG b (zJ a3)]; lia)
 by_cases a4:i+1<l
 ·by_cases b:i<s+(l-g)+(g-e)
  ·have q:sg s e g l (i+1)=s:=by rw[rT a3 a4]; lia
   by_cases c:i<s+(l-g)
   ·exact .inr (.inr (.inr (.inl ⟨q,by rw[qp ∅ c]; lia,∅⟩)))
   ·exact .inr (.inr (.inr (.inr (.inl ⟨q,by rw[sG c b]; lia⟩))))
  ·exact .inl (by rw[rT a3 a4,rT b (zJ a4)]; lia)
 ·by_cases b:i<l
  ·exact .inr (.inr (.inr (.inr (.inr ⟨by rw[uj a3 a4]; lia,by rw[rT ∅ b]; lia⟩))))
  ·exact .inl (by rw[uj a3 a4,uj ∅ b])
theorem Aq{s e g l:Nat}(h1:s<e)(h2:e<=g)(h3:g<l)(j:Nat):sg s e g l (sg s (s+(l-g)) (s+(l-g)+(g-e)) l j)=j:=by
 obtain⟨q,hq⟩:∃ q,q=s+(l-g):=⟨_,rfl⟩
 obtain⟨r,hr⟩:∃ r,r=q+(g-e):=⟨_,rfl⟩
 rw[← hq,← hr];have c1:s+(l-r)=e:=∅
 have c2:e+(r-q)=g:=∅
 by_cases a1:j<s
 ·rw[uu a1,uu a1]
 by_cases a2:j<s+(l-r)
 ·rw[qp a1 a2,rT (by rw[← hq,← hr]; exact tL.mpr (Kb ..)) ∅,← hq,← hr,v8];exact Kc (tL.mp a1)
 by_cases a3:j<s+(l-r)+(r-q)
 ·rw[sG a2 a3,sG (by rw[← hq]; exact tL.mpr (Kb ..)) ∅,← hq,v8,c1];exact Kc ∅
 by_cases a4:j<l
 ·rw[rT a3 a4,qp (tL.mpr (Kb ..)) ∅,v8,c1,c2];exact Kc ∅
 ·rw[uj a3 a4,uj ∅ a4]
theorem HL{s e g l m:Nat}(h1:s<e)(h2:e<=g)(h3:g<l)(h4:l<=m){i:Nat}(h:i<m):sg s e g l i<m:=by
 unfold sg
 (repeat' split) <;> lia
theorem P9{s e g l:Nat}(h1:s<e)(h2:e<=g)(h3:g<l){i j:Nat}(h:sg s e g l i=sg s e g l j):i=j:=by
 have r:∀ k,sg s (s+(l-g)) (s+(l-g)+(g-e)) l (sg s e g l k)=k:=λk=>by have:=Aq (s:=s) (e:=s+(l-g)) (g:=s+(l-g)+(g-e)) (l:=l) ∅ ∅ ∅ k;rwa[show s+(l-(s+(l-g)+(g-e)))=e by lia,show e+(s+(l-g)+(g-e)-(s+(l-g)))=g by lia]at this
 rw[← r i,h,r j]
theorem NW{s e g l m:Nat}(h1:s<e)(h2:e<=g)(h3:g<l)(h4:l<=m):((bQ m).map (sg s e g l)).Perm (bQ m):=by
 rw[Dh ?_ List.nodup_range]
 ·intro j;rw[cO,nK];constructor
  ·rintro⟨i,hi,rfl⟩;exact HL h1 h2 h3 h4 (nK.mp hi)
  ·intro hj;exact⟨sg s (s+(l-g)) (s+(l-g)+(g-e)) l j,nK.mpr (HL ∅ ∅ ∅ h4 hj),Aq h1 h2 h3 j⟩
 ·show List.Pairwise _ _;rw[CU];exact List.Pairwise.imp (λcP qT=>cP (P9 h1 h2 h3 qT)) (List.nodup_range (n:=m))
def Pc(t:Tx)(v i j:Nat):Prop:=∀ k,k<v->t[i+k]?=t[j+k]?
theorem xZ{t:Tx}{v s e g l:Nat}(h1:s<e)(h2:e<=g)(h3:g<l)(h4:l<=t.length)(p1:Pc t v s g)(p2:Pc t v e l):∀ k,k<=v->∀ i,(eG t s e g l)[i+k]?=t[sg s e g l i+k]?
 | 0,_,i=>yI h1 h2 h3 h4 i
 | k+1,hk,i=>by
  have ih:=xZ h1 h2 h3 h4 p1 p2 k ∅ (i+1);rw[show i+(k+1)=i+1+k by lia,ih,show sg s e g l i+(k+1)=sg s e g l i+1+k by lia];rcases Th h1 h2 h3 i with q | ⟨q,r⟩ | ⟨q,r⟩ | ⟨q,r,u⟩ | ⟨q,r⟩ | ⟨q,r⟩ <;> rw[q]
  ·rw[r]; exact(p1 k ∅).symm
  ·rw[r]; exact p2 k ∅
  ·rw[r,p1 k ∅,← u]; exact p2 k ∅
  ·rw[r]; exact p1 k ∅
  ·rw[r]; exact(p2 k ∅).symm
theorem ql{t z:Tx}{i j w:Nat}(h:∀ k,k<w->z[i+k]?=t[j+k]?):(z.drop i).take w=(t.drop j).take w:=by
 refine ko λk=>?_;rw[jb,jb];split
 ·rename_i hk;rw[kq,kq]; exact h k hk
 ·rfl
theorem p6{t:Tx}{v i j:Nat}(h:(t.drop i).take v=(t.drop j).take v):Pc t v i j:=λk hk=>by have:=congrArg (λl:Tx=>l[k]?) h;simpa[jb,hk,kq]using this
theorem oY{t:Tx}{v i:Nat}(h:i<t.length+1-v):aO (bN t v) i=(t.drop i).take v:=by unfold Sh.aO bN;simp[h]
theorem NE{t:Tx}{w s e g l:Nat}(w1:1<=w)(h1:s<e)(h2:e<=g)(h3:g<l)(h4:l+w<=t.length+1)(p1:Pc t (w-1) s g)(p2:Pc t (w-1) e l):(aW (eG t s e g l) w).Perm (aW t w):=by
 have hl:l<=t.length:=∅
 rw[ny _ _ w1,ny _ _ w1,xo h1 h2 h3 hl];have:(bQ (t.length+1-w)).map (λi=>((eG t s e g l).drop i).take w)=((bQ (t.length+1-w)).map (sg s e g l)).map λj=>(t.drop j).take w:=by rw[eE];refine gF λi _=>?_;exact ql λk hk=>xZ h1 h2 h3 hl p1 p2 k ∅ i
 rw[this];exact(NW h1 h2 h3 ∅).map _
theorem Gq{s e g l:Nat}(h1:s<e)(h2:e<=g)(h3:g<l):sg s e g l s=g:=by unfold sg; (repeat' split) <;> lia
theorem LR{s e g l:Nat}(h1:s<e)(h2:e<=g)(h3:g<l):sg s e g l (s+(l-g)+(g-e))=s:=by unfold sg; (repeat' split) <;> lia
theorem Qa{s e g l:Nat}(h1:s<e)(h2:e<=g)(h3:g<l):sg s e g l l=l:=by unfold sg; (repeat' split) <;> lia
theorem LH{s e g l:Nat}(h1:s<e)(h2:e<=g)(h3:g<l):sg s e g l (s+(l-g))=e\/(sg s e g l (s+(l-g))=s/\e=g):=by unfold sg; (repeat' split) <;> lia
theorem NJ{t:Tx}{s e g l:Nat}(h1:s<e)(h2:e<=g)(h3:g<l)(h4:l<=t.length):eG (eG t s e g l) s (s+(l-g)) (s+(l-g)+(g-e)) l=t:=by refine ko λi=>?_;rw[yI ∅ ∅ ∅ (by rw[xo h1 h2 h3 h4]; exact h4),yI h1 h2 h3 h4,Aq h1 h2 h3]
theorem xj{t:Tx}{w:Nat}(w1:1<=w){z:Tx}:l0 t (bN t (w-1)) z↔∃ s e g l,s<e/\e<=g/\g<l/\l+w<=t.length+1/\Pc t (w-1) s g/\Pc t (w-1) e l/\z=eG t s e g l:=by
 unfold l0;rw[su];constructor
 ·rintro⟨s,e,g,l,h1,h2,h3,h4,q1,q2,rfl⟩;rw[oY ∅,oY ∅]at q1 q2;exact⟨s,e,g,l,h1,h2,h3,∅,p6 q1,p6 q2,rfl⟩
 ·rintro⟨s,e,g,l,h1,h2,h3,h4,q1,q2,rfl⟩;refine⟨s,e,g,l,h1,h2,h3,∅,?_,?_,rfl⟩
  ·rw[oY ∅,oY ∅]; exact ql q1
  ·rw[oY ∅,oY ∅]; exact ql q2
theorem Rb{t z:Tx}{w:Nat}(w1:1<=w)(h:l0 t (bN t (w-1)) z):l0 z (bN z (w-1)) t:=by
 obtain⟨s,e,g,l,h1,h2,h3,h4,q1,q2,rfl⟩:=(xj w1).mp h;have hl:l<=t.length:=∅
 have hw:=λk hk i=>xZ h1 h2 h3 hl q1 q2 k hk i;refine(xj w1).mpr ⟨s,s+(l-g),s+(l-g)+(g-e),l,∅,∅,∅,by rw[xo h1 h2 h3 hl]; exact h4,λk hk=>?_,λk hk=>?_,(NJ h1 h2 h3 hl).symm⟩
 ·rw[hw k ∅,hw k ∅,Gq h1 h2 h3,LR h1 h2 h3];exact(q1 k hk).symm
 ·rw[hw k ∅,hw k ∅,Qa h1 h2 h3];rcases LH h1 h2 h3 with q | ⟨q,r⟩ <;> rw[q]
  ·exact q2 k hk
  ·rw[q1 k hk,← r]; exact q2 k hk
theorem D4{t z:Tx}{w:Nat}(w1:1<=w)(h:l0 t (bN t (w-1)) z):z.length=t.length/\(aW z w).Perm (aW t w)/\∀ c∈z,c∈t:=by
 obtain⟨s,e,g,l,h1,h2,h3,h4,q1,q2,rfl⟩:=(xj w1).mp h;refine⟨xo h1 h2 h3 ∅,NE w1 h1 h2 h3 h4 q1 q2,λc hc=>?_⟩;unfold eG part at hc;simp only[eM]at hc;rcases hc with(((hc | hc) | hc) | hc) | hc
 ·exact jC hc
 ·exact n_ (jC hc)
 ·exact n_ (jC hc)
 ·exact n_ (jC hc)
 ·exact n_ hc
theorem IS{t:Tx}{m w:Nat}(w1:1<=w)(hm:m+w=t.length+1)(m1:1<=m)(h:Pc t (w-1) 0 m):t=gc (t.take m) w:=by
 have hr:(t.take m).length=m:=by simp; lia
 have key:∀ i,i<t.length->t[i]?=aa (Mx.aO (t.take m) i):=by
  intro i
  induction i using Nat.strongRecOn with
  | ind i ih=>
   intro hi;by_cases c:i<m
   ·have:=Mx.xL (z:=t.take m) (i:=i) ∅;rw[← this,jb,if_pos c]
   ·have h1:=h (i-m) ∅;rw[show 0+(i-m)=i-m by lia,show m+(i-m)=i by lia]at h1;rw[← h1,ih (i-m) ∅ ∅];have:=Mx.EE (t.take m) (i-m);rw[hr,show m+(i-m)=i by lia]at this;rw[this]
 have hl:(gc (t.take m) w).length=t.length:=by rw[yk ∅ w1,hr]; lia
 refine ko λi=>?_;by_cases c:i<t.length
 ·rw[key i c,qa ∅ w1 ∅]
 ·rw[jA ∅,jA ∅]
theorem zY{t:Tx}{w:Nat}(w1:1<=w)(h1:w<=t.length){z:Tx}:z∈jN t (bN t (w-1)) w↔Pc t (w-1) 0 (t.length+1-w)/\∃ p,1<=p/\p<t.length+1-w/\z=gc (gD p (t.take (t.length+1-w))) w:=by
 unfold jN pE;rw[Ck,su,show t.length+1-(w-1)-1=t.length+1-w by lia,oY ∅,oY ∅,cO];constructor
 ·rintro⟨q,p,hp,rfl⟩;obtain⟨p1,p2⟩:=HI.mp hp;exact⟨p6 q,p,p1,p2,rfl⟩
 ·rintro⟨q,p,p1,p2,rfl⟩;exact⟨ql q,p,HI.mpr ⟨p1,p2⟩,rfl⟩
theorem Fy{t z:Tx}{w:Nat}(w1:1<=w)(h1:w<=t.length)(h:z∈jN t (bN t (w-1)) w):z.length=t.length/\(aW z w).Perm (aW t w)/\(∀ c∈z,c∈t)/\t∈jN z (bN z (w-1)) w:=by
 obtain⟨q,p,p1,p2,rfl⟩:=(zY w1 h1).mp h;generalize hm:t.length+1-w=m at q p2;have ht:=IS w1 (m:=m) ∅ ∅ q;have hr:(t.take m).length=m:=by simp; lia
 generalize hR:t.take m=R at ht hr;have ub:(gD p R).length=m:=by rw[mU ∅,hr]
 have qW:(gc (gD p R) w).length=t.length:=by rw[yk ∅ w1,ub]; lia
 refine⟨qW,?_,λc hc=>?_,?_⟩
 ·rw[EL ∅ w1,ht,EL ∅ w1];exact Uh ∅
 ·have:=Lh (Ky hc);rw[← hR]at this;exact jC this
 ·rw[zY w1 ∅,qW,hm];refine⟨λk hk=>?_,m-p,∅,∅,?_⟩
  ·rw[qa ∅ w1 ∅,qa ∅ w1 ∅];have:=Mx.EE (gD p R) k;rw[ub]at this;rw[this,nZ]
  ·have wq:=LD (z:=gD p R) (w:=w) ∅ w1;rw[ub]at wq;rw[wq,K7 ∅ ∅ ∅,hr,show(p+(m-p)) % m=0 by rw[show p+(m-p)=m by lia,Nat.mod_self],KA];exact ht
theorem UM{t:Tx}{w:Nat}{z:Tx}:z∈bE t w↔z∈iE t w/\z≠t:=by unfold bE;rw[(iU _).mem_iff];unfold eT;rw[kh,ml,decide_eq_true_eq]
theorem A6{t z:Tx}{w:Nat}(h:Tv t w)(hz:z∈iE t w):Tv z w/\z.length=t.length/\(aW z w).Perm (aW t w)/\t∈iE z w:=by
 unfold iE at hz ⊢;rcases eM.mp hz with hz | hz
 ·rw[Ew]at hz;obtain⟨a1,a2,a3⟩:=D4 h.w1 hz;exact⟨⟨h.w1,h.w4,by rw[a1]; exact h.h1,by rw[a1]; exact h.h9,λc hc=>h.abc c (a3 c hc)⟩,a1,a2,eM.mpr (.inl (Ew.mpr (Rb h.w1 hz)))⟩
 ·obtain⟨a1,a2,a3,a4⟩:=Fy h.w1 h.h1 hz;exact⟨⟨h.w1,h.w4,by rw[a1]; exact h.h1,by rw[a1]; exact h.h9,λc hc=>h.abc c (a3 c hc)⟩,a1,a2,eM.mpr (.inr a4)⟩
theorem Gv{t z:Tx}{w:Nat}(h:Tv t w)(hz:z∈bE t w):Tv z w/\z.length=t.length/\bu (aW z w)=bu (aW t w)/\z≠t/\t∈bE z w:=by obtain⟨h1,h2⟩:=UM.mp hz;obtain⟨a1,a2,a3,a4⟩:=A6 h h1;exact⟨a1,a2,oV ((iU _).trans a3) (sE _),h2,UM.mpr ⟨a4,λe=>h2 e.symm⟩⟩
abbrev gr(t:Tx)(v i:Nat):Tx:=(t.drop i).take v
theorem Aw{t:Tx}{v i k:Nat}(h:k<v):(gr t v i)[k]?=t[i+k]?:=by unfold gr; rw[jb,if_pos h,kq]
theorem uy{t:Tx}{v i:Nat}:(gr t (v+1) i).take v=gr t v i:=by unfold gr; rw[List.take_take,v9 ∅]
theorem pT{t:Tx}{v i:Nat}:(gr t (v+1) i).tail=gr t v (i+1):=by
 unfold gr;refine ko λk=>?_;rw[List.getElem?_tail,jb,jb,kq,kq];by_cases h:k<v
 ·rw[if_pos ∅,if_pos h]; congr 1; lia
 ·rw[if_neg ∅,if_neg h]
theorem vB{t:Tx}{v i:Nat}(h:i+v<t.length):(aW t (v+1))[i]?=aa (gr t (v+1) i):=by rw[ny _ _ ∅,ir,CN ∅];rfl
theorem Fq{t:Tx}{v:Nat}{x:Tx}:x∈aW t (v+1)↔∃ i,i+v<t.length/\x=gr t (v+1) i:=by
 rw[ny _ _ ∅,cO];constructor
 ·rintro⟨i,hi,rfl⟩;exact⟨i,by have:=nK.mp hi; lia,rfl⟩
 ·rintro⟨i,hi,rfl⟩;exact⟨i,nK.mpr ∅,rfl⟩
theorem UH{t:Tx}{v p:Nat}{x:Tx}:x∈(aW t (v+1)).drop p↔∃ i,p<=i/\i+v<t.length/\x=gr t (v+1) i:=by
 have hl:(aW t (v+1)).length=t.length+1-(v+1):=u_ ∅;rw[List.mem_iff_getElem?];constructor
 ·rintro⟨j,hj⟩;rw[kq]at hj;have br:p+j<(aW t (v+1)).length:=(eu.mp hj).1;rw[vB ∅]at hj;exact⟨p+j,∅,∅,(eJ hj).symm⟩
 ·rintro⟨i,h1,h2,rfl⟩;refine⟨i-p,?_⟩;rw[kq,show p+(i-p)=i by lia,vB h2]
theorem KJ{t z:Tx}{v p:Nat}(hl:z.length=t.length)(h:t.take (v+p)=z.take (v+p)):(aW t (v+1)).take p=(aW z (v+1)).take p:=by
 refine ko λi=>?_;rw[jb,jb];split
 ·rename_i hi;by_cases hv:i+v<t.length
  ·rw[vB hv,vB ∅];congr 1;refine ql λk hk=>?_;have:=congrArg (λl:Tx=>l[i+k]?) h;simpa[jb,show i+k<v+p by lia]using this
  ·rw[jA (by rw[u_ ∅]; lia),jA (by rw[u_ ∅]; lia)]
 ·rfl
theorem BW{t z:Tx}{n i:Nat}(h:t.take n=z.take n)(hi:i<n):t[i]?=z[i]?:=by have:=congrArg (λl:Tx=>l[i]?) h;simpa[jb,hi]using this
theorem Gr{t z:Tx}{n:Nat}(h:∀ i,i<n->t[i]?=z[i]?):t.take n=z.take n:=by
 refine ko λi=>?_;rw[jb,jb];split
 ·rename_i hi; exact h i hi
 ·rfl
theorem Nd{t z:Tx}{v p:Nat}(hl:z.length=t.length)(hp:p+v<t.length)(hw:(aW z (v+1)).Perm (aW t (v+1)))(h:t.take (v+p)=z.take (v+p)) : ∃ t',(t'=t\/l0 t (bN t v) t')/\t'.take (v+(p+1))=z.take (v+(p+1)):=by
 by_cases q:t[p+v]?=z[p+v]?
 ·refine⟨t,.inl rfl,Gr λi hi=>?_⟩;by_cases c:i<v+p
  ·exact BW h c
  ·rw[show i=p+v by lia]; exact q
 ·have hd:((aW z (v+1)).drop p).Perm ((aW t (v+1)).drop p):=by
   have h1:=KJ hl h;have h2:((aW t (v+1)).take p++(aW z (v+1)).drop p).Perm ((aW t (v+1)).take p++(aW t (v+1)).drop p):=by
    rw[mK]
    conv=>lhs; rw[h1,mK]
    exact hw
   exact(List.perm_append_left_iff _).mp h2
  have hz:gr z (v+1) p∈(aW t (v+1)).drop p:=hd.mem_iff.mp (UH.mpr ⟨p,bi _,∅,rfl⟩);obtain⟨g,g1,g2,eg⟩:=UH.mp hz;have eZ:∀ k,k<=v->z[p+k]?=t[g+k]?:=λk hk=>by have:=congrArg (λl:Tx=>l[k]?) eg;rw[Aw ∅,Aw ∅]at this;exact this
  have hgp:p<g:=by
   rcases Dq p g with c | c
   ·exact c
   ·have e:g=p:=∅
    rw[e]at eZ;exact absurd (eZ v (bi _)).symm q
  have psg:Pc t v p g:=λk hk=>by rw[← eZ k ∅]; exact BW h ∅
  have pt:∃ e l,p<e/\e<=g/\g<l/\l+v<=t.length/\gr t v e=gr t v l:=by
   refine zL λno=>?_;have no':∀ e l,p<e->e<=g->g<l->l+v<=t.length->gr t v e≠gr t v l:=λe l a b c d q=>no ⟨e,l,a,b,c,d,q⟩
   let V:Tx->Prop:=λy=>∃ e,p<e/\e<=g/\gr t v e=y
   have hV:∀ i,p<=i->i+v<t.length->(V (gr t v (i+1))->i<g)/\(i<g->V (gr t v i)):=λi a b=>by
    refine⟨λ⟨e,e1,e2,e3⟩=>?_,λc=>?_⟩
    ·rcases Dq i g with c | c
     ·exact c
     ·exact absurd e3 (no' e (i+1) e1 e2 ∅ ∅)
    ·by_cases d:i=p
     ·exact⟨g,hgp,bi _,by rw[d]; exact ql λk hk=>(psg k hk).symm⟩
     ·exact⟨i,∅,∅,rfl⟩
   have step:∀ k,p+k+v<z.length->¬ V (gr z v (p+k+1)):=by
    intro k
    induction k with
    | zero=>
     intro hk hv;have e:gr z v (p+0+1)=gr t v (g+1):=by rw[Nat.add_zero,← pT,eg,pT]
     rw[e]at hv;have:=(hV g g1 g2).1 hv;lia
    | succ k ih=>
     intro hk hv;have ih:=ih ∅;have hm:gr z (v+1) (p+(k+1))∈(aW t (v+1)).drop p:=hd.mem_iff.mp (UH.mpr ⟨p+(k+1),∅,∅,rfl⟩);obtain⟨i,i1,i2,ei⟩:=UH.mp hm;have e1:gr z v (p+(k+1))=gr t v i:=by rw[← uy,ei,uy]
     have e2:gr z v (p+(k+1)+1)=gr t v (i+1):=by rw[← pT,ei,pT]
     rw[e2]at hv;have:=(hV i i1 i2).2 ((hV i i1 i2).1 hv);rw[← e1]at this;exact ih this
   have hm:gr t (v+1) p∈(aW z (v+1)).drop p:=hd.mem_iff.mpr (UH.mpr ⟨p,bi _,∅,rfl⟩);obtain⟨i,i1,i2,ei⟩:=UH.mp hm;have hk:=step (i-p) ∅;rw[show p+(i-p)+1=i+1 by lia]at hk;refine hk ?_;rw[← pT,← ei,pT];exact⟨p+1,∅,∅,rfl⟩
  obtain⟨e,l,e1,e2,l1,l2,el⟩:=pt;refine⟨eG t p e g l,.inr ?_,Gr λi hi=>?_⟩
  ·have:=(xj (t:=t) (w:=v+1) ∅ (z:=eG t p e g l)).mpr ⟨p,e,g,l,e1,e2,l1,∅,psg,p6 el,rfl⟩;exact this
  ·have hw':=λk hk i=>xZ (v:=v) e1 e2 l1 ∅ psg (p6 el) k hk i;by_cases c:i<p
   ·rw[yI e1 e2 l1 ∅];have:sg p e g l i=i:=by unfold sg; rw[if_pos c]
    rw[this];exact BW h ∅
   ·have:=hw' (i-p) ∅ p;rw[Gq e1 e2 l1,show p+(i-p)=i by lia]at this;rw[this,← eZ (i-p) ∅,show p+(i-p)=i by lia]
theorem IN{v:Nat}{y:Tx}:∀ (k:Nat) (t:Tx) (i:Nat),((Dn i k).map λj=>if gr t v j=y then 1 else 0).sum+(if gr t v (i+k)=y then 1 else 0)=((Dn i k).map λj=>if gr t v (j+1)=y then 1 else 0).sum+(if gr t v i=y then 1 else 0)
 | 0,t,i=>by simp
 | k+1,t,i=>by have ih:=IN (v:=v) (y:=y) k t (i+1);rw[List.range'_succ,d4,d4,Do,Do,show i+(k+1)=i+1+k by lia];lia
theorem TV{t z:Tx}{v:Nat}(hl:z.length=t.length)(hv:v<t.length)(hw:(aW z (v+1)).Perm (aW t (v+1))):gr t v 0=gr z v 0\/gr t v 0=gr t v (t.length-v):=by
 have hc:∀ u:Tx,u.length=t.length->((aW u (v+1)).map λx=>if x.take v=gr t v 0 then 1 else 0).sum+(if gr u v (u.length-v)=gr t v 0 then 1 else 0)=((aW u (v+1)).map λx=>if x.tail=gr t v 0 then 1 else 0).sum+(if gr u v 0=gr t v 0 then 1 else 0):=by
  intro u hu;have:=IN (v:=v) (y:=gr t v 0) (u.length-v) u 0;rw[nZ]at this;rw[ny _ _ ∅,eE,eE,show u.length+1-(v+1)=u.length-v by lia,List.range_eq_range'];have e1:∀ j,((λx:Tx=>if x.take v=gr t v 0 then 1 else 0) ∘ λi=>(u.drop i).take (v+1)) j=if gr u v j=gr t v 0 then 1 else 0:=λj=>by show(if(gr u (v+1) j).take v=_ then 1 else 0)=_;rw[uy]
  have e2:∀ j,((λx:Tx=>if x.tail=gr t v 0 then 1 else 0) ∘ λi=>(u.drop i).take (v+1)) j=if gr u v (j+1)=gr t v 0 then 1 else 0:=λj=>by show(if(gr u (v+1) j).tail=_ then 1 else 0)=_;rw[pT]
  rw[gF λj _=>e1 j,gF λj _=>e2 j];exact this
 have h1:=hc t rfl;have h2:=hc z hl;have p1:=((hw.map λx:Tx=>if x.take v=gr t v 0 then 1 else 0)).sum_nat;have p2:=((hw.map λx:Tx=>if x.tail=gr t v 0 then 1 else 0)).sum_nat;rw[p1,p2]at h2;rw[if_pos rfl]at h1;by_cases c:gr z v 0=gr t v 0
 ·exact .inl c.symm
 ·right;rw[if_neg c]at h2;by_cases d:gr t v (t.length-v)=gr t v 0
  ·exact d.symm
  ·rw[if_neg d]at h1;lia
inductive WN(w:Nat):Nat->Tx->Tx->Prop
 | here (n:Nat) (t:Tx):WN w n t t
 | on {n:Nat} {t u z:Tx}:WN w n t u->z∈iE u w->WN w (n+1) t z
theorem WN.more{w n:Nat}{t z:Tx}(h:WN w n t z):WN w (n+1) t z:=by
 induction h with
 | here n t=>exact .here _ _
 | on _ hz ih=>exact .on ih hz
theorem WN.mono{w n:Nat}{t z:Tx}(h:WN w n t z):∀ k,WN w (n+k) t z
 | 0=>h
 | k+1=>(h.mono k).more
theorem WN.cons{w n:Nat}{t u z:Tx}(hu:u∈iE t w)(h:WN w n u z):WN w (n+1) t z:=by
 induction h with
 | here n u=>exact .on (.here n t) hu
 | on _ hz ih=>exact .on (ih hu) hz
theorem B8{v:Nat}{z:Tx}:∀ (k p:Nat) (t:Tx),p+k+v=t.length->z.length=t.length->(aW z (v+1)).Perm (aW t (v+1))->t.take (v+p)=z.take (v+p)->WN (v+1) k t z
 | 0,p,t,hk,hl,_,h=>by
  have:t=z:=by have h1:t.take (v+p)=t:=km ∅;have h2:z.take (v+p)=z:=km ∅;rw[← h1,h,h2]
  rw[this]; exact .here 0 z
 | k+1,p,t,hk,hl,hw,h=>by
  obtain⟨t',ht,hn⟩:=Nd hl ∅ hw h;rcases ht with rfl | ht
  ·exact(B8 k (p+1) t' ∅ hl hw hn).more
  ·obtain⟨a1,a2,_⟩:=D4 (w:=v+1) ∅ ht;exact .cons (eM.mpr (.inl (Ew.mpr ht))) (B8 k (p+1) t' ∅ ∅ (hw.trans a2.symm) hn)
theorem Q5{t z:Tx}{w:Nat}(h:Tv t w)(hl:z.length=t.length)(hw:(aW z w).Perm (aW t w)):WN w 10 t z:=by
 obtain⟨v,rfl⟩:∃ v,w=v+1:=⟨w-1,by have:=h.w1; lia⟩
 have hv:=h.h1;have h9:=h.h9;have from0:∀ u:Tx,u.length=t.length->(aW z (v+1)).Perm (aW u (v+1))->gr u v 0=gr z v 0->WN (v+1) 9 u z:=λu hu hp hg=>by have:=(B8 (u.length-v) 0 u ∅ ∅ hp (by simpa[gr]using hg)).mono (9-(u.length-v));rwa[show u.length-v+(9-(u.length-v))=9 by lia]at this
 by_cases c:gr t v 0=gr z v 0
 ·exact(from0 t rfl hw c).more
 ·have jG:gr t v 0=gr t v (t.length-v):=(TV hl ∅ hw).resolve_left c;have hm:gr z (v+1) 0∈aW t (v+1):=hw.mem_iff.mp (Fq.mpr ⟨0,∅,rfl⟩);obtain⟨p,hp,ep⟩:=Fq.mp hm;have eg:gr z v 0=gr t v p:=by rw[← uy,ep,uy]
  have p1:1<=p:=by
   rcases Nat.eq_zero_or_pos p with e | e
   ·rw[e]at eg; exact absurd eg.symm c
   ·exact e
  have pi:gc (gD p (t.take (t.length+1-(v+1)))) (v+1)∈jN t (bN t (v+1-1)) (v+1):=(zY ∅ h.h1).mpr ⟨p6 (by rw[show v+1-1=v by lia,show t.length+1-(v+1)=t.length-v by lia]; exact jG),p,p1,∅,rfl⟩;obtain⟨a1,a2,a3,a4⟩:=Fy ∅ h.h1 pi;refine .cons (eM.mpr (.inr pi)) (from0 _ a1 (hw.trans a2.symm) ?_);rw[eg];refine ql λk hk=>?_;generalize hmm:t.length+1-(v+1)=m;have hr:(t.take m).length=m:=by simp; lia
  have ht:=IS (t:=t) (m:=m) (w:=v+1) ∅ ∅ ∅ (p6 (by rw[show v+1-1=v by lia,← hmm,show t.length+1-(v+1)=t.length-v by lia]; exact jG));rw[nZ,qa (by rw[mU ∅]; lia) ∅ (by rw[mU ∅]; lia),uk ∅ ∅]
  conv=>rhs; rw[ht]
  rw[qa ∅ ∅ ∅]
theorem WN.good{w n:Nat}{t z:Tx}(h:WN w n t z)(ht:Tv t w):Tv z w/\z.length=t.length/\(aW z w).Perm (aW t w):=by
 induction h with
 | here n t=>exact⟨ht,rfl,.refl _⟩
 | on _ hz ih=>obtain⟨a1,a2,a3⟩:=ih ht;obtain⟨b1,b2,b3,_⟩:=A6 a1 hz;exact⟨b1,∅,b3.trans a3⟩
theorem WN.like{w n:Nat}{t z:Tx}(h:WN w n t z)(ht:Tv t w):z∈bJ t w:=by obtain⟨a1,a2,a3⟩:=h.good ht;exact UK.mpr ⟨a2,a1.abc,a3⟩
def Lv(w:Nat)(t:Tx)(k:Nat)(z:Tx):Prop:=WN w k t z/\∀ j,j+1=k->¬ WN w j t z
theorem HK{w:Nat}{t z:Tx}:Lv w t 0 z↔z=t:=by
 constructor
 ·rintro⟨h,_⟩; cases h; rfl
 ·rintro rfl; exact⟨.here _ _,λj hj=>∅⟩
theorem NZ{w:Nat}{t z:Tx}:WN w 0 t z↔z=t:=by
 constructor
 ·intro h; cases h; rfl
 ·rintro rfl; exact .here _ _
theorem NK{w k:Nat}{t z:Tx}:WN w (k+1) t z↔WN w k t z\/∃ u,Lv w t k u/\z∈bE u w:=by
 constructor
 ·intro h;by_cases c:WN w k t z
  ·exact .inl c
  ·right;cases h with
   | here=>exact absurd (.here _ _) c
   | @on _ _ u _ hu hz=>
    have cP:z≠u:=by rintro rfl; exact c hu
    refine⟨u,⟨hu,λj hj hw=>?_⟩,UM.mpr ⟨hz,cP⟩⟩;subst hj;exact c (.on hw hz)
 ·rintro(h | ⟨u,hu,hz⟩)
  ·exact h.more
  ·exact .on hu.1 (UM.mp hz).1
theorem Nz{w n j:Nat}{t z:Tx}(h:WN w n t z):¬ WN w j t z->∃ y,Lv w t (j+1) y:=by
 induction h with
 | here n t=>exact λc=>absurd (.here _ _) c
 | @on n t u z hu hz ih=>
  intro c;by_cases d:WN w j t u
  ·refine⟨z,.on d hz,λi hi hw=>?_⟩;have:i=j:=∅
   subst this;exact c hw
  ·exact ih d
def Full(w:Nat)(t:Tx)(k:Nat):Prop:=∀ z∈bJ t w,WN w k t z
theorem Ho{w:Nat}{t:Tx}(h:Tv t w):Full w t 10:=λz hz=>by obtain⟨a,b,c⟩:=UK.mp hz;exact Q5 h a c
theorem N5{w:Nat}{t:Tx}(h:Tv t w):∃ K,K<=10/\Full w t K/\∀ k,k<K->¬ Full w t k:=by
 have key:∀ n,n<=10->(∃ K,K<=10/\Full w t K/\∀ k,k<K->¬ Full w t k)\/∀ k,k<n->¬ Full w t k:=by
  intro n
  induction n with
  | zero=>intro _; exact .inr λk hk=>∅
  | succ n ih=>
   intro hn;rcases ih ∅with q | q
   ·exact .inl q
   ·by_cases c:Full w t n
    ·exact .inl ⟨n,∅,c,q⟩
    ·refine .inr λk hk=>?_;by_cases d:k=n
     ·rw[d]; exact c
     ·exact q k ∅
 rcases key 10 (bi _)with q | q
 ·exact q
 ·exact⟨10,bi _,Ho h,q⟩
theorem Ou{w k:Nat}{t:Tx}(h:Tv t w)(hf:¬ Full w t k):∃ y,Lv w t (k+1) y:=by
 obtain⟨z,hz,hn⟩:∃ z,z∈bJ t w/\¬ WN w k t z:=by refine zL λno=>hf λz hz=>zL λc=>no ⟨z,hz,c⟩
 exact Nz (Ho h z hz) hn
theorem TK(v:Nat){a:Tx}(ha:a.length=v)(hc:∀ c∈a,c∈cN):a∈eF v:=by rw[p9]; exact⟨ha,hc⟩
theorem HV{z:Tx}{v:Nat}(h:v<z.length):(aW z (v+1)).map (λx=>x.headD 0)=z.take (z.length-v):=by
 refine ko λi=>?_;rw[ir,jb];by_cases c:i<z.length-v
 ·rw[vB ∅,if_pos c,lH];have e:(gr z (v+1) i)[0]?=z[i]?:=by have:=Aw (t:=z) (v:=v+1) (i:=i) (k:=0) ∅; simpa using this
  have hz:z[i]?=aa z[i]:=iN ∅;rw[hz]at e ⊢;cases hg:gr z (v+1) i with
  | nil=>rw[hg]at e; cases e
  | cons c r=>rw[hg]at e; simpa using e
 ·rw[if_neg c,jA (by rw[u_ ∅]; lia)];rfl
theorem Ra:∀ m:Fin 9,∀ i:Fin 9,∀ j:Fin 9,i.val+j.val<=m.val->(ma m.val i.val j.val (m.val-i.val-j.val)).length * 3 ^ (min 3 (9-m.val))<=2430:=by decide +kernel
theorem xT{t:Tx}{w:Nat}(h:Tv t w)(w2:2<=w)(h9:t.length<=9):(bJ t w).length<=2430:=by
 obtain⟨v,rfl⟩:∃ v,w=v+1:=⟨w-1,∅⟩
 have hv:=h.h1;have t8:=h.w4;generalize hm:t.length-v=m
 let T:=t.take m
 have hT:T.length=m:=by simp[T]; lia
 have hTc:∀ c∈T,c∈cN:=λc hc=>h.abc c (jC hc);have jZ:∀ z∈bJ t (v+1),z∈(ma m (T.count 97) (T.count 98) (T.count 99)).flatMap λa=>(eF v).map λb=>a++b:=by
  intro z hz;obtain⟨z1,z2,z3⟩:=UK.mp hz;have hp:(z.take m).Perm T:=by have e1:=HV (z:=z) (v:=v) ∅;have e2:=HV (z:=t) (v:=v) ∅;rw[z1,hm]at e1;rw[hm]at e2;have:=z3.map (λx:Tx=>x.headD 0);rw[e1,e2]at this;exact this
  have qW:(z.take m).length=m:=by simp; lia
  have hzw:=FC m (z.take m) qW λc hc=>z2 c (jC hc);rw[hp.count_eq,hp.count_eq,hp.count_eq]at hzw;refine v7.mpr ⟨z.take m,hzw,cO.mpr ⟨z.drop m,TK v (by simp; lia) λc hc=>z2 c (n_ hc),mK m z⟩⟩
 refine cI (len_sub (Bt _ _) jZ) ?_;have bY:∀ (l:List Tx),(l.flatMap λa=>(eF v).map λb=>a++b).length=l.length * 3 ^ v:=by
  intro l
  induction l with
  | nil=>simp
  | cons a l ih=>rw[lK,dq,ih,cD,B1,eD,Dm]; lia
 rw[bY];have hc:=NL hTc;rw[hT]at hc;have:=Ra ⟨m,∅⟩ ⟨T.count 97,∅⟩ ⟨T.count 98,∅⟩ (by simp; lia);simp only at this;rw[show m-T.count 97-T.count 98=T.count 99 by lia]at this;refine cI (Nat.mul_le_mul_left _ (Nat.pow_le_pow_right (by decide) (show v<=min 3 (9-m) by lia))) this
theorem Q6{R:Tx}{m w p:Nat}(hR:R.length=m)(w1:1<=w)(hw:w<=m+2)(hp:p<m):gc (R.drop p++R.take p) w=part (bF 3 R).flatten p (p+(m+w-1)):=by
 by_cases c:w<=m+1
 ·exact Sm hR w1 c ∅
 ·have hl:(R.drop p++R.take p).length=m:=by simp; lia
  unfold gc part;rw[hl,v8];have e3:((bF 3 R).flatten).drop p=(R.drop p++R.take p)++((R.drop p++R.take p)++R.drop p):=by
   have:(bF 3 R).flatten=R++(R++R):=by simp[bF]
   rw[this,J8 ∅];simp only[gH];rw[mK,← gH (R.take p),mK]
  obtain⟨v,rfl⟩:∃ v,w=v+3:=⟨w-3,∅⟩
  have ew:∀ Z:Tx,(bF (v+3) Z).flatten=Z++(Z++(Z++(bF v Z).flatten)):=λZ=>by simp[bF]
  rw[e3,ew];have hB:(R.drop p).length=m-p:=by simp; lia
  have hA:(R.take p).length=p:=by simp; lia
  generalize (bF v (R.drop p++R.take p)).flatten=X;generalize R.drop p=B at hB;generalize R.take p=A at hA;rw[show(B++A)++((B++A)++((B++A)++X))=((B++A)++((B++A)++B))++(A++X) by simp only[gH],Dp];simp; lia
theorem E_{t:Tx}{w:Nat}(h:Tv t w)(h2:2 * w<=t.length+3):bE t w=jt t w:=by
 have b1:=h.w1;have b3:=h.h1;have ub:=su t (w-1);have ht:jN t (bN t (w-1)) w=ge t (bN t (w-1)):=by unfold jN ge;congr 1;unfold pE rF;refine gF λp hp=>?_;obtain⟨p1,p2⟩:=HI.mp hp;rw[Q6 (m:=(bN t (w-1)).length-1) (by simp; lia) b1 ∅ p2,show(bN t (w-1)).length-1+w-1=t.length by lia]
 unfold bE jt;refine oV ((iU _).trans ?_) (sE _);unfold eT iE lm;rw[Dh ((vq _).filter _) (vq _)];intro z;rw[kh,ml,ml,kh,eM,eM,Ew,LX,ht]
theorem yz{i:Nat}{db:aj->R aH}{σ τ:Type}(env:σ->τ->aj)(f:σ->Tx->σ)(P:σ->Prop):∀ (xs:List Tx) (st:σ) (s:τ),P st -> (∀ x∈xs,∀ st s,P st->P (f st x)/\∃ s',db ((env st s).set i (.val (.str x))) = .ok .next (env (f st x) s'))->∃ s',eh i db (am xs) (env st s) = .ok .next (env (xs.foldl f st) s')/\P (xs.foldl f st)
 | [],st,s,h,_=>⟨s,rfl,h⟩
 | x::xs,st,s,h,step=>by obtain⟨h1,s1,e1⟩:=step x (by simp) st s h;obtain⟨s2,e2,h2⟩:=yz env f P xs (f st x) s1 h1 λy hy=>step y (by simp[hy]);refine⟨s2,?_,h2⟩;show eh i db (.str x::am xs) _=_;rw[eh,e1];exact e2
abbrev ks(m:List (Tx×Int)):List Tx:=m.map (·.1)
theorem AZ(m:List (Tx×Int))(z:Tx):(m.any λp=>decide (p.1=z))=decide (z∈ks m):=by rw[o6,tQ,decide_eq_true_eq,cO];exact⟨λ⟨p,h1,h2⟩=>⟨p,h1,of_decide_eq_true h2⟩,λ⟨p,h1,h2⟩=>⟨p,h1,decide_eq_true h2⟩⟩
theorem BN(m:List (Tx×Int))(z:Tx):(bj m z).isSome=decide (z∈ks m):=by
 rw[← AZ];cases h:m.any λp=>decide (p.1=z)with
 | false=>rw[xi h]; rfl
 | true=>obtain⟨n,e⟩:=IY h; rw[e]; rfl
theorem LC{m:List (Tx×Int)}{z:Tx}{n:Int}(h:z∉ks m):cL m z n=m++[(z,n)]:=by unfold cL;rw[AZ,decide_eq_false h];rfl
theorem Lr{m:List (Tx×Int)}(nd:(ks m).Nodup){z:Tx}{n:Int}:bj m z=aa n↔(z,n)∈m:=by
 induction m with
 | nil=>simp[bj]
 | cons p m ih=>
  change ((p::m).map (·.1)).Nodup at nd;rw[d4,jx]at nd;unfold bj at ih ⊢;rw[f6];by_cases c:p.1=z
  ·simp only[c,decide_true,lH,cb];constructor
   ·intro e;left;rw[← eJ e,← c]
   ·rintro(e | e)
    ·rw[← e]
    ·exact absurd (cO.mpr ⟨(z,n),e,rfl⟩) (by rw[← c]; exact nd.1)
  ·simp only[c,decide_false,cb];rw[ih nd.2];constructor
   ·exact .inr
   ·rintro(e | e)
    ·exact absurd (by rw[← e]) c
    ·exact e
theorem Px(m:List (Tx×Int)):(dk m).length=m.length:=by simp[dk]
theorem xE{neg:Bool}{i:Nat}{db:aj->R PV}{ε ε1:aj}{z:Tx}{m:List (Tx×Int)}(hb:db ε = .ok (.str z) ε1)(ho:dP ε1 i=aa (dk m)):fD neg i db ε = .ok (.bl (neg ^^ decide (z∈ks m))) ε1:=by unfold fD;rw[hb,R.bind_ok,ho];simp only[dE,R.bind_ok];show aS (aa (PV.bl (neg ^^ (kH (dk m) (.inr (tS z))).isSome))) ε1=_;rw[rh,CI,BN];rfl
theorem EM{i:Nat}{db de:aj->R PV}{ε ε1 ε2:aj}{z:Tx}{n:Int}{m:List (Tx×Int)}(he:de ε = .ok (.int n) ε1)(hb:db ε1 = .ok (.str z) ε2)(mT:∃ x,dP ε1 i=aa x)(ho:dP ε2 i=aa (dk m))(hl:m.length<bB):jh i db de ε = .ok .next (ε2.set i (.own (.dK (dk (cL m z n))))):=by unfold jh;obtain⟨x,hx⟩:=mT;rw[he,R.bind_ok,hx];simp only[dE,R.bind_ok];rw[hb,R.bind_ok,ho];simp only[dE,R.bind_ok];show(aS (aa (Sum.inr (tS z))) ε2).bind _=_;simp only[dE,R.bind_ok];rw[Px,if_pos hl,xx]
theorem Hb{i:Nat}{db:aj->R PV}{ε ε1:aj}{z:Tx}{n:Int}{m:List (Tx×Int)}(ho0:∃ x,dP ε i=aa x)(hb:db ε = .ok (.str z) ε1)(ho:dP ε1 i=aa (dk m))(hg:bj m z=aa n):js i db ε = .ok (.int n) ε1:=by unfold js;obtain⟨x,hx⟩:=ho0;rw[hx];simp only[dE,R.bind_ok];rw[hb,R.bind_ok,ho];simp only[dE,R.bind_ok];show aS (kH (dk m) (.inr (tS z))) ε1=_;rw[rh,hg];rfl
theorem F8{i:Nat}{de:aj->R PV}{ε ε1:aj}{x:PV}{xs0 xs:List PV}(h0:f_ ε i=aa xs0)(h:de ε = .ok x ε1)(h1:f_ ε1 i=aa xs)(hl:xs.length<bB):jO i de ε = .ok .next (ε1.set i (.own (.lst (xs++[x])))):=by unfold jO;rw[h0];simp only[dE,R.bind_ok];rw[h];simp only[R.bind_ok];rw[h1];simp only[dE,R.bind_ok];rw[if_pos hl]
def sf(k:Int)(st:List (Tx×Int)×List Tx)(z:Tx):List (Tx×Int)×List Tx:=if z∈ks st.1 then st else(st.1++[(z,k)],st.2++[z])
theorem FY(k:Int):∀ (zs:List Tx) (st:List (Tx×Int)×List Tx) (z:Tx),z∈ks (zs.foldl (sf k) st).1↔z∈ks st.1\/z∈zs
 | [],st,z=>by simp
 | x::zs,st,z=>by
  rw[jz,FY k zs];unfold sf;by_cases c:x∈ks st.1
  ·rw[if_pos c,cb];exact⟨λh=>h.elim .inl λh=>.inr (.inr h),λh=>h.elim .inl λh=>h.elim (λe=>.inl (by rw[e]; exact c)) .inr⟩
  ·rw[if_neg c];show z∈(st.1++[(x,k)]).map (·.1)\/z∈zs↔_;simp[or_assoc]
theorem B9(k:Int):∀ (zs:List Tx) (st:List (Tx×Int)×List Tx) (z:Tx),z∈(zs.foldl (sf k) st).2↔z∈st.2\/(z∈zs/\z∉ks st.1)
 | [],st,z=>by simp
 | x::zs,st,z=>by
  rw[jz,B9 k zs];unfold sf;by_cases c:x∈ks st.1
  ·rw[if_pos c,cb];constructor
   ·rintro(h | ⟨h,q⟩)
    ·exact .inl h
    ·exact .inr ⟨.inr h,q⟩
   ·rintro(h | ⟨h | h,q⟩)
    ·exact .inl h
    ·exact absurd (by rw[h]; exact c) q
    ·exact .inr ⟨h,q⟩
  ·rw[if_neg c,cb];show z∈st.2++[x]\/(z∈zs/\z∉(st.1++[(x,k)]).map (·.1))↔_;rw[eM,gZ,pc,eM];constructor
   ·rintro((h | h) | ⟨h,q⟩)
    ·exact .inl h
    ·exact .inr ⟨.inl h,by rw[h]; exact c⟩
    ·exact .inr ⟨.inr h,λy=>q (.inl y)⟩
   ·rintro(h | ⟨h | h,q⟩)
    ·exact .inl (.inl h)
    ·exact .inl (.inr h)
    ·by_cases e:z=x
     ·exact .inl (.inr e)
     ·exact .inr ⟨h,λy=>y.elim q λy=>e (by simpa using y)⟩
structure SP(U:List Tx)(st:List (Tx×Int)×List Tx):Prop where
 nd:(ks st.1).Nodup
 sub:∀ z∈ks st.1,z∈U
 len:st.2.length<=st.1.length
theorem SP.few{U:List Tx}{st:List (Tx×Int)×List Tx}(h:SP U st):st.1.length<=U.length:=by have:=len_sub h.nd h.sub;rwa[cD]at this
theorem SP.step{U:List Tx}{st:List (Tx×Int)×List Tx}(h:SP U st){z:Tx}(hz:z∈U)(k:Int):SP U (sf k st z):=by
 unfold sf;by_cases c:z∈ks st.1
 ·rw[if_pos c]; exact h
 ·rw[if_neg c];refine⟨?_,λy hy=>?_,?_⟩
  ·show((st.1++[(z,k)]).map (·.1)).Nodup;rw[pc];exact zB.mpr ⟨h.nd,by simp,λa ha b hb e=>by simp at hb; subst hb; subst e; exact c ha⟩
  ·have hy:y∈(st.1++[(z,k)]).map (·.1):=hy;rw[pc,eM]at hy;rcases hy with hy | hy
   ·exact h.sub y hy
   ·simp at hy; rw[hy]; exact hz
  ·have:=h.len;simp; lia
theorem Hh{σ:Type}(f:σ->Tx->σ)(g:Tx->List Tx):∀ (l:List Tx) (st:σ),(l.flatMap g).foldl f st=l.foldl (λst u=>(g u).foldl f st) st
 | [],st=>rfl
 | u::l,st=>by rw[lK,List.foldl_append,Hh f g l,jz]
section
variable{a:Ad}
theorem re{G:aj->R Slot}{ε:aj}{i0 i1:Nat}{v0 v1:PV}{r:Slot}(h0:ε[i0]?=aa (.val v0))(h1:ε[i1]?=aa (.val v1))(hG:G [.val v0,.val v1] = .ok r [.val v0,.val v1]):aG G (gV (dV i0) (gV (dV i1) (Pu.bO))) ε = .ok r ε:=by unfold aG;rw[fA (cp h0) (fA (cp h1) mY),R.bind_ok];simp[cC,dZ,R.bind,aS,hG,e_,d8,eB]
theorem pP{d:aj->R Slot}{ε ε1:aj}{x:PV}(h:d ε = .ok (.val x) ε1):aV d ε = .ok x ε1:=by unfold aV; rw[h]; rfl
theorem oK{d:aj->R PV}{ε ε1:aj}{xs:List PV}(h:d ε = .ok (.lst xs) ε1):cG d ε = .ok xs ε1:=by unfold cG; rw[h]; rfl
def xA:aj->R aH:=cV (dB (fD ai 3 (dV 6))) (aF (jh 3 (dV 6) (d2 aL (dV 2) (dC (.int 1)))) (jO 4 (dV 6))) (dG)
def Hs(a:Ad):aj->R aH:=cq 6 (cG (aV (aG (kF a) (gV (dV 5) (gV (dV 1) (Pu.bO)))))) xA
theorem QM:yaK a=aF (cQ 4 (dL b_ (aB))) (aF (λε=>cr (cq 5 (cG (dV 0)) (Hs a) ε)) (fg 4)):=rfl
def mW(N:PV)(w k:Nat)(st:List (Tx×Int)×List Tx)(p:Slot×Slot):aj:=[.val N,.val (.int w),.val (.int k),.own (.dK (dk st.1)),.own (.lst (am st.2)),p.1,p.2]
theorem Mu(U:List Tx)(hU:U.length<=2430)(N:PV)(w k:Nat)(s5:Slot)(zs:List Tx)(hz:∀ z∈zs,z∈U)(st:List (Tx×Int)×List Tx)(s6:Slot)(h:SP U st):∃ iA,eh 6 xA (am zs) (mW N w k st (s5,s6)) = .ok .next (mW N w k (zs.foldl (sf ((k:Int)+1)) st) (s5,iA))/\SP U (zs.foldl (sf ((k:Int)+1)) st):=by
 refine yz (i:=6) (λst s6=>mW N w k st (s5,s6)) (sf ((k:Int)+1)) (SP U) zs st s6 h ?_;intro z uc st s6 h;refine⟨h.step (hz z uc) _,.val (.str z),?_⟩;have Kg:=h.few;have bY:=h.len;have eO:=xE (neg:=ai) (i:=3) (db:=dV 6) (ε:=[.val N,.val (.int w),.val (.int k),.own (.dK (dk st.1)),.own (.lst (am st.2)),s5,.val (.str z)]) (z:=z) (m:=st.1) (cp rfl) rfl;show xA [.val N,.val (.int w),.val (.int k),.own (.dK (dk st.1)),.own (.lst (am st.2)),s5,.val (.str z)]=_;unfold xA sf;by_cases c:z∈ks st.1
 ·rw[decide_eq_true c]at eO;rw[if_pos c];exact(uS (kK eO)).trans rfl
 ·rw[decide_eq_false c]at eO;rw[if_neg c];refine(uP (kK eO)).trans ?_;have ha:aL (.int k) (.int 1)=aa (.int ((k:Int)+1)):=rfl;have Km:=EM (i:=3) (db:=dV 6) (de:=d2 aL (dV 2) (dC (.int 1))) (ε:=[.val N,.val (.int w),.val (.int k),.own (.dK (dk st.1)),.own (.lst (am st.2)),s5,.val (.str z)]) (z:=z) (n:=(k:Int)+1) (m:=st.1) (gQ (x:=.int k) (cp rfl) (kP _ _) ha) (cp rfl) ⟨_,rfl⟩ rfl (by unfold bB; lia);rw[LC c]at Km;refine(cK Km).trans ?_;have happ:=F8 (i:=4) (de:=dV 6) (ε:=[.val N,.val (.int w),.val (.int k),.own (.dK (dk (st.1++[(z,(k:Int)+1)]))),.own (.lst (am st.2)),s5,.val (.str z)]) (x:=.str z) (xs0:=am st.2) (xs:=am st.2) rfl (cp rfl) rfl (by rw[gm]; unfold bB; lia);refine happ.trans ?_;show R.ok _ [.val N,.val (.int w),.val (.int k),.own (.dK (dk (st.1++[(z,(k:Int)+1)]))),.own (.lst (am st.2++[.str z])),s5,.val (.str z)]=_;rw[show am st.2++[.str z]=am (st.2++[z]) by simp[am]];rfl
theorem Ry(U:List Tx)(hU:U.length<=2430)(w k:Nat)(new:List Tx)(hn:∀ u∈new,Tv u w/\u.length+2<=w+10/\∀ z∈bE u w,z∈U)(m:List (Tx×Int))(h:SP U (m,[])) : sL a [.val (.lst (am new)),.val (.int w),.val (.int k),.own (.dK (dk m))] = .ok (.own (.lst (am ((new.flatMap λu=>bE u w).foldl (sf ((k:Int)+1)) (m,[])).2))) [.val (.lst (am new)),.val (.int w),.val (.int k),.own (.dK (dk ((new.flatMap λu=>bE u w).foldl (sf ((k:Int)+1)) (m,[])).1))] /\ SP U ((new.flatMap λu=>bE u w).foldl (sf ((k:Int)+1)) (m,[])):=by
 obtain⟨⟨s5,s6⟩,e1,h1⟩:=yz (i:=5) (db:=Hs a) (λst p=>mW (.lst (am new)) w k st p) (λst u=>(bE u w).foldl (sf ((k:Int)+1)) st) (SP U) new (m,[]) (.none,.none) h
  (by intro u hu st p h;obtain⟨t1,t2,t3⟩:=hn u hu;obtain⟨iA,e,h'⟩:=Mu U hU (.lst (am new)) w k (.val (.str u)) (bE u w) t3 st p.2 h;refine⟨h',(.val (.str u),iA),?_⟩;have hc:=Bw (a:=a) u w t1 t2;have hd:cG (aV (aG (kF a) (gV (dV 5) (gV (dV 1) (Pu.bO))))) (mW (.lst (am new)) w k st (.val (.str u),p.2)) = .ok (am (bE u w)) (mW (.lst (am new)) w k st (.val (.str u),p.2)):=oK (nG (re (v0:=.str u) (v1:=.int w) rfl rfl hc));exact oP hd e)
 rw[← Hh]at e1 h1;refine⟨?_,h1⟩;have k1:cQ 4 (dL b_ aB) [.val (.lst (am new)),.val (.int w),.val (.int k),.own (.dK (dk m)),.none,.none,.none] = .ok .next (mW (.lst (am new)) w k (m,[]) (.none,.none)):=qr (by simp);have hd:cG (dV 0) (mW (.lst (am new)) w k (m,[]) (.none,.none)) = .ok (am new) (mW (.lst (am new)) w k (m,[]) (.none,.none)):=oK (cp rfl);generalize (new.flatMap λu=>bE u w).foldl (sf ((k:Int)+1)) (m,[])=st at e1;have hb:yaK a [.val (.lst (am new)),.val (.int w),.val (.int k),.own (.dK (dk m)),.none,.none,.none] = .ok (.ret (.own (.lst (am st.2)))) [.val (.lst (am new)),.val (.int w),.val (.int k),.own (.dK (dk st.1)),.none,s5,s6]:=by rw[QM];refine(cK k1).trans ?_;refine(ur hd e1).trans ?_;exact oI rfl
 unfold sL;generalize yaK a=D at hb;generalize am st.2=B at hb;generalize dk st.1=C at hb;generalize dk m=A at hb;generalize am new=N at hb;simp[bt,eQ,bw,bF,hb,back,aS,R.bind,jq]
end
theorem SV{i:Nat}{dg:aj->R (List cB)}{ε ε2:aj}{po:PO}{as:List cB}(h:ε[i]?=aa (.own po))(h2:dg ε = .ok as ε2):gO i dg ε = .ok (.inr i::as) ε2:=by unfold gO; rw[h]; simp only; rw[h2]; rfl
theorem Qf{G:aj->R Slot}{ε:aj}{i0 i1 i2 i3:Nat}{v0 v1 v2:PV}{po po':PO}{r:Slot}(h0:ε[i0]?=aa (.val v0))(h1:ε[i1]?=aa (.val v1))(h2:ε[i2]?=aa (.val v2))(h3:ε[i3]?=aa (.own po))(hG:G [.val v0,.val v1,.val v2,.own po] = .ok r [.val v0,.val v1,.val v2,.own po']):aG G (gV (dV i0) (gV (dV i1) (gV (dV i2) (gO i3 (Pu.bO))))) ε = .ok r (ε.set i3 (.own po')):=by unfold aG;rw[fA (cp h0) (fA (cp h1) (fA (cp h2) (SV h3 mY))),R.bind_ok];simp[cC,dZ,R.bind,aS,hG,e_,d8,eB,h3]
structure Bst(t:Tx)(w k:Nat)(m:List (Tx×Int))(new:List Tx):Prop where
 nd:(ks m).Nodup
 key:∀ z,z∈ks m↔WN w k t z
 new:∀ z,z∈new↔Lv w t k z
theorem Bst.sp{t:Tx}{w k:Nat}{m:List (Tx×Int)}{new:List Tx}(h:Bst t w k m new)(ht:Tv t w):SP (bJ t w) (m,[]):=⟨h.nd,λz hz=>((h.key z).mp hz).like ht,by simp⟩
theorem Bst.near{t:Tx}{w k:Nat}{m:List (Tx×Int)}{new:List Tx}(h:Bst t w k m new)(ht:Tv t w)(h9:t.length+2<=w+10):∀ u∈new,Tv u w/\u.length+2<=w+10/\∀ z∈bE u w,z∈bJ t w:=λu hu=>by have hl:=(h.new u).mp hu;obtain⟨a1,a2,a3⟩:=hl.1.good ht;exact⟨a1,∅,λz hz=>(NK.mpr (.inr ⟨u,hl,hz⟩)).like ht⟩
theorem Hl{t:Tx}{w k:Nat}{m:List (Tx×Int)}{new:List Tx}(h:Bst t w k m new)(z:Tx):z∈(new.flatMap λu=>bE u w)↔∃ u,Lv w t k u/\z∈bE u w:=by rw[v7];exact⟨λ⟨u,a,b⟩=>⟨u,(h.new u).mp a,b⟩,λ⟨u,a,b⟩=>⟨u,(h.new u).mpr a,b⟩⟩
theorem Bst.next{t:Tx}{w k:Nat}{m:List (Tx×Int)}{new:List Tx}(h:Bst t w k m new){st:List (Tx×Int)×List Tx}(e:(new.flatMap λu=>bE u w).foldl (sf ((k:Int)+1)) (m,[])=st)(hs:SP (bJ t w) st):Bst t w (k+1) st.1 st.2:=by
 refine⟨hs.nd,λz=>?_,λz=>?_⟩
 ·rw[← e,FY,NK,Hl h];show z∈ks m\/_↔_;rw[h.key]
 ·rw[← e,B9,Hl h];show z∈[]\/(_/\z∉ks m)↔_;rw[h.key];constructor
  ·rintro(q | ⟨q,r⟩)
   ·simp at q
   ·exact⟨NK.mpr (.inr q),λj hj=>(show k=j by lia) ▸ r⟩
  ·rintro⟨q,r⟩;have r':=r k rfl;exact .inr ⟨(NK.mp q).resolve_left r',r'⟩
theorem Bst.len{t:Tx}{w k:Nat}{m:List (Tx×Int)}{new:List Tx}(h:Bst t w k m new)(ht:Tv t w):m.length<(bJ t w).length↔¬ Full w t k:=by
 have hkl:(ks m).length=m.length:=cD _;constructor
 ·intro hl hf;have:=len_sub (Bt t w) (m:=ks m) λz hz=>(h.key z).mpr (hf z hz);lia
 ·intro hf;refine zL λc=>hf λz hz=>zL λd=>?_;have hn:z∉ks m:=λq=>d ((h.key z).mp q);have:=len_sub (l:=z::ks m) (m:=bJ t w) (jx.mpr ⟨hn,h.nd⟩) λy hy=>by
   rcases cb.mp hy with rfl | hy
   ·exact hz
   ·exact((h.key y).mp hy).like ht
  rw[eD]at this;lia
section
variable{a:Ad}
theorem K3(t:Tx)(w:Nat):Bst t w 0 [(t,0)] [t]:=⟨by simp,λz=>by rw[NZ]; simp,λz=>by rw[HK]; simp⟩
theorem Q8{t:Tx}{w K:Nat}(ht:Tv t w)(pD:∀ k,k<K->¬ Full w t k):∃ y,Lv w t K y:=by
 cases K with
 | zero=>exact⟨t,HK.mpr rfl⟩
 | succ K=>exact Ou ht (pD K ∅)
end
theorem q_{w i j:Nat}{t z:Tx}(h1:Lv w t i z)(h2:Lv w t j z):i=j:=by
 rcases Nat.lt_trichotomy i j with c | c | c
 ·have:=h1.1.mono (j-1-i);rw[show i+(j-1-i)=j-1 by lia]at this;exact absurd this (h2.2 (j-1) ∅)
 ·exact c
 ·have:=h2.1.mono (i-1-j);rw[show j+(i-1-j)=i-1 by lia]at this;exact absurd this (h1.2 (i-1) ∅)
theorem Ob{w:Nat}{t z:Tx}:∀ {k:Nat},WN w k t z↔∃ i,i<=k/\Lv w t i z
 | 0=>⟨λh=>⟨0,bi _,HK.mpr (NZ.mp h)⟩,λ⟨i,h1,h2⟩=>by
   have:i=0:=∅
   subst this;exact h2.1⟩
 | k+1=>by
  constructor
  ·intro h;by_cases c:WN w k t z
   ·obtain⟨i,h1,h2⟩:=Ob.mp c;exact⟨i,∅,h2⟩
   ·exact⟨k+1,bi _,h,λj hj=>(show k=j by lia) ▸ c⟩
  ·rintro⟨i,h1,h2⟩;have:=h2.1.mono (k+1-i);rwa[show i+(k+1-i)=k+1 by lia]at this
structure jP(t:Tx)(w k:Nat)(m:List (Tx×Int))(lv:List Tx):Prop where
 nd:(ks m).Nodup
 get:∀ z (n:Int),bj m z=aa n↔∃ i:Nat,n=i/\i<=k/\Lv w t i z
 lev:∀ z,z∈lv↔Lv w t k z
theorem jP.key{t:Tx}{w k:Nat}{m:List (Tx×Int)}{lv:List Tx}(h:jP t w k m lv)(z:Tx):z∈ks m↔WN w k t z:=by
 have:=BN m z;rw[Ob];constructor
 ·intro q;rw[decide_eq_true q,Option.isSome_iff_exists]at this;obtain⟨n,hn⟩:=this;obtain⟨i,_,h1,h2⟩:=(h.get z n).mp hn;exact⟨i,h1,h2⟩
 ·rintro⟨i,h1,h2⟩;have e:=(h.get z i).mpr ⟨i,rfl,h1,h2⟩;rw[e]at this;exact of_decide_eq_true this.symm
def fN(w:Nat)(m:List (Tx×Int))(lv:List Tx):List Tx:=lv.flatMap λh=>(jt h w).filter λz=>decide (z∉ks m)
theorem G2(n:Int):∀ (zs:List Tx) (m:List (Tx×Int)) (z:Tx),bj (zs.foldl (λm z=>cL m z n) m) z=if z∈zs then aa n else bj m z
 | [],m,z=>by simp
 | x::zs,m,z=>by
  rw[jz,G2 n zs,ue];by_cases c:z∈zs
  ·simp[c]
  ·by_cases d:z=x <;> simp[c,d]
theorem HH(n:Int):∀ (zs:List Tx) (m:List (Tx×Int)),(ks m).Nodup->(ks (zs.foldl (λm z=>cL m z n) m)).Nodup
 | [],m,h=>h
 | x::zs,m,h=>HH n zs (cL m x n) (xO h)
structure jk(t:Tx)(w:Nat):Prop where
 tv:Tv t w
 w2:2<=w
 h9:t.length<=9
 two:2 * w<=t.length+3
theorem jk.of{t u:Tx}{w k:Nat}(h:jk t w)(q:WN w k t u):jk u w:=by obtain⟨a1,a2,_⟩:=q.good h.tv;exact⟨a1,h.w2,by have:=h.h9; lia,by have:=h.two; lia⟩
theorem jP.late{t:Tx}{w k:Nat}{m:List (Tx×Int)}{lv:List Tx}(h:jP t w k m lv)(ht:jk t w)(z:Tx):z∈fN w m lv↔Lv w t (k+1) z:=by
 unfold fN;rw[v7];simp only[kh,decide_eq_true_eq];constructor
 ·rintro⟨u,hu,hz,hn⟩;have hl:=(h.lev u).mp hu;have hw:=ht.of hl.1;rw[← E_ hw.tv hw.two]at hz;refine⟨NK.mpr (.inr ⟨u,hl,hz⟩),λj hj=>?_⟩;rw[h.key]at hn;exact(show k=j by lia) ▸ hn
 ·rintro⟨q,r⟩;have r':=r k rfl;obtain⟨u,hu,hz⟩:=(NK.mp q).resolve_left r';have hw:=ht.of hu.1;rw[E_ hw.tv hw.two]at hz;exact⟨u,(h.lev u).mpr hu,hz,λc=>r' ((h.key z).mp c)⟩
theorem jP.next{t:Tx}{w k:Nat}{m:List (Tx×Int)}{lv:List Tx}(h:jP t w k m lv)(ht:jk t w):jP t w (k+1) ((fN w m lv).foldl (λm z=>cL m z ((k:Int)+1)) m) (bu (ca (fN w m lv))):=by
 refine⟨HH _ _ _ h.nd,λz n=>?_,λz=>?_⟩
 ·rw[G2];by_cases c:z∈fN w m lv
  ·have hl:=(h.late ht z).mp c;rw[if_pos c];constructor
   ·intro e;exact⟨k+1,by rw[← eJ e]; rfl,bi _,hl⟩
   ·rintro⟨i,rfl,h1,h2⟩;rw[q_ h2 hl]; rfl
  ·rw[if_neg c,h.get];constructor
   ·rintro⟨i,e,h1,h2⟩;exact⟨i,e,∅,h2⟩
   ·rintro⟨i,e,h1,h2⟩;refine⟨i,e,?_,h2⟩;rcases Dq k i with d | d
    ·have:i=k+1:=∅
     subst this;exact absurd ((h.late ht z).mpr h2) c
    ·exact d
 ·rw[(iU _).mem_iff,ml,h.late ht]
theorem jP.sub{t:Tx}{w k:Nat}{m:List (Tx×Int)}{lv:List Tx}(h:jP t w k m lv)(ht:jk t w):m.length<=2430:=by have:=len_sub h.nd λz hz=>((h.key z).mp hz).like ht.tv;rw[cD]at this;have:=xT ht.tv ht.w2 ht.h9;lia
theorem Mo:∀ n,n<=9->Il n<=210:=by decide +kernel
theorem TR{u:Tx}{w:Nat}(h:jk u w):(jt u w).length<=220:=by
 have hr:=su u (w-1);have h9:=h.h9;have w2:=h.w2;have hw:=h.tv.h1;unfold jt;rw[BB];have b1:=yE (eT (lm u w) u);have b2:(eT (lm u w) u).length<=(lm u w).length:=v5 _ _;have b3:(lm u w).length=(nH u (bN u (w-1))).length+(ge u (bN u (w-1))).length:=by unfold lm; rw[dq]
 have b4:=Gf u (bN u (w-1));have b5:(nH u (bN u (w-1))).length<=210:=by refine cI (oQ (c:=λl=>((bP 0 l).map λj=>(l-j) * j).sum) λs _=>?_) (Mo _ ∅);exact oQ λg _=>BL (Ca u _ g s)
 lia
theorem Hm{w:Nat}{m:List (Tx×Int)}:∀ (lv:List Tx),(∀ u∈lv,jk u w)->(fN w m lv).length<=lv.length * 220
 | [],_=>by simp[fN]
 | u::lv,h=>by
  have ih:=Hm (m:=m) lv λy hy=>h y (by simp[hy]);have h1:=TR (h u (by simp));have h2:((jt u w).filter λz=>decide (z∉ks m)).length<=(jt u w).length:=v5 _ _;have e:fN w m (u::lv)=((jt u w).filter λz=>decide (z∉ks m))++fN w m lv:=by unfold fN; rw[lK]
  rw[e,dq,eD,Dm];lia
theorem Qh{m:List (Tx×Int)}{z:Tx}(h:z∉ks m):bj m z=ae:=by have:=BN m z;rw[decide_eq_false h]at this;exact Option.isNone_iff_eq_none.mp (by simpa using this)
theorem Jk(k:Int):∀ (zs:List Tx) (st:List (Tx×Int)×List Tx) (z:Tx),bj (zs.foldl (sf k) st).1 z=if z∈ks st.1 then bj st.1 z else if z∈zs then aa k else ae
 | [],st,z=>by
  by_cases c:z∈ks st.1
  ·simp[c]
  ·simp[c,Qh c]
 | x::zs,st,z=>by
  rw[jz,Jk k zs];unfold sf;by_cases c:x∈ks st.1
  ·rw[if_pos c];by_cases d:z∈ks st.1
   ·rw[if_pos d,if_pos d]
   ·rw[if_neg d,if_neg d];have:z≠x:=λe=>d (e ▸ c);simp[this]
  ·rw[if_neg c];have hk:∀ y,y∈ks (st.1++[(x,k)])↔y∈ks st.1\/y=x:=λy=>by show y∈(st.1++[(x,k)]).map (·.1)↔_; simp
   have hg:bj (st.1++[(x,k)]) z=if z=x then aa k else bj st.1 z:=F7 (by rw[AZ,decide_eq_false c])
   by_cases d:z∈ks st.1
   ·have:z≠x:=λe=>c (e ▸ d);rw[if_pos ((hk z).mpr (.inl d)),if_pos d];show bj (st.1++[(x,k)]) z=_;rw[hg,if_neg this]
   ·by_cases e:z=x
    ·rw[if_pos ((hk z).mpr (.inr e)),if_neg d];show bj (st.1++[(x,k)]) z=_;rw[hg,if_pos e];simp[e]
    ·rw[if_neg (λq=>((hk z).mp q).elim d e),if_neg d];simp[e]
structure kG(t:Tx)(w k:Nat)(m:List (Tx×Int))(new:List Tx):Prop extends Bst t w k m new where
 get:∀ z (n:Int),bj m z=aa n↔∃ i:Nat,n=i/\i<=k/\Lv w t i z
theorem KS(t:Tx)(w:Nat)(z:Tx)(n:Int):bj [(t,0)] z=aa n↔∃ i:Nat,n=i/\i<=0/\Lv w t i z:=by
 rw[Lr (by simp)];simp only[gZ,Prod.mk.injEq];constructor
 ·rintro⟨rfl,rfl⟩;exact⟨0,rfl,bi _,HK.mpr rfl⟩
 ·rintro⟨i,rfl,h1,h2⟩;have:i=0:=∅
  subst this;exact⟨HK.mp h2,rfl⟩
theorem Qm(t:Tx)(w:Nat):kG t w 0 [(t,0)] [t]:=⟨K3 t w,KS t w⟩
theorem kG.next{t:Tx}{w k:Nat}{m:List (Tx×Int)}{new:List Tx}(h:kG t w k m new){st:List (Tx×Int)×List Tx}(e:(new.flatMap λu=>bE u w).foldl (sf ((k:Int)+1)) (m,[])=st)(hs:SP (bJ t w) st):kG t w (k+1) st.1 st.2:=by
 have hb:=h.toBst.next e hs;refine⟨hb,λz n=>?_⟩;rw[← e,Jk];show(if z∈ks m then bj m z else _)=aa n↔_;by_cases c:z∈ks m
 ·rw[if_pos c,h.get];constructor
  ·rintro⟨i,e1,h1,h2⟩; exact⟨i,e1,∅,h2⟩
  ·rintro⟨i,e1,h1,h2⟩;obtain⟨i',iQ,iR⟩:=Ob.mp ((h.key z).mp c);have:=q_ h2 iR;subst this;exact⟨i,e1,iQ,h2⟩
 ·rw[if_neg c];have hiff:z∈(new.flatMap λu=>bE u w)↔Lv w t (k+1) z:=by
   have:=hb.new z;rw[← e,B9]at this;rw[← this];constructor
   ·exact λq=>.inr ⟨q,c⟩
   ·rintro(q | ⟨q,_⟩)
    ·simp at q
    ·exact q
  constructor
  ·intro q;by_cases d:z∈(new.flatMap λu=>bE u w)
   ·rw[if_pos d]at q;exact⟨k+1,by rw[← eJ q]; rfl,bi _,hiff.mp d⟩
   ·rw[if_neg d]at q; cases q
  ·rintro⟨i,rfl,h1,h2⟩;have hi:i=k+1:=by
    rcases Dq k i with q | q
    ·lia
    ·exact absurd ((h.key z).mpr (Ob.mpr ⟨i,q,h2⟩)) c
   subst hi;rw[if_pos (hiff.mpr h2)]; rfl
theorem F_(m:List (Tx×Int))(x:Tx):dr m x=bj m x:=rfl
theorem rK{m:List (Tx×Int)}{c:Int}:∀ (r:List Tx) (b:Tx) (kb:Int),bj m b=aa kb->(∀ y∈r,∃ k,bj m y=aa k/\c<=k)->c<=kb -> (kb=c->r.foldl (λb y=>b.bind λb=>(dr m b).bind λkb=>(dr m y).map λky=>if ky<kb then y else b) (aa b)=aa b) /\ (kb≠c->(∃ y∈r,bj m y=aa c)->r.foldl (λb y=>b.bind λb=>(dr m b).bind λkb=>(dr m y).map λky=>if ky<kb then y else b) (aa b)=r.find? λy=>decide (bj m y=aa c))
 | [],b,kb,_,_,_=>⟨λ_=>rfl,λ_ ⟨y,hy,_⟩=>by simp at hy⟩
 | x::r,b,kb,hb,hr,hc=>by
  obtain⟨kx,hx,wT⟩:=hr x (by simp);have gK:=λy (hy:y∈r)=>hr y (by simp[hy]);have estep:((aa b).bind λb=>(dr m b).bind λkb=>(dr m x).map λky=>if ky<kb then x else b)=aa (if kx<kb then x else b):=by simp only[gI,F_,hb,hx,lH]
  refine⟨λe=>?_,λne pt=>?_⟩
  ·rw[jz,estep,if_neg ∅];exact(rK r b kb hb gK hc).1 e
  ·rw[jz,estep];by_cases q:kx=c
   ·rw[if_pos ∅,f6,decide_eq_true (by rw[hx,q])];exact(rK r x kx hx gK wT).1 q
   ·have Kn:∃ y∈r,bj m y=aa c:=by
     obtain⟨y,hy,e⟩:=pt;rcases cb.mp hy with rfl | hy
     ·rw[hx]at e; exact absurd (eJ e) q
     ·exact⟨y,hy,e⟩
    rw[f6,decide_eq_false (by rw[hx]; intro e; exact q (eJ e))];by_cases d:kx<kb
    ·rw[if_pos d]; exact(rK r x kx hx gK wT).2 q Kn
    ·rw[if_neg d]; exact(rK r b kb hb gK hc).2 ne Kn
theorem Qy{m:List (Tx×Int)}{c:Int}{ls:List Tx}(h:∀ y∈ls,∃ k,bj m y=aa k/\c<=k)(pt:∃ y∈ls,bj m y=aa c):rf m ls=ls.find? λy=>decide (bj m y=aa c):=by
 cases ls with
 | nil=>obtain⟨y,hy,_⟩:=pt; simp at hy
 | cons x r=>
  obtain⟨kx,hx,wT⟩:=h x (by simp);have gK:=λy (hy:y∈r)=>h y (by simp[hy]);show r.foldl _ ((dr m x).map λ_=>x)=_;rw[F_,hx,lH,f6];by_cases q:kx=c
  ·rw[decide_eq_true (by rw[hx,q])];exact(rK r x kx hx gK wT).1 q
  ·rw[decide_eq_false (by rw[hx]; intro e; exact q (eJ e))];refine(rK r x kx hx gK wT).2 q ?_;obtain⟨y,hy,e⟩:=pt;rcases cb.mp hy with rfl | hy
   ·rw[hx]at e; exact absurd (eJ e) q
   ·exact⟨y,hy,e⟩
theorem xq{t u:Tx}{w d:Nat}(ht:Tv t w)(h:Lv w t (d+1) u):∃ v,Lv w t d v/\v∈bE u w:=by obtain⟨v,h1,h2⟩:=(NK.mp h.1).resolve_left (h.2 d rfl);exact⟨v,h1,(Gv (h1.1.good ht).1 h2).2.2.2.2⟩
theorem Hz{t u v:Tx}{w d j:Nat}(ht:Tv t w)(hu:Lv w t d u)(hv:v∈bE u w)(hj:Lv w t j v):d<=j+1:=by have hb:=(Gv (hu.1.good ht).1 hv).2.2.2.2;have:WN w (j+1) t u:=NK.mpr (.inr ⟨v,hj,hb⟩);obtain⟨i,h1,h2⟩:=Ob.mp this;rw[q_ hu h2]; exact h1
def kN(t:Tx)(w d:Nat)(u:Tx):Tx:=open Classical in ((bE u w).find? λz=>decide (Lv w t d z)).getD u
def lc(t:Tx)(w:Nat):Nat->Tx->List Tx
 | 0,u=>[u]
 | d+1,u=>u::lc t w d (kN t w d u)
theorem OF{t u:Tx}{w d:Nat}(ht:Tv t w)(h:Lv w t (d+1) u):Lv w t d (kN t w d u)/\kN t w d u∈bE u w:=by
 classical
 obtain⟨v,h1,h2⟩:=xq ht h;unfold kN;cases e:(bE u w).find? λz=>decide (Lv w t d z)with
 | none=>exact absurd h1 (by have:=zH.mp e v h2; simpa using this)
 | some z=>show Lv w t d z/\z∈bE u w;exact⟨by have:=List.find?_some e; simpa using this,List.mem_of_find?_eq_some e⟩
theorem SI{t u:Tx}{w d:Nat}{m:List (Tx×Int)}(ht:Tv t w)(h:Lv w t (d+1) u)(hm:∀ z∈bE u w,bj m z=aa (d:Int)↔Lv w t d z):(bE u w).find? (λz=>decide (bj m z=aa (d:Int)))=aa (kN t w d u):=by
 classical
 have e1:(bE u w).find? (λz=>decide (bj m z=aa (d:Int)))=(bE u w).find? λz=>decide (Lv w t d z):=by
  have:∀ l:List Tx,(∀ z∈l,bj m z=aa (d:Int)↔Lv w t d z)->l.find? (λz=>decide (bj m z=aa (d:Int)))=l.find? λz=>decide (Lv w t d z):=by
   intro l
   induction l with
   | nil=>intro _; rfl
   | cons x l ih=>
    intro hl;rw[f6,f6,ih λz hz=>hl z (by simp[hz])];have:=hl x (by simp);by_cases c:Lv w t d x
    ·rw[decide_eq_true c,decide_eq_true (this.mpr c)]
    ·rw[decide_eq_false c,decide_eq_false (λq=>c (this.mp q))]
  exact this _ hm
 obtain⟨v,h1,h2⟩:=xq ht h;rw[e1];unfold kN;cases e:(bE u w).find? λz=>decide (Lv w t d z)with
 | none=>exact absurd h1 (by have:=zH.mp e v h2; simpa using this)
 | some z=>rfl
theorem Hk(t:Tx)(w:Nat):∀ (d:Nat) (u:Tx),(lc t w d u).length=d+1
 | 0,u=>rfl
 | d+1,u=>by rw[lc,eD,Hk t w d]
section
variable{a:Ad}
def gC:aj->R Bool:=j4 (dB (dL vd (aw (dF (dD [4] (cG (dV 3)) (dU) (fD ao 1 (dV 0)))) (aB))))
def gB(a:Ad):aj->R aH:=aF (bH 5 (aV (aG (sL a) (gV (dV 5) (gV (dV 2) (gV (dV 6) (gO 4 (Pu.bO)))))))) (bH 6 (d2 aL (dV 6) (dC (.int 1))))
theorem N4:yam a=aF (bH 3 (aV (aG (kF a) (gV (dV 1) (gV (dV 2) (Pu.bO)))))) (aF (cQ 4 (oE 0 0)) (aF (bH 5 (dF (dL b_ (aw (dV 0) (aB))))) (aF (bH 6 (dC (.int 0))) (aF (λε=>cr (eI gC (gB a) 1000 ε)) (fg 4))))):=rfl
def jQ(g s:Tx)(w:Nat)(near:List Tx)(m:List (Tx×Int))(new:List Tx)(k:Nat):aj:=[.val (.str g),.val (.str s),.val (.int w),.val (.lst (am near)),.own (.dK (dk m)),.val (.lst (am new)),.val (.int k)]
theorem Fm(g s:Tx)(w:Nat)(near:List Tx)(m:List (Tx×Int))(new:List Tx)(k:Nat):gC (jQ g s w near m new k) = .ok (!(near.map λz=>decide (z∈ks m)).any id) (jQ g s w near m new k):=by
 have hc:=kI (cap:=[4]) (dt:=dU) (de:=fD ao 1 (dV 0)) (ε:=jQ g s w near m new k) (λ_=>ai) (λx=>match x with | .str z=>.bl (decide (z∈ks m)) | _=>.non) (am near)
  (by intro x hx;obtain⟨z,_,rfl⟩:=cO.mp hx;have eO:=xE (neg:=ao) (i:=1) (db:=dV 0) (ε:=[.val (.str z),.own (.dK (dk m))]) (z:=z) (m:=m) (cp rfl) rfl;rw[mL]at eO;generalize fD ao 1 (dV 0)=D at eO ⊢;unfold jQ;generalize dk m=DM at eO ⊢;exact⟨by simp[eA,d9,dw,R.bind,aS,cC,dZ,dU,e_,d8,eB],λ_=>by simp[eA,d9,dw,R.bind,aS,cC,dZ,eO,e_,d8,eB]⟩) []
 rw[ft,n9.mpr (by simp)]at hc;have hm:(am near).map (λx=>match x with | .str z=>PV.bl (decide (z∈ks m)) | _=>.non)=(near.map λz=>decide (z∈ks m)).map .bl:=by unfold am;rw[eE,eE];rfl
 rw[hm]at hc;have hx:dF (dD [4] (cG (dV 3)) (dU) (fD ao 1 (dV 0))) (jQ g s w near m new k) = .ok (.lst ((near.map λz=>decide (z∈ks m)).map .bl)) (jQ g s w near m new k):=by unfold dF dD;rw[oK (xs:=am near) (cp rfl),R.bind_ok,hc];rfl
 have hany:vd [.lst ((near.map λz=>decide (z∈ks m)).map .bl)]=aa (.bl ((near.map λz=>decide (z∈ks m)).any id)):=by show(kE _).map _=_;rw[ER]; rfl
 have:=kK (io (fO hx ie) hany);unfold gC j4;rw[this];rfl
theorem He{g s:Tx}{w D k:Nat}{m:List (Tx×Int)}{new:List Tx}(hg:Tv g w)(hs:Lv w g (D+1) s)(h:kG g w k m new):(((bE s w).map λz=>decide (z∈ks m)).any id)=decide (D<=k):=by
 rw[o6,decide_eq_true_eq,C4,tQ];constructor
 ·rintro⟨v,hv,q⟩;have hq:v∈ks m:=of_decide_eq_true q;obtain⟨i,h1,h2⟩:=Ob.mp ((h.key v).mp hq);have:=Hz hg hs hv h2;lia
 ·intro hk;obtain⟨v,h1,h2⟩:=xq hg hs;exact⟨v,h2,decide_eq_true ((h.key v).mpr (Ob.mpr ⟨D,hk,h1⟩))⟩
theorem Pi(g s:Tx)(w:Nat)(ht:Tv g w)(w2:2<=w)(h9:g.length<=9)(near:List Tx)(k:Nat)(m:List (Tx×Int))(new:List Tx)(h:kG g w k m new):∃ m' new',kG g w (k+1) m' new'/\gB a (jQ g s w near m new k) = .ok .next (jQ g s w near m' new' (k+1)):=by obtain⟨e,hs⟩:=Ry (a:=a) (bJ g w) (xT ht w2 h9) w k new (h.toBst.near ht ∅) m (h.toBst.sp ht);generalize lQ:(new.flatMap λu=>bE u w).foldl (sf ((k:Int)+1)) (m,[])=st at e hs;refine⟨st.1,st.2,h.next lQ hs,?_⟩;have k1:bH 5 (aV (aG (sL a) (gV (dV 5) (gV (dV 2) (gV (dV 6) (gO 4 (Pu.bO))))))) (jQ g s w near m new k) = .ok .next (jQ g s w near st.1 st.2 k) :=nD (nG (Qf (ε:=jQ g s w near m new k) (v0:=.lst (am new)) (v1:=.int w) (v2:=.int k) (po:=.dK (dk m)) rfl rfl rfl rfl e));unfold gB;refine(cK k1).trans ?_;exact nD (gQ (x:=.int k) (cp rfl) (kP _ _) (Jj k))
theorem GC(g s:Tx)(w:Nat)(ht:Tv g w)(w2:2<=w)(h9:g.length<=9)(D:Nat)(hs:Lv w g (D+1) s):∀ (j k bx:Nat) (m:List (Tx×Int)) (new:List Tx),k+j=D->j<bx->kG g w k m new -> ∃ m' new',kG g w D m' new'/\eI gC (gB a) bx (jQ g s w (bE s w) m new k) = .ok .next (jQ g s w (bE s w) m' new' D)
 | 0,k,bx,m,new,hj,hf,h=>by
  obtain⟨f,rfl⟩:∃ f,bx=f+1:=⟨bx-1,∅⟩
  have e:k=D:=∅
  subst e;have c:=Fm g s w (bE s w) m new k;rw[He ht hs h,decide_eq_true (bi _)]at c;exact⟨m,new,h,ve c⟩
 | j+1,k,bx,m,new,hj,hf,h=>by
  obtain⟨f,rfl⟩:∃ f,bx=f+1:=⟨bx-1,∅⟩
  have c:=Fm g s w (bE s w) m new k;rw[He ht hs h,decide_eq_false ∅]at c;obtain⟨m1,n1,h1,e1⟩:=Pi (a:=a) g s w ht w2 h9 (bE s w) k m new h;obtain⟨m2,n2,h2,e2⟩:=GC g s w ht w2 h9 D hs j (k+1) f m1 n1 ∅ ∅ h1;exact⟨m2,n2,h2,(yc c e1).trans e2⟩
theorem QR(g s:Tx)(w:Nat)(ht:Tv g w)(w2:2<=w)(h9:g.length<=9)(D:Nat)(hD:D<=20)(hs:Lv w g (D+1) s):∃ m new,kG g w D m new/\pK a [.val (.str g),.val (.str s),.val (.int w)] = .ok (.own (.dK (dk m))) [.val (.str g),.val (.str s),.val (.int w)]:=by
 obtain⟨m,new,hb,hw⟩:=GC (a:=a) g s w ht w2 h9 D hs D 0 1000 [(g,0)] [g] ∅ ∅ (Qm g w);refine⟨m,new,hb,?_⟩;obtain⟨s1,s2,_⟩:=hs.1.good ht;have DU:=Bw (a:=a) s w s1 ∅;have k0:bH 3 (aV (aG (kF a) (gV (dV 1) (gV (dV 2) (Pu.bO))))) [.val (.str g),.val (.str s),.val (.int w),.none,.none,.none,.none] = .ok .next [.val (.str g),.val (.str s),.val (.int w),.val (.lst (am (bE s w))),.none,.none,.none]:=nD (nG (re (v0:=.str s) (v1:=.int w) rfl rfl DU));have k1:cQ 4 (oE 0 0) [.val (.str g),.val (.str s),.val (.int w),.val (.lst (am (bE s w))),.none,.none,.none] = .ok .next [.val (.str g),.val (.str s),.val (.int w),.val (.lst (am (bE s w))),.own (.dK (dk [(g,0)])),.none,.none]:=rfl;have k2:bH 5 (dF (dL b_ (aw (dV 0) (aB)))) [.val (.str g),.val (.str s),.val (.int w),.val (.lst (am (bE s w))),.own (.dK (dk [(g,0)])),.none,.none] = .ok .next [.val (.str g),.val (.str s),.val (.int w),.val (.lst (am (bE s w))),.own (.dK (dk [(g,0)])),.val (.lst (am [g])),.none]:=rfl;have k3:bH 6 (dC (.int 0)) [.val (.str g),.val (.str s),.val (.int w),.val (.lst (am (bE s w))),.own (.dK (dk [(g,0)])),.val (.lst (am [g])),.none] = .ok .next (jQ g s w (bE s w) [(g,0)] [g] 0):=rfl;have iB:yam a [.val (.str g),.val (.str s),.val (.int w),.none,.none,.none,.none] = .ok (.ret (.own (.dK (dk m)))) [.val (.str g),.val (.str s),.val (.int w),.val (.lst (am (bE s w))),.none,.val (.lst (am new)),.val (.int D)]:=by rw[N4];refine(cK k0).trans ?_;refine(cK k1).trans ?_;refine(cK k2).trans ?_;refine(cK k3).trans ?_;refine(cK (d1:=λε=>cr (eI gC (gB a) 1000 ε)) (by show cr _=_; rw[hw]; rfl)).trans ?_;exact oI rfl
 unfold pK;generalize yam a=DD at iB;generalize dk m=A at iB;generalize am (bE s w)=B at iB;generalize am new=C at iB;simp[bt,eQ,bw,bF,iB,back,aS,R.bind,jq]
def uv:aj->R PV:=pF bA 3 (d1 gd (dC (.int 1)))
def rC:aj->R Bool:=dB (d2 (eqT ai) uv (dV 1))
def Bj(a:Ad):aj->R PV:=dF (dD [4] (cG (aV (aG (kF a) (gV uv (gV (dV 2) (Pu.bO)))))) (dB (fD ao 1 (dV 0))) (dV 0))
def rB(a:Ad):aj->R aH:=aF (bH 5 (Bj a)) (jO 3 (pH 5 4))
theorem Qq:yaJ a=aF (kU (aG (qg a) (gV (dV 0) (gV (dV 1) (gV (dV 2) (Pu.bO)))))) (aF (cQ 3 (dL b_ (aw (dV 0) (aB)))) (aF (cV (dB (d2 (eqT ao) (dV 0) (dV 1))) (fg 3) (dG)) (aF (cQ 4 (kM (aG (pK a) (gV (dV 1) (gV (dV 0) (gV (dV 2) (Pu.bO))))))) (aF (λε=>cr (eI rC (rB a) 1000 ε)) (fg 3))))):=rfl
def gk(u t:Tx)(w:Nat)(way:List Tx)(m:List (Tx×Int))(s5:Slot):aj:=[.val (.str u),.val (.str t),.val (.int w),.own (.lst (am way)),.own (.dK (dk m)),s5]
theorem Iz(u t:Tx)(w:Nat)(pre:List Tx)(v:Tx)(m:List (Tx×Int))(s5:Slot):uv (gk u t w (pre++[v]) m s5) = .ok (.str v) (gk u t w (pre++[v]) m s5):=by
 have hix:j_ (am (pre++[v])).length (-1)=aa pre.length:=by unfold j_ am;rw[cD,dq,ti,if_neg ∅,if_pos ∅];congr 1;lia
 have t6:oG (bA (.lst (am (pre++[v]))) (.int (-1)))=aa (.str v):=by
  have:bA (.lst (am (pre++[v]))) (.int (-1))=aa (.str v):=by show ff _ _=_;unfold ff;rw[hix];unfold am;simp
  rw[this]; rfl
 unfold uv pF gk;generalize am (pre++[v])=L at t6 ⊢;generalize dk m=M;simp[f_,aS,R.bind,d1,dC,gd,t6]
theorem HN(u t:Tx)(w:Nat)(pre:List Tx)(v:Tx)(m:List (Tx×Int))(s5:Slot):rC (gk u t w (pre++[v]) m s5) = .ok (decide (v≠t)) (gk u t w (pre++[v]) m s5):=by have h:=gQ (f:=eqT ai) (z:=.bl (decide (v≠t))) (Iz u t w pre v m s5) (cp (i:=1) (v:=.str t) rfl) (by rw[mZ,tP];congr 2;simp);exact kK h
theorem Ln(u t:Tx)(w:Nat)(pre:List Tx)(v:Tx)(m:List (Tx×Int))(s5:Slot)(hv:Tv v w)(h9:v.length<=9):Bj a (gk u t w (pre++[v]) m s5) = .ok (.lst (am ((bE v w).filter λz=>decide (z∈ks m)))) (gk u t w (pre++[v]) m s5):=by
 have DU:=Bw (a:=a) v w hv (by have:=hv.w1; lia);have Uz:aG (kF a) (gV uv (gV (dV 2) (Pu.bO))) (gk u t w (pre++[v]) m s5) = .ok (.own (.lst (am (bE v w)))) (gk u t w (pre++[v]) m s5):=by unfold aG;rw[fA (Iz u t w pre v m s5) (fA (cp (i:=2) (v:=.int w) rfl) mY),R.bind_ok];simp[cC,dZ,R.bind,aS,DU,e_,d8,eB]
 have hc:=kI (cap:=[4]) (dt:=dB (fD ao 1 (dV 0))) (de:=dV 0) (ε:=gk u t w (pre++[v]) m s5) (λx=>match x with | .str z=>decide (z∈ks m) | _=>ao) id (am (bE v w))
  (by intro x hx;obtain⟨z,_,rfl⟩:=cO.mp hx;have eO:=xE (neg:=ao) (i:=1) (db:=dV 0) (ε:=[.val (.str z),.own (.dK (dk m))]) (z:=z) (m:=m) (cp rfl) rfl;rw[mL]at eO;have DV:=kK eO;generalize dB (fD ao 1 (dV 0))=D at DV ⊢;unfold gk;generalize dk m=DM at DV ⊢;exact⟨by simp[eA,d9,dw,R.bind,aS,cC,dZ,DV,e_,d8,eB],λ_=>by simp[eA,d9,dw,R.bind,aS,cC,dZ,dV,e_,d8,eB]⟩) []
 rw[ft,List.map_id]at hc;have hf:(am (bE v w)).filter (λx=>match x with | .str z=>decide (z∈ks m) | _=>ao)=am ((bE v w).filter λz=>decide (z∈ks m)):=by unfold am;rw[v6];rfl
 rw[hf]at hc;unfold Bj dF dD;rw[oK (nG Uz),R.bind_ok,hc];rfl
theorem Kq{t v:Tx}{w D j:Nat}{m:List (Tx×Int)}{new:List Tx}(ht:Tv t w)(h:kG t w D m new)(hj:j<=D)(hv:Lv w t (j+1) v):rf m ((bE v w).filter λz=>decide (z∈ks m))=aa (kN t w j v):=by
 have hlv:∀ z,z∈ks m->∃ i,bj m z=aa ((i:Nat):Int)/\Lv w t i z:=λz hz=>by obtain⟨i,h1,h2⟩:=Ob.mp ((h.key z).mp hz);exact⟨i,(h.get z _).mpr ⟨i,rfl,h1,h2⟩,h2⟩
 have pi:∀ z,bj m z=aa ((j:Nat):Int)↔Lv w t j z:=λz=>by
  rw[h.get];constructor
  ·rintro⟨i,e,_,q⟩;have:j=i:=∅
   subst this; exact q
  ·exact λq=>⟨j,rfl,hj,q⟩
 have inks:∀ z,Lv w t j z->z∈ks m:=λz q=>(h.key z).mpr (Ob.mpr ⟨j,hj,q⟩);rw[Qy (c:=(j:Int))]
 ·rw[← SI (m:=m) ht hv λz _=>pi z];have:∀ l:List Tx,(l.filter λz=>decide (z∈ks m)).find? (λy=>decide (bj m y=aa ((j:Nat):Int)))=l.find? λy=>decide (bj m y=aa ((j:Nat):Int)):=by
   intro l
   induction l with
   | nil=>rfl
   | cons x l ih=>
    by_cases c:x∈ks m
    ·rw[tm,if_pos (decide_eq_true c),f6,f6,ih]
    ·rw[tm,if_neg (by simpa using c),ih,f6,decide_eq_false λq=>c (inks x ((pi x).mp q))]
  exact this _
 ·intro y hy;obtain⟨h1,h2⟩:=kh.mp hy;obtain⟨i,e,q⟩:=hlv y (of_decide_eq_true h2);have:=Hz ht hv h1 q;exact⟨i,e,∅⟩
 ·obtain⟨z,h1,h2⟩:=xq ht hv;exact⟨z,kh.mpr ⟨h2,decide_eq_true (inks z h1)⟩,(pi z).mpr h1⟩
theorem M0(m:List (Tx×Int)):rA (dk m)=aa m:=by
 unfold dk
 induction m with
 | nil=>rfl
 | cons p m ih=>obtain⟨x,n⟩:=p;rw[d4];show(rA _).map _=_;rw[ih];simp[tS]
theorem KL(u t:Tx)(w:Nat)(ht:Tv t w)(h9:t.length<=9){D j:Nat}{m:List (Tx×Int)}{new:List Tx}(h:kG t w D m new)(hj:j<=D)(pre:List Tx)(v:Tx)(hl:pre.length<=100)(hv:Lv w t (j+1) v)(s5:Slot) : ∃ h_,rB a (gk u t w (pre++[v]) m s5) = .ok .next (gk u t w ((pre++[v])++[kN t w j v]) m h_):=by
 obtain⟨hT,hT2,_⟩:=hv.1.good ht;refine⟨.val (.lst (am ((bE v w).filter λz=>decide (z∈ks m)))),?_⟩;unfold rB;refine(cK (nD (Ln u t w pre v m s5 hT ∅))).trans ?_;have hk:pH 5 4 (gk u t w (pre++[v]) m (.val (.lst (am ((bE v w).filter λz=>decide (z∈ks m)))))) = .ok (.str (kN t w j v)) (gk u t w (pre++[v]) m (.val (.lst (am ((bE v w).filter λz=>decide (z∈ks m)))))):=by have e1:=oy ((bE v w).filter λz=>decide (z∈ks m));have e2:=M0 m;have e3:=Kq ht h hj hv;unfold pH gk;generalize (bE v w).filter (λz=>decide (z∈ks m))=L at e1 e3 ⊢;generalize am L=TL at e1 ⊢;generalize dk m=DM at e2 ⊢;simp[e1,e2,e3,dP,aS,R.bind]
 have:=F8 (i:=3) (de:=pH 5 4) (xs0:=am (pre++[v])) (xs:=am (pre++[v])) rfl hk rfl (by unfold am; rw[cD,dq,ti]; exact tt (show pre.length+1<=101 by lia) (by decide));refine this.trans ?_;unfold gk;rw[show am ((pre++[v])++[kN t w j v])=am (pre++[v])++[.str (kN t w j v)] by unfold am; rw[pc]; rfl];rfl
theorem G3(u t:Tx)(w:Nat)(ht:Tv t w)(h9:t.length<=9){D:Nat}{m:List (Tx×Int)}{new:List Tx}(h:kG t w D m new):∀ (j bx:Nat) (pre:List Tx) (v:Tx) (s5:Slot),j<=D+1->j<bx->pre.length+j<=100->Lv w t j v -> ∃ h_,eI rC (rB a) bx (gk u t w (pre++[v]) m s5) = .ok .next (gk u t w (pre++lc t w j v) m h_)
 | 0,bx,pre,v,s5,hj,hf,hl,hv=>by
  obtain⟨f,rfl⟩:∃ f,bx=f+1:=⟨bx-1,∅⟩
  have e:v=t:=HK.mp hv;have c:=HN u t w pre v m s5;rw[decide_eq_false (λq=>q e)]at c;exact⟨s5,ve c⟩
 | j+1,bx,pre,v,s5,hj,hf,hl,hv=>by
  obtain⟨f,rfl⟩:∃ f,bx=f+1:=⟨bx-1,∅⟩
  have ne:v≠t:=λe=>by subst e;have:=q_ hv (HK.mpr rfl);lia
  have c:=HN u t w pre v m s5;rw[decide_eq_true ne]at c;obtain⟨s1,e1⟩:=KL (a:=a) u t w ht h9 h ∅ pre v ∅ hv s5;obtain⟨s2,e2⟩:=G3 u t w ht h9 h j f (pre++[v]) (kN t w j v) s1 ∅ ∅ (by simp; lia) (OF ht hv).1;refine⟨s2,(yc c e1).trans (e2.trans ?_)⟩;rw[lc,gH];rfl
end
section
variable{a:Ad}
theorem O6(neg:Bool)(w:Nat)(ls:List Tx):Pu.eqT neg (dY w ls) (dY w ls)=aa (.bl (!neg)):=by
 have d:i4 (dY w ls)<=8:=by simp[dY,i4,i9,EO]
 have e:cW (dY w ls) (dY w ls)=aa ai:=by
  show(cW (.int w) (.int w)).bind (λa=>((cW (.tup (am ls)) (.tup (am ls))).bind (λa=>(aa ([]:List PV).isEmpty).map λb=>a && b)).map λb=>a && b)=_;have h1:cW (.int w) (.int w)=aa ai:=by show aa ((w:Int) == w)=_; simp
  have h2:cW (.tup (am ls)) (.tup (am ls))=aa ai:=by show ik _ _=_; rw[Ey]; simp
  rw[h1,h2]; rfl
 show(if i4 (dY w ls)<=8 then(cW (dY w ls) (dY w ls)).map (λk=>PV.bl (neg ^^ k))else ae)=_;rw[if_pos d,e];cases neg <;> rfl
theorem M8{u t:Tx}{w:Nat}(hu:Tv u w)(ht:Tv t w)(e:bu (aW u w)=bu (aW t w)):qg a [.val (.str u),.val (.str t),.val (.int w)] = .ok (.val .non) [.val (.str u),.val (.str t),.val (.int w)]:=by
 have h1:=Aa (a:=a) hu;have h2:=Aa (a:=a) ht;rw[e]at h1;have he:=O6 ai w (bu (aW t w));have k1:bH 3 (aV (aG (oZ a) (gV (dV 0) (gV (dV 2) (Pu.bO))))) [.val (.str u),.val (.str t),.val (.int w),.none] = .ok .next [.val (.str u),.val (.str t),.val (.int w),.val (dY w (bu (aW t w)))]:=nD (pP (re (v0:=.str u) (v1:=.int w) rfl rfl h1));have k2:=kK (gQ (f:=eqT ai) (da:=dV 3) (db:=aV (aG (oZ a) (gV (dV 1) (gV (dV 2) (Pu.bO))))) (ε:=[.val (.str u),.val (.str t),.val (.int w),.val (dY w (bu (aW t w)))]) (x:=dY w (bu (aW t w))) (cp rfl) (pP (re (v0:=.str t) (v1:=.int w) rfl rfl h2)) he);have iB:yah a [.val (.str u),.val (.str t),.val (.int w),.none] = .ok .next [.val (.str u),.val (.str t),.val (.int w),.val (dY w (bu (aW t w)))]:=by unfold yah;refine(cK k1).trans ?_;exact uS k2
 unfold qg;generalize yah a=DD at iB;generalize dY w (bu (aW t w))=V at iB;simp[bt,eQ,bw,bF,iB,back,aS,R.bind]
theorem T6(t u:Tx)(w:Nat)(ht:Tv t w)(w2:2<=w)(h9:t.length<=9)(d:Nat)(hd:d<=20)(hu:Lv w t d u) : rQ a [.val (.str u),.val (.str t),.val (.int w)] = .ok (.own (.lst (am (lc t w d u)))) [.val (.str u),.val (.str t),.val (.int w)]:=by
 obtain⟨g1,g2,g3⟩:=hu.1.good ht;have ha:=M8 (a:=a) g1 ht (oV ((iU _).trans g3) (sE _));have k1:kU (aG (qg a) (gV (dV 0) (gV (dV 1) (gV (dV 2) (Pu.bO))))) [.val (.str u),.val (.str t),.val (.int w),.none,.none,.none] = .ok .next [.val (.str u),.val (.str t),.val (.int w),.none,.none,.none]:=by generalize qg a=G at ha ⊢;unfold kU aG;rw[fA (cp (i:=0) (v:=.str u) rfl) (fA (cp (i:=1) (v:=.str t) rfl) (fA (cp (i:=2) (v:=.int w) rfl) mY)),R.bind_ok];simp[cC,dZ,R.bind,aS,ha,e_,d8,eB]
 have k2:cQ 3 (dL b_ (aw (dV 0) (aB))) [.val (.str u),.val (.str t),.val (.int w),.none,.none,.none] = .ok .next [.val (.str u),.val (.str t),.val (.int w),.own (.lst (am [u])),.none,.none]:=rfl;have wj:=kK (gQ (f:=eqT ao) (da:=dV 0) (db:=dV 1) (ε:=[.val (.str u),.val (.str t),.val (.int w),.own (.lst (am [u])),.none,.none]) (x:=.str u) (y:=.str t) (cp rfl) (cp rfl) (mZ ao u t));rw[mL]at wj;have iB:∃ s4 s5,yaJ a [.val (.str u),.val (.str t),.val (.int w),.none,.none,.none] = .ok (.ret (.own (.lst (am (lc t w d u))))) [.val (.str u),.val (.str t),.val (.int w),.none,s4,s5]:=by
  rw[Qq];cases d with
  | zero=>have e:u=t:=HK.mp hu;rw[decide_eq_true e]at wj;refine⟨.none,.none,?_⟩;refine(cK k1).trans ?_;refine(cK k2).trans ?_;have k3:cV (dB (d2 (eqT ao) (dV 0) (dV 1))) (fg 3) (dG) [.val (.str u),.val (.str t),.val (.int w),.own (.lst (am [u])),.none,.none] = .ok (.ret (.own (.lst (am [u])))) [.val (.str u),.val (.str t),.val (.int w),.none,.none,.none]:=(uP wj).trans (oI rfl);unfold aF;rw[k3];rfl
  | succ D=>
   have ne:u≠t:=λe=>by subst e;have:=q_ hu (HK.mpr rfl);lia
   rw[decide_eq_false ne]at wj;obtain⟨m,new,hb,Dv⟩:=QR (a:=a) t u w ht w2 h9 D ∅ hu;obtain⟨s5,hw⟩:=G3 (a:=a) u t w ht h9 hb (D+1) 1000 [] u .none ∅ ∅ (by simp; lia) hu;rw[ft,ft]at hw;have k4:cQ 4 (kM (aG (pK a) (gV (dV 1) (gV (dV 0) (gV (dV 2) (Pu.bO)))))) [.val (.str u),.val (.str t),.val (.int w),.own (.lst (am [u])),.none,.none] = .ok .next (gk u t w [u] m .none):=by
    generalize pK a=G at Dv ⊢;unfold gk;generalize dk m=M at Dv ⊢;generalize am [u]=L;have hc:aG G (gV (dV 1) (gV (dV 0) (gV (dV 2) (Pu.bO)))) [.val (.str u),.val (.str t),.val (.int w),.own (.lst L),.none,.none] = .ok (.own (.dK M)) [.val (.str u),.val (.str t),.val (.int w),.own (.lst L),.none,.none]:=by unfold aG;rw[fA (cp (i:=1) (v:=.str t) rfl) (fA (cp (i:=0) (v:=.str u) rfl) (fA (cp (i:=2) (v:=.int w) rfl) mY)),R.bind_ok];simp[cC,dZ,R.bind,aS,Dv,e_,d8,eB]
    unfold cQ kM;rw[hc];rfl
   refine⟨.own (.dK (dk m)),s5,?_⟩;refine(cK k1).trans ?_;refine(cK k2).trans ?_;refine(cK ((uS wj).trans rfl)).trans ?_;refine(cK k4).trans ?_;refine(cK (d1:=λε=>cr (eI rC (rB a) 1000 ε)) (by show cr _=_; rw[hw]; rfl)).trans ?_;exact oI rfl
 obtain⟨s4,s5,iB⟩:=iB;unfold rQ;generalize yaJ a=DD at iB;generalize am (lc t w d u)=A at iB;simp[bt,eQ,bw,bF,iB,back,aS,R.bind,jq]
theorem Ci(t u:Tx)(w:Nat)(ht:Tv t w)(w2:2<=w)(h9:t.length<=9)(d:Nat)(hd:d<=20)(hu:Lv w t d u) : nh a [.val (.str u),.val (.str t),.val (.int w)] = .ok (.val (.int d)) [.val (.str u),.val (.str t),.val (.int w)]:=by
 have hr:=T6 (a:=a) t u w ht w2 h9 d hd hu;have hl:bz [.lst (am (lc t w d u))]=aa (.int ((d:Int)+1)):=by show aa (PV.int _)=_;unfold am;rw[cD,Hk];simp
 have iB:yaL a [.val (.str u),.val (.str t),.val (.int w)] = .ok (.ret (.val (.int d))) [.val (.str u),.val (.str t),.val (.int w)]:=by
  have hc:aV (aG (rQ a) (gV (dV 0) (gV (dV 1) (gV (dV 2) (Pu.bO))))) [.val (.str u),.val (.str t),.val (.int w)] = .ok (.lst (am (lc t w d u))) [.val (.str u),.val (.str t),.val (.int w)]:=by refine nG ?_;generalize rQ a=G at hr ⊢;generalize am (lc t w d u)=A at hr ⊢;unfold aG;rw[fA (cp (i:=0) (v:=.str u) rfl) (fA (cp (i:=1) (v:=.str t) rfl) (fA (cp (i:=2) (v:=.int w) rfl) mY)),R.bind_ok];simp[cC,dZ,R.bind,aS,hr,e_,d8,eB]
  have:=gQ (f:=cX) (z:=.int d) (io (fO hc ie) hl) (kP (.int 1) _) (by show aa (PV.int _)=_;congr 2;lia);unfold yaL dJ;rw[this];rfl
 unfold nh;generalize yaL a=DD at iB;simp[bt,eQ,bw,bF,iB,back,aS,R.bind]
end
theorem FG{i:Nat}{db:aj->R aH}{σ:Type}(env:List Tx->σ->aj)(f:Tx->List Tx)(B:Nat) : ∀ (xs:List Tx) (au:List Tx) (s:σ),(au++xs.flatMap f).length<=B->(∀ x∈xs,∀ au s,(au++f x).length<=B->∃ s',db ((env au s).set i (.val (.str x))) = .ok .next (env (au++f x) s')) -> ∃ s',eh i db (am xs) (env au s) = .ok .next (env (au++xs.flatMap f) s')
 | [],au,s,_,_=>⟨s,by simp[eh,am]⟩
 | x::xs,au,s,hB,step=>by rw[lK]at hB ⊢;obtain⟨s1,e1⟩:=step x (by simp) au s (by simp at hB ⊢; lia);obtain⟨s2,e2⟩:=FG env f B xs (au++f x) s1 (by rw[gH]; exact hB) λy hy=>step y (by simp[hy]);refine⟨s2,?_⟩;show eh i db (.str x::am xs) _=_;rw[eh,e1];simp only;rw[e2,gH]
section
variable{a:Ad}
def lC:aj->R Bool:=dB (d2 (eqT ai) (dV 3) (dF (dL b_ (aB))))
def lE(a:Ad):aj->R aH:=kR 4 (dF (dD [2] (cG (aV (aG (p7 a) (gV (dV 5) (gV (dV 1) (Pu.bO)))))) (dB (fD ai 1 (dV 0))) (dV 0)))
def lP:aj->R aH:=jh 2 (dV 6) (d2 aL (js 2 (d2 bA (dV 3) (dC (.int 0)))) (dC (.int 1)))
def lB(a:Ad):aj->R aH:=aF (cQ 4 (dL b_ (aB))) (aF (cq 5 (cG (dV 3)) (lE a)) (aF (cq 6 (cG (dM 4)) lP) (bH 3 (dF (dL lr (aw (dV 4) (aB)))))))
theorem PU:yaz a=aF (cQ 2 (oE 0 0)) (aF (bH 3 (dF (dL b_ (aw (dV 0) (aB))))) (aF (λε=>cr (eI lC (lB a) 1000 ε)) (fg 2))):=rfl
def eW(t:Tx)(w:Nat)(m:List (Tx×Int))(lv:List Tx)(s4 s5 s6:Slot):aj:=[.val (.str t),.val (.int w),.own (.dK (dk m)),.val (.lst (am lv)),s4,s5,s6]
theorem Mf(t:Tx)(w:Nat)(m:List (Tx×Int))(LV s4 s5 s6:Slot)(zs:List Tx) : kQ [2] (dB (fD ai 1 (dV 0))) (dV 0) (am zs) [] [.val (.str t),.val (.int w),.own (.dK (dk m)),LV,s4,s5,s6] = .ok (am (zs.filter λz=>decide (z∉ks m))) [.val (.str t),.val (.int w),.own (.dK (dk m)),LV,s4,s5,s6]:=by
 have hc:=kI (cap:=[2]) (dt:=(dB (fD ai 1 (dV 0)))) (de:=dV 0) (ε:=[.val (.str t),.val (.int w),.own (.dK (dk m)),LV,s4,s5,s6]) (λx=>match x with | .str z=>decide (z∉ks m) | _=>ao) (λx=>x) (am zs)
  (by
   intro x hx;obtain⟨z,_,rfl⟩:=cO.mp hx;have eO:=kK (xE (neg:=ai) (i:=1) (db:=dV 0) (ε:=[.val (.str z),.own (.dK (dk m))]) (z:=z) (m:=m) (cp rfl) rfl);have hb:(ai ^^ decide (z∈ks m))=decide (z∉ks m):=by rw[tP,decide_not]
   rw[hb]at eO;have hv:dV 0 [.val (.str z),.own (.dK (dk m))] = .ok (.str z) [.val (.str z),.own (.dK (dk m))]:=rfl;generalize dB (fD ai 1 (dV 0))=D at eO ⊢;generalize dV 0=D0 at hv ⊢;generalize dk m=DM at eO hv ⊢;exact⟨by simp[eA,d9,dw,R.bind,aS,cC,dZ,eO,e_,d8,eB],λ_=>by simp[eA,d9,dw,R.bind,aS,cC,dZ,hv,e_,d8,eB]⟩) []
 rw[hc,ft];congr 1;rw[List.map_id'];unfold am;rw[v6];rfl
theorem Ub(t:Tx)(w:Nat)(m:List (Tx×Int))(lv:List Tx)(hv:∀ u∈lv,jk u w)(hl:lv.length<=2430)(s5 s6:Slot):∃ h_,cq 5 (cG (dV 3)) (lE a) (eW t w m lv (.own (.lst [])) s5 s6) = .ok .next (eW t w m lv (.own (.lst (am (fN w m lv)))) h_ s6):=by
 have hB:=Hm (m:=m) lv hv;obtain⟨h_,e⟩:=FG (i:=5) (db:=lE a) (λau s5=>eW t w m lv (.own (.lst (am au))) s5 s6) (λh=>(jt h w).filter λz=>decide (z∉ks m)) 999999 lv [] s5 (by rw[ft]; show(fN w m lv).length<=_; lia)
  (by
   intro u hu au s5 hB;refine⟨.val (.str u),?_⟩;have hw:=hv u hu;have hc:=OQ (a:=a) u w hw.tv (by have:=hw.h9; have:=hw.w2; lia);have hi:cG (aV (aG (p7 a) (gV (dV 5) (gV (dV 1) (Pu.bO))))) (eW t w m lv (.own (.lst (am au))) (.val (.str u)) s6) = .ok (am (jt u w)) (eW t w m lv (.own (.lst (am au))) (.val (.str u)) s6):=oK (pP (re (v0:=.str u) (v1:=.int w) rfl rfl hc));have wS:=Mf t w m (.val (.lst (am lv))) (.own (.lst (am au))) (.val (.str u)) s6 (jt u w);have hx:dF (dD [2] (cG (aV (aG (p7 a) (gV (dV 5) (gV (dV 1) (Pu.bO)))))) (dB (fD ai 1 (dV 0))) (dV 0)) (eW t w m lv (.own (.lst (am au))) (.val (.str u)) s6) = .ok (.lst (am ((jt u w).filter λz=>decide (z∉ks m)))) (eW t w m lv (.own (.lst (am au))) (.val (.str u)) s6):=by unfold dF dD;rw[hi,R.bind_ok];unfold eW;rw[wS];rfl
   have:=xr (i:=4) (ε:=eW t w m lv (.own (.lst (am au))) (.val (.str u)) s6) (xs0:=am au) (xs:=am au) rfl hx rfl (by rw[gm,gm]; rw[dq]at hB; unfold bB; lia);rw[vp]at this;exact this)
 refine⟨h_,?_⟩;rw[ft]at e;exact oP (oK (cp rfl)) e
theorem Uc(t:Tx)(w k:Nat)(ht:jk t w)(m:List (Tx×Int))(y:Tx)(r zs:List Tx)(h:jP t w k m (y::r))(hz:∀ z∈zs,Lv w t (k+1) z)(s5 s6:Slot):∃ iA,cq 6 (cG (dM 4)) lP (eW t w m (y::r) (.own (.lst (am zs))) s5 s6) = .ok .next (eW t w (zs.foldl (λm z=>cL m z ((k:Int)+1)) m) (y::r) (.val (.lst (am zs))) s5 iA):=by
 have hy:=(h.lev y).mp (by simp);have hU:=xT ht.tv ht.w2 ht.h9;obtain⟨iA,e,_⟩:=yz (i:=6) (db:=lP) (λm s6=>eW t w m (y::r) (.val (.lst (am zs))) s5 s6) (λm z=>cL m z ((k:Int)+1)) (λm=>(ks m).Nodup/\(∀ z∈ks m,z∈bJ t w)/\bj m y=aa (k:Int)) zs m s6
  ⟨h.nd,λz hz=>((h.key z).mp hz).like ht.tv,(h.get y k).mpr ⟨k,rfl,bi _,hy⟩⟩
  (by
   rintro z uc m s6 ⟨p1,p2,p3⟩;have qW:=hz z uc;have cP:y≠z:=λe=>by have:=q_ hy (e ▸ qW);lia
   refine⟨⟨xO p1,λx hx=>?_,by rw[ue,if_neg cP]; exact p3⟩,.val (.str z),?_⟩
   ·have hx:x∈(cL m z ((k:Int)+1)).map (·.1):=hx;rw[Au]at hx;split at hx
    ·exact p2 x hx
    ·rcases eM.mp hx with hx | hx
     ·exact p2 x hx
     ·simp at hx; rw[hx]; exact qW.1.like ht.tv
   ·have bY:=len_sub p1 p2;rw[cD]at bY;have hix:bA (.lst (am (y::r))) (.int 0)=aa (.str y):=by show ff (.str y::am r) 0=_; rw[Bu (by decide) (by simp)]; rfl
    have hg:=Hb (i:=2) (db:=d2 bA (dV 3) (dC (.int 0))) (ε:=eW t w m (y::r) (.val (.lst (am zs))) s5 (.val (.str z))) (z:=y) (n:=(k:Int)) (m:=m) ⟨_,rfl⟩ (gQ (x:=.lst (am (y::r))) (cp rfl) (kP _ _) hix) rfl p3;have ha:aL (.int (k:Int)) (.int 1)=aa (.int ((k:Int)+1)):=rfl;exact EM (i:=2) (db:=dV 6) (ε:=eW t w m (y::r) (.val (.lst (am zs))) s5 (.val (.str z))) (z:=z) (gQ hg (kP _ _) ha) (cp rfl) ⟨_,rfl⟩ rfl (by unfold bB; lia))
 refine⟨iA,oP ?_ e⟩;exact oK (xs:=am zs) (ε1:=eW t w m (y::r) (.val (.lst (am zs))) s5 s6) rfl
theorem R_(t:Tx)(w k:Nat)(ht:jk t w)(m:List (Tx×Int))(lv:List Tx)(h:jP t w k m lv)(nd:lv.Nodup)(cP:lv≠[])(s4 s5 s6:Slot):∃ m' lv' qV h_ iA,jP t w (k+1) m' lv'/\lv'.Nodup/\lB a (eW t w m lv s4 s5 s6) = .ok .next (eW t w m' lv' qV h_ iA):=by
 have hU:=xT ht.tv ht.w2 ht.h9;have hll:lv.length<=2430:=cI (len_sub nd λz hz=>((h.lev z).mp hz).1.like ht.tv) hU;obtain⟨h_,e1⟩:=Ub (a:=a) t w m lv (λu hu=>ht.of ((h.lev u).mp hu).1) hll s5 s6;obtain⟨y,r,rfl⟩:∃ y r,lv=y::r:=by
  cases lv with
  | nil=>exact absurd rfl cP
  | cons y r=>exact⟨y,r,rfl⟩
 obtain⟨iA,e2⟩:=Uc t w k ht m y r (fN w m (y::r)) h (λz hz=>(h.late ht z).mp hz) h_ s6;refine⟨_,bu (ca (fN w m (y::r))),.val (.lst (am (fN w m (y::r)))),h_,iA,h.next ht,(iU _).nodup_iff.mpr (vq _),?_⟩;have hu:(ca (fN w m (y::r))).length<4000:=by have:=len_sub (vq (fN w m (y::r))) λz hz=>((h.late ht z).mp ((ml _ _).mp hz)).1.like ht.tv;lia
 have hs:lr [.lst (am (fN w m (y::r)))]=aa (.lst (am (bu (ca (fN w m (y::r)))))):=by show(gA (am _)).bind _=_;rw[oy,gI,if_pos hu]
 have k1:cQ 4 (dL b_ aB) (eW t w m (y::r) s4 s5 s6) = .ok .next (eW t w m (y::r) (.own (.lst [])) s5 s6):=qr (by simp[eW]);unfold lB;refine(cK k1).trans ?_;refine(cK e1).trans ?_;refine(cK e2).trans ?_;generalize (fN w m (y::r)).foldl (λm z=>cL m z ((k:Int)+1)) m=M;refine nD (x:=.lst (am (bu (ca (fN w m (y::r)))))) (ε1:=eW t w M (y::r) (.val (.lst (am (fN w m (y::r))))) h_ iA) ?_;unfold dF;rw[io (fO (x:=.lst (am (fN w m (y::r)))) (d:=dV 4) (cp rfl) ie) hs];rfl
theorem E9(t:Tx)(w:Nat)(m:List (Tx×Int))(lv:List Tx)(s4 s5 s6:Slot):lC (eW t w m lv s4 s5 s6) = .ok (!decide (lv=[])) (eW t w m lv s4 s5 s6):=by have he:=B2 ai lv [];rw[tP]at he;exact kK (gQ (x:=.lst (am lv)) (y:=.lst (am [])) (cp rfl) rfl he)
theorem Hr(t:Tx)(w:Nat)(ht:jk t w)(K:Nat)(hK:Full w t K)(pD:∀ k,k<K->¬ Full w t k):∀ (j k bx:Nat) (m:List (Tx×Int)) (lv:List Tx) (s4 s5 s6:Slot),k+j=K+1->j<bx->jP t w k m lv->lv.Nodup -> ∃ m' qV h_ iA,jP t w (K+1) m' []/\eI lC (lB a) bx (eW t w m lv s4 s5 s6) = .ok .next (eW t w m' [] qV h_ iA)
 | 0,k,bx,m,lv,s4,s5,s6,hj,hf,h,nd=>by
  obtain⟨f,rfl⟩:∃ f,bx=f+1:=⟨bx-1,∅⟩
  have e:k=K+1:=∅
  subst e;have hl:lv=[]:=by
   cases lv with
   | nil=>rfl
   | cons z r=>have hz:=(h.lev z).mp (by simp);exact absurd (hK z (hz.1.like ht.tv)) (hz.2 K rfl)
  subst hl;have c:=E9 t w m [] s4 s5 s6;exact⟨m,s4,s5,s6,h,ve c⟩
 | j+1,k,bx,m,lv,s4,s5,s6,hj,hf,h,nd=>by
  obtain⟨f,rfl⟩:∃ f,bx=f+1:=⟨bx-1,∅⟩
  have cP:lv≠[]:=by obtain⟨y,hy⟩:=Q8 (K:=k) ht.tv λi hi=>pD i ∅;intro q;have:=(h.lev y).mpr hy;rw[q]at this; simp at this
  have c:=E9 t w m lv s4 s5 s6;rw[decide_eq_false cP]at c;obtain⟨m1,l1,a4,a5,a6,h1,n1,e1⟩:=R_ (a:=a) t w k ht m lv h nd cP s4 s5 s6;obtain⟨m2,b4,b5,b6,h2,e2⟩:=Hr t w ht K hK pD j (k+1) f m1 l1 a4 a5 a6 ∅ ∅ h1 n1;exact⟨m2,b4,b5,b6,h2,(yc c e1).trans e2⟩
theorem Qg(t:Tx)(w:Nat):jP t w 0 [(t,0)] [t]:=by
 refine⟨by simp,λz n=>?_,λz=>by rw[HK]; simp⟩;have hg:bj [(t,0)] z=if z=t then aa 0 else ae:=by
  unfold bj;by_cases c:z=t
  ·subst c; simp
  ·have:¬ t=z:=λe=>c e.symm;simp[c,this]
 rw[hg];constructor
 ·intro e;by_cases c:z=t
  ·rw[if_pos c]at e;exact⟨0,(eJ e).symm,bi _,HK.mpr c⟩
  ·rw[if_neg c]at e; cases e
 ·rintro⟨i,rfl,h1,h2⟩;have:i=0:=∅
  subst this;rw[if_pos (HK.mp h2)]; rfl
theorem Re(t:Tx)(w:Nat)(ht:jk t w)(K:Nat)(DY:K<=10)(hK:Full w t K)(pD:∀ k,k<K->¬ Full w t k):∃ m,jP t w (K+1) m []/\vx a [.val (.str t),.val (.int w)] = .ok (.own (.dK (dk m))) [.val (.str t),.val (.int w)]:=by
 obtain⟨m,s4,s5,s6,h,hw⟩:=Hr (a:=a) t w ht K hK pD (K+1) 0 1000 [(t,0)] [t] .none .none .none ∅ ∅ (Qg t w) (by simp);refine⟨m,h,?_⟩;have k1:cQ 2 (oE 0 0) [.val (.str t),.val (.int w),.none,.none,.none,.none,.none] = .ok .next [.val (.str t),.val (.int w),.own (.dK (dk [(t,0)])),.none,.none,.none,.none]:=rfl;have k2:bH 3 (dF (dL b_ (aw (dV 0) (aB)))) [.val (.str t),.val (.int w),.own (.dK (dk [(t,0)])),.none,.none,.none,.none] = .ok .next (eW t w [(t,0)] [t] .none .none .none):=rfl;have hb:yaz a [.val (.str t),.val (.int w),.none,.none,.none,.none,.none] = .ok (.ret (.own (.dK (dk m)))) [.val (.str t),.val (.int w),.none,.val (.lst (am [])),s4,s5,s6]:=by rw[PU];refine(cK k1).trans ?_;refine(cK k2).trans ?_;refine(cK (d1:=λε=>cr (eI lC (lB a) 1000 ε)) (by show cr _=_; rw[hw]; rfl)).trans ?_;exact oI rfl
 unfold vx;generalize yaz a=D at hb;generalize dk m=A at hb;simp[bt,eQ,bw,bF,hb,back,aS,R.bind,jq]
theorem NB{t:Tx}{w:Nat}(h:Tv t w):qt a [.val (.str t),.val (.int w)] = .ok (.val (dY w (bu (aW t w)))) [.val (.str t),.val (.int w)]:=by have e:=Aa (a:=a) h;generalize dY w (bu (aW t w))=V at e;simp![qt,yaQ,e]
theorem SE{ε:aj}{i j:Nat}{t:Tx}{w:Nat}(h:Tv t w)(hi:ε[i]?=aa (.val (.str t)))(hj:ε[j]?=aa (.val (.int w))):aV (aG (qh a) (gV (aV (aG (qt a) (gV (dV i) (gV (dV j) (Pu.bO))))) (Pu.bO))) ε = .ok (.lst (am (bJ t w))) ε:=by have hg:Good cN w (bu (aW t w)):=h.good.perm (iU _);have e2:=SK (a:=a) hg h.w1 h.w4 (sE _);rw[Lu h.w1 h.h1 h.abc]at e2;have hv:=pP (re (v0:=.str t) (v1:=.int w) hi hj (NB (a:=a) h));refine nG ?_;generalize aV (aG (qt a) (gV (dV i) (gV (dV j) (Pu.bO))))=D at hv ⊢;generalize qh a=G at e2 ⊢;generalize dY w (bu (aW t w))=V at hv e2;generalize am (bJ t w)=L at e2 ⊢;unfold aG;rw[fA hv mY,R.bind_ok];simp[cC,dZ,R.bind,aS,e2,e_,d8,eB]
theorem Bi{G:aj->R Slot}{ε:aj}{i0 i1 i2:Nat}{v0 v1 v2:PV}{r:Slot}(h0:ε[i0]?=aa (.val v0))(h1:ε[i1]?=aa (.val v1))(h2:ε[i2]?=aa (.val v2))(hG:G [.val v0,.val v1,.val v2] = .ok r [.val v0,.val v1,.val v2]):aG G (gV (dV i0) (gV (dV i1) (gV (dV i2) (Pu.bO)))) ε = .ok r ε:=by unfold aG;rw[fA (cp h0) (fA (cp h1) (fA (cp h2) mY)),R.bind_ok];simp[cC,dZ,R.bind,aS,hG,e_,d8,eB]
end
end Sh
namespace K19
open L2 Pu Mx Sh
section
variable{a:Ad}
theorem E3{w n:Nat}{t z:Tx}(h:WN w n t z)(ht:Tv t w):WN w n z t:=by
 induction h with
 | here n t=>exact .here n t
 | on h hz ih=>have hg:=h.good ht;exact WN.cons (A6 hg.1 hz).2.2.2 (ih ht)
theorem T_{w k:Nat}{t z:Tx}(h:Lv w t k z)(ht:Tv t w):Lv w z k t :=⟨E3 h.1 ht,λj e q=>h.2 j e (E3 q (h.1.good ht).1)⟩
theorem HA:∀ m:List (Tx×Int),qd (dk m)=aa (ks m)
 | []=>rfl
 | p::m=>by show(qd (dk m)).map _=_;rw[HA m];rfl
def fB(a:Ad):aj->R aH:=cV (qY (dB (d2 (eqT ai) (aV (aG (nh a) (gV (dV 2) (gV (dV 6) (gV (dV 3) (Pu.bO)))))) (js 5 (dV 6)))) (dB (d2 (eqT ai) (aV (aG (nh a) (gV (dV 6) (gV (dV 2) (gV (dV 3) (Pu.bO)))))) (js 5 (dV 6))))) (dJ (dC (.bl ao))) (dG)
def ef(ns:List Int)(ys:List PV)(x:Tx)(w:Nat)(sm:List Tx)(m:List (Tx×Int))(s:Slot):aj:=[cf ns,.own (.lst ys),.val (.str x),.val (.int w),.val (.lst (am sm)),.own (.dK (dk m)),s]
theorem Is{d:aj->R PO}{ε ε1:aj}{xs:List PV}(h:d ε = .ok (.lst xs) ε1):dF d ε = .ok (.lst xs) ε1:=by unfold dF; rw[h]; rfl
theorem Q2(ns:List Int)(ys:List PV)(x:Tx)(w:Nat)(sm:List Tx)(m:List (Tx×Int))(o:Tx)(hx:jk x w){K d:Nat}(h:jP x w (K+1) m [])(ho:Lv w x d o)(hd:d<=K)(hK:K<=10):fB a (ef ns ys x w sm m (.val (.str o))) = .ok .next (ef ns ys x w sm m (.val (.str o))):=by have hO:=hx.of ho.1;have h1:=Ci (a:=a) o x w hO.tv hx.w2 hO.h9 d ∅ (T_ ho hx.tv);have h2:=Ci (a:=a) x o w hx.tv hx.w2 hx.h9 d ∅ ho;have hg:bj m o=aa ((d:Nat):Int):=(h.get o _).mpr ⟨d,rfl,∅,ho⟩;have e:=Hb (i:=5) (db:=dV 6) (ε:=ef ns ys x w sm m (.val (.str o))) (z:=o) (m:=m) ⟨_,rfl⟩ (cp rfl) rfl hg;have a1:=kK (gQ (f:=eqT ai) (z:=.bl ao) (pP (Bi (ε:=ef ns ys x w sm m (.val (.str o))) (i0:=2) (i1:=6) (i2:=3) (v0:=.str x) (v1:=.str o) (v2:=.int w) rfl rfl rfl h1)) e (by rw[uX]; simp));have a2:=kK (gQ (f:=eqT ai) (z:=.bl ao) (pP (Bi (ε:=ef ns ys x w sm m (.val (.str o))) (i0:=6) (i1:=2) (i2:=3) (v0:=.str o) (v1:=.str x) (v2:=.int w) rfl rfl rfl h2)) e (by rw[uX]; simp));unfold fB;refine uS ?_;unfold qY;rw[a1,R.bind_ok];simp only;rw[a2]
theorem Hy(ns:List Int)(ys:List PV)(x:Tx)(w:Nat)(sm:List Tx)(m:List (Tx×Int))(hx:jk x w){K:Nat}(h:jP x w (K+1) m [])(hK:K<=10):∀ (os:List Tx) (s:Slot),(∀ o∈os,∃ d,d<=K/\Lv w x d o)->∃ s',eh 6 (fB a) (am os) (ef ns ys x w sm m s) = .ok .next (ef ns ys x w sm m s')
 | [],s,_=>⟨s,rfl⟩
 | o::os,s,hv=>by obtain⟨d,hd,ho⟩:=hv o (my ..);obtain⟨s',e⟩:=Hy ns ys x w sm m hx h hK os (.val (.str o)) λz hz=>hv z (kX _ hz);refine⟨s',?_⟩;have hb:=Q2 (a:=a) ns ys x w sm m o hx h ho hd hK;show eh 6 (fB a) (PV.str o::am os) (ef ns ys x w sm m s)=_;rw[eh,show(ef ns ys x w sm m s).set 6 (.val (.str o))=ef ns ys x w sm m (.val (.str o))from rfl,hb];exact e
theorem OI(ns:List Int):ut a [cf ns] = .ok (.val (.bl ai)) [cf ns]:=by
 obtain⟨x,w,ys,w2,w4,t1,t2,tc,hy,hl⟩:=Qx (a:=a) ns [] 2 9 (by decide) (by decide) (by decide) (by decide) (by decide);have hx:jk x w:=⟨⟨∅,w4,∅,∅,tc⟩,w2,∅,∅⟩
 obtain⟨K,DY,hK,pD⟩:=N5 hx.tv;obtain⟨m,hm,hlv⟩:=Re (a:=a) x w hx K DY hK pD;have hlev:∀ o∈bJ x w,∃ d,d<=K/\Lv w x d o:=λo ho=>Ob.mp (hK o ho);have hper:(ks m).Perm (bJ x w):=by refine(Dh hm.nd (Bt x w)).mpr λz=>?_;rw[hm.key];exact⟨λq=>q.like hx.tv,λq=>(hK z q).more⟩
 have UA:bu (ks m)=bJ x w:=by rw[LM hper,HM (KO x w)]
 have hsm:∀ z∈ks m,z.length<=bB:=λz hz=>by have:=((hper.mem_iff.mp hz) |> UK.mp).1;have:=hx.h9;unfold bB; lia
 have bY:(ks m).length<=1000000:=by have:=hm.sub hx;show(m.map _).length<=_;rw[cD]; lia
 obtain⟨s',hlp⟩:=Hy (a:=a) ns ys x w (bJ x w) m hx hm DY ((bJ x w).take 12) .none λo ho=>hlev o (jC ho);have k1:cQ 1 (dL b_ aB) [cf ns,.none,.none,.none,.none,.none,.none] = .ok .next [cf ns,.own (.lst []),.none,.none,.none,.none,.none]:=qr (by simp);have k2:yn 2 3 (aV (aG (pJ a) (gV (dV 0) (gO 1 (gV (dC (.int 2)) (gV (dC (.int 9)) (Pu.bO))))))) [cf ns,.own (.lst []),.none,.none,.none,.none,.none] = .ok .next [cf ns,.own (.lst ys),.val (.str x),.val (.int w),.none,.none,.none]:=by have kA:pJ a [cf ns,.own (.lst []),.val (.int 2),.val (.int 9)] = .ok (.val (.tup [.str x,.int w])) [cf ns,.own (.lst ys),.val (.int 2),.val (.int 9)]:=hl;generalize pJ a=G at kA ⊢;simp![yn,kA]
 have k3:bH 4 (aV (aG (qh a) (gV (aV (aG (qt a) (gV (dV 2) (gV (dV 3) (Pu.bO))))) (Pu.bO)))) [cf ns,.own (.lst ys),.val (.str x),.val (.int w),.none,.none,.none] = .ok .next [cf ns,.own (.lst ys),.val (.str x),.val (.int w),.val (.lst (am (bJ x w))),.none,.none] :=nD (SE hx.tv rfl rfl);have k4:cQ 5 (kM (aG (vx a) (gV (dV 2) (gV (dV 3) (Pu.bO))))) [cf ns,.own (.lst ys),.val (.str x),.val (.int w),.val (.lst (am (bJ x w))),.none,.none] = .ok .next (ef ns ys x w (bJ x w) m .none):=by unfold cQ kM;rw[Sh.re (v0:=.str x) (v1:=.int w) rfl rfl hlv];rfl
 have hL:dF (oD 5) (ef ns ys x w (bJ x w) m .none) = .ok (.lst (am (ks m))) (ef ns ys x w (bJ x w) m .none):=by
  have:oD 5 (ef ns ys x w (bJ x w) m .none) = .ok (.lst (am (ks m))) (ef ns ys x w (bJ x w) m .none):=by show(aS (xN (dk m)) _)=_;unfold xN;rw[HA,gI,if_pos hsm];rfl
  exact Is this
 have hS:dF (dL lp (aw (dF (oD 5)) (aB))) (ef ns ys x w (bJ x w) m .none) = .ok (.lst (am (bJ x w))) (ef ns ys x w (bJ x w) m .none):=by have:dL lp (aw (dF (oD 5)) (aB)) (ef ns ys x w (bJ x w) m .none) = .ok (.lst (am (bJ x w))) (ef ns ys x w (bJ x w) m .none):=io (fO hL ie) (by show(gA (am (ks m))).bind _=_;rw[oy,gI,if_pos bY,UA]);exact Is this
 have qT:=B2 ai (bJ x w) (bJ x w);rw[decide_eq_true rfl,tP]at qT;have k5:cV (dB (d2 (eqT ai) (dF (dL lp (aw (dF (oD 5)) (aB)))) (dV 4))) (dJ (dC (.bl ao))) (dG) (ef ns ys x w (bJ x w) m .none) = .ok .next (ef ns ys x w (bJ x w) m .none) :=uS (kK (gQ hS (cp (i:=4) (v:=.lst (am (bJ x w))) rfl) qT));have hi:cG (ba a_ (dV 4) (bW) (aM (dC (.int 12)))) (ef ns ys x w (bJ x w) m .none) = .ok (am ((bJ x w).take 12)) (ef ns ys x w (bJ x w) m .none):=by
  refine oK ?_;have:a_ (.lst (am (bJ x w))) ae (aa 12)=aa (.lst (am ((bJ x w).take 12))):=by
   show aa (PV.lst (dN _ _ _))=_;unfold dN am;rw[List.map_take];congr 2;rw[cD];show((List.map PV.str (bJ x w)).drop 0).take _=_;rw[zu];show List.take (HT.sIx _ _ (aa ((12:Nat):Int))-0) _=_;rw[HT.sIx_nat,Nat.sub_zero];by_cases q:12<=(bJ x w).length
   ·rw[v9 q]
   ·rw[Dj ∅,km (by simp),km (by simp; lia)]
  unfold ba;rw[cp (i:=4) (v:=.lst (am (bJ x w))) rfl,R.bind_ok];have e1:aM (dC (.int 12)) (ef ns ys x w (bJ x w) m .none) = .ok (aa 12) (ef ns ys x w (bJ x w) m .none):=rfl;unfold bW;rw[R.bind_ok,e1,R.bind_ok,this];rfl
 have h0:=Ci (a:=a) x x w hx.tv hx.w2 hx.h9 0 ∅ (HK.mpr rfl);have k7:dJ (d2 (eqT ao) (aV (aG (nh a) (gV (dV 2) (gV (dV 2) (gV (dV 3) (Pu.bO)))))) (dC (.int 0))) (ef ns ys x w (bJ x w) m s') = .ok (.ret (.val (.bl ai))) (ef ns ys x w (bJ x w) m s'):=by unfold dJ;rw[gQ (f:=eqT ao) (z:=.bl ai) (pP (Bi (ε:=ef ns ys x w (bJ x w) m s') (i0:=2) (i1:=2) (i2:=3) (v0:=.str x) (v1:=.str x) (v2:=.int w) rfl rfl rfl h0)) (kP (.int 0) _) (by rw[uX]; simp)];rfl
 have hb:yaw a [cf ns,.none,.none,.none,.none,.none,.none] = .ok (.ret (.val (.bl ai))) (ef ns ys x w (bJ x w) m s'):=by show aF _ (aF _ (aF _ (aF _ (aF _ (aF (λε=>cr (cq 6 _ (fB a) ε)) _))))) _=_;refine(cK k1).trans ?_;refine(cK k2).trans ?_;refine(cK k3).trans ?_;refine(cK k4).trans ?_;refine(cK k5).trans ?_;refine(ur hi hlp).trans ?_;exact k7
 unfold ut;unfold ef at hb;generalize yaw a=D at hb;generalize dk m=A at hb;generalize am (bJ x w)=B at hb;simp[bt,eQ,bw,bF,hb,back,aS,R.bind,jq]
end
open L2 Pu Sh
def BS(K:az)(a:Ad):Bool:=tJ K a.SlitError yg "ValueError.__new__" && (mr a).all (λx=>tJ K x yg "ValueError.__new__" && subB K a.SlitError x && GR K x && (mr a).all (λd=>jU K (.ref x) (.ref d) == aa (x == d)) && jU K (.ref x) (.type "ValueError") == aa ai) && zT K && decide (mr a).Nodup
section
variable{K:az}{h base:aE}{mg:Str->Option ak}{a:Ad}
theorem uw(h:BS K a=ai):tJ K a.SlitError yg "ValueError.__new__" = ai/\(∀ x∈mr a,tJ K x yg "ValueError.__new__" = ai/\subB K a.SlitError x=ai/\GR K x=ai/\(∀ d∈mr a,jU K (.ref x) (.ref d)=aa (x == d))/\jU K (.ref x) (.type "ValueError")=aa ai)/\zT K=ai/\(mr a).Nodup:=by unfold BS at h;simp only[iu,vS,beq_iff_eq,decide_eq_true_eq]at h;obtain⟨⟨⟨h1,h2⟩,h3⟩,h4⟩:=h;exact⟨h1,λx hx=>⟨(h2 x hx).1.1.1.1,(h2 x hx).1.1.1.2,(h2 x hx).1.1.2,(h2 x hx).1.2,(h2 x hx).2⟩,h3,h4⟩
structure Top(K:az)(a:Ad):Prop where
 yax:cH K "_law_cell_at" Ab
 yaB:cH K "_law_mixed" z0
 yay:cH K "_law_draw" A0
 yaD:cH K "_law_pick" B4
 yaG:cH K "_law_text" AO
 yaA:cH K "_law_like" BG
 yat:cH K "is_whole_number" Az
 yau:cH K "is_width" Cm
 yap:cH K "has_only" xC
 yav:cH K "is_window" BO
 yag:cH K "are_windows" xF
 yas:cH K "is_view_with" BE
 yar:cH K "is_view" Bf
 yaj:cH K "check_view" Cq
 yaf:cH K "add_endings" AJ
 yal:cH K "counted" Ao
 yaN:cH K "texts" y0
 yaE:cH K "_law_row" yJ
 yaF:cH K "_law_stretches" Cn
 yaC:cH K "_law_moved" u8
 yaz:cH K "_law_levels" yH
 yaq:cH K "is_text_up_to" BV
 yai:cH K "check_text" Cd
 yak:cH K "check_width" Cs
 yaR:cH K "view_of" At
 yaI:cH K "pieces" xU
 yaM:cH K "text_view" Av
 yaQ:cH K "view" B0
 yah:cH K "check_alike" As
 yao:cH K "exchanges_from" AR
 yan:cH K "exchanges" AE
 yaP:cH K "unrolled" Bl
 yaO:cH K "turns" yU
 yaH:cH K "one_step_off" Cg
 yaK:cH K "spread" Af
 yam:cH K "distances" xG
 yaJ:cH K "road" y9
 yaL:cH K "steps" BJ
 yaw:cH K "law" wV
 yaT:eK K cE "all" = aa ae
 yaU:eK K cE "any" = aa ae
 yaV:eK K cE "bool" = aa ae
 yaW:eK K cE "int" = aa ae
 yaX:eK K cE "isinstance" = aa ae
 yaY:eK K cE "len" = aa ae
 yaZ:eK K cE "list" = aa ae
 ya0:eK K cE "max" = aa ae
 ya1:eK K cE "min" = aa ae
 ya2:eK K cE "range" = aa ae
 ya3:eK K cE "set" = aa ae
 ya4:eK K cE "sorted" = aa ae
 ya5:eK K cE "str" = aa ae
 ya6:eK K cE "tuple" = aa ae
 ybb:∃ t,eK K cE "LETTERS" = aa (aa (.str (tS [97,98,99]) t))
 ybc:∃ t,eK K cE "MOST_LETTERS" = aa (aa (.int 12 t))
 ybd:∃ t,eK K cE "MOST_WINDOWS" = aa (aa (.int 9 t))
 ybe:∃ t,eK K cE "WIDEST" = aa (aa (.int 4 t))
 yad:eK K cE "SlitError" = aa (aa (.ref a.SlitError))
 yaa:eK K cE "NoText" = aa (aa (.ref a.NoText))
 yac:eK K cE "NoWidth" = aa (aa (.ref a.NoWidth))
 yab:eK K cE "NoView" = aa (aa (.ref a.NoView))
 yae:eK K cE "Unlike" = aa (aa (.ref a.Unlike))
 ck:BS K a=ai
 z_road:lz K "road" = aa (249,247)/\zo K 249 247=ai/\K.lookup 247=ae
theorem M5(T:Top K a)(X:K.In base)(G:base.Ns cE mg):cM K mg base a where
 yax:=T.yax.at X G
 yaB:=T.yaB.at X G
 yay:=T.yay.at X G
 yaD:=T.yaD.at X G
 yaG:=T.yaG.at X G
 yaA:=T.yaA.at X G
 yat:=T.yat.at X G
 yau:=T.yau.at X G
 yap:=T.yap.at X G
 yav:=T.yav.at X G
 yag:=T.yag.at X G
 yas:=T.yas.at X G
 yar:=T.yar.at X G
 yaj:=T.yaj.at X G
 yaf:=T.yaf.at X G
 yal:=T.yal.at X G
 yaN:=T.yaN.at X G
 yaE:=T.yaE.at X G
 yaF:=T.yaF.at X G
 yaC:=T.yaC.at X G
 yaz:=T.yaz.at X G
 yaq:=T.yaq.at X G
 yai:=T.yai.at X G
 yak:=T.yak.at X G
 yaR:=T.yaR.at X G
 yaI:=T.yaI.at X G
 yaM:=T.yaM.at X G
 yaQ:=T.yaQ.at X G
 yah:=T.yah.at X G
 yao:=T.yao.at X G
 yan:=T.yan.at X G
 yaP:=T.yaP.at X G
 yaO:=T.yaO.at X G
 yaH:=T.yaH.at X G
 yaK:=T.yaK.at X G
 yam:=T.yam.at X G
 yaJ:=T.yaJ.at X G
 yaL:=T.yaL.at X G
 yaw:=T.yaw.at X G
 yaT:=kr X G T.yaT
 yaU:=kr X G T.yaU
 yaV:=kr X G T.yaV
 yaW:=kr X G T.yaW
 yaX:=kr X G T.yaX
 yaY:=kr X G T.yaY
 yaZ:=kr X G T.yaZ
 ya0:=kr X G T.ya0
 ya1:=kr X G T.ya1
 ya2:=kr X G T.ya2
 ya3:=kr X G T.ya3
 ya4:=kr X G T.ya4
 ya5:=kr X G T.ya5
 ya6:=kr X G T.ya6
 ybb:=T.ybb.imp λ_ e=>jB X G e
 ybc:=T.ybc.imp λ_ e=>jB X G e
 ybd:=T.ybd.imp λ_ e=>jB X G e
 ybe:=T.ybe.imp λ_ e=>jB X G e
 yad:=jB X G T.yad
 yaa:=jB X G T.yaa
 yac:=jB X G T.yac
 yab:=jB X G T.yab
 yae:=jB X G T.yae
 ya8:=xu X (jB X G T.yab) ((uw T.ck).2.1 a.NoView (by simp[mr])).1
 ya7:=xu X (jB X G T.yaa) ((uw T.ck).2.1 a.NoText (by simp[mr])).1
 ya9:=xu X (jB X G T.yac) ((uw T.ck).2.1 a.NoWidth (by simp[mr])).1
 yba:=xu X (jB X G T.yae) ((uw T.ck).2.1 a.Unlike (by simp[mr])).1
 yaS:=⟨_,_,QD X G T.z_road.1 T.z_road.2.1⟩
theorem NY{l:CJ}{w:aN}{fa:af}(X:K.In h)(G:h.Ns cE mg)(hfa:mg "law" = aa (.ref fa))(T:Top K a) : ∃ fd:iq,(∀ (s:aq) (v:ak),BindsTo s fd ⟨[v],[]⟩ [("_law_script",v)])/\∀ base:aE,K.In base->base.Ns cE mg->jn l.prog w K mg base (b9 l.prog w) 15 fa fd ["_law_script"] (b0 K (ut a)):=by
 obtain⟨f,oc,od,kV,dc,pm,an,cd,ct,sl,e1,e2,e3,e4⟩:=T.yaw;have e:=hfa.symm.trans (jB X G e1);cases e;exact⟨_,λs v=>.of_eq rfl,λbase XB GB=>OS (M5 T XB GB) (HG e2 e3 e4)⟩
theorem AF{l:CJ}{q:aX}{loose:List Str}{XP:(Str->Option ak)->aE->Prop}{YP:aN->aE->Prop}{d:DefRec}{K:Params->az}(hn:l.most=aa 63)(qJ:d.params.defaults=[])(hnm:d.name = "law")(hY:∀ (w:aN) (h:aE),YP w h->(K w.params).In h/\h.get? 247=aa (PySem.W.tabObj #[])) {a:Ad} (T:∀ w:aN,Top (K w.params) a):PySem.W.WalkO q loose XP YP l.row.toRowW d [] (λf vs=>PySem.call f vs) :=
 L2.U3 (n:=63) (k:=15) (x:="_law_script") (K:=K) (CX:=λw=>b9 l.prog w) (sp:=λw=>b0 (K w.params) (ut a)) hn (by decide) qJ ⟨rfl,by decide,by decide⟩ (λw h Y=>⟨(hY w h Y).1,λc P e=>by rw[(T w).z_road.1]at e; cases e; exact⟨(T w).z_road.2.1,(T w).z_road.2.2,(hY w h Y).2⟩⟩)
  (λw mg fa h KX G ww=>NY KX G (by rw[← hnm]; exact ww) (T w))
  (λw H b ns hl _ hS=>SA (Rx (uw (T w).ck).2.2.1 hS) (OI  ns))
  (λw H s e s' z=>by obtain⟨_,_,_,_,_,_,_,_,_,_,_,f⟩:=z; exact f)
theorem UY{l:CJ}{q:aX}{loose:List Str}{XP:(Str->Option ak)->aE->Prop}{YP:aN->aE->Prop}{d:DefRec}{K:Params->az}{yad yaa yac yab yae:af}(hn:l.most=aa 63)(qJ:d.params.defaults=[])(hnm:d.name = "law")(hY:∀ (w:aN) (h:aE),YP w h->(K w.params).In h/\h.get? 247=aa (PySem.W.tabObj #[])) (T:∀ w:aN,Top (K w.params) ⟨yad,yaa,yac,yab,0,0,0,0,yae,0,0,0,0,0⟩):PySem.W.WalkO q loose XP YP l.row.toRowW d [] (λf vs=>PySem.call f vs):=AF hn qJ hnm hY T
end
end K19
def PySem.W.Fast.tw18436362413375621112:Nat:=0
def PySem.W.Fast.tw16716046163950597416:Nat:=0
def PySem.W.Fast.tw5401471119305831516:Nat:=0
def PySem.W.Fast.tw15452554613331468717:Nat:=0
def PySem.W.Fast.tw12713236898854267970:Nat:=0
def PySem.W.Fast.tw14941719324559011524:Nat:=0
def PySem.W.Fast.tw1577933970746137715:Nat:=0
def PySem.W.Fast.tw11759236165533419474:Nat:=0
def PySem.W.Fast.tw13427186610638546148:Nat:=0
def PySem.W.Fast.tw9476360145903860083:Nat:=0
def PySem.W.Fast.tw1518314702804520936:Nat:=0
def PySem.W.Fast.tw9225250648535276070:Nat:=0
def PySem.W.Fast.tw10405759440693563037:Nat:=0
def PySem.W.Fast.tw5433276160291711133:Nat:=0
def PySem.W.Fast.tw3840056938594457862:Nat:=0
def PySem.W.Fast.tw1943061638366090299:Nat:=0
def PySem.W.Fast.tw15080074808754223269:Nat:=0
def PySem.W.Fast.tw1851474954185137488:Nat:=0
def PySem.W.Fast.tw12451031229652489433:Nat:=0
def PySem.W.Fast.tw8748150729622629592:Nat:=0
def PySem.W.Fast.tw10873758578712542039:Nat:=0
def PySem.W.Fast.tw7524628498049011417:Nat:=0
def PySem.W.Fast.tw816271838827114498:Nat:=0
def PySem.W.Fast.tw9267786818817983661:Nat:=0
def PySem.W.Fast.tw12819919342023563866:Nat:=0
def PySem.W.Fast.tw14774335329542483531:Nat:=0
def PySem.W.Fast.tw4604761722454036674:Nat:=0
def PySem.W.Fast.tw3793146014429230479:Nat:=0
def PySem.W.Fast.tw7537823903653163108:Nat:=0
def PySem.W.Fast.tw9812502283739858338:Nat:=0
def PySem.W.Fast.tw7403015326837421494:Nat:=0
def PySem.W.Fast.tw3658473093693099798:Nat:=0
def PySem.W.Fast.tw9288124680105867786:Nat:=0
def PySem.W.Fast.tw15920401086648939156:Nat:=0
def PySem.W.Fast.tw12075228230852709900:Nat:=0
def PySem.W.Fast.tw15845548088972317429:Nat:=0
def PySem.W.Fast.tw14193042329185488299:Nat:=0
def PySem.W.Fast.tw5060568551524063100:Nat:=0
def PySem.W.Fast.tw1143105045612712625:Nat:=0
def PySem.W.Fast.tw18398764524336059214:Nat:=0
def PySem.W.Fast.tw1094198697204248203:Nat:=0
def PySem.W.Fast.tw3736026828320738030:Nat:=0
def PySem.W.Fast.tw14711202020543358280:Nat:=0
def PySem.W.Fast.tw7963702564681073726:Nat:=0
def PySem.W.Fast.tw14144765575305893860:Nat:=0
def PySem.W.Fast.tw12759513021578887389:Nat:=0
def PySem.W.Fast.tw6583306085709752546:Nat:=0
def PySem.W.Fast.tw6233234409843175275:Nat:=0
def PySem.W.Fast.tw1548665369345860525:Nat:=0
def PySem.W.Fast.tw2529671443742506695:Nat:=0
def PySem.W.Fast.tw9373996668489878667:Nat:=0
def PySem.W.Fast.tw1916482376081219061:Nat:=0
def PySem.W.Fast.tw4139191713216888284:Nat:=0
def PySem.W.Fast.tw2381636332289380762:Nat:=0
def PySem.W.Fast.tw9730123416239373855:Nat:=0
def PySem.W.Fast.tw2663352180419896401:Nat:=0
def PySem.W.Fast.tw4878946200452083861:Nat:=0
def PySem.W.Fast.tw3443127079024673479:Nat:=0
def PySem.W.Fast.tw5054472359134888026:Nat:=0
def PySem.W.Fast.tw2749609909130990464:Nat:=0
open PySem PySem.W PyProof.Rows
set_option maxRecDepth 100000 in
set_option maxHeartbeats 0 in
theorem PySem.Challenge.cw_slitview_k19_whole_all_reached_holds : PySem.Challenge.rw_slitview_k19_whole_all_reached.Holds := by
 w_on; o_law; k_head; (case hw=>w_witness2)
 k_fill
 refine' K19.UY (l:=PySem.Challenge.rw_slitview_k19_whole_all_reached) rfl rfl rfl (fun w h Y=>⟨PySem.W.km_in_of Y,PySem.W.km_tabs_of Y _ (by simp)⟩) ?T
 case T =>
  intro w
  refine' { yax:=?yax,yaB:=?yaB,yay:=?yay,yaD:=?yaD,yaG:=?yaG,yaA:=?yaA,yat:=?yat,yau:=?yau,yap:=?yap,yav:=?yav,yag:=?yag,yas:=?yas,yar:=?yar,yaj:=?yaj,yaf:=?yaf,yal:=?yal,yaN:=?yaN,yaE:=?yaE,yaF:=?yaF,yaC:=?yaC,yaz:=?yaz,yaq:=?yaq,yai:=?yai,yak:=?yak,yaR:=?yaR,yaI:=?yaI,yaM:=?yaM,yaQ:=?yaQ,yah:=?yah,yao:=?yao,yan:=?yan,yaP:=?yaP,yaO:=?yaO,yaH:=?yaH,yaK:=?yaK,yam:=?yam,yaJ:=?yaJ,yaL:=?yaL,yaw:=?yaw,yaT:=?yaT,yaU:=?yaU,yaV:=?yaV,yaW:=?yaW,yaX:=?yaX,yaY:=?yaY,yaZ:=?yaZ,ya0:=?ya0,ya1:=?ya1,ya2:=?ya2,ya3:=?ya3,ya4:=?ya4,ya5:=?ya5,ya6:=?ya6,ybb:=?ybb,ybc:=?ybc,ybd:=?ybd,ybe:=?ybe,yad:=?yad,yaa:=?yaa,yac:=?yac,yab:=?yab,yae:=?yae,ck:=?ck,z_road:=?z_road }
  (case yad=>k_is)
  (case yaa=>k_is)
  (case yac=>k_is)
  (case yab=>k_is)
  (case yae=>k_is)
  (case yax=>and_intros)
  (case yaB=>and_intros)
  (case yay=>and_intros)
  (case yaD=>and_intros)
  (case yaG=>and_intros)
  (case yaA=>and_intros)
  (case yat=>and_intros)
  (case yau=>and_intros)
  (case yap=>and_intros)
  (case yav=>and_intros)
  (case yag=>and_intros)
  (case yas=>and_intros)
  (case yar=>and_intros)
  (case yaj=>and_intros)
  (case yaf=>and_intros)
  (case yal=>and_intros)
  (case yaN=>and_intros)
  (case yaE=>and_intros)
  (case yaF=>and_intros)
  (case yaC=>and_intros)
  (case yaz=>and_intros)
  (case yaq=>and_intros)
  (case yai=>and_intros)
  (case yak=>and_intros)
  (case yaR=>and_intros)
  (case yaI=>and_intros)
  (case yaM=>and_intros)
  (case yaQ=>and_intros)
  (case yah=>and_intros)
  (case yao=>and_intros)
  (case yan=>and_intros)
  (case yaP=>and_intros)
  (case yaO=>and_intros)
  (case yaH=>and_intros)
  (case yaK=>and_intros)
  (case yam=>and_intros)
  (case yaJ=>and_intros)
  (case yaL=>and_intros)
  (case yaw=>and_intros)
  (case yaT=>k_is)
  (case yaU=>k_is)
  (case yaV=>k_is)
  (case yaW=>k_is)
  (case yaX=>k_is)
  (case yaY=>k_is)
  (case yaZ=>k_is)
  (case ya0=>k_is)
  (case ya1=>k_is)
  (case ya2=>k_is)
  (case ya3=>k_is)
  (case ya4=>k_is)
  (case ya5=>k_is)
  (case ya6=>k_is)
  (case ybb=>refine' Pu.US ?e; (case e=>k_is))
  (case ybc=>refine' Pu.UX ?e; (case e=>k_is))
  (case ybd=>refine' Pu.UX ?e; (case e=>k_is))
  (case ybe=>refine' Pu.UX ?e; (case e=>k_is))
  (case ck=>kernel_rfl)
  (case z_road=>refine⟨?u1,?u2,?u3⟩; (case u1=>kernel_rfl); (case u2=>kernel_rfl); (case u3=>kernel_rfl))
